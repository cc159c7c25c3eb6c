import PyProof.Rows.All
import Wide.All
import OpenK.AllK
import Wide.FinOn
import Lean
import PyProof.EqAt
import PyProof.EqKinds
import PyProof.TupleCall
import PySem.Challenge.RW_onecurve_k30_whole_changes_one_behind_an
set_option Elab.async false
set_option linter.all false
set_option maxRecDepth 100000
namespace L2
open PySem PySem.Spec PyProof.Rows
abbrev Key := Sum Int Str
def keyIs : Key → Value → Bool
 | .inl k, v => Value.isInt k v
 | .inr x, v => Value.isStrOf x v
def keyH (w : World) : Key → Int
 | .inl k => hashInt k
 | .inr x => hashStr w x
theorem keyIs_shape : ∀ {k : Key} {v : Value}, keyIs k v = true → (∃ i t, k = Sum.inl i ∧ v = Value.int i t) ∨ (∃ x t, k = Sum.inr x ∧ v = Value.str x t)
 | .inl i, v, h => by
   obtain ⟨t, e⟩ := Value.isInt_shape (k := i) (v := v) h
   exact .inl ⟨i, t, rfl, e⟩
 | .inr x, v, h => by
   obtain ⟨t, e⟩ := Value.isStrOf_shape (x := x) (v := v) h
   exact .inr ⟨x, t, rfl, e⟩
theorem keyIs_int (i : Int) (t : Tok) : keyIs (.inl i) (.int i t) = true := by simp [keyIs, Value.isInt]
theorem keyIs_str (x : Str) (t : Tok) : keyIs (.inr x) (.str x t) = true := by simp [keyIs, Value.isStrOf]
theorem key_ll (a b : Int) : decide ((Sum.inl a : Key) = Sum.inl b) = (a == b) := by
 by_cases e : a = b
 · subst e; simp
 · have h : ¬ (Sum.inl a : Key) = Sum.inl b := fun q => e (Sum.inl.inj q)
   rw [decide_eq_false h]
   exact (beq_eq_false_iff_ne.mpr e).symm
theorem key_rr (a b : Str) : decide ((Sum.inr a : Key) = Sum.inr b) = decide (a = b) := by
 by_cases e : a = b
 · subst e; simp
 · have h : ¬ (Sum.inr a : Key) = Sum.inr b := fun q => e (Sum.inr.inj q)
   rw [decide_eq_false h, decide_eq_false e]
theorem key_lr (a : Int) (b : Str) : decide ((Sum.inl a : Key) = Sum.inr b) = false := decide_eq_false (fun q => nomatch q)
theorem key_rl (a : Str) (b : Int) : decide ((Sum.inr a : Key) = Sum.inl b) = false := decide_eq_false (fun q => nomatch q)
def mixKind (prog : Program) (w : World) : PySem.KeyKind prog w Key where
 is := keyIs
 hash := keyH w
 inj := fun v a b ha hb => by
   rcases keyIs_shape ha with ⟨i, t, rfl, rfl⟩ | ⟨x, t, rfl, rfl⟩
   · rcases keyIs_shape hb with ⟨j, u, rfl, e⟩ | ⟨y, u, rfl, e⟩
     · injection e with e1 _; rw [e1]
     · exact nomatch e
   · rcases keyIs_shape hb with ⟨j, u, rfl, e⟩ | ⟨y, u, rfl, e⟩
     · exact nomatch e
     · injection e with e1 _; rw [e1]
 byValue := fun k v h => by
   rcases keyIs_shape h with ⟨i, t, rfl, rfl⟩ | ⟨x, t, rfl, rfl⟩ <;> rfl
 pyHash := fun hv h => by
   rcases keyIs_shape hv with ⟨i, t, rfl, rfl⟩ | ⟨x, t, rfl, rfl⟩
   · exact wpAny_pyHash_int h
   · exact wpAny_pyHash_str h
 eqBool := fun hu hv h => by
   rcases keyIs_shape hu with ⟨i, t, rfl, rfl⟩ | ⟨x, t, rfl, rfl⟩
   · rcases keyIs_shape hv with ⟨j, u, rfl, rfl⟩ | ⟨y, u, rfl, rfl⟩
     · rw [key_ll] at h; exact wpAny_eqBool_int h
     · rw [key_lr] at h; exact SeqAt.EqAt.int_str i t y u _ _ _ _ h
   · rcases keyIs_shape hv with ⟨j, u, rfl, rfl⟩ | ⟨y, u, rfl, rfl⟩
     · rw [key_rl] at h; exact SeqAt.EqAt.str_int x t j u _ _ _ _ h
     · rw [key_rr] at h; exact wpAny_eqBool_str h
 «strs» := fun k x t v h => by
   rcases keyIs_shape h with ⟨i, u, rfl, e⟩ | ⟨y, u, rfl, e⟩
   · exact nomatch e
   · injection e with e1 _
     subst e1
     cases v <;> rfl
theorem mixKind_int (prog : Program) (w : World) (i : Int) (t : Tok) : (mixKind prog w).is (.inl i) (.int i t) = true := keyIs_int i t
theorem mixKind_str (prog : Program) (w : World) (x : Str) (t : Tok) : (mixKind prog w).is (.inr x) (.str x t) = true := keyIs_str x t
end L2
namespace L2
open PySem PySem.Spec PyProof.Rows
inductive V where
 | non | bl (b : Bool) | int (i : Int) | str (x : Str) | byt (b : Array UInt8) | flt (b : UInt64) | ref (a : Addr) | ty (n : String)
 deriving DecidableEq
def RelV : V → Value → Prop
 | .non, u => u = Value.none
 | .bl b, u => u = Value.bool b
 | .int i, u => ∃ t, u = Value.int i t
 | .str x, u => ∃ t, u = Value.str x t
 | .byt b, u => ∃ t, u = Value.bytes b t
 | .flt b, u => ∃ t, u = Value.float b t
 | .ref a, u => u = Value.ref a
 | .ty n, u => u = Value.type n
abbrev Vals : List V → List Value → Prop := Paired RelV
theorem Vals.length {xs : List V} {us : List Value} (r : Vals xs us) : xs.length = us.length := Paired.length r
theorem Vals.get : ∀ {xs : List V} {us : List Value} {i : Nat} {x : V}, Vals xs us → xs[i]? = some x → ∃ u, us[i]? = some u ∧ RelV x u
 | _, _, _, _, .nil, e => by simp at e
 | _, _, 0, _, .cons r _, e => by simp at e; subst e; exact ⟨_, rfl, r⟩
 | _, _, i + 1, x, .cons _ t, e => by
   obtain ⟨u, h1, h2⟩ := Vals.get (i := i) (x := x) t (by simpa using e)
   exact ⟨u, by simpa using h1, h2⟩
theorem Vals.set {x : V} {u : Value} (r : RelV x u) : ∀ {xs : List V} {us : List Value} (i : Nat), Vals xs us → Vals (xs.set i x) (us.set i u)
 | _, _, _, .nil => .nil
 | _, _, 0, .cons _ t => .cons r t
 | _, _, i + 1, .cons q t => .cons q (Vals.set r i t)
theorem Vals.append {xs ys : List V} {us ws : List Value} (a : Vals xs us) (b : Vals ys ws) : Vals (xs ++ ys) (us ++ ws) := by
 induction a with
 | nil => exact b
 | cons r t ih => exact .cons r ih
theorem Vals.take : ∀ {xs : List V} {us : List Value} (n : Nat), Vals xs us → Vals (xs.take n) (us.take n)
 | _, _, 0, _ => .nil
 | _, _, _ + 1, .nil => .nil
 | _, _, n + 1, .cons r t => .cons r (Vals.take n t)
theorem Vals.drop : ∀ {xs : List V} {us : List Value} (n : Nat), Vals xs us → Vals (xs.drop n) (us.drop n)
 | _, _, 0, r => r
 | _, _, _ + 1, .nil => .nil
 | _, _, n + 1, .cons _ t => Vals.drop n t
def RelO : Option V → Option Value → Prop
 | some v, some u => RelV v u
 | none, none => True
 | _, _ => False
def KV {κ : Type} : List (κ × V) → List (κ × Value) → Prop := Paired fun (p : κ × V) (q : κ × Value) => p.1 = q.1 ∧ RelV p.2 q.2
def kV : Key → V
 | .inl i => .int i
 | .inr x => .str x
inductive HO where
   | lst (xs : List V)
   | tup (xs : List V)
   | dK (kvs : List (Key × V)) | dT (kvs : List (List Key × V))
   | set (S : Int → Bool) (n : Nat)
   | ins (C dx : Addr) (fs : List (Str × V))
   | own (x : Addr)
   | xd (fs : List (Str × V))
   | met (f x : Addr)
   | rng (lo hi : Int)
   | frz (o : Obj) (u : HO)
   | tbl (ps : Array Value)
   | ext (φ : Heap → Prop)
abbrev Hp := Addr → Option HO
def upd (H : Hp) (a : Addr) (o : HO) : Hp := fun b => if b = a then some o else H b
theorem upd_same {H : Hp} {a : Addr} {o : HO} : upd H a o a = some o := by unfold upd; rw [if_pos rfl]
theorem upd_ne {H : Hp} {a b : Addr} {o : HO} (h : b ≠ a) : upd H a o b = H b := by unfold upd; rw [if_neg h]
theorem upd_upd {H : Hp} {a : Addr} {o u : HO} : upd (upd H a o) a u = upd H a u := by
 funext b; unfold upd; split <;> rfl
theorem ne_of {H : Hp} {a b : Addr} {o u : HO} (h : H a = some o) (h' : H b = some u) (d : o ≠ u) : a ≠ b := by
 intro e; subst e; rw [h] at h'; exact d (Option.some.inj h')
theorem ne_of_none {H : Hp} {a b : Addr} {o : HO} (h : H a = some o) (h' : H b = none) : a ≠ b := by
 intro e; subst e; rw [h] at h'; cases h'
section
variable (P : Program) (w : World)
def ObjOk (H : Hp) (h : Heap) (a : Addr) : HO → Prop
 | .lst xs => xs.length ≤ sizeLine ∧ ∃ (its : List Value) (n : Nat), Vals xs its ∧ h.get? a = some { cls := .type "list", data := .seq its.toArray n }
 | .tup xs => xs.length ≤ sizeLine ∧ ∃ its : List Value, Vals xs its ∧ IsTup h a its.toArray
 | .dK kvs => kvs.length ≤ sizeLine ∧ (a == sysModules) = false ∧ ∃ vs, KV kvs vs ∧ h.DictOf (mixKind P w) a vs
 | .dT kvs => kvs.length ≤ sizeLine ∧ (a == sysModules) = false ∧ ∃ xs : List (List Key × Addr × Value),
     Paired (fun (p : List Key × V) (q : List Key × Addr × Value) => p.1 = q.1 ∧ H q.2.1 = some (.tup (p.1.map kV)) ∧ RelV p.2 q.2.2) kvs xs ∧
     ∃ o es ep, h.get? a = some o ∧ o.ExactDict ∧ o.data = .dict es ep ∧ es.toList = xs.map (entryOfKey (tupleKind (mixKind P w))) ∧ (xs.map (·.1)).Nodup
 | .set S n => h.SetOf (intKind P w) a S n
 | .ins C dx fs => H dx = some (.own a) ∧ fs.length ≤ 1000 ∧ dx ≠ a ∧ h.get? a = some (PySem.W.instObj C dx) ∧
     ∃ mA, h.Ns1 dx mA ∧ (∀ f, RelO (fs.lookup f) (mA f)) ∧ PySem.Within mA (fs.map (·.1))
 | .own _ => ∃ o, h.get? a = some o
 | .xd fs => ∃ mA, h.Ns1 a mA ∧ ∀ f, RelO (fs.lookup f) (mA f)
 | .rng lo hi => ∃ t u v, h.get? a = some { cls := .type "range", data := .fields #[.int lo t, .int hi u, .int 1 v] }
 | .frz o u => h.get? a = some o ∧ ObjOk H h a u
 | .tbl ps => h.get? a = some { cls := .none, data := .fields ps }
 | .met f x => h.get? a = some (PySem.W.methodObj (.ref f) (.ref x))
 | .ext φ => φ h ∧ (∃ o, h.get? a = some o) ∧ ∀ h1 h2 : Heap, φ h1 → (∀ o, h1.get? a = some o → h2.get? a = some o) → φ h2
def HOk (H : Hp) (h : Heap) : Prop := ∀ a o, H a = some o → ObjOk P w H h a o
end
section
variable {P : Program} {w : World} {H H' : Hp} {h h' : Heap} {a : Addr} {o : HO}
theorem ObjOk.lt (x : ObjOk P w H h a o) : a < h.objs.size := by
 cases o with
 | lst xs => obtain ⟨_, _, _, _, e⟩ := x; exact Heap.lt_size e
 | tup xs => obtain ⟨_, _, _, p⟩ := x; exact p.lt
 | dK kvs => obtain ⟨_, _, _, _, o, _, _, e, _⟩ := x; exact Heap.lt_size e
 | dT kvs => obtain ⟨_, _, _, _, o, _, _, e, _⟩ := x; exact Heap.lt_size e
 | set S n => obtain ⟨o, _, _, _, e, _⟩ := x; exact Heap.lt_size e
 | ins C dx fs => obtain ⟨_, _, _, e, _⟩ := x; exact Heap.lt_size e
 | own y => obtain ⟨_, e⟩ := x; exact Heap.lt_size e
 | xd fs => obtain ⟨_, ⟨_, _, _, e, _⟩, _⟩ := x; exact Heap.lt_size e
 | rng lo hi => obtain ⟨_, _, _, e⟩ := x; exact Heap.lt_size e
 | frz ob u => obtain ⟨e, _⟩ := x; exact Heap.lt_size e
 | tbl ps => exact Heap.lt_size (show h.get? a = some _ from x)
 | met f y => exact Heap.lt_size (show h.get? a = some _ from x)
 | ext φ => obtain ⟨_, ⟨_, e⟩, _⟩ := x; exact Heap.lt_size e
theorem Paired.mapP {α β : Type} {F G : α → β → Prop} {l₁ : List α} {l₂ : List β} (h : Paired F l₁ l₂) (f : ∀ a b, F a b → G a b) : Paired G l₁ l₂ := by
 induction h with
 | nil => exact .nil
 | cons r t ih => exact .cons (f _ _ r) ih
theorem ObjOk.stay (x : ObjOk P w H h a o) (k : ∀ b u, (b = a ∨ H b = some (.own a)) → h.get? b = some u → h'.get? b = some u)
   (ho : ∀ b, H b = some (.own a) → H' b = some (.own a)) (ht : ∀ b xs, H b = some (.tup xs) → H' b = some (.tup xs)) : ObjOk P w H' h' a o := by
 induction o with
 | lst xs => obtain ⟨z, its, n, r, e⟩ := x; exact ⟨z, its, n, r, k _ _ (.inl rfl) e⟩
 | tup xs => obtain ⟨z, its, r, ob, e, c⟩ := x; exact ⟨z, its, r, ob, k _ _ (.inl rfl) e, c⟩
 | dK kvs => obtain ⟨z, y, vs, r, ob, es, ep, e, c⟩ := x; exact ⟨z, y, vs, r, ob, es, ep, k _ _ (.inl rfl) e, c⟩
 | dT kvs =>
   obtain ⟨z, y, xs, r, ob, es, ep, e, c⟩ := x
   exact ⟨z, y, xs, Paired.mapP r fun p q z => ⟨z.1, ht _ _ z.2.1, z.2.2⟩, ob, es, ep, k _ _ (.inl rfl) e, c⟩
 | set S n => obtain ⟨ob, es, ep, t, e, c⟩ := x; exact ⟨ob, es, ep, t, k _ _ (.inl rfl) e, c⟩
 | ins C dx fs =>
   obtain ⟨d, z, ne, e, mA, ⟨od, es, ep, e2, c⟩, r⟩ := x
   exact ⟨ho _ d, z, ne, k _ _ (.inl rfl) e, mA, ⟨od, es, ep, k _ _ (.inr d) e2, c⟩, r⟩
 | own y => obtain ⟨ob, e⟩ := x; exact ⟨ob, k _ _ (.inl rfl) e⟩
 | xd fs => obtain ⟨mA, ⟨od, es, ep, e, c⟩, r⟩ := x; exact ⟨mA, ⟨od, es, ep, k _ _ (.inl rfl) e, c⟩, r⟩
 | rng lo hi => obtain ⟨t, u, v, e⟩ := x; exact ⟨t, u, v, k _ _ (.inl rfl) e⟩
 | frz ob u ih => obtain ⟨e, q⟩ := x; exact ⟨k _ _ (.inl rfl) e, ih q⟩
 | tbl ps =>
   have e : h.get? a = some { cls := .none, data := .fields ps } := x
   show h'.get? a = some { cls := .none, data := .fields ps }
   exact k a _ (.inl rfl) e
 | met f y =>
   have e : h.get? a = some (PySem.W.methodObj (.ref f) (.ref y)) := x
   show h'.get? a = some (PySem.W.methodObj (.ref f) (.ref y))
   exact k a _ (.inl rfl) e
 | ext φ => obtain ⟨p, ⟨o, e⟩, st⟩ := x; exact ⟨st _ _ p fun o q => k _ _ (.inl rfl) q, ⟨o, k _ _ (.inl rfl) e⟩, st⟩
theorem HOk.lt (x : HOk P w H h) (e : H a = some o) : a < h.objs.size := (x a o e).lt
theorem HOk.fresh (x : HOk P w H h) (e : h.objs.size ≤ a) : H a = none := by
 cases q : H a with
 | none => rfl
 | some u => exact absurd (Nat.lt_of_lt_of_le (x.lt q) e) (Nat.lt_irrefl _)
theorem HOk.kept (x : HOk P w H h) (k : ∀ b u, h.get? b = some u → h'.get? b = some u) : HOk P w H h' := fun a o e =>
 (x a o e).stay (fun b u _ q => k b u q) (fun _ q => q) fun _ _ q => q
theorem HOk.laid (x : HOk P w H h) (k : ∀ b u, h.get? b = some u → h'.get? b = some u) (hp : h.objs.size ≤ a) (new : ObjOk P w (upd H a o) h' a o) : HOk P w (upd H a o) h' := fun b u e => by
 have hn := x.fresh hp
 by_cases hb : b = a
 · subst hb; rw [upd_same] at e; cases e; exact new
 · rw [upd_ne hb] at e
   exact (x b u e).stay (fun c v _ q => k c v q) (fun c q => by rw [upd_ne (ne_of_none q hn)]; exact q) fun c xs q => by rw [upd_ne (ne_of_none q hn)]; exact q
end
def Rd (H : Hp) (a : Addr) (u : HO) : Prop := H a = some u ∨ ∃ o, H a = some (.frz o u)
theorem Rd.ok {P : Program} {w : World} {H : Hp} {h : Heap} {a : Addr} {u : HO} (r : Rd H a u) (x : HOk P w H h) : ObjOk P w H h a u := by
 rcases r with r | ⟨o, r⟩
 · exact x a u r
 · obtain ⟨_, q⟩ := x a _ r
   exact q
def Mut : Option HO → Prop
 | some (.lst _) => True
 | some (.dK _) => True
 | some (.dT _) => True
 | some (.set _ _) => True
 | some (.ins _ _ _) => True
 | some (.ext _) => True
 | _ => False
section
variable {P : Program} {w : World} {H : Hp} {h h' : Heap} {x e : Addr} {o' : HO}
theorem HOk.write (ok : HOk P w H h) (mu : Mut (H x)) (he : e = x ∨ H e = some (.own x)) (k : ∀ b u, b ≠ e → h.get? b = some u → h'.get? b = some u) (heo : ∃ u, h'.get? e = some u)
   (new : ObjOk P w (upd H x o') h' x o') : HOk P w (upd H x o') h' := fun b u q => by
 have nown : ∀ c y, H c = some (.own y) → c ≠ x := fun c y r z => by subst z; rw [r] at mu; exact mu
 have ntup : ∀ c xs, H c = some (.tup xs) → c ≠ x := fun c xs r z => by subst z; rw [r] at mu; exact mu
 by_cases hb : b = x
 · subst hb; rw [upd_same] at q; cases q; exact new
 · rw [upd_ne hb] at q
   by_cases hbe : b = e
   · have q' : H b = some (.own x) := by
       rcases he with z | z
       · exact absurd (hbe.trans z) hb
       · rw [hbe]; exact z
     rw [q] at q'; cases q'
     obtain ⟨v, hv⟩ := heo
     exact ⟨v, by rw [hbe]; exact hv⟩
   · refine (ok b u q).stay (fun c v hc r => k c v ?_ r) (fun c r => by rw [upd_ne (nown c b r)]; exact r) fun c xs r => by rw [upd_ne (ntup c xs r)]; exact r
     rcases hc with rfl | hc
     · exact hbe
     · rintro rfl
       rcases he with z | z
       · exact nown c b hc z
       · rw [hc] at z; cases z; exact hb rfl
end
structure Un (fs ex : List Addr) (H H' : Hp) (h h' : Heap) : Prop where
 keep : ∀ b o, h.get? b = some o → H b = none → b ∉ fs → b ∉ ex → h'.get? b = some o
 slot : ∀ b o, h.get? b = some o → H b = none → b ∈ fs → b ∉ ex → ∃ sl, h'.get? b = some { o with slots := sl }
 free : ∀ b o, h.get? b = some o → H b = none → b ∉ ex → H' b = none
 there : ∀ b o, h.get? b = some o → b ∉ ex → ∃ o', h'.get? b = some o'
 tups : ∀ b xs, H b = some (.tup xs) → H' b = some (.tup xs)
 frzs : ∀ b o u, H b = some (.frz o u) → H' b = some (.frz o u)
 tbls : ∀ b ps, H b = some (.tbl ps) → ∃ more, H' b = some (.tbl (ps ++ more))
section
variable {fs fs' ex ex' : List Addr} {H H1 H2 : Hp} {h h1 h2 h' : Heap} {a x e : Addr} {o : HO}
theorem Un.any (u : Un fs ex H H1 h h1) {b : Addr} {ob : Obj} (q : h.get? b = some ob) (n : H b = none) (hx : b ∉ ex) : ∃ sl, h1.get? b = some { ob with slots := sl } := by
 by_cases hb : b ∈ fs
 · exact u.slot b ob q n hb hx
 · exact ⟨ob.slots, u.keep b ob q n hb hx⟩
theorem Un.kept (k : ∀ b u, h.get? b = some u → h'.get? b = some u) : Un fs ex H H h h' :=
 ⟨fun b ob q _ _ _ => k b ob q, fun b ob q _ _ _ => ⟨ob.slots, k b ob q⟩, fun _ _ _ n _ => n, fun b ob q _ => ⟨ob, k b ob q⟩, fun _ _ q => q, fun _ _ _ q => q, fun _ ps q => ⟨#[], by rw [q]; simp⟩⟩
theorem Un.refl : Un fs ex H H h h := Un.kept fun _ _ q => q
theorem Un.laid (k : ∀ b u, h.get? b = some u → h'.get? b = some u) (hp : h.objs.size ≤ a) (hn : H a = none) : Un fs ex H (upd H a o) h h' where
 keep := fun b u q _ _ _ => k b u q
 slot := fun b u q _ _ _ => ⟨u.slots, k b u q⟩
 free := fun b u q n _ => by rw [upd_ne (Nat.ne_of_lt (Nat.lt_of_lt_of_le (Heap.lt_size q) hp))]; exact n
 there := fun b u q _ => ⟨u, k b u q⟩
 tups := fun b xs q => by rw [upd_ne (ne_of_none q hn)]; exact q
 frzs := fun b u xs q => by rw [upd_ne (ne_of_none q hn)]; exact q
 tbls := fun b ps q => ⟨#[], by rw [upd_ne (ne_of_none q hn), q]; simp⟩
theorem Un.write (mu : Mut (H x)) (he : e = x ∨ H e = some (.own x)) (k : ∀ b u, b ≠ e → h.get? b = some u → h'.get? b = some u) (heo : ∃ u, h'.get? e = some u) : Un fs ex H (upd H x o) h h' := by
 have hx : ∀ b, H b = none → b ≠ x := fun b n z => by subst z; rw [n] at mu; exact mu
 have hb : ∀ b, H b = none → b ≠ e := fun b n z => by
   subst z
   rcases he with r | r
   · exact hx b n r
   · rw [n] at r; cases r
 have hm : ∀ b u, H b = some u → ¬ Mut (some u) → b ≠ x := fun b u q nm z => by subst z; rw [q] at mu; exact nm mu
 refine ⟨fun b u q n _ _ => k b u (hb b n) q, fun b u q n _ _ => ⟨u.slots, k b u (hb b n) q⟩, fun b u q n _ => by rw [upd_ne (hx b n)]; exact n, fun b u q _ => ?_,
   fun b xs q => by rw [upd_ne (hm b _ q fun z => z)]; exact q, fun b u xs q => by rw [upd_ne (hm b _ q fun z => z)]; exact q, fun b ps q => ⟨#[], by rw [upd_ne (hm b _ q fun z => z), q]; simp⟩⟩
 by_cases hbe : b = e
 · subst hbe; exact heo
 · exact ⟨u, k b u hbe q⟩
end
def trk (h : Heap) (H : Hp) : List Addr := (List.range h.objs.size).filter fun a => (H a).isSome
def hidT (h : Heap) (H : Hp) : Heap := PySem.W.hideAll h (trk h H)
theorem hidT_size (h : Heap) (H : Hp) : (hidT h H).objs.size = h.objs.size := PySem.W.hideAll_size _ _
theorem hidT_get {h : Heap} {H : Hp} {b : Addr} {o : Obj} (e : h.get? b = some o) (n : H b = none) : (hidT h H).get? b = some o :=
 PySem.W.hideAll_get _ e fun hm => by
   have q : (H b).isSome = true := (List.mem_filter.mp hm).2
   rw [n] at q; simp at q
theorem of_hidT {h : Heap} {H : Hp} {b : Addr} {o : Obj} (e : (hidT h H).get? b = some o) : h.get? b = some o ∧ H b = none := by
 have e' : h.get? b = some o := PySem.W.of_hideAll (trk h H) e
 refine ⟨e', ?_⟩
 cases q : H b with
 | none => rfl
 | some x =>
   have hm : b ∈ trk h H := List.mem_filter.mpr ⟨List.mem_range.mpr (Heap.lt_size e'), by simp [q]⟩
   have z : (hidT h H).get? b = none := PySem.W.hideAll_none (trk h H) hm
   rw [z] at e; cases e
def allNews (g h : Heap) (L : Addr) : List (Addr × Obj) := (List.range h.objs.size).filterMap fun a => if a = L ∨ (g.get? a).isSome = true then none else (h.get? a).map fun o => (a, o)
def rest (g h : Heap) (L d : Addr) : List (Addr × Obj) := (allNews g h L).filter fun p => decide (p.1 ≠ d)
end L2
namespace L2
open PySem PySem.Spec PyProof.Rows
structure Mod (K : PySem.W.Frag) (mg : Str → Option Value) (base : Heap) : Prop where
 kin : K.In base
 glob : base.Ns mainGlobals mg
 blt : ∃ mb, base.Ns builtinsNs mb ∧ ∀ x : Str, x ≠ "__name__" → mb x = bootBuiltins x
 nolimit : base.NoLimit
 seer : base.NoSeer
structure Cx where
 prog : Program
 w : World
 K : PySem.W.Frag
 mg : Str → Option Value
 base : Heap
 A : Around
 N : List Str
 s₀ : Shared
 H₀ : Hp
 env : Env
 outer : List Env
 stack : List Env
 ex : List Addr
 fn : Str → Bool
 calm : Bool
 pn : List (Addr × Obj)
 xe : Value → Shared → Prop
def frs (l : List Env) : List Addr := l.filterMap (·.frame)
abbrev Cx.fs (X : Cx) : List Addr := frs X.outer
def Vis (sc : Scope) (x : Str) : Prop := sc.names.lookup x = some .local ∨ sc.names.lookup x = some .cell ∨ sc.names.lookup x = some .free
def Loc (sc : Scope) (x : Str) : Prop := sc.names.lookup x = some .local ∨ sc.names.lookup x = some .cell
def Look (env : Env) (h : Heap) (m : Str → Option Value) (x : Str) (u : Value) : Prop :=
 (env.kindOf x = some .local ∧ m x = some u) ∨ ((env.kindOf x = some .cell ∨ env.kindOf x = some .free) ∧ ∃ c, env.cells.lookup x = some c ∧ h.IsCell c (some u))
structure Cx.Ok (X : Cx) : Prop where
 mod : Mod X.K X.mg X.base
 kind : X.env.scope.kind = .function
 glob : X.env.globals = mainGlobals
 blt : X.env.builtins = builtinsNs
 above : X.s₀.heap.objs.size ≤ X.env.locals
 inj : ∀ x y c, X.env.cells.lookup x = some c → X.env.cells.lookup y = some c → x = y
 has : ∀ x, (X.env.kindOf x = some .cell ∨ X.env.kindOf x = some .free) → ∃ c, X.env.cells.lookup x = some c
 cab : ∀ x c, X.fn x = true → X.env.cells.lookup x = some c → X.s₀.heap.objs.size ≤ c
 hd : X.calm = true → X.A.handled = none
 frames : X.A.frames = some X.stack
 stk : X.stack = X.outer ∨ (X.stack = X.env :: X.outer ∧ X.env.frame = some X.env.locals)
 exf : ∀ b ∈ X.ex, b ≠ X.env.locals ∧ ∀ x c, X.env.cells.lookup x = some c → c ≠ b
 bs : ∀ b o, X.base.get? b = some o → X.s₀.heap.get? b = some o ∧ X.H₀ b = none
 bsz : X.base.objs.size ≤ X.s₀.heap.objs.size
 noex : ∀ b o, X.base.get? b = some o → b ∉ X.ex
 exfs : ∀ b ∈ X.ex, b ∉ X.fs
 funs : X.s₀.heap.FunFrames X.base X.outer
 frf : ∀ b ∈ X.fs, X.H₀ b = none
structure Inv (X : Cx) (pins : List (Addr × Obj)) (σ : List (Option V)) (H : Hp) (s : Shared) : Prop where
 ok : X.Ok
 os : s.os = X.s₀.os
 bare : AllBare s.gens
 base : Un X.fs X.ex X.H₀ H X.s₀.heap s.heap
 loc : ∃ m, s.heap.Ns X.env.locals m ∧ ∀ (i : Nat) (x : Str) (v : V), X.N[i]? = some x → σ[i]? = some (some v) → Vis X.env.scope x → ∃ u, RelV v u ∧ Look X.env s.heap m x u
 cell : ∀ x c, X.env.cells.lookup x = some c → ∃ v, s.heap.IsCell c v
 free : H X.env.locals = none
 freeC : ∀ x c, X.env.cells.lookup x = some c → H c = none
 pin : ∀ p ∈ X.pn ++ pins, s.heap.get? p.1 = some p.2 ∧ H p.1 = none ∧ p.1 ≠ X.env.locals ∧ p.1 ∉ X.fs ∧ ∀ v, p.2.data ≠ .cell v
 hok : HOk X.prog X.w H s.heap
 len : σ.length = X.N.length
section
variable {X : Cx} {pins : List (Addr × Obj)} {σ : List (Option V)} {H H' : Hp} {s : Shared} {h' : Heap}
theorem Cx.Ok.nofr (ok : X.Ok) {b : Addr} {o : Obj} (e : X.base.get? b = some o) : b ∉ X.fs := fun hb => by
 have := (ok.funs.mem hb).1
 rw [e] at this; cases this
theorem Inv.bs (I : Inv X pins σ H s) : ∀ b o, X.base.get? b = some o → s.heap.get? b = some o ∧ H b = none := fun b o e =>
 ⟨I.base.keep b o (I.ok.bs b o e).1 (I.ok.bs b o e).2 (I.ok.nofr e) (I.ok.noex b o e), I.base.free b o (I.ok.bs b o e).1 (I.ok.bs b o e).2 (I.ok.noex b o e)⟩
theorem Inv.bk (I : Inv X pins σ H s) : ∀ b o, X.base.get? b = some o → s.heap.get? b = some o := fun b o e => (I.bs b o e).1
theorem Inv.mod (I : Inv X pins σ H s) : Mod X.K X.mg X.base := I.ok.mod
theorem Inv.kIn (I : Inv X pins σ H s) : X.K.In s.heap := I.ok.mod.kin.keeps I.bk
theorem Inv.nolimit (I : Inv X pins σ H s) : s.heap.NoLimit := I.ok.mod.nolimit.keeps I.bk
theorem Inv.lt (I : Inv X pins σ H s) : X.env.locals < s.heap.objs.size := let ⟨_, hn, _⟩ := I.loc; hn.lt
theorem Inv.sz (I : Inv X pins σ H s) : X.s₀.heap.objs.size ≤ s.heap.objs.size := Nat.le_trans I.ok.above (Nat.le_of_lt I.lt)
theorem Inv.nofs (I : Inv X pins σ H s) {a : Addr} (h : s.heap.objs.size ≤ a) : a ∉ X.fs := fun hb => by
 obtain ⟨_, o, ho, _⟩ := I.ok.funs.mem hb
 exact absurd (Nat.lt_of_lt_of_le (Heap.lt_size ho) (Nat.le_trans I.sz h)) (Nat.lt_irrefl _)
theorem Inv.cne (I : Inv X pins σ H s) : ∀ x c, X.env.cells.lookup x = some c → c ≠ X.env.locals := fun x c e z => by
 obtain ⟨v, o, ho, hd⟩ := I.cell x c e
 obtain ⟨m, ⟨o', es, ep, ho', hd', _⟩, _⟩ := I.loc
 rw [z, ho'] at ho; cases ho; rw [hd'] at hd; cases hd
theorem Inv.funs (I : Inv X pins σ H s) : s.heap.FunFrames X.base X.outer := by
 have all : ∀ (l : List Env), (∀ b ∈ frs l, b ∈ X.fs) → X.s₀.heap.FunFrames X.base l → s.heap.FunFrames X.base l := by
   intro l
   induction l with
   | nil => intro _ _; trivial
   | cons env r ih =>
     intro hs hl
     obtain ⟨hk, ⟨L, o, hf, hn, ho, hd⟩, hr⟩ := hl
     have hL : L ∈ X.fs := hs L (by unfold frs; rw [List.filterMap_cons, hf]; exact List.mem_cons_self)
     obtain ⟨sl, e⟩ := I.base.slot L o ho (I.ok.frf L hL) hL fun z => I.ok.exfs L z hL
     exact ⟨hk, ⟨L, _, hf, hn, e, hd⟩, ih (fun b hb => hs b (by unfold frs; rw [List.filterMap_cons, hf]; exact List.mem_cons_of_mem _ hb)) hr⟩
 exact all X.outer (fun _ hb => hb) I.ok.funs
theorem Inv.stack (I : Inv X pins σ H s) : s.heap.FunFrames X.base X.stack := by
 rcases I.ok.stk with e | ⟨e, hf⟩
 · rw [e]; exact I.funs
 · rw [e]
   obtain ⟨m, hn, _⟩ := I.loc
   refine .cons (by rw [I.ok.kind]; decide) hf hn ?_ I.funs
   exact Heap.get?_none_of_le (Nat.le_trans I.ok.bsz I.ok.above)
theorem Inv.stkSub (I : Inv X pins σ H s) : ∀ b ∈ frs X.stack, b ∈ X.env.locals :: X.fs := fun b hb => by
 rcases I.ok.stk with e | ⟨e, hf⟩
 · rw [e] at hb; exact List.mem_cons_of_mem _ hb
 · rw [e] at hb
   unfold frs at hb
   rw [List.filterMap_cons, hf] at hb
   exact hb
theorem Inv.stkFree (I : Inv X pins σ H s) : ∀ b ∈ frs X.stack, H b = none := fun b hb => by
 rcases List.mem_cons.mp (I.stkSub b hb) with e | hb
 · rw [e]; exact I.free
 · obtain ⟨_, o, ho, _⟩ := I.ok.funs.mem hb
   exact I.base.free b o ho (I.ok.frf b hb) fun z => I.ok.exfs b z hb
theorem Inv.step {g' : Array GenState} {t' : Nat} {d' : Drawn} {ch : List Addr} (I : Inv X pins σ H s)
   (hch : ∀ b ∈ ch, (b ∈ X.ex ∨ X.s₀.heap.objs.size ≤ b) ∧ b ≠ X.env.locals ∧ (∀ x c, X.env.cells.lookup x = some c → c ≠ b) ∧ ∀ p ∈ X.pn ++ pins, p.1 ≠ b)
   (keep : ∀ b o, b ≠ X.env.locals → b ∉ X.fs → b ∉ ch → s.heap.get? b = some o → H b = none → h'.get? b = some o)
   (slot : ∀ b o, b ≠ X.env.locals → b ∈ X.fs → b ∉ ch → s.heap.get? b = some o → H b = none → ∃ sl, h'.get? b = some { o with slots := sl }) (free : ∀ b o, b ∉ ch → s.heap.get? b = some o → H b = none → H' b = none)
   (there : ∀ b o, b ∉ ch → s.heap.get? b = some o → ∃ o', h'.get? b = some o')
   (tups : ∀ b xs, H b = some (.tup xs) → H' b = some (.tup xs)) (frzs : ∀ b o u, H b = some (.frz o u) → H' b = some (.frz o u)) (tbls : ∀ b ps, H b = some (.tbl ps) → ∃ more, H' b = some (.tbl (ps ++ more)))
   (ns : ∀ m, s.heap.Ns X.env.locals m → h'.Ns X.env.locals m) (hok : HOk X.prog X.w H' h') (hg : AllBare g') :
   Inv X pins σ H' { s with heap := h', gens := g', drawn := d', toks := t' } := by
 have neL : ∀ b o, X.s₀.heap.get? b = some o → b ≠ X.env.locals := fun b o e => Nat.ne_of_lt (Nat.lt_of_lt_of_le (Heap.lt_size e) I.ok.above)
 have neC : ∀ b o, X.s₀.heap.get? b = some o → b ∉ X.ex → b ∉ ch := fun b o e hx hb => by
   rcases (hch b hb).1 with z | z
   · exact hx z
   · exact absurd (Nat.lt_of_lt_of_le (Heap.lt_size e) z) (Nat.lt_irrefl _)
 have cellK : ∀ x c, X.env.cells.lookup x = some c → ∀ v, s.heap.IsCell c v → h'.IsCell c v := fun x c e v ⟨o, ho, hd⟩ => by
   have nch : c ∉ ch := fun z => (hch c z).2.2.1 x c e rfl
   by_cases hc : c ∈ X.fs
   · obtain ⟨sl, q⟩ := slot c o (I.cne x c e) hc nch ho (I.freeC x c e)
     exact ⟨_, q, hd⟩
   · exact ⟨o, keep c o (I.cne x c e) hc nch ho (I.freeC x c e), hd⟩
 refine ⟨I.ok, I.os, hg, ⟨fun b o e n hb hx => ?_, fun b o e n hb hx => ?_, fun b o e n hx => ?_, fun b o e hx => ?_, fun b xs e => tups b xs (I.base.tups b xs e), fun b o xs e => frzs b o xs (I.base.frzs b o xs e), fun b ps e => ?_⟩, ?_, fun x c e => ?_, ?_, fun x c e => ?_, fun p hp => ?_, hok, I.len⟩
 · exact keep b o (neL b o e) hb (neC b o e hx) (I.base.keep b o e n hb hx) (I.base.free b o e n hx)
 · obtain ⟨sl, e1⟩ := I.base.slot b o e n hb hx
   obtain ⟨sl', e2⟩ := slot b _ (neL b o e) hb (neC b o e hx) e1 (I.base.free b o e n hx)
   exact ⟨sl', e2⟩
 · obtain ⟨o', e1⟩ := I.base.there b o e hx
   exact free b o' (neC b o e hx) e1 (I.base.free b o e n hx)
 · obtain ⟨o', e1⟩ := I.base.there b o e hx
   exact there b o' (neC b o e hx) e1
 · obtain ⟨m1, e1⟩ := I.base.tbls b ps e
   obtain ⟨m2, e2⟩ := tbls b _ e1
   exact ⟨m1 ++ m2, by rw [e2, Array.append_assoc]⟩
 · obtain ⟨m, hn, hl⟩ := I.loc
   refine ⟨m, ns m hn, fun i x v e1 e2 e3 => ?_⟩
   obtain ⟨u, r, l⟩ := hl i x v e1 e2 e3
   refine ⟨u, r, ?_⟩
   rcases l with l | ⟨k, c, e, z⟩
   · exact .inl l
   · exact .inr ⟨k, c, e, cellK x c e _ z⟩
 · obtain ⟨v, z⟩ := I.cell x c e
   exact ⟨v, cellK x c e v z⟩
 · obtain ⟨m, ⟨o, _, _, ho, _⟩, _⟩ := I.loc
   exact free _ o (fun z => (hch _ z).2.1 rfl) ho I.free
 · obtain ⟨v, o, ho, hd⟩ := I.cell x c e
   exact free c o (fun z => (hch c z).2.2.1 x c e rfl) ho (I.freeC x c e)
 · obtain ⟨e, n, ne, nf, d⟩ := I.pin p hp
   have nch : p.1 ∉ ch := fun z => (hch p.1 z).2.2.2 p hp rfl
   exact ⟨keep p.1 p.2 ne nf nch e n, free p.1 p.2 nch e n, ne, nf, d⟩
theorem Inv.un {t' : Nat} (I : Inv X pins σ H s) (u : Un X.fs [] H H' s.heap h') (hok : HOk X.prog X.w H' h') : Inv X pins σ H' { s with heap := h', toks := t' } := by
 obtain ⟨m, ⟨o, es, ep, ho, r⟩, _⟩ := id I.loc
 obtain ⟨sl, hL⟩ := u.any ho I.free (by simp)
 exact I.step (g' := s.gens) (d' := s.drawn) (ch := []) (fun _ z => nomatch z) (fun b o _ hb _ e n => u.keep b o e n hb (by simp)) (fun b o _ hb _ e n => u.slot b o e n hb (by simp)) (fun b o _ e n => u.free b o e n (by simp)) (fun b o _ e => u.there b o e (by simp)) u.tups u.frzs u.tbls (fun m' hm => by
   obtain ⟨o', es', ep', ho', r'⟩ := hm
   rw [ho] at ho'; cases ho'
   exact ⟨_, es', ep', hL, r'⟩) hok I.bare
theorem Inv.call {g' : Array GenState} {t' : Nat} {d' : Drawn} {ch : List Addr} (I : Inv X pins σ H s) (u : Un (frs X.stack) ch H H' s.heap h') (hok : HOk X.prog X.w H' h') (hg : AllBare g')
   (hch : ∀ b ∈ ch, (b ∈ X.ex ∨ X.s₀.heap.objs.size ≤ b) ∧ b ≠ X.env.locals ∧ (∀ x c, X.env.cells.lookup x = some c → c ≠ b) ∧ ∀ p ∈ X.pn ++ pins, p.1 ≠ b) :
   Inv X pins σ H' { s with heap := h', gens := g', drawn := d', toks := t' } := by
 obtain ⟨m, ⟨o, es, ep, ho, r⟩, _⟩ := id I.loc
 obtain ⟨sl, hL⟩ := u.any ho I.free fun z => (hch _ z).2.1 rfl
 exact I.step (ch := ch) hch (fun b o hL hb hc e n => u.keep b o e n (fun z => (List.mem_cons.mp (I.stkSub b z)).elim hL hb) hc) (fun b o _ _ hc e n => u.any e n hc) (fun b o hc e n => u.free b o e n hc) (fun b o hc e => u.there b o e hc) u.tups u.frzs u.tbls (fun m' hm => by
   obtain ⟨o', es', ep', ho', r'⟩ := hm
   rw [ho] at ho'; cases ho'
   exact ⟨_, es', ep', hL, r'⟩) hok hg
theorem Inv.turned {t' : Nat} {it : Addr} (I : Inv X pins σ H s) (k : ∀ b o, b ≠ it → s.heap.get? b = some o → h'.get? b = some o) (hn : H it = none) (hL : it ≠ X.env.locals)
   (h1 : it ∈ X.ex ∨ X.s₀.heap.objs.size ≤ it) (h2 : ∀ x c, X.env.cells.lookup x = some c → c ≠ it) (h3 : ∀ p ∈ X.pn ++ pins, p.1 ≠ it) : Inv X pins σ H { s with heap := h', toks := t' } := by
 have nit : ∀ b u, H b = some u → b ≠ it := fun b u e z => by rw [z, hn] at e; cases e
 refine I.step (g' := s.gens) (d' := s.drawn) (ch := [it]) (fun b hb => ?_) (fun b o _ _ hc e _ => k b o (fun z => hc (by simp [z])) e) (fun b o _ _ hc e _ => ⟨o.slots, k b o (fun z => hc (by simp [z])) e⟩) (fun _ _ _ _ n => n)
   (fun b o hc e => ⟨o, k b o (fun z => hc (by simp [z])) e⟩) (fun _ _ e => e) (fun _ _ _ e => e) (fun b ps e => ⟨#[], by rw [e]; simp⟩) (fun m hm => ?_) (fun b u e => ?_) I.bare
 · have e : b = it := by simpa using hb
   subst e
   exact ⟨h1, hL, h2, h3⟩
 · obtain ⟨o, es, ep, ho, r⟩ := hm
   exact ⟨o, es, ep, k _ o (Ne.symm hL) ho, r⟩
 · refine (I.hok b u e).stay (fun c v hc q => k c v ?_ q) (fun _ q => q) fun _ _ q => q
   rcases hc with z | z
   · rw [z]; exact nit b u e
   · exact nit c _ z
theorem Inv.tok (I : Inv X pins σ H s) (t : Nat) : Inv X pins σ H { s with toks := t } := I.un (h' := s.heap) (t' := t) Un.refl I.hok
theorem Inv.kept {t' : Nat} (I : Inv X pins σ H s) (k : ∀ b u, s.heap.get? b = some u → h'.get? b = some u) : Inv X pins σ H { s with heap := h', toks := t' } := I.un (Un.kept k) (I.hok.kept k)
theorem Inv.laid {a : Addr} {o : HO} {t' : Nat} (I : Inv X pins σ H s) (k : ∀ b u, s.heap.get? b = some u → h'.get? b = some u) (hp : s.heap.objs.size ≤ a) (new : ObjOk X.prog X.w (upd H a o) h' a o) :
   Inv X pins σ (upd H a o) { s with heap := h', toks := t' } := I.un (Un.laid k hp (I.hok.fresh hp)) (I.hok.laid k hp new)
theorem Inv.write {x e : Addr} {o : HO} {t' : Nat} (I : Inv X pins σ H s) (mu : Mut (H x)) (he : e = x ∨ H e = some (.own x)) (k : ∀ b u, b ≠ e → s.heap.get? b = some u → h'.get? b = some u) (heo : ∃ u, h'.get? e = some u)
   (new : ObjOk X.prog X.w (upd H x o) h' x o) : Inv X pins σ (upd H x o) { s with heap := h', toks := t' } := I.un (Un.write mu he k heo) (I.hok.write mu he k heo new)
theorem Inv.weak {σ' : List (Option V)} (I : Inv X pins σ H s) (hl : σ'.length = σ.length) (w : ∀ (i : Nat) v, σ'[i]? = some (some v) → σ[i]? = some (some v)) : Inv X pins σ' H s :=
 ⟨I.ok, I.os, I.bare, I.base, let ⟨m, hn, hl'⟩ := I.loc; ⟨m, hn, fun i x v e1 e2 e3 => hl' i x v e1 (w i v e2) e3⟩, I.cell, I.free, I.freeC, I.pin, I.hok, hl.trans I.len⟩
theorem Inv.pins_of {pins' : List (Addr × Obj)} (I : Inv X pins σ H s) (h : ∀ p ∈ pins', s.heap.get? p.1 = some p.2 ∧ H p.1 = none ∧ p.1 ≠ X.env.locals ∧ p.1 ∉ X.fs ∧ ∀ v, p.2.data ≠ .cell v) : Inv X pins' σ H s :=
 ⟨I.ok, I.os, I.bare, I.base, I.loc, I.cell, I.free, I.freeC, fun p hp => (List.mem_append.mp hp).elim (fun z => I.pin p (List.mem_append_left _ z)) (h p), I.hok, I.len⟩
theorem nodup_ix {N : List Str} (hN : N.Nodup) {i j : Nat} {x : Str} (a : N[i]? = some x) (b : N[j]? = some x) : i = j := by
 obtain ⟨h1, e1⟩ := List.getElem?_eq_some_iff.mp a
 obtain ⟨h2, e2⟩ := List.getElem?_eq_some_iff.mp b
 exact (List.getElem_inj hN).mp (e1.trans e2.symm)
theorem store_ok2 {M : Model} {A : Around} {E : Value → Shared → Prop} {i : Nat} {x : Str} {v : V} {u : Value} {Q : Unit → Shared → Prop} (I : Inv X pins σ H s) (hN : X.N.Nodup) (hi : X.N[i]? = some x) (hx : Loc X.env.scope x) (r : RelV v u)
   (h : ∀ s', Inv X pins (σ.set i (some v)) H s' → (∃ a, Heap.SameBut a s.heap s'.heap ∧ (a = X.env.locals ∨ X.env.cells.lookup x = some a)) → Q () s') (hf : X.fn x = true ∨ X.env.scope.names.lookup x = some .local := by first | exact .inl rfl | exact .inr rfl | assumption) : wpAny M A (storeName X.env x u) Q E s := by
 obtain ⟨m, hn, hl⟩ := id I.loc
 have hcls : (X.env.scope.kind == .class || (X.env.scope.kind == .module && X.env.locals != X.env.globals)) = false := by rw [I.ok.kind]; rfl
 have hiσ : i < σ.length := by rw [I.len]; exact (List.getElem?_eq_some_iff.mp hi).1
 have cne := I.cne
 have tracked : ∀ {a : Addr} {h' : Heap}, (∃ o, s.heap.get? a = some o ∧ H a = none) → Heap.SameBut a s.heap h' → HOk X.prog X.w H h' := fun {a h'} ha hs b ob e => by
   obtain ⟨_, _, hfree⟩ := ha
   refine (I.hok b ob e).stay (fun c w' hc q => (hs.2 c ?_).trans q) (fun _ q => q) fun _ _ q => q
   rintro rfl
   rcases hc with rfl | hc
   · rw [hfree] at e; cases e
   · rw [hfree] at hc; cases hc
 rcases hx with hk | hk
 · refine wpAny_storeName_local hk hn (fun h' hn' hs => ?_) hcls
   obtain ⟨oL, _, _, hoL, _⟩ := id hn
   refine h _ ⟨I.ok, I.os, I.bare, ⟨fun b o e n hb hx => ?_, fun b o e n hb hx => ?_, I.base.free, fun b o e hx => ?_, I.base.tups, I.base.frzs, I.base.tbls⟩, ⟨_, hn', fun j y v' e1 e2 e3 => ?_⟩, fun y c e => ?_, I.free, I.freeC, fun p hp => ?_, tracked ⟨oL, hoL, I.free⟩ hs, by simpa using I.len⟩ ⟨_, hs, .inl rfl⟩
   · exact (hs.2 b (Nat.ne_of_lt (Nat.lt_of_lt_of_le (Heap.lt_size e) I.ok.above))).trans (I.base.keep b o e n hb hx)
   · obtain ⟨sl, e1⟩ := I.base.slot b o e n hb hx
     exact ⟨sl, (hs.2 b (Nat.ne_of_lt (Nat.lt_of_lt_of_le (Heap.lt_size e) I.ok.above))).trans e1⟩
   · obtain ⟨o', e1⟩ := I.base.there b o e hx
     exact ⟨o', (hs.2 b (Nat.ne_of_lt (Nat.lt_of_lt_of_le (Heap.lt_size e) I.ok.above))).trans e1⟩
   · by_cases hj : j = i
     · subst hj
       rw [hi] at e1; cases e1
       rw [List.getElem?_set_self hiσ] at e2
       cases e2
       exact ⟨u, r, .inl ⟨hk, by simp⟩⟩
     · rw [List.getElem?_set_ne (Ne.symm hj)] at e2
       obtain ⟨u', r', q⟩ := hl j y v' e1 e2 e3
       refine ⟨u', r', ?_⟩
       rcases q with ⟨k, e⟩ | ⟨k, c, e, z⟩
       · refine .inl ⟨k, ?_⟩
         have : y ≠ x := fun e => hj (nodup_ix hN e1 (e ▸ hi))
         simp [this, e]
       · exact .inr ⟨k, c, e, z.sameBut hs (cne y c e)⟩
   · obtain ⟨w', z⟩ := I.cell y c e
     exact ⟨w', z.sameBut hs (cne y c e)⟩
   · obtain ⟨e, n, ne, nf, d⟩ := I.pin p hp
     exact ⟨(hs.2 p.1 ne).trans e, n, ne, nf, d⟩
 · have hfn : X.fn x = true := by
     rcases hf with z | z
     · exact z
     · rw [z] at hk; cases hk
   obtain ⟨c, hc⟩ := I.ok.has x (.inl hk)
   obtain ⟨w', z⟩ := I.cell x c hc
   refine wpAny_storeName_cell I.ok.kind hk hc z (fun h' hc' hs => ?_)
   obtain ⟨oc, hoc, hocd⟩ := id z
   refine h { s with heap := h' } ⟨I.ok, I.os, I.bare, ⟨fun b o e n hb hx => ?_, fun b o e n hb hx => ?_, I.base.free, fun b o e hx => ?_, I.base.tups, I.base.frzs, I.base.tbls⟩, ⟨m, hn.sameBut hs (Ne.symm (cne x c hc)), fun j y v' e1 e2 e3 => ?_⟩, fun y c' e => ?_, I.free, I.freeC, fun p hp => ?_, tracked ⟨oc, hoc, I.freeC x c hc⟩ hs, by simpa using I.len⟩ ⟨c, hs, .inr hc⟩
   · exact (hs.2 b (Nat.ne_of_lt (Nat.lt_of_lt_of_le (Heap.lt_size e) (I.ok.cab x c hfn hc)))).trans (I.base.keep b o e n hb hx)
   · obtain ⟨sl, e1⟩ := I.base.slot b o e n hb hx
     exact ⟨sl, (hs.2 b (Nat.ne_of_lt (Nat.lt_of_lt_of_le (Heap.lt_size e) (I.ok.cab x c hfn hc)))).trans e1⟩
   · obtain ⟨o', e1⟩ := I.base.there b o e hx
     exact ⟨o', (hs.2 b (Nat.ne_of_lt (Nat.lt_of_lt_of_le (Heap.lt_size e) (I.ok.cab x c hfn hc)))).trans e1⟩
   · by_cases hj : j = i
     · subst hj
       rw [hi] at e1; cases e1
       rw [List.getElem?_set_self hiσ] at e2
       cases e2
       exact ⟨u, r, .inr ⟨.inl hk, c, hc, hc'⟩⟩
     · rw [List.getElem?_set_ne (Ne.symm hj)] at e2
       obtain ⟨u', r', q⟩ := hl j y v' e1 e2 e3
       refine ⟨u', r', ?_⟩
       rcases q with q | ⟨k, c', e, z'⟩
       · exact .inl q
       · refine .inr ⟨k, c', e, z'.sameBut hs ?_⟩
         rintro rfl
         exact hj (nodup_ix hN e1 (I.ok.inj _ _ _ e hc ▸ hi))
   · by_cases hcc : c' = c
     · subst hcc; exact ⟨_, hc'⟩
     · obtain ⟨w2, z2⟩ := I.cell y c' e
       exact ⟨w2, z2.sameBut hs hcc⟩
   · obtain ⟨e, n, ne, nf, d⟩ := I.pin p hp
     refine ⟨(hs.2 p.1 ?_).trans e, n, ne, nf, d⟩
     intro q
     rw [q, hoc] at e
     have q' : oc = p.2 := Option.some.inj e
     exact d w' (by rw [← q']; exact hocd)
theorem store_ok {M : Model} {A : Around} {E : Value → Shared → Prop} {i : Nat} {x : Str} {v : V} {u : Value} {Q : Unit → Shared → Prop} (I : Inv X pins σ H s) (hN : X.N.Nodup) (hi : X.N[i]? = some x) (hx : Loc X.env.scope x) (r : RelV v u)
   (h : ∀ s', Inv X pins (σ.set i (some v)) H s' → Q () s') (hf : X.fn x = true ∨ X.env.scope.names.lookup x = some .local := by first | exact .inl rfl | exact .inr rfl | assumption) : wpAny M A (storeName X.env x u) Q E s :=
 store_ok2 I hN hi hx r (fun s' I' _ => h s' I') hf
theorem Inv.call' {s' : Shared} {ch : List Addr} (I : Inv X pins σ H s) (ho : s'.os = s.os) (u : Un (frs X.stack) ch H H' s.heap s'.heap) (hok : HOk X.prog X.w H' s'.heap) (hg : AllBare s'.gens)
   (hch : ∀ b ∈ ch, (b ∈ X.ex ∨ X.s₀.heap.objs.size ≤ b) ∧ b ≠ X.env.locals ∧ (∀ x c, X.env.cells.lookup x = some c → c ≠ b) ∧ ∀ p ∈ X.pn ++ pins, p.1 ≠ b) : Inv X pins σ H' s' := by
 obtain ⟨h', g', d', t', o'⟩ := s'
 have e : o' = s.os := ho
 subst e
 exact I.call (g' := g') (t' := t') (d' := d') u hok hg hch
end
abbrev XK := Value → Option Addr → Hp → Prop
abbrev St := List (Option V)
abbrev VK := V → Hp → Prop
abbrev TE := St → Hp → VK → Prop
abbrev TT := St → Hp → (Bool → Hp → Prop) → Prop
abbrev TA := St → Hp → (List V → Hp → Prop) → Prop
structure Ends where
 nx : St → Hp → Prop
 rt : VK
 bk : St → Hp → Prop := fun _ _ => False
 ct : St → Hp → Prop := fun _ _ => False
abbrev TS := Ends → St → Hp → Prop
inductive EP (X : Cx) (pins : List (Addr × Obj)) (σ : St) (Q : VK) (u : Value) (s' : Shared) : Prop
 | mk (v : _) (H' : _) (h1 : Inv X pins σ H' s') (h2 : RelV v u) (h3 : Q v H') : EP X pins σ Q u s'
def TP (X : Cx) (pins : List (Addr × Obj)) (σ : St) (Q : Bool → Hp → Prop) (b : Bool) (s' : Shared) : Prop := ∃ H', Inv X pins σ H' s' ∧ Q b H'
inductive AP (X : Cx) (pins : List (Addr × Obj)) (σ : St) (Q : List V → Hp → Prop) (us : List Value) (s' : Shared) : Prop
 | mk (vs : _) (H' : _) (h1 : Inv X pins σ H' s') (h2 : Vals vs us) (h3 : Q vs H') : AP X pins σ Q us s'
def SP (X : Cx) (pins : List (Addr × Obj)) (D : Ends) (f : Flow) (s' : Shared) : Prop :=
 match f with
 | .next => ∃ σ' H', Inv X pins σ' H' s' ∧ D.nx σ' H'
 | .brk => ∃ σ' H', Inv X pins σ' H' s' ∧ D.bk σ' H'
 | .cont => ∃ σ' H', Inv X pins σ' H' s' ∧ D.ct σ' H'
 | .ret u => ∃ v σ' H', Inv X pins σ' H' s' ∧ RelV v u ∧ D.rt v H'
def PE (X : Cx) (e : Expr) (t : TE) : Prop :=
 ∀ (pins : List (Addr × Obj)) (s : Shared) (σ : St) (H : Hp) (Q : VK), Inv X pins σ H s → t σ H Q → wpAny (model X.prog X.w) X.A (eval e X.env) (EP X pins σ Q) X.xe s
def PT (X : Cx) (e : Expr) (t : TT) : Prop :=
 ∀ (pins : List (Addr × Obj)) (s : Shared) (σ : St) (H : Hp) (Q : Bool → Hp → Prop), Inv X pins σ H s → t σ H Q → wpAny (model X.prog X.w) X.A (isTrue e X.env (eval e X.env)) (TP X pins σ Q) X.xe s
def PW (X : Cx) (e : Expr) (t : TT) : Prop :=
 ∀ (whole : Sem Value) (pins : List (Addr × Obj)) (s : Shared) (σ : St) (H : Hp) (Q : Bool → Hp → Prop), Inv X pins σ H s → t σ H Q → wpAny (model X.prog X.w) X.A (isTrue e X.env whole) (TP X pins σ Q) X.xe s
theorem PW.pt {X : Cx} {e : Expr} {t : TT} (h : PW X e t) : PT X e t := h _
def PA (X : Cx) (es : List Expr) (t : TA) : Prop :=
 ∀ (pos : Pos) (pins : List (Addr × Obj)) (s : Shared) (σ : St) (H : Hp) (Q : List V → Hp → Prop), Inv X pins σ H s → t σ H Q → wpAny (model X.prog X.w) X.A (spliced (backTo pos (starEach es X.env))) (AP X pins σ Q) X.xe s
def PS (X : Cx) (st : Stmt) (t : TS) : Prop :=
 ∀ (pins : List (Addr × Obj)) (s : Shared) (σ : St) (H : Hp) (D : Ends), Inv X pins σ H s → t D σ H → wpAny (model X.prog X.w) X.A (exec st X.env) (SP X pins D) X.xe s
def PSs (X : Cx) (st : List Stmt) (t : TS) : Prop :=
 ∀ (pins : List (Addr × Obj)) (s : Shared) (σ : St) (H : Hp) (D : Ends), Inv X pins σ H s → t D σ H → wpAny (model X.prog X.w) X.A (execs st X.env) (SP X pins D) X.xe s
theorem thn {α : Type} {t : Sem α} {Q Q' : α → Shared → Prop} {M : Model} {A : Around} {E : Value → Shared → Prop} {s : Shared} (h : wpAny M A t Q E s) (hQ : ∀ a s, Q a s → Q' a s) : wpAny M A t Q' E s := wpAny_mono h hQ fun _ _ x => x
end L2
namespace L2
open PySem PySem.Spec PyProof.Rows
section
variable {X : Cx}
inductive tVar (i : Nat) (σ : St) (H : Hp) (Q : VK) : Prop
 | mk (v : _) (h1 : σ[i]? = some (some v)) (h2 : Q v H) : tVar i σ H Q
def tC (v : V) : TE := fun _ H Q => Q v H
theorem pe_var {i : Nat} {x : Str} {pos : Pos} (hN : X.N[i]? = some x) (hv : Vis X.env.scope x) (hd : (x == ("__debug__" : Str)) = false := by decide) (hcd : (x == ("__classdict__" : Str)) = false := by decide) : PE X (.Name x pos) (tVar i) := by
 intro pins s σ H Q I h
 obtain ⟨v, e, h⟩ := h
 obtain ⟨m, hn, hl⟩ := I.loc
 obtain ⟨u, r, l⟩ := hl i x v hN e hv
 have fin : EP X pins σ Q u s := ⟨v, H, I, r, h⟩
 rcases l with ⟨hk, hm⟩ | ⟨hk, c, hc, hcell⟩
 · exact wpAny_Name (wpAny_loadName_local I.ok.kind hk hn hm fin) hd
 · rcases hk with hk | hk
   · exact wpAny_Name (wpAny_loadName_cell I.ok.kind hk hc hcell fin) hd
   · exact wpAny_Name (wpAny_loadName_free I.ok.kind hk hc hcell fin hcd) hd
theorem pe_int {i j pos} : PE X (.Constant (.int i) j pos) (tC (.int i)) := fun _ _ _ H _ I h => wpAny_Constant_int ⟨.int i, H, I.tok _, ⟨_, rfl⟩, h⟩
theorem pe_bl {b j pos} : PE X (.Constant (.bool b) j pos) (tC (.bl b)) := fun _ _ _ H _ I h => Constant_bool ⟨.bl b, H, I, rfl, h⟩
theorem pe_non {j pos} : PE X (.Constant .none j pos) (tC .non) := fun _ _ _ H _ I h => Constant_none ⟨.non, H, I, rfl, h⟩
def Gl (X : Cx) (x : Str) : Prop := X.env.kindOf x = some .globalImplicit
theorem ld_glob {E : Value → Shared → Prop} {pins : List (Addr × Obj)} {s : Shared} {σ : St} {H : Hp} {x : Str} {u : Value} {pos : Pos} {Q : Value → Shared → Prop} (I : Inv X pins σ H s) (hg : Gl X x) (hm : X.mg x = some u) (h : Q u s)
   (hd : (x == ("__debug__" : Str)) = false := by decide) : wpAny (model X.prog X.w) X.A (eval (.Name x pos) X.env) Q E s :=
 Calls.Name_function_global I.ok.kind hg (Calls.loadGlobal_global (by rw [I.ok.glob]; exact I.mod.glob.keeps I.bk) hm h) hd
theorem ld_blt {E : Value → Shared → Prop} {pins : List (Addr × Obj)} {s : Shared} {σ : St} {H : Hp} {x : Str} {u : Value} {pos : Pos} {Q : Value → Shared → Prop} (I : Inv X pins σ H s) (hg : Gl X x) (hm : X.mg x = none) (hv : bootBuiltins x = some u) (h : Q u s)
   (hn : x ≠ "__name__" := by decide) (hd : (x == ("__debug__" : Str)) = false := by decide) : wpAny (model X.prog X.w) X.A (eval (.Name x pos) X.env) Q E s := by
 obtain ⟨mb, h1, h2⟩ := I.mod.blt
 exact Calls.Name_function_global I.ok.kind hg (Calls.loadGlobal_builtin (by rw [I.ok.glob]; exact I.mod.glob.keeps I.bk) hm (by rw [I.ok.blt]; exact h1.keeps I.bk) ((h2 x hn).trans hv) h) hd
theorem pe_glob {x : Str} {v : V} {u : Value} {pos : Pos} (hg : Gl X x) (hm : X.mg x = some u) (r : RelV v u) (hd : (x == ("__debug__" : Str)) = false := by decide) : PE X (.Name x pos) (tC v) :=
 fun _ _ _ H _ I h => ld_glob I hg hm ⟨v, H, I, r, h⟩ hd
theorem pe_bltn {x : Str} {v : V} {u : Value} {pos : Pos} (hg : Gl X x) (hm : X.mg x = none) (hv : bootBuiltins x = some u) (r : RelV v u) (hn : x ≠ "__name__" := by decide) (hd : (x == ("__debug__" : Str)) = false := by decide) : PE X (.Name x pos) (tC v) :=
 fun _ _ _ H _ I h => ld_blt I hg hm hv ⟨v, H, I, r, h⟩ hn hd
variable {a b : Expr} {ta tb : TE} {pos : Pos}
def tB (t : TE) : TT := fun σ H Q => t σ H fun x H1 => ∃ c, x = .bl c ∧ Q c H1
theorem pt_val {e : Expr} {t : TE} (h : PE X e t) (he : ∀ whole, isTrue e X.env whole = (do let v ← whole; standAt e.pos; holding [v] (truthy v)) := by intro _; rfl) : PT X e (tB t) := by
 intro pins s σ H Q I hw
 refine isTrue_plain (thn (h pins s σ H _ I hw) fun v s1 ⟨x, H1, I1, r1, q1⟩ => ?_) (he _)
 obtain ⟨d, rfl, q⟩ := q1
 cases r1
 exact wpAny_truthy_bool ⟨H1, I1, q⟩
variable {tA tB' : TT} {rest : List Expr}
def tAnd (t u : TT) : TT := fun σ H Q => t σ H fun c H1 => if c = true then u σ H1 Q else Q false H1
def tOr (t u : TT) : TT := fun σ H Q => t σ H fun c H1 => if c = true then Q true H1 else u σ H1 Q
def tNot (t : TT) : TT := fun σ H Q => t σ H fun c H1 => Q (!c) H1
theorem pw_and1 (ha : PT X a tA) : PW X (.BoolOp .And [a] pos) tA := by
 intro wh pins s σ H Q I h
 refine isTrue_and (thn (ha pins s σ H Q I h) fun c s1 e => ?_)
 cases c with
 | true => exact isTrue_and_nil e
 | false => exact e
theorem pw_or1 (ha : PT X a tA) : PW X (.BoolOp .Or [a] pos) tA := by
 intro wh pins s σ H Q I h
 refine isTrue_or (thn (ha pins s σ H Q I h) fun c s1 e => ?_)
 cases c with
 | false => exact isTrue_or_nil e
 | true => exact e
theorem pw_and (ha : PT X a tA) (hb : PW X (.BoolOp .And (b :: rest) pos) tB') : PW X (.BoolOp .And (a :: b :: rest) pos) (tAnd tA tB') := by
 intro wh pins s σ H Q I h
 refine isTrue_and (thn (ha pins s σ H _ I h) fun c s1 ⟨H1, I1, q1⟩ => ?_)
 cases c with
 | true => exact hb wh pins s1 σ H1 Q I1 q1
 | false => exact ⟨H1, I1, q1⟩
theorem pw_or (ha : PT X a tA) (hb : PW X (.BoolOp .Or (b :: rest) pos) tB') : PW X (.BoolOp .Or (a :: b :: rest) pos) (tOr tA tB') := by
 intro wh pins s σ H Q I h
 refine isTrue_or (thn (ha pins s σ H _ I h) fun c s1 ⟨H1, I1, q1⟩ => ?_)
 cases c with
 | true => exact ⟨H1, I1, q1⟩
 | false => exact hb wh pins s1 σ H1 Q I1 q1
theorem pt_not (ha : PT X a tA) : PT X (.UnaryOp .Not a pos) (tNot tA) := by
 intro pins s σ H Q I h
 exact isTrue_not (ha pins s σ H (fun c H1 => Q (!c) H1) I h)
def tAndV (ta tb : TE) : TE := fun σ H Q => ta σ H fun x H1 => ∃ c, x = .bl c ∧ if c = true then tb σ H1 Q else Q (.bl false) H1
def tNotV (ta : TE) : TE := fun σ H Q => ta σ H fun x H1 => ∃ c, x = .bl c ∧ Q (.bl (!c)) H1
theorem pe_one {op} {t : TE} (h : PE X a t) : PE X (.BoolOp op [a] pos) t := fun pins s σ H Q I hw => BoolOp_one (h pins s σ H Q I hw)
theorem pe_and (ha : PE X a ta) (hb : PE X (.BoolOp .And (b :: rest) pos) tb) : PE X (.BoolOp .And (a :: b :: rest) pos) (tAndV ta tb) := by
 intro pins s σ H Q I h
 refine BoolOp_and (thn (ha pins s σ H _ I h) fun v s1 ⟨x, H1, I1, r1, q1⟩ => ?_)
 obtain ⟨c, rfl, q1⟩ := q1
 cases r1
 refine wpAny_truthy_bool ?_
 cases c with
 | true => exact hb pins s1 σ H1 Q I1 q1
 | false => exact ⟨.bl false, H1, I1, rfl, q1⟩
theorem pe_not (ha : PE X a ta) : PE X (.UnaryOp .Not a pos) (tNotV ta) := by
 intro pins s σ H Q I h
 refine UnaryOp_ (thn (ha pins s σ H _ I h) fun v s1 ⟨x, H1, I1, r1, q1⟩ => ?_)
 obtain ⟨c, rfl, q1⟩ := q1
 cases r1
 exact not_of (wpAny_truthy_bool ⟨.bl (!c), H1, I1, rfl, q1⟩)
def tIf (t : TT) (ta tb : TE) : TE := fun σ H Q => t σ H fun c H1 => if c = true then ta σ H1 Q else tb σ H1 Q
theorem pe_ifExp {c : Expr} (hc : PT X c tA) (ha : PE X a ta) (hb : PE X b tb) : PE X (.IfExp c a b pos) (tIf tA ta tb) := by
 intro pins s σ H Q I h
 refine wpAny_IfExp (thn (hc pins s σ H _ I h) fun d s1 ⟨H1, I1, q1⟩ => ?_)
 cases d with
 | true => exact ha pins s1 σ H1 Q I1 q1
 | false => exact hb pins s1 σ H1 Q I1 q1
end
end L2
namespace L2
open PySem PySem.Spec PyProof.Rows
def SqL (K : PySem.W.Frag) (H : Hp) (a : Addr) (xs : List V) : Prop :=
 Rd H a (.lst xs) ∨
   ∃ (o : Obj) (its : Array Value) (n : Nat), K.lookup a = some o ∧ o.cls = .type "list" ∧ o.dict = none ∧ o.data = .seq its n ∧ its.size ≤ sizeLine ∧ Vals xs its.toList
def SqT (K : PySem.W.Frag) (H : Hp) (a : Addr) (xs : List V) : Prop :=
 Rd H a (.tup xs) ∨
   ∃ (o : Obj) (its : Array Value) (n : Nat), K.lookup a = some o ∧ o.cls = .type "tuple" ∧ o.data = .seq its n ∧ its.size ≤ sizeLine ∧ Vals xs its.toList
def absV : Value → Option V
 | .none => some .non
 | .bool b => some (.bl b)
 | .int i _ => some (.int i)
 | .str x _ => some (.str x)
 | .bytes b _ => some (.byt b)
 | .float b _ => some (.flt b)
 | .ref a => some (.ref a)
 | .type n => some (.ty n)
 | _ => none
theorem RelV.abs {x : V} {u : Value} (r : RelV x u) : absV u = some x := by
 cases x with
 | non => cases r; rfl
 | bl _ => cases r; rfl
 | int _ => obtain ⟨t, rfl⟩ := r; rfl
 | str _ => obtain ⟨t, rfl⟩ := r; rfl
 | byt _ => obtain ⟨t, rfl⟩ := r; rfl
 | flt _ => obtain ⟨t, rfl⟩ := r; rfl
 | ref _ => cases r; rfl
 | ty _ => cases r; rfl
theorem RelV.inj {x y : V} {u : Value} (r : RelV x u) (q : RelV y u) : x = y := Option.some.inj (r.abs.symm.trans q.abs)
theorem Vals.inj {xs ys : List V} {us : List Value} (a : Vals xs us) (b : Vals ys us) : xs = ys := by
 induction a generalizing ys with
 | nil => cases b; rfl
 | cons r t ih => cases b with | cons r' t' => rw [r.inj r', ih t']
section
variable {X : Cx} {pins : List (Addr × Obj)} {σ : St} {H : Hp} {s : Shared} {a : Addr} {xs ys : List V}
theorem SqL.of {K : PySem.W.Frag} (h : H a = some (.lst xs)) : SqL K H a xs := .inl (.inl h)
theorem SqT.of {K : PySem.W.Frag} (h : H a = some (.tup xs)) : SqT K H a xs := .inl (.inl h)
theorem Inv.list (I : Inv X pins σ H s) (h : SqL X.K H a xs) : ∃ its : List Value, Vals xs its ∧ PlainL s.heap a its.toArray ∧ xs.length ≤ sizeLine := by
 rcases h with h | ⟨o, its, n, hk, hc, hd, hs, hz, r⟩
 · obtain ⟨z, its, n, r, e⟩ := h.ok I.hok
   exact ⟨its, r, ⟨_, n, e, rfl, rfl, rfl⟩, z⟩
 · refine ⟨its.toList, r, ⟨o, n, I.kIn a o hk, hc, hd, by simpa using hs⟩, ?_⟩
   have e := r.length
   simp only [Array.length_toList] at e
   lia
theorem Inv.tuple (I : Inv X pins σ H s) (h : SqT X.K H a xs) : ∃ its : List Value, Vals xs its ∧ IsTup s.heap a its.toArray ∧ xs.length ≤ sizeLine := by
 rcases h with h | ⟨o, its, n, hk, hc, hs, hz, r⟩
 · obtain ⟨z, its, r, p⟩ := h.ok I.hok
   exact ⟨its, r, p, z⟩
 · refine ⟨its.toList, r, ⟨o, I.kIn a o hk, hc, n, by simpa using hs⟩, ?_⟩
   have e := r.length
   simp only [Array.length_toList] at e
   lia
theorem Inv.list_inj (I : Inv X pins σ H s) (h : SqL X.K H a xs) (h' : SqL X.K H a ys) : xs = ys := by
 obtain ⟨its, r, ⟨o, n, e, _, _, d⟩, _⟩ := I.list h
 obtain ⟨its', r', ⟨o', n', e', _, _, d'⟩, _⟩ := I.list h'
 rw [e] at e'; cases e'
 rw [d] at d'
 injection d' with d1 _
 have : its = its' := by simpa using congrArg Array.toList d1
 subst this
 exact r.inj r'
theorem Inv.tuple_inj (I : Inv X pins σ H s) (h : SqT X.K H a xs) (h' : SqT X.K H a ys) : xs = ys := by
 obtain ⟨its, r, ⟨o, e, _, n, d⟩, _⟩ := I.tuple h
 obtain ⟨its', r', ⟨o', e', _, n', d'⟩, _⟩ := I.tuple h'
 rw [e] at e'; cases e'
 rw [d] at d'
 injection d' with d1 _
 have : its = its' := by simpa using congrArg Array.toList d1
 subst this
 exact r.inj r'
end
abbrev Cx.wish (X : Cx) (E : Value → Shared → Prop) : Cx := { X with xe := E }
abbrev Cx.nox (X : Cx) : Cx := X.wish fun _ _ => False
theorem Cx.Ok.wish {X : Cx} (ok : X.Ok) (E : Value → Shared → Prop) : (X.wish E).Ok :=
 ⟨ok.mod, ok.kind, ok.glob, ok.blt, ok.above, ok.inj, ok.has, ok.cab, ok.hd, ok.frames, ok.stk, ok.exf, ok.bs, ok.bsz, ok.noex, ok.exfs, ok.funs, ok.frf⟩
theorem Cx.Ok.unwish {X : Cx} {E : Value → Shared → Prop} (ok : (X.wish E).Ok) : X.Ok :=
 ⟨ok.mod, ok.kind, ok.glob, ok.blt, ok.above, ok.inj, ok.has, ok.cab, ok.hd, ok.frames, ok.stk, ok.exf, ok.bs, ok.bsz, ok.noex, ok.exfs, ok.funs, ok.frf⟩
section
variable {X : Cx} {pins : List (Addr × Obj)} {σ : St} {H : Hp} {s : Shared} {E : Value → Shared → Prop}
theorem Inv.wish (I : Inv X pins σ H s) (E : Value → Shared → Prop) : Inv (X.wish E) pins σ H s := ⟨I.ok.wish E, I.os, I.bare, I.base, I.loc, I.cell, I.free, I.freeC, I.pin, I.hok, I.len⟩
theorem Inv.unwish (I : Inv (X.wish E) pins σ H s) : Inv X pins σ H s := ⟨I.ok.unwish, I.os, I.bare, I.base, I.loc, I.cell, I.free, I.freeC, I.pin, I.hok, I.len⟩
theorem SP.unwish {D : Ends} {f : Flow} {s' : Shared} (h : SP (X.wish E) pins D f s') : SP X pins D f s' := by
 cases f with
 | next => obtain ⟨σ', H', I, q⟩ := h; exact ⟨σ', H', I.unwish, q⟩
 | brk => obtain ⟨σ', H', I, q⟩ := h; exact ⟨σ', H', I.unwish, q⟩
 | cont => obtain ⟨σ', H', I, q⟩ := h; exact ⟨σ', H', I.unwish, q⟩
 | ret u => obtain ⟨v, σ', H', I, r, q⟩ := h; exact ⟨v, σ', H', I.unwish, r, q⟩
theorem PSs.nox {st : List Stmt} {t : TS} (h : PSs X.nox st t) : PSs X st t := fun pins s σ H D I hw =>
 wpAny_mono (h pins s σ H D (I.wish _) hw) (fun _ _ q => q.unwish) fun _ _ z => False.elim z
end
section
variable {X : Cx} {st : Stmt} {rest : List Stmt} {t u : TS} {e : Expr} {te : TE} {pos : Pos}
def tNext : TS := fun D σ H => D.nx σ H
@[reducible] def Ends.to (D : Ends) (n : St → Hp → Prop) : Ends := { D with nx := n }
def tSeq (t u : TS) : TS := fun D σ H => t (D.to (u D)) σ H
theorem pss_nil : PSs X [] tNext := fun _ _ σ H _ I h => wpAny_execs_nil ⟨σ, H, I, h⟩
theorem pss_cons (h1 : PS X st t) (h2 : PSs X rest u) : PSs X (st :: rest) (tSeq t u) := by
 intro pins s σ H D I h
 refine wpAny_execs_cons (thn (h1 pins s σ H { D with nx := u D } I h) fun f s1 q => ?_)
 cases f with
 | next =>
   obtain ⟨σ', H', I', q⟩ := q
   exact h2 pins s1 σ' H' D I' q
 | ret v => exact q
 | brk => exact q
 | cont => exact q
theorem pss_one (h1 : PS X st t) : PSs X [st] t := by
 intro pins s σ H D I h
 refine wpAny_execs_cons (thn (h1 pins s σ H D I h) fun f s1 q => ?_)
 cases f with
 | next => exact wpAny_execs_nil q
 | ret v => exact q
 | brk => exact q
 | cont => exact q
theorem Inv.quiet {pins : List (Addr × Obj)} {σ : St} {H : Hp} {s : Shared} (I : Inv X pins σ H s) : interactive X.env = false := by simp [interactive, I.ok.kind]
def tDrop (te : TE) : TS := fun D σ H => te σ H fun _ H1 => D.nx σ H1
theorem ps_expr (he : PE X e te) (hs : swapsWith e none pos.line X.env = pure false := by rfl) : PS X (.Expr e pos) (tDrop te) := by
 intro pins s σ H D I h
 exact wpAny_Expr_any (thn (he pins s σ H _ I h) fun v s1 ⟨x, H1, I1, r1, q1⟩ => ⟨σ, H1, I1, q1⟩) I.quiet hs
def tRet (te : TE) : TS := fun D σ H => te σ H D.rt
theorem ps_ret (he : PE X e te) : PS X (.Return (some e) pos) (tRet te) := by
 intro pins s σ H D I h
 exact wpAny_Return_some (thn (he pins s σ H _ I h) fun v s1 ⟨x, H1, I1, r1, q1⟩ => ⟨x, σ, H1, I1, r1, q1⟩)
def tIfS (c : TT) (t u : TS) : TS := fun D σ H => c σ H fun b H1 => if b = true then t D σ H1 else u D σ H1
theorem ps_if {c : Expr} {a b : List Stmt} {tc : TT} (hc : PT X c tc) (ha : PSs X a t) (hb : PSs X b u) : PS X (.If c a b pos) (tIfS tc t u) := by
 intro pins s σ H D I h
 refine wpAny_If (thn (hc pins s σ H _ I h) fun d s1 ⟨H1, I1, q1⟩ => ?_)
 cases d with
 | true => exact ha pins s1 σ H1 D I1 q1
 | false => exact hb pins s1 σ H1 D I1 q1
def tNever : TS := fun _ _ _ => False
theorem ps_never : PS X st tNever := fun _ _ _ _ _ _ h => h.elim
end
abbrev TG := V → St → Hp → (St → Hp → Prop) → Prop
abbrev TGs := List V → St → Hp → (St → Hp → Prop) → Prop
def PG (X : Cx) (target : Expr) (t : TG) : Prop :=
 ∀ (pins : List (Addr × Obj)) (s : Shared) (σ : St) (H : Hp) (v : V) (u : Value) (Q : St → Hp → Prop), Inv X pins σ H s → RelV v u → t v σ H Q →
   wpAny (model X.prog X.w) X.A (assign target X.env u) (fun _ s' => ∃ σ' H', Inv X pins σ' H' s' ∧ Q σ' H') X.xe s
def PGs (X : Cx) (ts : List Expr) (t : TGs) : Prop :=
 ∀ (pins : List (Addr × Obj)) (s : Shared) (σ : St) (H : Hp) (vs : List V) (us : List Value) (Q : St → Hp → Prop), Inv X pins σ H s → Vals vs us → t vs σ H Q →
   wpAny (model X.prog X.w) X.A (assignInOrder ((assignEach ts X.env).map (·.2)) us) (fun _ s' => ∃ σ' H', Inv X pins σ' H' s' ∧ Q σ' H') X.xe s
abbrev TSet := V → V → V → Hp → (Hp → Prop) → Prop
def PSet (X : Cx) (t : TSet) : Prop :=
 ∀ (pins : List (Addr × Obj)) (s : Shared) (σ : St) (H : Hp) (o i v : V) (ov iv u : Value) (Q : Hp → Prop), Inv X pins σ H s → RelV o ov → RelV i iv → RelV v u → t o i v H Q →
   wpAny (model X.prog X.w) X.A (setItem ov iv u) (fun _ s' => ∃ H', Inv X pins σ H' s' ∧ Q H') X.xe s
section
variable {X : Cx} {pos : Pos}
def gName (i : Nat) : TG := fun v σ H Q => Q (σ.set i (some v)) H
theorem pg_name {i : Nat} {x : Str} (hN : X.N.Nodup) (hi : X.N[i]? = some x) (hx : Loc X.env.scope x) (hf : X.fn x = true ∨ X.env.scope.names.lookup x = some .local := by first | exact .inl rfl | exact .inr rfl | assumption) : PG X (.Name x pos) (gName i) := by
 intro pins s σ H v u Q I r h
 exact wpAny_assign_Name (store_ok I hN hi hx r (fun s' I' => ⟨_, H, I', h⟩) hf)
def gNil : TGs := fun vs σ H Q => vs = [] ∧ Q σ H
inductive gCons (t : TG) (u : TGs) (vs : List V) (σ : St) (H : Hp) (Q : (St → Hp → Prop)) : Prop
 | mk (v : _) (r : _) (h1 : vs = v :: r) (h2 : t v σ H fun σ' H' => u r σ' H' Q) : gCons t u vs σ H Q
theorem pgs_nil : PGs X [] gNil := by
 intro pins s σ H vs us Q I r h
 obtain ⟨e, h⟩ := h
 subst e
 cases r
 exact assignInOrder_nil ⟨σ, H, I, h⟩
theorem pgs_cons {e : Expr} {es : List Expr} {t : TG} {u : TGs} (h1 : PG X e t) (h2 : PGs X es u)
   (hs : (assignEach (e :: es) X.env).map (·.2) = assign e X.env :: (assignEach es X.env).map (·.2) := by rfl) : PGs X (e :: es) (gCons t u) := by
 intro pins s σ H vs us Q I r h
 obtain ⟨v, vr, e1, h⟩ := h
 subst e1
 cases r with
 | cons r rr =>
   rw [hs]
   refine assignInOrder_cons (thn (h1 pins s σ H _ _ _ I r h) fun _ s1 ⟨σ1, H1, I1, q1⟩ => ?_)
   exact h2 pins s1 σ1 H1 _ _ Q I1 rr q1
inductive gTup (K : PySem.W.Frag) (n : Nat) (t : TGs) (v : V) (σ : St) (H : Hp) (Q : (St → Hp → Prop)) : Prop
 | mk (a : _) (xs : _) (h1 : v = .ref a) (h2 : SqT K H a xs) (h3 : xs.length = n) (h4 : t xs σ H Q) : gTup K n t v σ H Q
theorem pg_tup {es : List Expr} {k : Nat} {t : TGs} {n : Nat} (hc : X.calm = true) (h : PGs X es t)
   (hn : (assignEach es X.env).length = n := by rfl) (hst : (assignEach es X.env).findIdx? (·.1) = none := by rfl) : PG X (.Tuple es k pos) (gTup X.K n t) := by
 intro pins s σ H v u Q I r hw
 obtain ⟨a, xs, e1, hq, hl, hw⟩ := hw
 subst e1
 cases r
 obtain ⟨its, rv, ht, hz⟩ := I.tuple hq
 refine assign_Tuple_tuple (I.ok.hd hc) ht (by simp [hn, ← hl, rv.length]) hst fun h' hx => ?_
 have I1 : Inv X pins σ H { s with heap := h' } := I.kept (t' := s.toks) fun b o e => hx b o (Nat.ne_of_lt (Heap.lt_size e)) e
 exact h pins _ σ H xs _ Q I1 (by simpa using rv) hw
def gSub (to ti : TE) (t : TSet) : TG := fun v σ H Q => to σ H fun o H1 => ti σ H1 fun i H2 => t o i v H2 fun H3 => Q σ H3
theorem pg_sub {o i : Expr} {to ti : TE} {t : TSet} (ho : PE X o to) (hi : PE X i ti) (hs : PSet X t)
   (ha : ∀ v, assign (.Subscript o i pos) X.env v = (do
     let ov ← holding [v] (eval o X.env)
     let iv ← holding [v, ov] (eval i X.env)
     standAt pos
     holding [v, ov, iv] (setItem ov iv v)
     release [v, ov, iv] []) := by intro _; rfl) : PG X (.Subscript o i pos) (gSub to ti t) := by
 intro pins s σ H v u Q I r h
 rw [ha]
 refine wpAny_bind (wpAny_holding (thn (ho pins s σ H _ I h) fun ov s1 ⟨x, H1, I1, r1, q1⟩ => ?_))
 refine wpAny_bind (wpAny_holding (thn (hi pins s1 σ H1 _ I1 q1) fun iv s2 ⟨y, H2, I2, r2, q2⟩ => ?_))
 refine wpAny_bind (wpAny_standAt (wpAny_bind (wpAny_holding (thn (hs pins s2 σ H2 x y v ov iv u _ I2 r1 r2 r q2) fun _ s3 ⟨H3, I3, q3⟩ => ?_))))
 exact wpAny_release ⟨σ, H3, I3, q3⟩
def tAsg (te : TE) (g : TG) : TS := fun D σ H => te σ H fun x H1 => g x σ H1 D.nx
theorem ps_asg {tg e : Expr} {te : TE} {g : TG} (he : PE X e te) (hg : PG X tg g) (hs : swapsWithSole [tg] e pos.line X.env = pure false := by rfl) (hw : swappedStores [tg] e X.env = pure none := by rfl)
   (h1 : (assignEach [tg] X.env).map (·.2) = [assign tg X.env] := by rfl) : PS X (.Assign [tg] e pos) (tAsg te g) := by
 intro pins s σ H D I h
 refine wpAny_Assign_stores (thn (he pins s σ H _ I h) fun v s1 ⟨x, H1, I1, r1, q1⟩ => ?_) hs hw
 rw [h1]
 exact thn (hg pins s1 σ H1 x v _ I1 r1 q1) fun _ s2 q => q
theorem ps_set {i : Nat} {x : Str} {e : Expr} {te : TE} {pos' : Pos} (hN : X.N.Nodup) (hi : X.N[i]? = some x) (hx : Loc X.env.scope x) (he : PE X e te) (hs : swapsWith e (some (.Name x pos')) pos.line X.env = pure false := by rfl) (hf : X.fn x = true ∨ X.env.scope.names.lookup x = some .local := by first | exact .inl rfl | exact .inr rfl | assumption) :
   PS X (.Assign [.Name x pos'] e pos) (tAsg te (gName i)) := by
 intro pins s σ H D I h
 refine wpAny_Assign_Name (thn (he pins s σ H _ I h) fun v s1 ⟨y, H1, I1, r1, q1⟩ => ?_) hs
 exact store_ok I1 hN hi hx r1 (fun s2 I2 => ⟨_, H1, I2, q1⟩) hf
def tPar (i j : Nat) (ta : TA) : TS := fun D σ H => ta σ H fun vs H1 => ∃ v w, vs = [v, w] ∧ D.nx ((σ.set i (some v)).set j (some w)) H1
theorem ps_par {i j : Nat} {x y : Str} {a b : Expr} {ta : TA} {px py pt : Pos} {kt k2 pt2} (hc : X.calm = true) (hN : X.N.Nodup) (hi : X.N[i]? = some x) (hj : X.N[j]? = some y) (hij : i ≠ j)
   (hx : X.env.scope.names.lookup x = some .local) (hy : X.env.scope.names.lookup y = some .local) (ha : PA X [a, b] ta)
   (hw : swappedStores [.Tuple [.Name x px, .Name y py] kt pt] (.Tuple [a, b] k2 pt2) X.env = pure (some [x, y]))
   (hs : swapsWithSole [.Tuple [.Name x px, .Name y py] kt pt] (.Tuple [a, b] k2 pt2) pos.line X.env = pure false := by rfl) :
   PS X (.Assign [.Tuple [.Name x px, .Name y py] kt pt] (.Tuple [a, b] k2 pt2) pos) (tPar i j ta) := by
 intro pins s σ H D I h
 rw [exec_Assign_arm]
 refine wpAny_bind (wpAny_standAt ?_)
 rw [hs]
 refine wpAny_bind (wpAny_pure ?_)
 rw [if_neg (by decide)]
 refine wpAny_bind (Tuple_ (thn (ha _ pins s σ H _ I h) fun us s1 ⟨vs, H1, I1, r1, q1⟩ => ?_))
 obtain ⟨v, w, e1, q1⟩ := q1
 subst e1
 obtain ⟨u1, u2, rfl, rv, rw'⟩ : ∃ u1 u2, us = [u1, u2] ∧ RelV v u1 ∧ RelV w u2 := by
   cases r1 with
   | cons p q =>
     cases q with
     | cons p' q' =>
       cases q'
       exact ⟨_, _, rfl, p, p'⟩
 refine wpAny_newObj_type ?_ (by show 2 ≤ sizeLine; decide)
 have I2 : Inv X pins σ H1 { s1 with heap := s1.heap.push { cls := .type "tuple", data := .seq [u1, u2].toArray } } := I1.kept (t' := s1.toks) fun b o e => Heap.get?_push_of_some _ e
 rw [hw]
 refine wpAny_bind (wpAny_pure ?_)
 show wpAny (model X.prog X.w) X.A (do rule "assign.swapped-stores"; let items ← unpackItems (.ref s1.heap.objs.size) 2 none; assignInOrder [fun v => bindName X.env y v, fun v => bindName X.env x v] items.reverse; pure Flow.next) _ _ _
 refine wpAny_bind (wpAny_rule (wpAny_bind (unpackItems_tuple (items := #[u1, u2]) (I.ok.hd hc) (IsTup.new s1.heap _) fun h' hx' => ?_)))
 have I3 := I2.kept (h' := h') (t' := s1.toks) fun b o e => hx' b o (Nat.ne_of_lt (Heap.lt_size e)) e
 show wpAny _ _ (assignInOrder [fun v => bindName X.env y v, fun v => bindName X.env x v] [u2, u1] >>= fun _ => pure Flow.next) _ _ _
 refine wpAny_bind (assignInOrder_cons (wpAny_bindName (store_ok I3 hN hj (.inl hy) rw' (fun s2 I4 => ?_) (.inr hy))))
 refine assignInOrder_cons (wpAny_bindName (store_ok I4 hN hi (.inl hx) rv (fun s3 I5 => assignInOrder_nil (wpAny_pure ?_)) (.inr hx)))
 rw [List.set_comm _ _ (Ne.symm hij)] at I5
 exact ⟨_, H1, I5, q1⟩
end
section
variable {X : Cx} {pos : Pos}
def tWhile (c : TT) (tb : TS) : TS := fun D σ H => ∃ W : Nat → St → Hp → Prop, (∃ m, W m σ H) ∧ ∀ m σ H, W m σ H →
 c σ H fun b H1 => if b = true then ∃ N : St → Hp → Prop, (∀ σ' H', N σ' H' → ∃ m', m' < m ∧ W m' σ' H') ∧ tb { D with nx := N, ct := N, bk := D.nx } σ H1 else D.nx σ H1
theorem ps_while {c : Expr} {body : List Stmt} {tc : TT} {tb : TS} (hp : PassesOwn (model X.prog X.w) X.A X.env X.xe) (hc : PT X c tc) (hb : PSs X body tb) : PS X (.While c body [] pos) (tWhile tc tb) := by
 intro pins s σ H D I h
 obtain ⟨W, ⟨m0, w0⟩, turn⟩ := h
 refine wpAny_While (codeAny_whileLoop (fun n s' => ∃ σ' H', Inv X pins σ' H' s' ∧ W n σ' H') ?_ m0 ⟨σ, H, I, w0⟩)
 rintro n s1 ⟨σ1, H1, I1, w1⟩
 refine wpAny_passesOwn hp (thn (hc pins s1 σ1 H1 _ I1 (turn n σ1 H1 w1)) fun b s2 ⟨H2, I2, q2⟩ => ?_)
 cases b with
 | true =>
   obtain ⟨N, hN, q2⟩ := q2
   rw [if_pos rfl]
   refine wpAny_passesOwn hp (thn (hb pins s2 σ1 H2 _ I2 q2) fun f s3 q3 => ?_)
   cases f with
   | next =>
     obtain ⟨σ3, H3, I3, n3⟩ := q3
     obtain ⟨m', hm, w3⟩ := hN σ3 H3 n3
     exact ⟨m', hm, σ3, H3, I3, w3⟩
   | cont =>
     obtain ⟨σ3, H3, I3, n3⟩ := q3
     obtain ⟨m', hm, w3⟩ := hN σ3 H3 n3
     exact ⟨m', hm, σ3, H3, I3, w3⟩
   | brk => exact q3
   | ret v => exact q3
 | false =>
   rw [if_neg Bool.false_ne_true]
   exact wpAny_execs_nil ⟨σ1, H2, I2, q2⟩
end
structure It where
 go : Nat → Hp → Prop
 yld : Nat → Hp → V → Hp → Prop
 stop : Nat → Hp → Prop
def FpOk (X : Cx) (pins : List (Addr × Obj)) (H : Hp) (b : Addr) : Prop :=
 H b = none ∧ b ≠ X.env.locals ∧ b ∉ X.fs ∧ (b ∈ X.ex ∨ X.s₀.heap.objs.size ≤ b) ∧ (∀ x c, X.env.cells.lookup x = some c → c ≠ b) ∧ ∀ p ∈ X.pn ++ pins, p.1 ≠ b
theorem Inv.fpOk {X : Cx} {pins : List (Addr × Obj)} {σ : St} {H H' : Hp} {s : Shared} {b : Addr} (I : Inv X pins σ H s) (hb : s.heap.objs.size ≤ b) (hn : H' b = none) : FpOk X pins H' b := by
 refine ⟨hn, Nat.ne_of_gt (Nat.lt_of_lt_of_le I.lt hb), I.nofs hb, .inr (Nat.le_trans I.sz hb), fun x c e z => ?_, fun p hp z => ?_⟩
 · obtain ⟨v, q⟩ := I.cell x c e
   exact absurd (Nat.lt_of_lt_of_le q.lt (by rw [z]; exact hb)) (Nat.lt_irrefl _)
 · exact absurd (Nat.lt_of_lt_of_le (Heap.lt_size (I.pin p hp).1) (by rw [z]; exact hb)) (Nat.lt_irrefl _)
structure Turn (P : Program) (w : World) (K : PySem.W.Frag) (tg : Expr) (J : It) (fp : List Addr) (it : Addr) (tn : Nat → Heap → Prop) : Prop where
 mem : it ∈ fp
 obj : ∀ i h, tn i h → ∀ b ∈ fp, ∃ o, h.get? b = some o ∧ ∀ v, o.data ≠ .cell v
 keep : ∀ i h h', tn i h → (∀ b ∈ fp, ∀ o, h.get? b = some o → h'.get? b = some o) → tn i h'
 item : ∀ (X : Cx), X.prog = P → X.w = w → X.K = K → X.calm = true → ∀ (i : Nat) (pins : List (Addr × Obj)) (s : Shared) (σ : St) (H : Hp) (E : Value → Shared → Prop), Inv X pins σ H s → (∀ b ∈ fp, FpOk X pins H b) → tn i s.heap → J.go i H →
   wpAny (model P w) X.A (pyNext (.ref it)) (fun r s1 => ∃ u, r = some u ∧
     wpAny (model P w) X.A (letOwnedTupleGo tg (.ref it) u) (fun _ s2 => ∃ x H', Inv X pins σ H' s2 ∧ RelV x u ∧ J.yld i H x H' ∧ tn (i + 1) s2.heap ∧ ∀ b ∈ fp, H' b = none) E s1) E s
 done : ∀ (X : Cx), X.prog = P → X.w = w → X.K = K → X.calm = true → ∀ (i : Nat) (pins : List (Addr × Obj)) (s : Shared) (σ : St) (H : Hp) (E : Value → Shared → Prop), Inv X pins σ H s → (∀ b ∈ fp, FpOk X pins H b) → tn i s.heap → J.stop i H →
   wpAny (model P w) X.A (pyNext (.ref it)) (fun r s1 => r = none ∧ Inv X pins σ H s1) E s
 self : ∀ (A : Around) (i : Nat) (s : Shared) (Q : Value → Shared → Prop) (E : Value → Shared → Prop), tn i s.heap → Q (.ref it) s → wpAny (model P w) A (pyIter (.ref it)) Q E s
abbrev TI := St → Hp → (It → Hp → Prop) → Prop
def PIE (X : Cx) (pins : List (Addr × Obj)) (σ : St) (tg : Expr) (R : It → Hp → Prop) (itv : Value) (s2 : Shared) : Prop :=
 ∃ (it : Addr) (fp : List Addr) (tn : Nat → Heap → Prop) (J : It) (H' : Hp), itv = .ref it ∧ Inv X pins σ H' s2 ∧ Turn X.prog X.w X.K tg J fp it tn ∧ tn 0 s2.heap ∧ (∀ b ∈ fp, FpOk X pins H' b) ∧ R J H'
def PI (X : Cx) (tg iter : Expr) (wi : TI) : Prop :=
 ∀ (pins : List (Addr × Obj)) (s : Shared) (σ : St) (H : Hp) (R : It → Hp → Prop), Inv X pins σ H s → wi σ H R →
   wpAny (model X.prog X.w) X.A (eval iter X.env) (fun v s1 => wpAny (model X.prog X.w) X.A (pyIter v) (PIE X pins σ tg R) X.xe s1) X.xe s
theorem go_of {M : Model} {A : Around} {E : Value → Shared → Prop} {s : Shared} {tg : Expr} {it : Addr} {u : Value} {o : Obj} {n : String} {vs : Array Value} {Q : Unit → Shared → Prop} (ho : s.heap.get? it = some o) (hc : o.cls = .type n) (hd : o.data = .fields vs)
   (hn : ["enumerate", "zip", "dict_itemiterator", "dict_reverseitemiterator", "odict_iterator", "itertools.zip_longest", "itertools.pairwise"].contains n = false) (hQ : Q () s) : wpAny M A (letOwnedTupleGo tg (.ref it) u) Q E s := by
 unfold letOwnedTupleGo
 cases tg <;> first
   | exact wpAny_pure hQ
   | (cases u <;> first
       | exact wpAny_pure hQ
       | (refine wpAny_bind (wpAny_load ho ?_)
          rw [hc, hd]
          show wpAny M A (if (["enumerate", "zip", "dict_itemiterator", "dict_reverseitemiterator", "odict_iterator", "itertools.zip_longest", "itertools.pairwise"].contains n && vs[0]? == some (rawInt _)) = true then _ else _) Q E s
          rw [if_neg (by intro h; rw [hn, Bool.false_and] at h; cases h)]
          exact wpAny_pure hQ))
def Itl (K : PySem.W.Frag) (a : Addr) : It :=
 ⟨fun i H => ∃ xs x, SqL K H a xs ∧ xs[i]? = some x, fun i H x H' => H' = H ∧ ∀ xs, SqL K H a xs → xs[i]? = some x, fun i H => ∃ xs, SqL K H a xs ∧ xs.length ≤ i⟩
def Itt (K : PySem.W.Frag) (a : Addr) : It :=
 ⟨fun i H => ∃ xs x, SqT K H a xs ∧ xs[i]? = some x, fun i H x H' => H' = H ∧ ∀ xs, SqT K H a xs → xs[i]? = some x, fun i H => ∃ xs, SqT K H a xs ∧ xs.length ≤ i⟩
def Itr (lo : Int) (n : Nat) : It := ⟨fun i _ => i < n, fun i H x H' => H' = H ∧ x = .int (lo + i), fun i _ => n ≤ i⟩
theorem turn_list {P : Program} {w : World} {K : PySem.W.Frag} {tg : Expr} (a it : Addr) : Turn P w K tg (Itl K a) [it] it (fun i h => h.IsListIter it a i) where
 mem := by simp
 obj := fun i h st b hb => by
   have e : b = it := by simpa using hb
   subst e
   obtain ⟨o, e, c, d⟩ := st
   exact ⟨o, e, fun v z => by rw [d] at z; cases z⟩
 keep := fun i h h' st k => st.at fun o e => k it (by simp) o e
 item := by
   intro X hP hw hK hc i pins s σ H E I hf st hg
   subst hP hw hK
   obtain ⟨xs, x, hq, hx⟩ := hg
   obtain ⟨its, rv, p, hz⟩ := I.list hq
   obtain ⟨u, hu, ru⟩ := rv.get hx
   obtain ⟨f0, f1, f2, f3, f4, f5⟩ := hf it (by simp)
   refine wpAny_pyNext_list_item st p.isList (x := u) (by simpa using hu) fun h' st' sb => ?_
   have I1 : Inv X pins σ H { s with heap := h' } := I.turned (t' := s.toks) (fun b o hb e => (sb.2 b hb).trans e) f0 f1 f3 f4 f5
   obtain ⟨o, e, c, d⟩ := id st'
   exact ⟨u, rfl, go_of (s := { s with heap := h' }) e c d (by decide) ⟨x, H, I1, ru, ⟨rfl, fun ys hy => by rw [I.list_inj hy hq]; exact hx⟩, st', fun b hb => (hf b hb).1⟩⟩
 done := by
   intro X hP hw hK hc i pins s σ H E I hf st hg
   subst hP hw hK
   obtain ⟨xs, hq, hx⟩ := hg
   obtain ⟨its, rv, p, hz⟩ := I.list hq
   obtain ⟨f0, f1, f2, f3, f4, f5⟩ := hf it (by simp)
   have hl := rv.length
   exact wpAny_pyNext_list_end (I.ok.hd hc) st p.isList (by simp; lia) fun h' eb => ⟨rfl, I.turned (t' := s.toks) (fun b o hb e => eb b o hb e) f0 f1 f3 f4 f5⟩
 self := fun _ _ _ _ _ st h => wpAny_pyIter_listiter st h
theorem turn_tuple {P : Program} {w : World} {K : PySem.W.Frag} {tg : Expr} (a it : Addr) : Turn P w K tg (Itt K a) [it] it (fun i h => h.IsTupleIter it a i) where
 mem := by simp
 obj := fun i h st b hb => by
   have e : b = it := by simpa using hb
   subst e
   obtain ⟨o, e, c, d⟩ := st
   exact ⟨o, e, fun v z => by rw [d] at z; cases z⟩
 keep := fun i h h' st k => st.at fun o e => k it (by simp) o e
 item := by
   intro X hP hw hK hc i pins s σ H E I hf st hg
   subst hP hw hK
   obtain ⟨xs, x, hq, hx⟩ := hg
   obtain ⟨its, rv, p, hz⟩ := I.tuple hq
   obtain ⟨u, hu, ru⟩ := rv.get hx
   obtain ⟨f0, f1, f2, f3, f4, f5⟩ := hf it (by simp)
   refine wpAny_pyNext_tuple_item st (show s.heap.IsTuple a its.toArray from p) (x := u) (by simpa using hu) fun h' st' sb => ?_
   have I1 : Inv X pins σ H { s with heap := h' } := I.turned (t' := s.toks) (fun b o hb e => (sb.2 b hb).trans e) f0 f1 f3 f4 f5
   obtain ⟨o, e, c, d⟩ := id st'
   exact ⟨u, rfl, go_of (s := { s with heap := h' }) e c d (by decide) ⟨x, H, I1, ru, ⟨rfl, fun ys hy => by rw [I.tuple_inj hy hq]; exact hx⟩, st', fun b hb => (hf b hb).1⟩⟩
 done := by
   intro X hP hw hK hc i pins s σ H E I hf st hg
   subst hP hw hK
   obtain ⟨xs, hq, hx⟩ := hg
   obtain ⟨its, rv, p, hz⟩ := I.tuple hq
   obtain ⟨f0, f1, f2, f3, f4, f5⟩ := hf it (by simp)
   have hl := rv.length
   exact wpAny_pyNext_tuple_end (I.ok.hd hc) st (show s.heap.IsTuple a its.toArray from p) (by simp; lia) fun h' eb => ⟨rfl, I.turned (t' := s.toks) (fun b o hb e => eb b o hb e) f0 f1 f3 f4 f5⟩
 self := fun _ _ _ _ _ st h => wpAny_pyIter_tupleiter st h
theorem turn_range {P : Program} {w : World} {K : PySem.W.Frag} {tg : Expr} (it : Addr) (lo : Int) (n : Nat) : Turn P w K tg (Itr lo n) [it] it (fun i h => IsRangeIter h it (lo + (i : Nat) * 1) ((n : Int) - (i : Nat)) 1) where
 mem := by simp
 obj := fun i h st b hb => by
   have e : b = it := by simpa using hb
   subst e
   exact ⟨_, st, fun v z => by
     have z' : Data.fields _ = Data.cell v := z
     cases z'⟩
 keep := fun i h h' st k => k it (by simp) _ st
 item := by
   intro X hP hw hK hc i pins s σ H E I hf st hg
   subst hP hw hK
   obtain ⟨f0, f1, f2, f3, f4, f5⟩ := hf it (by simp)
   have W := Walks.range (prog := X.prog) (w := X.w) (I.ok.hd hc) it lo 1 n
   refine W.item i s _ _ hg st fun v h' tk hv st' kk => ?_
   obtain ⟨t, rfl⟩ := hv
   have I1 : Inv X pins σ H { s with heap := h', toks := tk } := I.turned (fun b o hb e => kk b o (by simpa using hb) e) f0 f1 f3 f4 f5
   refine ⟨_, rfl, go_of (s := { s with heap := h', toks := tk }) (n := "range_iterator") st' rfl rfl (by decide) ⟨.int (lo + i), H, I1, ⟨t, ?_⟩, ⟨rfl, rfl⟩, st', fun b hb => (hf b hb).1⟩⟩
   rw [Int.mul_one]
 done := by
   intro X hP hw hK hc i pins s σ H E I hf st hg
   subst hP hw hK
   obtain ⟨f0, f1, f2, f3, f4, f5⟩ := hf it (by simp)
   exact wpAny_pyNext_range_end (I.ok.hd hc) st (by have : n ≤ i := hg; lia) fun h' eb => ⟨rfl, I.turned (t' := s.toks) (fun b o hb e => eb b o hb e) f0 f1 f3 f4 f5⟩
 self := fun _ _ _ _ _ st h => wpAny_pyIter_rangeiter st h
end L2
namespace L2
open PySem PySem.Spec PyProof.Rows
section
variable {X : Cx} {tg : Expr}
def iList (K : PySem.W.Frag) (tl : TE) : TI := fun σ H R => tl σ H fun x H1 => ∃ a, x = .ref a ∧ (∃ xs, SqL K H1 a xs) ∧ R (Itl K a) H1
def iTup (K : PySem.W.Frag) (tl : TE) : TI := fun σ H R => tl σ H fun x H1 => ∃ a, x = .ref a ∧ (∃ xs, SqT K H1 a xs) ∧ R (Itt K a) H1
theorem pi_list {l : Expr} {tl : TE} (hl : PE X l tl) : PI X tg l (iList X.K tl) := by
 intro pins s σ H R I h
 refine thn (hl pins s σ H _ I h) fun v s1 ⟨x, H1, I1, r1, q1⟩ => ?_
 obtain ⟨a, e, ⟨xs, hq⟩, q⟩ := q1
 subst e
 cases r1
 obtain ⟨its, rv, p, hz⟩ := I1.list hq
 refine wpAny_pyIter_list p.isList ?_
 refine ⟨s1.heap.objs.size, [s1.heap.objs.size], _, _, H1, rfl, I1.kept (t' := s1.toks) fun b o e => Heap.get?_push_of_some _ e, turn_list a _, ⟨_, Heap.get?_push_size _ rfl, rfl, rfl⟩, fun b hb => ?_, q⟩
 have e : b = s1.heap.objs.size := by simpa using hb
 subst e
 exact I1.fpOk (Nat.le_refl _) (I1.hok.fresh (Nat.le_refl _))
theorem pi_tup {l : Expr} {tl : TE} (hl : PE X l tl) : PI X tg l (iTup X.K tl) := by
 intro pins s σ H R I h
 refine thn (hl pins s σ H _ I h) fun v s1 ⟨x, H1, I1, r1, q1⟩ => ?_
 obtain ⟨a, e, ⟨xs, hq⟩, q⟩ := q1
 subst e
 cases r1
 obtain ⟨its, rv, p, hz⟩ := I1.tuple hq
 refine wpAny_pyIter_tuple (show s1.heap.IsTuple a its.toArray from p) ?_
 refine ⟨s1.heap.objs.size, [s1.heap.objs.size], _, _, H1, rfl, I1.kept (t' := s1.toks) fun b o e => Heap.get?_push_of_some _ e, turn_tuple a _, ⟨_, Heap.get?_push_size _ rfl, rfl, rfl⟩, fun b hb => ?_, q⟩
 have e : b = s1.heap.objs.size := by simpa using hb
 subst e
 exact I1.fpOk (Nat.le_refl _) (I1.hok.fresh (Nat.le_refl _))
theorem range_it {pins : List (Addr × Obj)} {σ : St} {H : Hp} {s : Shared} {R : It → Hp → Prop} {E : Value → Shared → Prop} {lo hi : Int} {t u v : Tok} {tk : Nat} (I : Inv X pins σ H s) (h1 : -(2 ^ 62) ≤ lo) (h2 : lo < 2 ^ 62) (h3 : -(2 ^ 62) ≤ hi) (h4 : hi < 2 ^ 62)
   (q : R (Itr lo (hi - lo).toNat) H) : wpAny (model X.prog X.w) X.A (pyIter (.ref s.heap.objs.size)) (PIE X pins σ tg R) E { s with heap := s.heap.push { cls := .type "range", data := .fields #[.int lo t, .int hi u, .int 1 v] }, toks := tk } := by
 refine wpAny_pyIter_range (IsRange.new ..) (small_one h1 h2 h3 h4) ?_
 have I1 : Inv X pins σ H { s with heap := s.heap.push { cls := .type "range", data := .fields #[.int lo t, .int hi u, .int 1 v] }, toks := tk } := I.kept fun b o e => Heap.get?_push_of_some _ e
 refine ⟨(s.heap.push { cls := .type "range", data := .fields #[.int lo t, .int hi u, .int 1 v] }).objs.size, [(s.heap.push { cls := .type "range", data := .fields #[.int lo t, .int hi u, .int 1 v] }).objs.size], _, _, H, rfl,
   I1.kept (t' := tk) fun b o e => Heap.get?_push_of_some _ e, turn_range _ lo (hi - lo).toNat, ?_, fun b hb => ?_, q⟩
 · have e1 : lo + ((0 : Nat) : Int) * 1 = lo := by simp
   have e2 : (((hi - lo).toNat : Nat) : Int) - ((0 : Nat) : Int) = Builtin.Range.rangeSize lo hi 1 := by rw [rangeSize_one]; split <;> lia
   show IsRangeIter _ _ (lo + ((0 : Nat) : Int) * 1) ((((hi - lo).toNat : Nat) : Int) - ((0 : Nat) : Int)) 1
   rw [e1, e2]
   exact Heap.get?_push_size _ rfl
 · have e : b = (s.heap.push { cls := .type "range", data := .fields #[.int lo t, .int hi u, .int 1 v] }).objs.size := by simpa using hb
   subst e
   exact I1.fpOk (Nat.le_refl _) (I1.hok.fresh (Nat.le_refl _))
def iRng1 (ta : TA) : TI := fun σ H R => ta σ H fun vs H1 => ∃ j : Int, vs = [.int j] ∧ -(2 ^ 62) ≤ j ∧ j < 2 ^ 62 ∧ R (Itr 0 j.toNat) H1
def iRng2 (ta : TA) : TI := fun σ H R => ta σ H fun vs H1 => ∃ i j : Int, vs = [.int i, .int j] ∧ (-(2 ^ 62) ≤ i ∧ i < 2 ^ 62 ∧ -(2 ^ 62) ≤ j ∧ j < 2 ^ 62) ∧ R (Itr i (j - i).toNat) H1
theorem pi_range1 {a : Expr} {ta : TA} {p pos : Pos} (hg : Gl X "range") (hm : X.mg "range" = none) (ha : PA X [a] ta) (hs : starEach [a] X.env = [(false, eval a X.env)] := by rfl) : PI X tg (.Call (.Name "range" p) [a] [] pos) (iRng1 ta) := by
 intro pins s σ H R I h
 refine Call_ (ld_blt I hg hm boot_range (PyProof.Rows.callWith_type1 (thn (ha pos pins s σ H _ I h) fun us s1 ⟨vs, H1, I1, r1, q1⟩ => ?_) hs rfl))
 obtain ⟨j, e, q1, q2, q⟩ := q1
 subst e
 cases r1 with
 | cons r rr =>
   cases rr
   obtain ⟨t, rfl⟩ := r
   exact call_range_1 (range_it I1 (by lia) (by lia) q1 q2 (by simpa using q))
theorem pi_range2 {a b : Expr} {ta : TA} {p pos : Pos} (hg : Gl X "range") (hm : X.mg "range" = none) (ha : PA X [a, b] ta) (hs : starEach [a, b] X.env = [(false, eval a X.env), (false, eval b X.env)] := by rfl) (hs2 : starEach [b] X.env = [(false, eval b X.env)] := by rfl) :
   PI X tg (.Call (.Name "range" p) [a, b] [] pos) (iRng2 ta) := by
 intro pins s σ H R I h
 refine Call_ (ld_blt I hg hm boot_range (PyProof.Rows.callWith_type1 (thn (ha pos pins s σ H _ I h) fun us s1 ⟨vs, H1, I1, r1, q1⟩ => ?_) (by rw [hs, hs2]) (by rw [hs2]; rfl)))
 obtain ⟨i, j, e, ⟨q1, q2, q3, q4⟩, q⟩ := q1
 subst e
 cases r1 with
 | cons r rr =>
   cases rr with
   | cons r' rr =>
     cases rr
     obtain ⟨t, rfl⟩ := r
     obtain ⟨t', rfl⟩ := r'
     exact call_range_2 (range_it I1 q1 q2 q3 q4 q)
def tFor (wi : TI) (g : TG) (tb : TS) : TS := fun D σ H => wi σ H fun J H1 => ∃ W : Nat → Nat → St → Hp → Prop, (∃ m, W 0 m σ H1) ∧ ∀ i m σ H, W i m σ H →
 (J.stop i H ∧ D.nx σ H) ∨ (J.go i H ∧ ∃ N : St → Hp → Prop, (∀ σ' H', N σ' H' → ∃ m', m' < m ∧ W (i + 1) m' σ' H') ∧ ∀ x H', J.yld i H x H' → g x σ H' fun σ2 H2 => tb { D with nx := N, ct := N, bk := D.nx } σ2 H2)
def pinsAt (fp : List Addr) (h : Heap) : List (Addr × Obj) := fp.filterMap fun b => (h.get? b).map fun o => (b, o)
theorem mem_pinsAt {fp : List Addr} {h : Heap} {b : Addr} {o : Obj} (hb : b ∈ fp) (e : h.get? b = some o) : (b, o) ∈ pinsAt fp h := List.mem_filterMap.mpr ⟨b, hb, by rw [e]; rfl⟩
theorem of_pinsAt {fp : List Addr} {h : Heap} {p : Addr × Obj} (hp : p ∈ pinsAt fp h) : p.1 ∈ fp ∧ h.get? p.1 = some p.2 := by
 obtain ⟨b, hb, e⟩ := List.mem_filterMap.mp hp
 cases q : h.get? b with
 | none => rw [q] at e; cases e
 | some o =>
   rw [q] at e
   have e' : (b, o) = p := Option.some.inj e
   subst e'
   exact ⟨hb, q⟩
theorem Inv.pinned {pins : List (Addr × Obj)} {σ : St} {H : Hp} {s : Shared} {fp : List Addr} (I : Inv X pins σ H s) (hf : ∀ b ∈ fp, FpOk X pins H b) (ho : ∀ b ∈ fp, ∃ o, s.heap.get? b = some o ∧ ∀ v, o.data ≠ .cell v) : Inv X (pins ++ pinsAt fp s.heap) σ H s :=
 I.pins_of fun p hp => (List.mem_append.mp hp).elim (fun z => I.pin p (List.mem_append_right _ z)) fun z => by
   obtain ⟨hb, e⟩ := of_pinsAt z
   obtain ⟨f0, f1, f2, _⟩ := hf p.1 hb
   obtain ⟨o, e', d⟩ := ho p.1 hb
   rw [e] at e'; cases e'
   exact ⟨e, f0, f1, f2, d⟩
theorem Inv.unpinned {pins pl : List (Addr × Obj)} {σ : St} {H : Hp} {s : Shared} (I : Inv X (pins ++ pl) σ H s) : Inv X pins σ H s := I.pins_of fun p hp => I.pin p (List.mem_append_right _ (List.mem_append_left _ hp))
theorem ps_for {iter : Expr} {body : List Stmt} {wi : TI} {g : TG} {tb : TS} {pos : Pos} (hp : PassesOwn (model X.prog X.w) X.A X.env X.xe) (hc : X.calm = true) (hi : PI X tg iter wi) (hg : PG X tg g) (hb : PSs X body tb)
   (hs : ∀ x, foldedSetIterable iter X.env x = pure x := by intro _; rfl) : PS X (.For tg iter body [] pos) (tFor wi g tb) := by
 intro pins s σ H D I h
 refine wpAny_For (thn (hi pins s σ H _ I h) fun v s1 h1 => thn h1 fun itv s2 h2 => ?_) hs
 obtain ⟨it, fp, tn, J, H2, e, I2, T, st2, f2, W, ⟨m0, w0⟩, turn⟩ := h2
 subst e
 -- what stays true of the iterator's objects through the loop
 have stat : ∀ {H' : Hp}, (∀ b ∈ fp, H' b = none) → ∀ b ∈ fp, FpOk X pins H' b := fun hn b hb => ⟨hn b hb, (f2 b hb).2⟩
 refine codeAny_forLoop_any (fun n s' => ∃ i σ' H', Inv X pins σ' H' s' ∧ tn i s'.heap ∧ (∀ b ∈ fp, H' b = none) ∧ W i n σ' H') ?_ m0 ⟨0, σ, H2, I2, st2, fun b hb => (f2 b hb).1, w0⟩
 rintro n s3 ⟨i, σ3, H3, I3, st3, fr3, w3⟩
 rcases turn i n σ3 H3 w3 with ⟨stop, qn⟩ | ⟨go, N, hN, step⟩
 · refine wpAny_passesOwn hp (thn (T.done X rfl rfl rfl hc i pins s3 σ3 H3 X.xe I3 (stat fr3) st3 stop) fun r s4 ⟨hr, I4⟩ => ?_)
   subst hr
   exact wpAny_execs_nil ⟨σ3, H3, I4, qn⟩
 · refine wpAny_passesOwn hp (thn (T.item X rfl rfl rfl hc i pins s3 σ3 H3 X.xe I3 (stat fr3) st3 go) fun r s4 ⟨u, hr, h4⟩ => ?_)
   subst hr
   refine wpAny_passesOwn hp (thn h4 fun _ s5 ⟨x, H5, I5, r5, y5, st5, fr5⟩ => ?_)
   have I5' := I5.pinned (stat fr5) (T.obj _ _ st5)
   refine wpAny_passesOwn hp (thn (hg _ s5 σ3 H5 x u _ I5' r5 (step x H5 y5)) fun _ s6 ⟨σ6, H6, I6, q6⟩ => ?_)
   refine wpAny_passesOwn hp (thn (hb _ s6 σ6 H6 _ I6 q6) fun f s7 q7 => ?_)
   have again : ∀ {σ7 : St} {H7 : Hp}, Inv X (pins ++ pinsAt fp s5.heap) σ7 H7 s7 → N σ7 H7 → ∃ m, m < n ∧ ∃ i σ' H', Inv X pins σ' H' s7 ∧ tn i s7.heap ∧ (∀ b ∈ fp, H' b = none) ∧ W i m σ' H' := fun {σ7 H7} I7 n7 => by
     obtain ⟨m', hm, w7⟩ := hN σ7 H7 n7
     refine ⟨m', hm, i + 1, σ7, H7, I7.unpinned, T.keep _ _ _ st5 fun b hb o e => (I7.pin (b, o) (List.mem_append_right _ (List.mem_append_right _ (mem_pinsAt hb e)))).1, fun b hb => ?_, w7⟩
     obtain ⟨o, e, d⟩ := T.obj _ _ st5 b hb
     exact (I7.pin (b, o) (List.mem_append_right _ (List.mem_append_right _ (mem_pinsAt hb e)))).2.1
   cases f with
   | next => obtain ⟨σ7, H7, I7, n7⟩ := q7; exact again I7 n7
   | cont => obtain ⟨σ7, H7, I7, n7⟩ := q7; exact again I7 n7
   | brk => obtain ⟨σ7, H7, I7, q7⟩ := q7; exact ⟨σ7, H7, I7.unpinned, q7⟩
   | ret v => obtain ⟨x7, σ7, H7, I7, r7, q7⟩ := q7; exact ⟨x7, σ7, H7, I7.unpinned, r7, q7⟩
end
theorem for_list {K : PySem.W.Frag} {a : Addr} {xs : List V} {g : TG} {tb : TS} {D : Ends} {σ : St} {H : Hp} (Pv : Nat → St → Hp → Prop) (h0 : Pv 0 σ H) (hl : ∀ i σ H, i ≤ xs.length → Pv i σ H → SqL K H a xs)
   (hs : ∀ i x σ H, xs[i]? = some x → Pv i σ H → g x σ H fun σ2 H2 => tb { D with nx := Pv (i + 1), ct := Pv (i + 1), bk := D.nx } σ2 H2) (hd : ∀ σ H, Pv xs.length σ H → D.nx σ H) :
   ∃ W : Nat → Nat → St → Hp → Prop, (∃ m, W 0 m σ H) ∧ ∀ i m σ H, W i m σ H →
     ((Itl K a).stop i H ∧ D.nx σ H) ∨ ((Itl K a).go i H ∧ ∃ N : St → Hp → Prop, (∀ σ' H', N σ' H' → ∃ m', m' < m ∧ W (i + 1) m' σ' H') ∧ ∀ x H', (Itl K a).yld i H x H' → g x σ H' fun σ2 H2 => tb { D with nx := N, ct := N, bk := D.nx } σ2 H2) := by
 refine ⟨fun i m σ H => m = xs.length - i ∧ i ≤ xs.length ∧ Pv i σ H, ⟨xs.length, by simp, Nat.zero_le _, h0⟩, ?_⟩
 rintro i m σ H ⟨rfl, hi, p⟩
 have q := hl i σ H hi p
 by_cases hlt : i < xs.length
 · refine .inr ⟨⟨xs, xs[i], q, by simp [hlt]⟩, Pv (i + 1), fun σ' H' p' => ⟨xs.length - (i + 1), by lia, rfl, hlt, p'⟩, fun x H' y => ?_⟩
   obtain ⟨e, y⟩ := y
   subst e
   exact hs i x σ _ (y xs q) p
 · have e : i = xs.length := by lia
   subst e
   exact .inl ⟨⟨xs, q, Nat.le_refl _⟩, hd σ H p⟩
theorem for_tup {K : PySem.W.Frag} {a : Addr} {xs : List V} {g : TG} {tb : TS} {D : Ends} {σ : St} {H : Hp} (Pv : Nat → St → Hp → Prop) (h0 : Pv 0 σ H) (hl : ∀ i σ H, i ≤ xs.length → Pv i σ H → SqT K H a xs)
   (hs : ∀ i x σ H, xs[i]? = some x → Pv i σ H → g x σ H fun σ2 H2 => tb { D with nx := Pv (i + 1), ct := Pv (i + 1), bk := D.nx } σ2 H2) (hd : ∀ σ H, Pv xs.length σ H → D.nx σ H) :
   ∃ W : Nat → Nat → St → Hp → Prop, (∃ m, W 0 m σ H) ∧ ∀ i m σ H, W i m σ H →
     ((Itt K a).stop i H ∧ D.nx σ H) ∨ ((Itt K a).go i H ∧ ∃ N : St → Hp → Prop, (∀ σ' H', N σ' H' → ∃ m', m' < m ∧ W (i + 1) m' σ' H') ∧ ∀ x H', (Itt K a).yld i H x H' → g x σ H' fun σ2 H2 => tb { D with nx := N, ct := N, bk := D.nx } σ2 H2) := by
 refine ⟨fun i m σ H => m = xs.length - i ∧ i ≤ xs.length ∧ Pv i σ H, ⟨xs.length, by simp, Nat.zero_le _, h0⟩, ?_⟩
 rintro i m σ H ⟨rfl, hi, p⟩
 have q := hl i σ H hi p
 by_cases hlt : i < xs.length
 · refine .inr ⟨⟨xs, xs[i], q, by simp [hlt]⟩, Pv (i + 1), fun σ' H' p' => ⟨xs.length - (i + 1), by lia, rfl, hlt, p'⟩, fun x H' y => ?_⟩
   obtain ⟨e, y⟩ := y
   subst e
   exact hs i x σ _ (y xs q) p
 · have e : i = xs.length := by lia
   subst e
   exact .inl ⟨⟨xs, q, Nat.le_refl _⟩, hd σ H p⟩
theorem for_range {lo : Int} {n : Nat} {g : TG} {tb : TS} {D : Ends} {σ : St} {H : Hp} (Pv : Nat → St → Hp → Prop) (h0 : Pv 0 σ H)
   (hs : ∀ i σ H, i < n → Pv i σ H → g (.int (lo + i)) σ H fun σ2 H2 => tb { D with nx := Pv (i + 1), ct := Pv (i + 1), bk := D.nx } σ2 H2) (hd : ∀ σ H, Pv n σ H → D.nx σ H) :
   ∃ W : Nat → Nat → St → Hp → Prop, (∃ m, W 0 m σ H) ∧ ∀ i m σ H, W i m σ H →
     ((Itr lo n).stop i H ∧ D.nx σ H) ∨ ((Itr lo n).go i H ∧ ∃ N : St → Hp → Prop, (∀ σ' H', N σ' H' → ∃ m', m' < m ∧ W (i + 1) m' σ' H') ∧ ∀ x H', (Itr lo n).yld i H x H' → g x σ H' fun σ2 H2 => tb { D with nx := N, ct := N, bk := D.nx } σ2 H2) := by
 refine ⟨fun i m σ H => m = n - i ∧ i ≤ n ∧ Pv i σ H, ⟨n, by simp, Nat.zero_le _, h0⟩, ?_⟩
 rintro i m σ H ⟨rfl, hi, p⟩
 by_cases hlt : i < n
 · refine .inr ⟨hlt, Pv (i + 1), fun σ' H' p' => ⟨n - (i + 1), by lia, rfl, hlt, p'⟩, fun x H' y => ?_⟩
   obtain ⟨e, y⟩ := y
   subst e y
   exact hs i σ _ hlt p
 · have e : i = n := by lia
   subst e
   exact .inl ⟨Nat.le_refl _, hd σ H p⟩
theorem while_by {c : TT} {tb : TS} {D : Ends} {σ : St} {H : Hp} (Pv : St → Hp → Prop) (μ : St → Hp → Nat) (h0 : Pv σ H)
   (hs : ∀ σ H, Pv σ H → c σ H fun b H1 => if b = true then tb { D with nx := fun σ' H' => Pv σ' H' ∧ μ σ' H' < μ σ H, ct := fun σ' H' => Pv σ' H' ∧ μ σ' H' < μ σ H, bk := D.nx } σ H1 else D.nx σ H1)
   (mono : ∀ σ H Q Q', (∀ b H1, Q b H1 → Q' b H1) → c σ H Q → c σ H Q') : tWhile c tb D σ H := by
 refine ⟨fun m σ H => m = μ σ H ∧ Pv σ H, ⟨_, rfl, h0⟩, ?_⟩
 rintro m σ H ⟨rfl, p⟩
 refine mono σ H _ _ (fun b H1 q => ?_) (hs σ H p)
 cases b with
 | true => exact ⟨_, fun σ' H' ⟨p', l⟩ => ⟨_, l, rfl, p'⟩, q⟩
 | false => exact q
end L2
namespace L2
open PySem PySem.Spec PyProof.Rows
abbrev R2 := V → V → Hp → VK → Prop
def OpR (X : Cx) (f : Value → Value → Sem Value) (r : R2) : Prop :=
 ∀ (pins : List (Addr × Obj)) (s : Shared) (σ : St) (H : Hp) (x y : V) (v u : Value) (Q : VK), Inv X pins σ H s → RelV x v → RelV y u → r x y H Q →
   wpAny (model X.prog X.w) X.A (f v u) (EP X pins σ Q) X.xe s
def UnR (X : Cx) (f : Value → Sem Value) (r : V → Hp → VK → Prop) : Prop :=
 ∀ (pins : List (Addr × Obj)) (s : Shared) (σ : St) (H : Hp) (x : V) (v : Value) (Q : VK), Inv X pins σ H s → RelV x v → r x H Q →
   wpAny (model X.prog X.w) X.A (f v) (EP X pins σ Q) X.xe s
def CallR (X : Cx) (f : Value) (r : List V → Hp → VK → Prop) : Prop :=
 ∀ (pins : List (Addr × Obj)) (s : Shared) (σ : St) (H : Hp) (xs : List V) (us : List Value) (Q : VK), Inv X pins σ H s → Vals xs us → r xs H Q →
   wpAny (model X.prog X.w) X.A (call f us) (EP X pins σ Q) X.xe s
def tOp (r : R2) (ta tb : TE) : TE := fun σ H Q => ta σ H fun x H1 => tb σ H1 fun y H2 => r x y H2 Q
def tUn (r : V → Hp → VK → Prop) (ta : TE) : TE := fun σ H Q => ta σ H fun x H1 => r x H1 Q
inductive rI (C : Int → Int → Prop) (g : Int → Int → V) (x : V) (y : V) (H : Hp) (Q : VK) : Prop
 | mk (i : _) (j : _) (h1 : x = .int i) (h2 : y = .int j) (h3 : C i j) (h4 : Q (g i j) H) : rI C g x y H Q
inductive rI0 (g : Int → Int → V) (x : V) (y : V) (H : Hp) (Q : VK) : Prop
 | mk (i : _) (j : _) (h1 : x = .int i) (h2 : y = .int j) (h3 : Q (g i j) H) : rI0 g x y H Q
inductive rU (g : Int → V) (x : V) (H : Hp) (Q : VK) : Prop
 | mk (i : _) (h1 : x = .int i) (h2 : Q (g i) H) : rU g x H Q
section
variable {X : Cx} {a b c : Expr} {ta tb tc : TE} {pos : Pos}
theorem binT (ha : PE X a ta) (hb : PE X b tb) {pins : List (Addr × Obj)} {s : Shared} {σ : St} {H : Hp} {R : V → V → Hp → Prop} (I : Inv X pins σ H s)
   (h : ta σ H fun x H1 => tb σ H1 fun y H2 => R x y H2) {Q : Value → Shared → Prop} {f : Value → Value → Sem Value}
   (hf : ∀ v u s2 x y H2, Inv X pins σ H2 s2 → RelV x v → RelV y u → R x y H2 → wpAny (model X.prog X.w) X.A (f v u) Q X.xe s2) :
   wpAny (model X.prog X.w) X.A (eval a X.env) (fun v s₁ => wpAny (model X.prog X.w) X.A (eval b X.env) (fun u s₂ => wpAny (model X.prog X.w) X.A (f v u) Q X.xe s₂) X.xe s₁) X.xe s := by
 refine thn (ha pins s σ H _ I h) fun v s1 ⟨x, H1, I1, r1, q1⟩ => ?_
 refine thn (hb pins s1 σ H1 _ I1 q1) fun u s2 ⟨y, H2, I2, r2, q2⟩ => ?_
 exact hf v u s2 x y H2 I2 r1 r2 q2
theorem pe_op {op : Operator} {r : R2} (ho : OpR X (binaryOp op) r) (ha : PE X a ta) (hb : PE X b tb) : PE X (.BinOp a op b pos) (tOp r ta tb) := by
 intro pins s σ H Q I h
 exact wpAny_BinOp (binT ha hb I h fun v u s2 x y H2 I2 rx ry q => ho pins s2 σ H2 x y v u Q I2 rx ry q)
theorem pe_un {op : UnaryOp} {r : V → Hp → VK → Prop} (ho : UnR X (unaryOp op) r) (ha : PE X a ta) : PE X (.UnaryOp op a pos) (tUn r ta) := by
 intro pins s σ H Q I h
 exact UnaryOp_ (thn (ha pins s σ H _ I h) fun v s1 ⟨x, H1, I1, r1, q1⟩ => ho pins s1 σ H1 x v Q I1 r1 q1)
theorem opI {f : Value → Value → Sem Value} {C : Int → Int → Prop} {g : Int → Int → Int}
   (rule : ∀ (i j : Int) (t u : Tok) (s : Shared) (Q : Value → Shared → Prop) (E : Value → Shared → Prop), C i j → Q (.int (g i j) s.toks) { s with toks := s.toks + 1 } → wpAny (model X.prog X.w) X.A (f (.int i t) (.int j u)) Q E s) :
   OpR X f (rI C fun i j => .int (g i j)) := by
 intro pins s σ H x y v u Q I rx ry h
 obtain ⟨i, j, rfl, rfl, hc, q⟩ := h
 obtain ⟨t, rfl⟩ := rx
 obtain ⟨t', rfl⟩ := ry
 exact rule i j t t' s _ _ hc ⟨.int (g i j), H, I.tok _, ⟨_, rfl⟩, q⟩
theorem opI0 {f : Value → Value → Sem Value} {g : Int → Int → Int}
   (rule : ∀ (i j : Int) (t u : Tok) (s : Shared) (Q : Value → Shared → Prop) (E : Value → Shared → Prop), Q (.int (g i j) s.toks) { s with toks := s.toks + 1 } → wpAny (model X.prog X.w) X.A (f (.int i t) (.int j u)) Q E s) :
   OpR X f (rI0 fun i j => .int (g i j)) := by
 intro pins s σ H x y v u Q I rx ry h
 obtain ⟨i, j, rfl, rfl, q⟩ := h
 obtain ⟨t, rfl⟩ := rx
 obtain ⟨t', rfl⟩ := ry
 exact rule i j t t' s _ _ ⟨.int (g i j), H, I.tok _, ⟨_, rfl⟩, q⟩
theorem opB0 {f : Value → Value → Sem Value} {g : Int → Int → Bool}
   (rule : ∀ (i j : Int) (t u : Tok) (s : Shared) (Q : Value → Shared → Prop) (E : Value → Shared → Prop), Q (.bool (g i j)) s → wpAny (model X.prog X.w) X.A (f (.int i t) (.int j u)) Q E s) :
   OpR X f (rI0 fun i j => .bl (g i j)) := by
 intro pins s σ H x y v u Q I rx ry h
 obtain ⟨i, j, rfl, rfl, q⟩ := h
 obtain ⟨t, rfl⟩ := rx
 obtain ⟨t', rfl⟩ := ry
 exact rule i j t t' s _ _ ⟨.bl (g i j), H, I, rfl, q⟩
def CPow (i j : Int) : Prop := 0 ≤ j ∧ j ≤ 1000000 ∧ i.natAbs < 2 ^ 64
theorem op_add : OpR X (binaryOp .Add) (rI0 fun i j => .int (i + j)) := opI0 fun _ _ _ _ _ _ _ q => add_int q
theorem op_sub : OpR X (binaryOp .Sub) (rI0 fun i j => .int (i - j)) := opI0 fun _ _ _ _ _ _ _ q => sub_int q
theorem op_mod : OpR X (binaryOp .Mod) (rI (fun _ j => 0 < j) fun i j => .int (i % j)) := opI fun i j _ _ _ _ _ hc q => by
 have h1 : (0 : Int) < j := hc
 exact mod_int' (by lia) (by rw [Int.fmod_eq_emod_of_nonneg i (by lia)]; exact q)
theorem op_pow : OpR X (binaryOp .Pow) (rI CPow fun i j => .int (i ^ j.toNat)) := opI fun _ _ _ _ _ _ _ hc q => pow_int_small hc.1 hc.2.1 hc.2.2 q
theorem unI {f : Value → Sem Value} {g : Int → Int}
   (rule : ∀ (i : Int) (t : Tok) (s : Shared) (Q : Value → Shared → Prop) (E : Value → Shared → Prop), Q (.int (g i) s.toks) { s with toks := s.toks + 1 } → wpAny (model X.prog X.w) X.A (f (.int i t)) Q E s) :
   UnR X f (rU fun i => .int (g i)) := by
 intro pins s σ H x v Q I rx h
 obtain ⟨i, rfl, q⟩ := h
 obtain ⟨t, rfl⟩ := rx
 exact rule i t s _ _ ⟨.int (g i), H, I.tok _, ⟨_, rfl⟩, q⟩
theorem un_neg : UnR X (unaryOp .USub) (rU fun i => .int (-i)) := unI fun _ _ _ _ _ q => neg_int q
end
def scal : V → V → Bool
 | .non, .non => true | .non, .int _ => true | .int _, .non => true | .non, .bl _ => true | .bl _, .non => true | .non, .str _ => true | .str _, .non => true
 | .int _, .int _ => true | .bl _, .bl _ => true | .str _, .str _ => true | .byt _, .byt _ => true
 | .int _, .str _ => true | .str _, .int _ => true | .bl _, .str _ => true | .str _, .bl _ => true
 | _, _ => false
def rEq : R2 := fun x y H Q => scal x y = true ∧ Q (.bl (decide (x = y))) H
def rNe : R2 := fun x y H Q => scal x y = true ∧ Q (.bl (!decide (x = y))) H
theorem dec_int {i j : Int} : decide (V.int i = V.int j) = (i == j) := by
 rw [Bool.eq_iff_iff]
 simp
theorem dec_bl {i j : Bool} : decide (V.bl i = V.bl j) = (i == j) := by
 rw [Bool.eq_iff_iff]
 simp
theorem dec_str {i j : Str} : decide (V.str i = V.str j) = (i == j) := by
 rw [Bool.eq_iff_iff]
 simp
theorem dec_byt {i j : Array UInt8} : decide (V.byt i = V.byt j) = (i.toList == j.toList) := by
 rw [Bool.eq_iff_iff]
 cases i
 cases j
 simp
section
variable {X : Cx} {a b c : Expr} {ta tb tc : TE} {pos : Pos}
theorem fin_bl {pins : List (Addr × Obj)} {σ : St} {H : Hp} {s : Shared} {Q : VK} {k k' : Bool} (I : Inv X pins σ H s) (q : Q (.bl k) H) (e : k = k') : EP X pins σ Q (.bool k') s := by
 subst e
 exact ⟨.bl k, H, I, rfl, q⟩
theorem op_eq : OpR X (compareOp .Eq) rEq := by
 intro pins s σ H x y v u Q I rx ry h
 obtain ⟨hs, q⟩ := h
 cases x with
 | non =>
   cases rx
   cases y with
   | non => cases ry; exact PySem.EqNone.eq_none_none (fin_bl I q (by simp))
   | bl j => cases ry; exact PySem.EqNone.eq_none_bool (fin_bl I q (by simp))
   | int j => obtain ⟨t', rfl⟩ := ry; exact PySem.EqNone.eq_none_int (fin_bl I q (by simp))
   | str j => obtain ⟨t', rfl⟩ := ry; exact PySem.EqNone.eq_none_str (fin_bl I q (by simp))
   | _ => exact absurd (show false = true from hs) Bool.false_ne_true
 | bl i =>
   cases rx
   cases y with
   | non => cases ry; exact PySem.EqNone.eq_bool_none (fin_bl I q (by simp))
   | bl j => cases ry; exact eq_bool (fin_bl I q dec_bl)
   | str j => obtain ⟨t', rfl⟩ := ry; exact PySem.EqMixed.eq_bool_str (fin_bl I q (by simp))
   | _ => exact absurd (show false = true from hs) Bool.false_ne_true
 | int i =>
   obtain ⟨t, rfl⟩ := rx
   cases y with
   | non => cases ry; exact PySem.EqNone.eq_int_none (fin_bl I q (by simp))
   | int j => obtain ⟨t', rfl⟩ := ry; exact eq_int (fin_bl I q dec_int)
   | str j => obtain ⟨t', rfl⟩ := ry; exact PySem.EqMixed.eq_int_str (fin_bl I q (by simp))
   | _ => exact absurd (show false = true from hs) Bool.false_ne_true
 | str i =>
   obtain ⟨t, rfl⟩ := rx
   cases y with
   | non => cases ry; exact PySem.EqNone.eq_str_none (fin_bl I q (by simp))
   | bl j => cases ry; exact PySem.EqMixed.eq_str_bool (fin_bl I q (by simp))
   | int j => obtain ⟨t', rfl⟩ := ry; exact PySem.EqMixed.eq_str_int (fin_bl I q (by simp))
   | str j => obtain ⟨t', rfl⟩ := ry; exact eq_str (fin_bl I q dec_str)
   | _ => exact absurd (show false = true from hs) Bool.false_ne_true
 | byt i =>
   obtain ⟨t, rfl⟩ := rx
   cases y with
   | byt j => obtain ⟨t', rfl⟩ := ry; exact PySem.W.eq_bytes (fin_bl I q dec_byt)
   | _ => exact absurd (show false = true from hs) Bool.false_ne_true
 | _ => cases y <;> exact absurd (show false = true from hs) Bool.false_ne_true
theorem op_ne : OpR X (compareOp .NotEq) rNe := by
 intro pins s σ H x y v u Q I rx ry h
 obtain ⟨hs, q⟩ := h
 cases x with
 | non =>
   cases rx
   cases y with
   | non => cases ry; exact PySem.EqNone.ne_none_none (fin_bl I q (by simp))
   | bl j => cases ry; exact PySem.EqNone.ne_none_bool (fin_bl I q (by simp))
   | int j => obtain ⟨t', rfl⟩ := ry; exact PySem.EqNone.ne_none_int (fin_bl I q (by simp))
   | str j => obtain ⟨t', rfl⟩ := ry; exact PySem.EqNone.ne_none_str (fin_bl I q (by simp))
   | _ => exact absurd (show false = true from hs) Bool.false_ne_true
 | bl i =>
   cases rx
   cases y with
   | non => cases ry; exact PySem.EqNone.ne_bool_none (fin_bl I q (by simp))
   | bl j => cases ry; exact ne_bool (fin_bl I q (congrArg not dec_bl))
   | str j => obtain ⟨t', rfl⟩ := ry; exact PySem.EqMixed.ne_bool_str (fin_bl I q (by simp))
   | _ => exact absurd (show false = true from hs) Bool.false_ne_true
 | int i =>
   obtain ⟨t, rfl⟩ := rx
   cases y with
   | non => cases ry; exact PySem.EqNone.ne_int_none (fin_bl I q (by simp))
   | int j => obtain ⟨t', rfl⟩ := ry; exact ne_int (fin_bl I q (congrArg not dec_int))
   | str j => obtain ⟨t', rfl⟩ := ry; exact PySem.EqMixed.ne_int_str (fin_bl I q (by simp))
   | _ => exact absurd (show false = true from hs) Bool.false_ne_true
 | str i =>
   obtain ⟨t, rfl⟩ := rx
   cases y with
   | non => cases ry; exact PySem.EqNone.ne_str_none (fin_bl I q (by simp))
   | bl j => cases ry; exact PySem.EqMixed.ne_str_bool (fin_bl I q (by simp))
   | int j => obtain ⟨t', rfl⟩ := ry; exact PySem.EqMixed.ne_str_int (fin_bl I q (by simp))
   | str j => obtain ⟨t', rfl⟩ := ry; exact ne_str (fin_bl I q (congrArg not dec_str))
   | _ => exact absurd (show false = true from hs) Bool.false_ne_true
 | byt i =>
   obtain ⟨t, rfl⟩ := rx
   cases y with
   | byt j => obtain ⟨t', rfl⟩ := ry; exact PySem.W.ne_bytes (fin_bl I q (congrArg not dec_byt))
   | _ => exact absurd (show false = true from hs) Bool.false_ne_true
 | _ => cases y <;> exact absurd (show false = true from hs) Bool.false_ne_true
theorem op_lt : OpR X (compareOp .Lt) (rI0 fun i j => .bl (decide (i < j))) := opB0 fun _ _ _ _ _ _ _ q => lt_int q
theorem op_gt : OpR X (compareOp .Gt) (rI0 fun i j => .bl (decide (j < i))) := opB0 fun _ _ _ _ _ _ _ q => gt_int q
theorem op_ge : OpR X (compareOp .GtE) (rI0 fun i j => .bl (decide (j ≤ i))) := opB0 fun _ _ _ _ _ _ _ q => ge_int q
theorem op_isN : OpR X (compareOp .Is) (fun x y H Q => y = .non ∧ Q (.bl (decide (x = .non))) H) := by
 intro pins s σ H x y v u Q I rx ry h
 obtain ⟨rfl, q⟩ := h
 cases ry
 refine is_none_gen (fin_bl I q ?_)
 cases x <;> first
   | (cases rx; rfl)
   | (obtain ⟨t, rfl⟩ := rx; rfl)
theorem nomark (b : Expr) {op : CmpOp} (h : op ≠ .In := by decide) (h2 : op ≠ .NotIn := by decide) : behindInMarks op b = false := by
 have e1 : (op == CmpOp.In) = false := by cases op <;> first | rfl | exact absurd rfl h
 have e2 : (op == CmpOp.NotIn) = false := by cases op <;> first | rfl | exact absurd rfl h2
 cases b <;> simp [behindInMarks, e1, e2]
theorem pe_cmpR {op : CmpOp} {r : R2} (ho : OpR X (compareOp op) r) (ha : PE X a ta) (hb : PE X b tb) (hm : behindInMarks op b = false) : PE X (.Compare a [op] [b] pos) (tOp r ta tb) := by
 intro pins s σ H Q I h
 exact wpAny_Compare1 (binT ha hb I h fun v u s2 x y H2 I2 rx ry q => ho pins s2 σ H2 x y v u Q I2 rx ry q) hm
def tTest (t : TE) : TT := fun σ H Q => t σ H fun x H' => ∃ k, x = .bl k ∧ Q k H'
theorem pt_cmpR {op : CmpOp} {r : R2} (ho : OpR X (compareOp op) r) (ha : PE X a ta) (hb : PE X b tb) (hm : behindInMarks op b = false) : PT X (.Compare a [op] [b] pos) (tTest (tOp r ta tb)) := by
 intro pins s σ H Q I h
 refine wpAny_isTrue_Compare1 (thn (ha pins s σ H _ I h) fun v s1 ⟨x, H1, I1, r1, q1⟩ => thn (hb pins s1 σ H1 _ I1 q1) fun u s2 ⟨y, H2, I2, r2, q2⟩ =>
   thn (ho pins s2 σ H2 x y v u _ I2 r1 r2 q2) fun c s3 ⟨z, H3, I3, r3, k, e, q3⟩ => ?_) hm
 subst e
 cases r3
 exact wpAny_truthy_bool ⟨H3, I3, q3⟩
theorem line63 : (sizeLine : Nat) < 2 ^ 63 := by rw [sizeLine_eq]; decide
theorem vals1 {x : V} {us : List Value} (r : Vals [x] us) : ∃ u, us = [u] ∧ RelV x u := by
 cases r with
 | cons r1 r2 => cases r2; exact ⟨_, rfl, r1⟩
theorem vals2 {x y : V} {us : List Value} (r : Vals [x, y] us) : ∃ u w', us = [u, w'] ∧ RelV x u ∧ RelV y w' := by
 cases r with
 | cons r1 r2 =>
   cases r2 with
   | cons r3 r4 => cases r4; exact ⟨_, _, rfl, r1, r3⟩
theorem call_abs : CallR X (.builtin "abs") (fun xs H Q => ∃ i, xs = [.int i] ∧ Q (.int (if i < 0 then -i else i)) H) := by
 intro pins s σ H xs us Q I r h
 obtain ⟨i, rfl, q⟩ := h
 obtain ⟨u, rfl, t, rfl⟩ := vals1 r
 exact call_abs_int fun u tk => ⟨.int (if i < 0 then -i else i), H, I.tok _, ⟨_, rfl⟩, q⟩
end
end L2
namespace L2
open PySem PySem.Spec PyProof.Rows
structure ObjM (h : Heap) (x dx C : Addr) (mA : Str → Option Value) : Prop where
 obj : h.get? x = some (PySem.W.instObj C dx)
 ns : h.Ns1 dx mA
 ne : dx ≠ x
theorem lookIn_ns {h : Heap} {dx : Addr} {mA : Str → Option Value} (n : h.Ns1 dx mA) : ∃ od, h.get? dx = some od ∧ ∀ name, PySem.W.lookIn name od = some (mA name) := by
 obtain ⟨o, es, ep, ho, hd, hk, _, hm⟩ := n
 refine ⟨o, ho, fun name => ?_⟩
 have e := hm name
 unfold nsFind findBy at e
 rw [← Array.find?_toList] at e
 unfold PySem.W.lookIn
 rw [hd]
 dsimp only
 split
 · rename_i y q
   rw [q] at e
   exact congrArg some e
 · rename_i q
   rw [q] at e
   have a : es.toList.any (·.refKey) = false := by
     rw [List.any_eq_false]
     intro y hy
     obtain ⟨z, t, hkey⟩ := hk y (Array.mem_toList_iff.mp hy)
     simp [DictEntry.refKey, hkey]
   have a' : ¬ es.toList.any (·.refKey) = true := by rw [a]; exact Bool.false_ne_true
   rw [if_neg a']
   exact congrArg some e
theorem ObjM.look {h : Heap} {x dx C : Addr} {mA : Str → Option Value} (I : ObjM h x dx C mA) : ∃ od, PySem.W.InstAt h x (PySem.W.instObj C dx) C (some od) ∧ ∀ name, PySem.W.lookIn name od = some (mA name) :=
 let ⟨od, ho, hl⟩ := lookIn_ns I.ns
 ⟨od, ⟨I.obj, rfl, rfl, ho⟩, hl⟩
section
variable {prog : Program} {w : World} {A : Around} {E : Value → Shared → Prop} {s : Shared} {K : PySem.W.Frag} {x dx C f : Addr} {mA : Str → Option Value} {name : Str} {v : Value}
end
theorem RelO.some_of {v : V} {o : Option Value} (r : RelO (some v) o) : ∃ u, o = some u ∧ RelV v u := by
 cases o with
 | none => exact (show False from r).elim
 | some u => exact ⟨u, rfl, r⟩
section
variable {P : Program} {w : World} {H H' : Hp} {h h' : Heap} {a C dx : Addr} {fs fs' : List (Str × V)}
theorem ins_get (hok : HOk P w H h) (e : H a = some (.ins C dx fs)) : ∃ mA, ObjM h a dx C mA ∧ (∀ f, RelO (fs.lookup f) (mA f)) ∧ PySem.Within mA (fs.map (·.1)) ∧ fs.length ≤ 1000 ∧ H dx = some (.own a) := by
 obtain ⟨d, z, ne, ob, mA, n, r, q⟩ := (show ObjOk P w H h a (.ins C dx fs) from hok a _ e)
 exact ⟨mA, ⟨ob, n, ne⟩, r, q, z, d⟩
end
structure Cls (K : PySem.W.Frag) (C : Addr) : Prop where
 pg : PySem.W.plainGet K C Str.empty = true
 hd : PySem.W.hasDictIn K C = true
 po : PySem.W.plainOver K C = true
 sa : PySem.W.findIn K (.ref C) "__setattr__" = some (some (.builtin "object.__setattr__"))
theorem Cls.get {K : PySem.W.Frag} {C : Addr} (c : Cls K C) (f : Str) : PySem.W.plainGet K C f = true := c.pg
structure Con (K : PySem.W.Frag) (C : Addr) (f : Str) (v : V) (u : Value) : Prop where
 at_ : PySem.W.findIn K (.ref C) f = some (some u)
 rel : RelV v u
 get : PySem.W.specialIn K u "__get__" = some none
 cp : PySem.W.copiedNames.contains f = false
structure Meth (K : PySem.W.Frag) (C : Addr) (m : Str) (f : Addr) : Prop where
 at_ : PySem.W.findIn K (.ref C) m = some (some (.ref f))
 fn : PySem.W.isFn K (.ref f) = true
 kp : PySem.W.keepIn K (.ref f) = true
section
variable {X : Cx} {pins : List (Addr × Obj)} {σ : St} {H : Hp} {s : Shared} {a C dx : Addr} {fs : List (Str × V)} {f : Str} {v : V} {A : Around} {E : Value → Shared → Prop}
end
section
variable {X : Cx} {o e value : Expr} {f : Str} {pos pos' tpos : Pos} {ta tv : TE}
end
section
variable {X : Cx} {pins : List (Addr × Obj)} {σ : St} {H : Hp} {s : Shared} {A : Around} {E : Value → Shared → Prop} {Q : Value → Shared → Prop} {c : Value} {b : Bool}
inductive TyOf (K : PySem.W.Frag) (H : Hp) : V → Value → Prop where
 | non : TyOf K H .non (.type "NoneType")
 | bl (x : Bool) : TyOf K H (.bl x) (.type "bool")
 | int (i : Int) : TyOf K H (.int i) (.type "int")
 | str (x : Str) : TyOf K H (.str x) (.type "str")
 | flt (x : UInt64) : TyOf K H (.flt x) (.type "float")
 | lst {a : Addr} {xs : List V} (e : H a = some (.lst xs)) : TyOf K H (.ref a) (.type "list")
 | frz {a : Addr} {o : Obj} {xs : List V} (e : H a = some (.frz o (.lst xs))) : TyOf K H (.ref a) (.type "list")
 | tup {a : Addr} {xs : List V} (e : H a = some (.tup xs)) : TyOf K H (.ref a) (.type "tuple")
 | dK {a : Addr} {kvs : List (Key × V)} (e : H a = some (.dK kvs)) : TyOf K H (.ref a) (.type "dict")
 | dT {a : Addr} {kvs : List (List Key × V)} (e : H a = some (.dT kvs)) : TyOf K H (.ref a) (.type "dict")
 | ins {a C dx : Addr} {fs : List (Str × V)} (e : H a = some (.ins C dx fs)) (cl : Cls K C) (ha : PySem.W.findIn K (.ref C) "__class__" = some (some (.builtin "object.__class__")))
     (hn : PySem.W.specialIn K (.builtin "object.__class__") "__get__" = some (some (.builtin "getset_descriptor.__get__"))) (htk : PySem.W.takesIn K (.builtin "object.__class__") = some true)
     (hm : PySem.W.mroIn K C (.type "object") = some true) : TyOf K H (.ref a) (.ref C)
theorem isinst_ok {x : V} {u t : Value} (I : Inv X pins σ H s) (rx : RelV x u) (ty : TyOf X.K H x t) (e : PySem.W.kitOne X.K t c = some b) (h : ∀ tk, Q (.bool b) { s with toks := tk }) :
   wpAny (model X.prog X.w) A (call (.builtin "isinstance") [u, c]) Q E s := by
 cases ty with
 | non => cases (show u = Value.none from rx); exact PySem.W.kia_one PySem.W.kitx_none I.kIn True.intro e (fun z => nomatch z) h
 | bl y => cases (show u = Value.bool y from rx); exact PySem.W.kia_one PySem.W.kitx_bool I.kIn True.intro e (fun z => nomatch z) h
 | int i => obtain ⟨t, q⟩ := (show ∃ t, u = Value.int i t from rx); cases q; exact PySem.W.kia_one PySem.W.kitx_int I.kIn True.intro e (fun z => nomatch z) h
 | str y => obtain ⟨t, q⟩ := (show ∃ t, u = Value.str y t from rx); cases q; exact PySem.W.kia_one PySem.W.kitx_str I.kIn True.intro e (fun z => nomatch z) h
 | flt y => obtain ⟨t, q⟩ := (show ∃ t, u = Value.float y t from rx); cases q; exact PySem.W.kia_one PySem.W.kitx_float I.kIn True.intro e (fun z => nomatch z) h
 | @lst a xs ea =>
   cases (show u = Value.ref a from rx)
   obtain ⟨_, _, n, _, h1⟩ := (show ObjOk X.prog X.w H s.heap a (.lst xs) from I.hok a _ ea)
   exact PySem.W.kia_one PySem.W.kitx_list I.kIn ⟨_, h1, rfl⟩ e (fun z => nomatch z) h
 | @frz a ob xs ea =>
   cases (show u = Value.ref a from rx)
   obtain ⟨_, _, _, n, _, h1⟩ := (show ObjOk X.prog X.w H s.heap a (.frz ob (.lst xs)) from I.hok a _ ea)
   exact PySem.W.kia_one PySem.W.kitx_list I.kIn ⟨_, h1, rfl⟩ e (fun z => nomatch z) h
 | @tup a xs ea =>
   cases (show u = Value.ref a from rx)
   obtain ⟨_, _, _, p⟩ := (show ObjOk X.prog X.w H s.heap a (.tup xs) from I.hok a _ ea)
   obtain ⟨o, h1, h2, _⟩ := p
   exact PySem.W.kia_one PySem.W.kitx_tuple I.kIn ⟨o, h1, h2⟩ e (fun z => nomatch z) h
 | @dK a kvs ea =>
   cases (show u = Value.ref a from rx)
   obtain ⟨_, _, vs, _, p⟩ := (show ObjOk X.prog X.w H s.heap a (.dK kvs) from I.hok a _ ea)
   obtain ⟨o, es, ep, h1, h2, _⟩ := p
   exact PySem.W.kia_one PySem.W.kitx_dict I.kIn ⟨o, h1, h2.1⟩ e (fun z => nomatch z) h
 | @dT a kvs ea =>
   cases (show u = Value.ref a from rx)
   obtain ⟨_, _, xs, _, o, es, ep, h1, h2, _⟩ := (show ObjOk X.prog X.w H s.heap a (.dT kvs) from I.hok a _ ea)
   exact PySem.W.kia_one PySem.W.kitx_dict I.kIn ⟨o, h1, h2.1⟩ e (fun z => nomatch z) h
 | @ins a C dx fs ea cl ha hn htk hm =>
   cases (show u = Value.ref a from rx)
   obtain ⟨mA, O, _⟩ := ins_get I.hok ea
   obtain ⟨od, J, _⟩ := O.look
   exact PySem.W.kia_one (PySem.W.kitx_own (cl.get _) cl.hd ha hn htk hm) I.kIn J e (fun z => nomatch z) h
end
end L2
namespace L2
open PySem PySem.Spec PyProof.Rows
structure Room (k : Nat) (A : Around) : Prop where
 hd : A.handled = none
 dp : A.depth + 3 * k + 5 < recursionLimit
 un : A.units + 16 * k + 200 < cLine
theorem Room.mono {j k : Nat} {A : Around} (r : Room k A) (h : j ≤ k) : Room j A := ⟨r.hd, by have := r.dp; lia, by have := r.un; lia⟩
theorem Room.deeper {k : Nat} {A : Around} (r : Room (k + 1) A) (env : Env) : Room k (A.deeper env) :=
 ⟨r.hd, by have := r.dp; show A.depth + 1 + 3 * k + 5 < _; lia, by have := r.un; show A.units + 3 + 16 * k + 200 < _; lia⟩
theorem Room.depth {k : Nat} {A : Around} (r : Room k A) : A.depth < recursionLimit := by have := r.dp; lia
theorem Room.units {k : Nat} {A : Around} (r : Room k A) : A.units + 64 < cLine := by have := r.un; lia
def tNil : TA := fun _ H Q => Q [] H
def tCons (ta : TE) (tr : TA) : TA := fun σ H Q => ta σ H fun x H1 => tr σ H1 fun xs H2 => Q (x :: xs) H2
section
variable {X : Cx} {e : Expr} {es : List Expr} {te : TE} {t : TA} {pos : Pos}
theorem pa_nil : PA X [] tNil := fun _ _ _ _ H Q I h => Calls.spliced_nil ⟨[], H, I, .nil, h⟩
theorem pa_cons (ha : PE X e te) (hr : PA X es t) (hs : starEach (e :: es) X.env = (false, eval e X.env) :: starEach es X.env := by rfl) : PA X (e :: es) (tCons te t) := by
 intro pos pins s σ H Q I h
 rw [hs]
 show wpAny _ _ (spliced ((false, eval e X.env) :: backTo pos (starEach es X.env))) _ _ s
 refine Calls.spliced_cons (thn (ha pins s σ H _ I h) fun u s1 ⟨x, H1, I1, r1, q1⟩ => ?_)
 exact thn (hr pos pins s1 σ H1 _ I1 q1) fun us s2 ⟨xs, H2, I2, r2, q2⟩ => ⟨x :: xs, H2, I2, .cons r1 r2, q2⟩
def tTup (t : TA) : TE := fun σ H Q => t σ H fun xs H1 => xs.length ≤ sizeLine ∧ ∀ p, H1 p = none → Q (.ref p) (upd H1 p (.tup xs))
def tLst (t : TA) : TE := fun σ H Q => t σ H fun xs H1 => xs.length ≤ sizeLine ∧ ∀ p, H1 p = none → Q (.ref p) (upd H1 p (.lst xs))
theorem pe_tup {x1} (h : PA X es t) : PE X (.Tuple es x1 pos) (tTup t) := by
 intro pins s σ H Q I hq
 refine wpAny_Tuple_spliced (thn (h pos pins s σ H _ I hq) fun us s1 ⟨xs, H1, I1, r, z, q⟩ => ⟨by rw [← r.length]; exact z, ?_⟩)
 have hf : H1 s1.heap.objs.size = none := I1.hok.fresh (Nat.le_refl _)
 refine ⟨.ref s1.heap.objs.size, upd H1 s1.heap.objs.size (.tup xs), I1.laid (t' := s1.toks) (fun b u e => Heap.get?_push_of_some _ e) (Nat.le_refl _) ?_, rfl, q _ hf⟩
 exact ⟨z, us, r, ⟨_, Heap.get?_push_size _ rfl, rfl, _, rfl⟩⟩
theorem pe_lst (h : PA X es t) : PE X (.List es pos) (tLst t) := by
 intro pins s σ H Q I hq
 refine wpAny_List_spliced (thn (h pos pins s σ H _ I hq) fun us s1 ⟨xs, H1, I1, r, z, q⟩ => ⟨by rw [← r.length]; exact z, ?_⟩)
 have hf : H1 s1.heap.objs.size = none := I1.hok.fresh (Nat.le_refl _)
 refine ⟨.ref s1.heap.objs.size, upd H1 s1.heap.objs.size (.lst xs), I1.laid (t' := s1.toks) (fun b u e => Heap.get?_push_of_some _ e) (Nat.le_refl _) ?_, rfl, q _ hf⟩
 exact ⟨z, us, 0, r, Heap.get?_push_size _ rfl⟩
end
abbrev Sp := List V → Hp → VK → XK → Prop
abbrev CXT := List Env → Hp → Shared → XK → Value → Shared → Prop
structure Env0 (P : Program) (w : World) (K : PySem.W.Frag) (mg : Str → Option Value) (base : Heap) (A : Around) (outer : List Env) (s : Shared) (H : Hp) : Prop where
 frames : A.frames = some outer
 mod : Mod K mg base
 bs : ∀ b o, base.get? b = some o → s.heap.get? b = some o ∧ H b = none
 bsz : base.objs.size ≤ s.heap.objs.size
 funs : s.heap.FunFrames base outer
 frf : ∀ b ∈ frs outer, H b = none
 hok : HOk P w H s.heap
 bare : AllBare s.gens
def CE (outer : List Env) (P : Program) (w : World) (H : Hp) (s : Shared) (Q : VK) (u : Value) (s' : Shared) : Prop :=
 ∃ v H', s'.os = s.os ∧ AllBare s'.gens ∧ Un (frs outer) [] H H' s.heap s'.heap ∧ HOk P w H' s'.heap ∧ RelV v u ∧ Q v H'
def CR (CX : CXT) (outer : List Env) (P : Program) (w : World) (H : Hp) (s : Shared) (Q : VK) (E : XK) (r : Result) (s' : Shared) : Prop :=
 match r with
 | .ok (.ret u) => CE outer P w H s Q u s'
 | .ok _ => False
 | .error e => CX outer H s E e s'
structure FnOk (P : Program) (w : World) (K : PySem.W.Frag) (mg : Str → Option Value) (base : Heap) (CX : CXT) (k : Nat) (f : Addr) (fd : FuncData) (ps : List Str) (sp : Sp) : Prop where
 len : ∀ vs H Q E, sp vs H Q E → vs.length = ps.length
 run : ∀ (A : Around) (outer : List Env) (s : Shared) (H : Hp) (args : Args) (us : List Value) (vs : List V) (Q : VK) (E : XK), Room k A → Env0 P w K mg base A outer s H → BindsTo s fd args (ps.zip us) → Vals vs us → sp vs H Q E →
   codeAny (model P w) A (.call (.ref f) args) (CR CX outer P w H s Q E) s
section
variable {X : Cx} {pins : List (Addr × Obj)} {σ : St} {H : Hp} {s s' : Shared}
theorem Inv.env0 (I : Inv X pins σ H s) : Env0 X.prog X.w X.K X.mg X.base X.A X.stack s H :=
 ⟨I.ok.frames, I.ok.mod, I.bs, Nat.le_trans I.ok.bsz I.sz, I.stack, I.stkFree, I.hok, I.bare⟩
theorem Inv.after {Q : VK} {u : Value} (I : Inv X pins σ H s) (h : CE X.stack X.prog X.w H s Q u s') : EP X pins σ Q u s' := by
 obtain ⟨v, H', os, bare, un, hok, r, q⟩ := h
 obtain ⟨hh, g, d, t, os'⟩ := s'
 obtain rfl : os' = s.os := os
 exact ⟨v, H', I.call (h' := hh) (g' := g) (d' := d) (t' := t) (ch := []) un hok bare (fun b z => absurd z (by simp)), r, q⟩
end
def tCall (sp : Sp) (dvs : List V) (E : XK) (t : TA) : TE := fun σ H Q => t σ H fun vs H1 => sp (vs ++ dvs) H1 Q E
def Binds (K : PySem.W.Frag) (fd : FuncData) (ps : List Str) (ds : List Value) : Prop :=
 ∀ (s : Shared) (us : List Value), K.In s.heap → (us ++ ds).length = ps.length → BindsTo s fd ⟨us, []⟩ (ps.zip (us ++ ds))
theorem Binds.all {K : PySem.W.Frag} {fd : FuncData} {ps : List Str} (h : ∀ us : List Value, us.length = ps.length → bindArgs fd ⟨us, []⟩ = pure (ps.zip us)) : Binds K fd ps [] := fun s us _ hl => by
 rw [List.append_nil] at hl ⊢
 exact .of_eq (h us hl)
def Passes (CX : CXT) (X : Cx) (E : XK) : Prop := ∀ (pins : List (Addr × Obj)) (σ : St) (H : Hp) (s : Shared) (e : Value) (s' : Shared), Inv X pins σ H s → CX X.stack H s E e s' → X.xe e s'
section
variable {X : Cx} {CX : CXT} {k : Nat} {f C : Addr} {fd : FuncData} {ps : List Str} {sp : Sp} {dvs : List V} {ds : List Value} {E : XK} {x m : Str} {p pos apos : Pos} {e o : Expr} {es : List Expr} {ta : TE} {t : TA}
theorem run_fn {pins : List (Addr × Obj)} {σ : St} {H : Hp} {s : Shared} {Q : VK} {us : List Value} {vs : List V} (F : FnOk X.prog X.w X.K X.mg X.base CX k f fd ps sp) (hr : Room k X.A) (hb : Binds X.K fd ps ds) (hd : Vals dvs ds) (hx : Passes CX X E)
   (I : Inv X pins σ H s) (r : Vals vs us) (h : sp (vs ++ dvs) H Q E) : wpAny (model X.prog X.w) X.A (call (.ref f) us) (EP X pins σ Q) X.xe s := by
 have r2 : Vals (vs ++ dvs) (us ++ ds) := r.append hd
 have hl : (us ++ ds).length = ps.length := by rw [← r2.length]; exact F.len _ _ _ _ h
 refine wpAny_call (codeAny_mono (F.run X.A X.stack s H ⟨us, []⟩ (us ++ ds) (vs ++ dvs) Q E hr I.env0 (hb s us I.kIn hl) r2 h) fun r s' hq => ?_)
 cases r with
 | error e => exact hx pins σ H s e s' I hq
 | ok fl =>
   cases fl with
   | ret u => exact I.after hq
   | next => exact False.elim hq
   | brk => exact False.elim hq
   | cont => exact False.elim hq
theorem pe_call (F : FnOk X.prog X.w X.K X.mg X.base CX k f fd ps sp) (hr : Room k X.A) (hg : Gl X x) (hm : X.mg x = some (.ref f)) (hk : PySem.W.keepIn X.K (.ref f) = true) (hb : Binds X.K fd ps ds) (hd : Vals dvs ds) (hx : Passes CX X E)
   (ha : PA X (e :: es) t) (hdb : (x == ("__debug__" : Str)) = false := by decide) (he : starEach (e :: es) X.env = (false, eval e X.env) :: starEach es X.env := by rfl) (hpl : (backTo pos (starEach es X.env)).any (·.1) = false := by rfl) :
   PE X (.Call (.Name x p) (e :: es) [] pos) (tCall sp dvs E t) := by
 intro pins s σ H Q I h
 refine wpAny_Call_Name_kw (ld_glob I hg hm ?_ hdb)
 refine PySem.W.callWith_K (h₀ := X.base) I.ok.mod.kin hk (thn (ha pos pins s σ H _ I h) fun us s1 ⟨vs, H1, I1, r, q⟩ => ⟨I1.kIn, ?_⟩) he hpl
 exact run_fn F hr hb hd hx I1 r q
structure Mk (K : PySem.W.Frag) (C f : Addr) : Prop where
 makes : PySem.W.makesIn K C = true
 init : PySem.W.findIn K (.ref C) "__init__" = some (some (.ref f))
 fn : PySem.W.isFn K (.ref f) = true
 kp : PySem.W.keepIn K (.ref C) = true
end
section
variable {X : Cx} {CX : CXT} {k : Nat} {f C : Addr} {fd : FuncData} {ps ks : List Str} {sp : Sp} {E : XK} {x m : Str} {p pos apos kpos : Pos} {e o : Expr} {es : List Expr} {kws : List Keyword} {te ta : TE} {t tk : TA} {nm : Option Str}
structure KBinds (K : PySem.W.Frag) (fd : FuncData) (ps ks : List Str) (g : List Value → List Value → List Value) (gV : List V → List V → List V) : Prop where
 to : ∀ (s : Shared) (us ws : List Value), K.In s.heap → (g us ws).length = ps.length → BindsTo s fd ⟨us, ks.zip ws⟩ (ps.zip (g us ws))
 rel : ∀ {vs : List V} {us : List Value} {zs : List V} {ws : List Value}, Vals vs us → Vals zs ws → Vals (gV vs zs) (g us ws)
variable {g : List Value → List Value → List Value} {gV : List V → List V → List V}
end
structure FnScope (N P : List Str) (sc : Scope) : Prop where
 kind : sc.kind = .function
 co : sc.isCoroutine = false
 gen : sc.isGenerator = false
 nd : N.Nodup
 pre : N.take P.length = P
 par : ∀ x ∈ P, sc.names.lookup x = some .local ∨ sc.names.lookup x = some .cell
 nofree : ∀ y ∈ sc.names, y.2 ≠ .free
theorem bindL_out {kindOf : Str → Option NameKind} {x : Str} : ∀ {binds : List (Str × Value)} {m : Str → Option Value}, (∀ v, (x, v) ∉ binds) → bindL kindOf binds m x = m x
 | [], _, _ => rfl
 | (n, v) :: r, m, h => by
   unfold bindL
   rw [bindL_out fun w hw => h w (List.mem_cons_of_mem _ hw)]
   split
   · have : x ≠ n := by rintro rfl; exact h v List.mem_cons_self
     simp [this]
   · rfl
theorem bindC_out {kindOf : Str → Option NameKind} {x : Str} : ∀ {binds : List (Str × Value)} {m : Str → Option Value}, (∀ v, (x, v) ∉ binds) → bindC kindOf binds m x = m x
 | [], _, _ => rfl
 | (n, v) :: r, m, h => by
   unfold bindC
   rw [bindC_out fun w hw => h w (List.mem_cons_of_mem _ hw)]
   split
   · rfl
   · have : x ≠ n := by rintro rfl; exact h v List.mem_cons_self
     simp [this]
theorem bindL_get {kindOf : Str → Option NameKind} {x : Str} {v : Value} : ∀ {P : List Str} {vs : List Value} {i : Nat} {m : Str → Option Value}, P.Nodup → P[i]? = some x → vs[i]? = some v → kindOf x = some .local →
   bindL kindOf (P.zip vs) m x = some v
 | [], _, _, _, _, h, _, _ => by simp at h
 | _ :: _, [], _, _, _, _, h, _ => by simp at h
 | p :: P, w :: vs, 0, m, nd, h1, h2, hk => by
   simp at h1 h2; subst h1; subst h2
   show bindL kindOf ((p, w) :: P.zip vs) m p = _
   unfold bindL
   rw [bindL_out fun v hv => (List.nodup_cons.mp nd).1 (List.of_mem_zip hv).1, if_pos hk]
   simp
 | p :: P, w :: vs, i + 1, m, nd, h1, h2, hk => by
   show bindL kindOf ((p, w) :: P.zip vs) m x = _
   unfold bindL
   exact bindL_get (i := i) (List.nodup_cons.mp nd).2 (by simpa using h1) (by simpa using h2) hk
theorem bindC_get {kindOf : Str → Option NameKind} {x : Str} {v : Value} : ∀ {P : List Str} {vs : List Value} {i : Nat} {m : Str → Option Value}, P.Nodup → P[i]? = some x → vs[i]? = some v → kindOf x ≠ some .local →
   bindC kindOf (P.zip vs) m x = some v
 | [], _, _, _, _, h, _, _ => by simp at h
 | _ :: _, [], _, _, _, _, h, _ => by simp at h
 | p :: P, w :: vs, 0, m, nd, h1, h2, hk => by
   simp at h1 h2; subst h1; subst h2
   show bindC kindOf ((p, w) :: P.zip vs) m p = _
   unfold bindC
   rw [bindC_out fun v hv => (List.nodup_cons.mp nd).1 (List.of_mem_zip hv).1, if_neg hk]
   simp
 | p :: P, w :: vs, i + 1, m, nd, h1, h2, hk => by
   show bindC kindOf ((p, w) :: P.zip vs) m x = _
   unfold bindC
   exact bindC_get (i := i) (List.nodup_cons.mp nd).2 (by simpa using h1) (by simpa using h2) hk
def start (N : List Str) (vs : List V) : St := vs.map some ++ List.replicate (N.length - vs.length) none
def cxOf (CX : CXT) (P : Program) (w : World) (K : PySem.W.Frag) (mg : Str → Option Value) (base : Heap) (N : List Str) (qual : Str) (scope : Scope) (f : Addr) (cd : Value) (A : Around) (outer : List Env) (s : Shared) (H : Hp) (E : XK) : Cx where
 prog := P
 w := w
 K := K
 mg := mg
 base := base
 A := A.deeper (envOfC qual scope s.heap.objs.size f cd)
 N := N
 s₀ := s
 H₀ := H
 env := envOfC qual scope s.heap.objs.size f cd
 outer := outer
 stack := envOfC qual scope s.heap.objs.size f cd :: outer
 ex := []
 calm := true
 fn := fun _ => true
 pn := []
 xe := fun e s' => wpAny (model P w) (A.deeper (envOfC qual scope s.heap.objs.size f cd)) (leaving (envOfC qual scope s.heap.objs.size f cd) e) (fun _ s'' => CX outer H s E e s'') (fun e' s'' => CX outer H s E e' s'') s'
theorem cell_has {sc : Scope} {n : Nat} {x : Str} (h : sc.names.lookup x = some .cell) : ∃ c, (cellsFrom n sc.names []).lookup x = some c := by
 have q := PySem.W.cellsFrom_some sc.names n [] (.inl h)
 exact Option.isSome_iff_exists.mp q
theorem inv_start {CX : CXT} {P : Program} {w : World} {K : PySem.W.Frag} {mg : Str → Option Value} {base : Heap} {N ps : List Str} {qual : Str} {scope : Scope} {f : Addr} {cd : Value} {A : Around} {outer : List Env} {s s1 : Shared} {H : Hp} {E : XK} {us : List Value} {vs : List V}
   (S : FnScope N ps scope) (hd : A.handled = none) (e0 : Env0 P w K mg base A outer s H) (hl : vs.length = ps.length) (r : Vals vs us)
   (x : InCallC s s.heap.objs.size (bindL (envOfC qual scope s.heap.objs.size f cd).kindOf (ps.zip us) fun _ => none) (cellsFrom (s.heap.objs.size + 1) scope.names []) (bindC (envOfC qual scope s.heap.objs.size f cd).kindOf (ps.zip us) fun _ => none) s1) :
   Inv (cxOf CX P w K mg base N qual scope f cd A outer s H E) [] (start N vs) H s1 := by
 have hpl : ps.length ≤ N.length := by have := congrArg List.length S.pre; rw [List.length_take] at this; lia
 obtain ⟨h1, tk, rfl, hk⟩ := x.done
 have noA : ∀ b : Addr, b ∉ (cxOf CX P w K mg base N qual scope f cd A outer s H E).ex := fun b z => absurd (show b ∈ ([] : List Addr) from z) (by simp)
 refine ⟨⟨e0.mod, S.kind, rfl, rfl, Nat.le_refl _, fun y z c h1 h2 => ?_, fun y hy => ?_, fun y c _ h => ?_, fun _ => hd, Around.frames_deeper e0.frames, .inr ⟨rfl, rfl⟩, fun b z => absurd z (noA b), e0.bs, e0.bsz, fun b _ _ => noA b, fun b z => absurd z (noA b), e0.funs, e0.frf⟩,
   rfl, e0.bare, Un.kept hk, ⟨_, x.toInCall.ns, fun i y v h1 h2 h3 => ?_⟩, fun y c h => ⟨_, x.cell y c h⟩, e0.hok.fresh (Nat.le_refl _), fun y c h => ?_, fun p hp => absurd (show p ∈ ([] : List (Addr × Obj)) from hp) (by simp), e0.hok.kept hk, ?_⟩
 · exact name_of_addr x.apart (PySem.mem_of_lookup h1) (PySem.mem_of_lookup h2)
 · have hy : scope.names.lookup y = some .cell ∨ scope.names.lookup y = some .free := hy
   rcases hy with hy | hy
   · exact cell_has hy
   · exact absurd rfl (S.nofree _ (PySem.mem_of_lookup hy))
 · exact Nat.le_of_lt (x.above y c (PySem.mem_of_lookup h))
 · have hi : i < vs.length := by
     unfold start at h2
     by_cases hi : i < vs.length
     · exact hi
     · rw [List.getElem?_append_right (by simpa using hi)] at h2
       rw [List.getElem?_replicate] at h2
       split at h2 <;> cases h2
   have ha : vs[i]? = some v := by
     unfold start at h2
     rw [List.getElem?_append_left (by simpa using hi), List.getElem?_map] at h2
     cases e : vs[i]? with
     | none => rw [e] at h2; cases h2
     | some a => rw [e] at h2; cases h2; rfl
   obtain ⟨u, hu, rv⟩ := r.get ha
   have hp : ps[i]? = some y := by
     rw [← S.pre, List.getElem?_take_of_lt (by lia)]; exact h1
   have ndP : ps.Nodup := by rw [← S.pre]; exact S.nd.sublist (List.take_sublist _ _)
   refine ⟨u, rv, ?_⟩
   rcases S.par y (List.mem_of_getElem? hp) with k | k
   · exact .inl ⟨k, bindL_get ndP hp hu k⟩
   · obtain ⟨c, e⟩ := cell_has (n := s.heap.objs.size + 1) k
     refine .inr ⟨.inl k, c, e, ?_⟩
     have q := x.cell y c e
     rw [bindC_get ndP hp hu (by show scope.names.lookup y ≠ _; rw [k]; decide)] at q
     exact q
 · exact e0.hok.fresh (Nat.le_of_lt (x.above y c (PySem.mem_of_lookup h)))
 · unfold start
   show _ = N.length
   rw [List.length_append, List.length_map, List.length_replicate]
   lia
theorem fn_of {CX : CXT} {P : Program} {w : World} {K : PySem.W.Frag} {mg : Str → Option Value} {base : Heap} {k : Nat} {f : Addr} {name qual : Str} {params : Arguments} {body : List Stmt} {scope : Scope} {dV kV doc pm cdv ct oc : Value} {an od : Option Addr}
   {osl : Array (Option Value)} {N ps : List Str} {sp : Sp} (lk : K.lookup f = some ⟨oc, od, .func (PySem.W.fnOf name qual params body scope dV kV doc pm an cdv ct), osl⟩) (hcd : PySem.W.codeIn K cdv qual = true) (S : FnScope N ps scope)
   (len : ∀ vs H Q E, sp vs H Q E → vs.length = ps.length)
   (hbody : ∀ (A : Around) (outer : List Env) (s : Shared) (H : Hp) (vs : List V) (Q : VK) (E : XK), Room k (A.deeper (envOfC qual scope s.heap.objs.size f cdv)) → sp vs H Q E →
     ∃ t, PSs (cxOf CX P w K mg base N qual scope f cdv A outer s H E) body t ∧ t { nx := fun _ H' => Q .non H', rt := Q } (start N vs) H) :
   FnOk P w K mg base CX (k + 1) f (PySem.W.fnOf name qual params body scope dV kV doc pm an cdv ct) ps sp := by
 refine ⟨len, fun A outer s H args us vs Q E hr e0 hb r hsp => ?_⟩
 have hl := len _ _ _ _ hsp
 have KX : K.In s.heap := e0.mod.kin.keeps fun b o e => (e0.bs b o e).1
 have lim : s.heap.NoLimit := e0.mod.nolimit.keeps fun b o e => (e0.bs b o e).1
 have hkind : ∀ y ∈ ps.zip us, scope.names.lookup y.1 = some .local ∨ (scope.names.lookup y.1 = some .cell ∧ ((cellsFrom (s.heap.objs.size + 1) scope.names []).lookup y.1).isSome = true) := fun ⟨n, v⟩ hy => by
   rcases S.par n (List.of_mem_zip hy).1 with q | q
   · exact .inl q
   · exact .inr ⟨q, PySem.W.cellsFrom_some _ _ _ (.inl q)⟩
 refine codeAny_call_function hr.depth (KX _ _ lk) rfl S.co S.gen rfl (PySem.W.codeRec_of KX hcd) (hb _ _ _ _ ?_)
 refine wpAny_newFunctionEnv_cells S.kind hkind fun env he s1 x => ?_
 subst he
 refine ⟨lim.keeps x.toInCall.keep, codeAny_func ?_⟩
 obtain ⟨t, ht, hq⟩ := hbody A outer s H vs Q E (hr.deeper _) hsp
 have I : Inv (cxOf CX P w K mg base N qual scope f cdv A outer s H E) [] (start N vs) H s1 := inv_start S hr.hd e0 hl r x
 refine wpAny_mono (ht [] s1 (start N vs) H _ I hq) (fun fl s' hs => ?_) fun e s' hs => hs
 have fin : ∀ {σ' : St} {H' : Hp} {v : V} {u : Value}, Inv (cxOf CX P w K mg base N qual scope f cdv A outer s H E) [] σ' H' s' → RelV v u → Q v H' → CE outer P w H s Q u s' :=
   fun {σ' H' v u} J rv q => ⟨v, H', J.os, J.bare, J.base, J.hok, rv, q⟩
 cases fl with
 | ret u =>
   obtain ⟨v, σ', H', J, rv, q⟩ := hs
   exact fin J rv q
 | next =>
   obtain ⟨σ', H', J, q⟩ := hs
   exact fin (v := V.non) (u := Value.none) J rfl q
 | brk =>
   obtain ⟨_, _, _, q⟩ := hs
   exact False.elim q
 | cont =>
   obtain ⟨_, _, _, q⟩ := hs
   exact False.elim q
end L2
namespace L2
open PySem PySem.Spec PyProof.Rows
section
variable {X : Cx} {x : Str} {p pos : Pos} {e : Expr} {es : List Expr} {t : TA} {id T : String} {r : List V → Hp → VK → Prop}
def tCB (r : List V → Hp → VK → Prop) (t : TA) : TE := fun σ H Q => t σ H fun vs H1 => r vs H1 Q
theorem pe_callB (hc : CallR X (.builtin id) r) (hg : Gl X x) (hm : X.mg x = none) (hv : bootBuiltins x = some (.builtin id)) (ha : PA X (e :: es) t) (hn : x ≠ "__name__" := by decide) (hdb : (x == ("__debug__" : Str)) = false := by decide)
   (he : starEach (e :: es) X.env = (false, eval e X.env) :: starEach es X.env := by rfl) (hpl : (backTo pos (starEach es X.env)).any (·.1) = false := by rfl) : PE X (.Call (.Name x p) (e :: es) [] pos) (tCB r t) := by
 intro pins s σ H Q I h
 refine wpAny_Call_Name_kw (ld_blt I hg hm hv ?_ hn hdb)
 exact PyProof.Rows.callWith_builtin1 (thn (ha pos pins s σ H _ I h) fun us s1 ⟨vs, H1, I1, r1, q1⟩ => hc pins s1 σ H1 vs us Q I1 r1 q1) he hpl
theorem pe_callTy (hc : CallR X (.type T) r) (hg : Gl X x) (hm : X.mg x = none) (hv : bootBuiltins x = some (.type T)) (ha : PA X (e :: es) t) (hn : x ≠ "__name__" := by decide) (hdb : (x == ("__debug__" : Str)) = false := by decide)
   (he : starEach (e :: es) X.env = (false, eval e X.env) :: starEach es X.env := by rfl) (hpl : (backTo pos (starEach es X.env)).any (·.1) = false := by rfl) : PE X (.Call (.Name x p) (e :: es) [] pos) (tCB r t) := by
 intro pins s σ H Q I h
 refine wpAny_Call_Name_kw (ld_blt I hg hm hv ?_ hn hdb)
 exact PyProof.Rows.callWith_type1 (thn (ha pos pins s σ H _ I h) fun us s1 ⟨vs, H1, I1, r1, q1⟩ => hc pins s1 σ H1 vs us Q I1 r1 q1) he hpl
end
end L2
namespace HT
open PySem PyProof.Rows
section
open PySem.SeqAt
open PySem.AutoSeq1 (wpAny_loadPart')
open PySem.MeetsSeq PySem.MeetsSeq2 PySem.MeetsSeq3
end
section
variable {prog : Program} {w : World} {A : Around} {E : Value → Shared → Prop} {s : Shared}
theorem cat_tup {t b : Addr} {vs ws : List Value} {Q : Value → Shared → Prop} (ht : IsTup s.heap t vs.toArray) (hb : IsTup s.heap b ws.toArray) (hv : vs ≠ [])
   (h1 : ws = [] → Q (.ref t) s) (h2 : ws ≠ [] → Q (.ref s.heap.objs.size) { s with heap := s.heap.push { cls := .type "tuple", data := .seq (vs ++ ws).toArray } })
   (hsz : vs.length + ws.length ≤ sizeLine) : wpAny (model prog w) A (binaryOp .Add (.ref t) (.ref b)) Q E s := by
 obtain ⟨⟨cls, dd, data, sl⟩, ho, hc, n, hd⟩ := id ht
 obtain ⟨⟨cls2, dd2, data2, sl2⟩, ho2, hc2, n2, hd2⟩ := id hb
 simp only at hc hd hc2 hd2
 subst hc hd hc2 hd2
 have e : vs.toArray ++ ws.toArray = (vs ++ ws).toArray := by simp
 by_cases hw : ws = []
 · exact concat_meets ⟨_, ho, rfl⟩ ⟨_, ho2, rfl⟩ noFill_tuple_add seq_tuple_add PySem.F.slot_tuple_add PySem.F.entry_tuple_add (PySem.F.args_tuple_add_2 _ _)
     (tuple_addW1 t b vs.toArray ws.toArray n n2 dd dd2 sl sl2 (by simpa using hv) (by simp [hw])) ⟨ho, ho2, h1 hw⟩
 · refine concat_meets ⟨_, ho, rfl⟩ ⟨_, ho2, rfl⟩ noFill_tuple_add seq_tuple_add PySem.F.slot_tuple_add PySem.F.entry_tuple_add (PySem.F.args_tuple_add_2 _ _)
     (tuple_addW2 t b vs.toArray ws.toArray n n2 dd dd2 sl sl2 (by simpa using hv) (by simpa using hw) (by rw [List.size_toArray, List.size_toArray]; exact hsz)) ⟨ho, ho2, ?_⟩
   rw [e]
   exact h2 hw
def sIx (n d : Nat) : Option Int → Nat
 | none => d
 | some v => if v < 0 then (v + (n : Int)).toNat else min v.toNat n
theorem sIx_nat (n d k : Nat) : sIx n d (some (k : Int)) = min k n := by
 show (if (k : Int) < 0 then ((k : Int) + (n : Int)).toNat else min (k : Int).toNat n) = min k n
 rw [if_neg (by lia), Int.toNat_natCast]
theorem sIx_le (n d : Nat) (hd : d ≤ n) (o : Option Int) : sIx n d o ≤ n := by
 cases o with
 | none => exact hd
 | some v =>
   show (if v < 0 then (v + (n : Int)).toNat else min v.toNat n) ≤ n
   by_cases hv : v < 0
   · rw [if_pos hv]; lia
   · rw [if_neg hv]; exact Nat.min_le_right _ _
theorem clip_eq (v : Int) (n d : Nat) : (if v < 0 then max (v + (n : Int)) 0 else min v (n : Int)) = ((sIx n d (some v) : Nat) : Int) := by
 show (if v < 0 then max (v + (n : Int)) 0 else min v (n : Int)) = (((if v < 0 then (v + (n : Int)).toNat else min v.toNat n) : Nat) : Int)
 by_cases hv : v < 0
 · rw [if_pos hv, if_pos hv, Int.toNat_eq_max]
 · rw [if_neg hv, if_neg hv]
   obtain ⟨k, rfl⟩ := Int.eq_ofNat_of_zero_le (Int.not_lt.mp hv)
   rw [Int.toNat_natCast]
   rcases Nat.le_total k n with h | h
   · rw [Nat.min_eq_left h, Int.min_eq_left (Int.ofNat_le.mpr h)]
   · rw [Nat.min_eq_right h, Int.min_eq_right (Int.ofNat_le.mpr h)]
theorem adjust_gen (lo hi : Option Int) (n : Nat) : Builtin.Slice.sliceAdjust lo hi 1 (n : Int) = (((sIx n 0 lo : Nat) : Int), ((sIx n n hi : Nat) : Int)) := by
 have h1 : ¬ ((1 : Int) < 0) := by lia
 unfold Builtin.Slice.sliceAdjust
 simp only [h1, if_false]
 refine Prod.ext ?_ ?_
 · cases lo with
   | none => rfl
   | some v => exact clip_eq v n 0
 · cases hi with
   | none => rfl
   | some v => exact clip_eq v n n
theorem places_gen (i j : Nat) : Builtin.Slice.slicePlaces (i : Int) (j : Int) 1 = j - i := by
 unfold Builtin.Slice.slicePlaces
 have h1 : (1 : Int) > 0 := by lia
 simp only [h1, if_true, Int.ediv_one]
 split <;> lia
theorem slicePart_ {v : Value} {o : Option Int} {Q : Option Int → Shared → Prop} (p : IsPart v o) (h : Q o s) : wpAny (model prog w) A (Builtin.Slice.slicePartIndex v) Q E s := by
 cases p with
 | none => exact slicePart_none h
 | int i t => exact slicePart_int h
theorem sliceApplied_gen {sl : Addr} {vl vu : Value} {lo hi : Option Int} {n : Nat} {Q : Int × Int × Nat → Shared → Prop} (hs : s.heap.IsSliceOf sl vl vu .none) (pl : IsPart vl lo) (pu : IsPart vu hi)
   (h : Q (((sIx n 0 lo : Nat) : Int), 1, sIx n n hi - sIx n 0 lo) s) : wpAny (model prog w) A (Builtin.Slice.sliceApplied (.ref sl) (pure (n : Int))) Q E s := by
 obtain ⟨os, hos, hcs, hds⟩ := id hs
 unfold Builtin.Slice.sliceApplied Builtin.Slice.sliceFields
 refine wpAny_bind (wpAny_bind (wpAny_field hos hds (x := vl) rfl (wpAny_bind (wpAny_field hos hds (x := vu) rfl (wpAny_bind (wpAny_field hos hds (x := .none) rfl (wpAny_pure ?_)))))))
 refine wpAny_bind (slicePart_none ?_)
 show wpAny _ _ (if ((1 : Int) == 0) = true then _ else _) _ _ s
 rw [if_neg (by decide)]
 refine wpAny_bind (slicePart_ pl (wpAny_bind (slicePart_ pu (wpAny_bind (wpAny_pure ?_)))))
 show wpAny _ _ (match Builtin.Slice.sliceAdjust lo hi 1 (n : Int) with | (lo, hi) => pure (lo, (1 : Int), Builtin.Slice.slicePlaces lo hi 1)) _ _ s
 rw [adjust_gen lo hi n]
 show wpAny _ _ (pure (((sIx n 0 lo : Nat) : Int), (1 : Int), Builtin.Slice.slicePlaces ((sIx n 0 lo : Nat) : Int) ((sIx n n hi : Nat) : Int) 1)) _ _ s
 rw [places_gen]
 exact wpAny_pure h
theorem pick_gen (xs : Array Value) (i k : Nat) : ((List.range k).filterMap fun (m : Nat) => xs[((i : Int) + (m : Int) * 1).toNat]?).toArray = ((xs.toList.drop i).take k).toArray := by
 have e : (fun (m : Nat) => xs[((i : Int) + (m : Int) * 1).toNat]?) = fun m => xs[i + m]? := by
   funext m
   have : ((i : Int) + (m : Int) * 1).toNat = i + m := by lia
   rw [this]
 rw [e]
 have := pick_run xs i k
 rw [List.filterMap_map] at this
 have e2 : ((fun x => xs[x]?) ∘ fun x => i + x) = fun m => xs[i + m]? := rfl
 rw [e2] at this
 rw [this]
theorem getItem_tuple_cut {t sl : Addr} {items : Array Value} {vl vu : Value} {lo hi : Option Int} {Q : Value → Shared → Prop} (ht : IsTup s.heap t items) (hs : s.heap.IsSliceOf sl vl vu .none) (pl : IsPart vl lo) (pu : IsPart vu hi)
   (hw : ¬ (sIx items.size 0 lo = 0 ∧ sIx items.size items.size hi = items.size))
   (h : Q (.ref s.heap.objs.size) { s with heap := s.heap.push { cls := .type "tuple", data := .seq ((items.toList.drop (sIx items.size 0 lo)).take (sIx items.size items.size hi - sIx items.size 0 lo)).toArray } })
   (hsz : items.size ≤ sizeLine) : wpAny (model prog w) A (getItem (.ref t) (.ref sl)) Q E s := by
 have htake : sizeOk (.seq ((items.toList.drop (sIx items.size 0 lo)).take (sIx items.size items.size hi - sIx items.size 0 lo)).toArray) := by
   show ((items.toList.drop (sIx items.size 0 lo)).take (sIx items.size items.size hi - sIx items.size 0 lo)).toArray.size ≤ sizeLine
   rw [List.size_toArray, List.length_take, List.length_drop, Array.length_toList]
   exact Nat.le_trans (Nat.le_trans (Nat.min_le_right _ _) (Nat.sub_le _ _)) hsz
 have hj : sIx items.size items.size hi ≤ items.size := sIx_le _ _ (Nat.le_refl _) hi
 obtain ⟨os, hos, hcs, hds⟩ := id hs
 have hTs : s.TypeIs (.ref sl) "slice" := ⟨os, hos, hcs⟩
 unfold getItem
 try with_reducible refine wpAny_holding ?_
 first | refine wpAny_bind (wpAny_pure ?_) | skip
 refine wpAny_bind (wpAny_sequenceKey ht.typeIs (by decide) ?_)
 refine wpAny_bind (wpAny_callSpecial?_slot (name := Str.ofString "__getitem__") ht.typeIs PyProof.Rows.slot_tuple_getitem
   (wpAny_call_entry PyProof.Rows.slot_tuple_getitem ht.typeIs entry_tuple_getitem ?_ (args_tuple_getitem _ _)))
 show wpAny _ _ (Builtin.Tuple.tupleItemsOf (.ref t) >>= _) _ _ s
 refine wpAny_bind (tupleItemsOf_ ht ?_)
 refine wpAny_bind (wpAny_typeOf hTs ?_)
 rw [if_pos (by decide)]
 refine wpAny_bind (sliceApplied_gen hs pl pu ?_)
 have hno : ¬ ((((sIx items.size 0 lo : Nat) : Int) == 0 && (1 : Int) == 1 && (sIx items.size items.size hi - sIx items.size 0 lo) == items.size) = true) := by
   intro q
   rw [Bool.and_eq_true, Bool.and_eq_true] at q
   have q1 : ((sIx items.size 0 lo : Nat) : Int) = 0 := eq_of_beq q.1.1
   have q2 : sIx items.size items.size hi - sIx items.size 0 lo = items.size := eq_of_beq q.2
   exact hw ⟨by lia, by lia⟩
 show wpAny _ _ (if (((sIx items.size 0 lo : Nat) : Int) == 0 && (1 : Int) == 1 && (sIx items.size items.size hi - sIx items.size 0 lo) == items.size) = true then _ else _) _ _ s
 rw [if_neg hno, pick_gen]
 first
   | exact wpAny_bind (m := Builtin.Tuple.tupleExact _) (wpAny_newObj_type (wpAny_pure ⟨_, rfl, wpAny_pure h⟩) htake)
   | exact wpAny_bind (m := Builtin.Tuple.tupleExact _) (wpAny_newObj_type (wpAny_bind (wpAny_pure (wpAny_pure ⟨_, rfl, wpAny_pure h⟩))) htake)
   | exact wpAny_bind (wpAny_bind (m := Builtin.Tuple.tupleExact _) (wpAny_newObj_type (wpAny_pure (wpAny_pure ⟨_, rfl, wpAny_pure h⟩)) htake))
   | exact wpAny_bind (wpAny_bind (m := Builtin.Tuple.tupleExact _) (wpAny_newObj_type (wpAny_pure ⟨_, rfl, wpAny_pure h⟩) htake))
end
end HT
namespace L2
open PySem PySem.Spec PyProof.Rows
abbrev TO := St → Hp → (Option Int → Hp → Prop) → Prop
def PO (X : Cx) (e : Option Expr) (t : TO) : Prop :=
 ∀ (pins : List (Addr × Obj)) (s : Shared) (σ : St) (H : Hp) (Q : Option Int → Hp → Prop), Inv X pins σ H s → t σ H Q →
   wpAny (model X.prog X.w) X.A (evalPart e X.env) (fun u s' => ∃ o H', Inv X pins σ H' s' ∧ IsPart u o ∧ Q o H') X.xe s
def tNoPart : TO := fun _ H Q => Q none H
def tPart (t : TE) : TO := fun σ H Q => t σ H fun x H1 => ∃ i, x = .int i ∧ Q (some i) H1
section
variable {X : Cx} {e : Expr} {te : TE} {lo hi : Option Expr} {tl th : TO} {pos p2 : Pos}
theorem po_none : PO X none tNoPart := by
 intro pins s σ H Q I h
 rw [evalPart_none]
 exact wpAny_pure ⟨none, H, I, .none, h⟩
theorem po_some (h : PE X e te) : PO X (some e) (tPart te) := by
 intro pins s σ H Q I hw
 rw [evalPart_some]
 refine thn (h pins s σ H _ I hw) fun u s1 ⟨x, H1, I1, r1, q1⟩ => ?_
 obtain ⟨i, rfl, q⟩ := q1
 obtain ⟨t, rfl⟩ := r1
 exact ⟨some i, H1, I1, .int i t, q⟩
def SlR (X : Cx) (r : V → Option Int → Option Int → Hp → VK → Prop) : Prop :=
 ∀ (pins : List (Addr × Obj)) (s : Shared) (σ : St) (H : Hp) (x : V) (v vl vu : Value) (lo hi : Option Int) (sl : Addr) (Q : VK), Inv X pins σ H s → RelV x v → s.heap.IsSliceOf sl vl vu .none → IsPart vl lo → IsPart vu hi → r x lo hi H Q →
   ∃ T id, typeLookup (.type T) "__getitem__" = pure (some (.builtin id)) ∧ s.TypeIs v T ∧ wpAny (model X.prog X.w) X.A (getItem v (.ref sl)) (EP X pins σ Q) X.xe s
theorem SlR.or {r r' : V → Option Int → Option Int → Hp → VK → Prop} (h : SlR X r) (h' : SlR X r') : SlR X (fun x lo hi H Q => r x lo hi H Q ∨ r' x lo hi H Q) := by
 intro pins s σ H x v vl vu lo hi sl Q I rx hs pl pu q
 rcases q with q | q
 · exact h pins s σ H x v vl vu lo hi sl Q I rx hs pl pu q
 · exact h' pins s σ H x v vl vu lo hi sl Q I rx hs pl pu q
def tSl (r : V → Option Int → Option Int → Hp → VK → Prop) (te : TE) (tl th : TO) : TE := fun σ H Q => te σ H fun x H1 => tl σ H1 fun l H2 => th σ H2 fun u H3 => r x l u H3 Q
theorem pe_slice {r : V → Option Int → Option Int → Hp → VK → Prop} (hr : SlR X r) (he : PE X e te) (hl : PO X lo tl) (hu : PO X hi th) : PE X (.Subscript e (.Slice lo hi none p2) pos) (tSl r te tl th) := by
 intro pins s σ H Q I h
 refine Subscript_ (thn (he pins s σ H _ I h) fun v s1 ⟨x, H1, I1, r1, q1⟩ => ?_)
 refine wpAny_Slice (thn (hl pins s1 σ H1 _ I1 q1) fun vl s2 ⟨l, H2, I2, pl, q2⟩ => thn (hu pins s2 σ H2 _ I2 q2) fun vu s3 ⟨u, H3, I3, pu, q3⟩ => ?_)
 rw [evalPart_none]
 refine wpAny_pure ?_
 have I4 : Inv X pins σ H3 { s3 with heap := s3.heap.push { cls := .type "slice", data := .fields #[vl, vu, .none] } } := I3.kept (t' := s3.toks) fun b ob q => Heap.get?_push_of_some _ q
 obtain ⟨T, id, hT, ht, hg⟩ := hr pins { s3 with heap := s3.heap.push { cls := .type "slice", data := .fields #[vl, vu, .none] } } σ H3 x v vl vu l u s3.heap.objs.size Q I4 r1 (Heap.IsSliceOf.new ..) pl pu q3
 show wpAny (model X.prog X.w) X.A (subscriptTail e (.Slice lo hi none p2) v (.ref s3.heap.objs.size)) (EP X pins σ Q) X.xe { s3 with heap := s3.heap.push { cls := .type "slice", data := .fields #[vl, vu, .none] } }
 exact tail_any (ops := [.ref s3.heap.objs.size, v]) ht hT hg (by with_unfolding_all rfl)
def cutV (xs : List V) (lo hi : Option Int) : List V := (xs.drop (HT.sIx xs.length 0 lo)).take (HT.sIx xs.length xs.length hi - HT.sIx xs.length 0 lo)
theorem cutV_length (xs : List V) (lo hi : Option Int) : (cutV xs lo hi).length ≤ xs.length := by
 unfold cutV
 rw [List.length_take, List.length_drop]
 exact Nat.le_trans (Nat.min_le_right _ _) (Nat.sub_le _ _)
inductive rSlT (K : PySem.W.Frag) (x : V) (lo : Option Int) (hi : Option Int) (H : Hp) (Q : VK) : Prop
 | mk (a : _) (xs : _) (h1 : x = .ref a) (h2 : SqT K H a xs) (h3 : ¬ (HT.sIx xs.length 0 lo = 0 ∧ HT.sIx xs.length xs.length hi = xs.length)) (h4 : ∀ p, H p = none → Q (.ref p) (upd H p (.tup (cutV xs lo hi)))) : rSlT K x lo hi H Q
theorem sl_tup : SlR X (rSlT X.K) := by
 intro pins s σ H x v vl vu lo hi sl Q I rx hs pl pu h
 obtain ⟨a, xs, rfl, hx, hw, q⟩ := h
 cases rx
 obtain ⟨its, r, ht, hz⟩ := I.tuple hx
 have hlen : its.toArray.size = xs.length := by rw [List.size_toArray]; exact r.length.symm
 refine ⟨"tuple", _, PyProof.Rows.slot_tuple_getitem.lookup, ht.typeIs, ?_⟩
 refine HT.getItem_tuple_cut ht hs pl pu (by rw [hlen]; exact hw) ?_ (by rw [hlen]; exact hz)
 rw [hlen]
 refine ⟨.ref s.heap.objs.size, _, I.laid (t' := s.toks) (o := .tup (cutV xs lo hi)) (fun b ob q => Heap.get?_push_of_some _ q) (Nat.le_refl _) ?_, rfl, q _ (I.hok.fresh (Nat.le_refl _))⟩
 exact ⟨Nat.le_trans (cutV_length xs lo hi) hz, _, (r.drop (HT.sIx xs.length 0 lo)).take (HT.sIx xs.length xs.length hi - HT.sIx xs.length 0 lo), IsTup.new _ _⟩
inductive rCatT (K : PySem.W.Frag) (x : V) (y : V) (H : Hp) (Q : VK) : Prop
 | mk (a : _) (b : _) (xs : _) (ys : _) (h1 : x = .ref a) (h2 : y = .ref b) (h3 : SqT K H a xs) (h4 : SqT K H b ys) (h5 : xs ≠ []) (h6 : xs.length + ys.length ≤ sizeLine) (h7 : (ys = [] → Q (.ref a) H)) (h8 : (ys ≠ [] → ∀ p, H p = none → Q (.ref p) (upd H p (.tup (xs ++ ys))))) : rCatT K x y H Q
theorem Vals.nil_iff {xs : List V} {us : List Value} (r : Vals xs us) : us = [] ↔ xs = [] := by
 cases r with
 | nil => simp
 | cons _ _ => simp
theorem op_catT : OpR X (binaryOp .Add) (rCatT X.K) := by
 intro pins s σ H x y v u Q I rx ry h
 obtain ⟨a, b, xs, ys, rfl, rfl, ha, hb, hx, hz, q1, q2⟩ := h
 cases rx
 cases ry
 obtain ⟨its, r1, p1, _⟩ := I.tuple ha
 obtain ⟨its2, r2, p2, _⟩ := I.tuple hb
 refine HT.cat_tup p1 p2 (fun z => hx (r1.nil_iff.mp z)) (fun z => ⟨.ref a, H, I, rfl, q1 (r2.nil_iff.mp z)⟩) (fun z => ?_) (by rw [← r1.length, ← r2.length]; exact hz)
 refine ⟨.ref s.heap.objs.size, _, I.laid (t' := s.toks) (o := .tup (xs ++ ys)) (fun b ob q => Heap.get?_push_of_some _ q) (Nat.le_refl _) ?_, rfl, q2 (fun w => z (r2.nil_iff.mpr w)) _ (I.hok.fresh (Nat.le_refl _))⟩
 exact ⟨by rw [List.length_append]; exact hz, _, r1.append r2, IsTup.new _ _⟩
end
end L2
namespace L2
open PySem PySem.Spec PyProof.Rows
def ixN (n : Nat) (i : Int) : Option Nat := if 0 ≤ i then (if i < n then some i.toNat else none) else if -(n : Int) ≤ i then some (i + n).toNat else none
def atI {α : Type} (xs : List α) (i : Int) : Option α := (ixN xs.length i).bind fun j => xs[j]?
theorem ixN_seq {n : Nat} {i : Int} {j : Nat} (h : ixN n i = some j) : seqIndex? i n = some j ∧ j < n ∧ -(n : Int) ≤ i ∧ i < n := by
 unfold ixN at h
 by_cases h0 : 0 ≤ i
 · rw [if_pos h0] at h
   by_cases h1 : i < n
   · rw [if_pos h1] at h
     have e : i.toNat = j := Option.some.inj h
     exact ⟨by rw [seqIndex_of h0 h1, e], by lia, by lia, h1⟩
   · rw [if_neg h1] at h; cases h
 · rw [if_neg h0] at h
   by_cases h1 : -(n : Int) ≤ i
   · rw [if_pos h1] at h
     have e : (i + n).toNat = j := Option.some.inj h
     exact ⟨by rw [seqIndex_neg (by lia) h1, e], by lia, h1, by lia⟩
   · rw [if_neg h1] at h; cases h
theorem atI_get {α : Type} {xs : List α} {i : Int} {v : α} (h : atI xs i = some v) : ∃ j, seqIndex? i xs.length = some j ∧ xs[j]? = some v ∧ j < xs.length ∧ -(xs.length : Int) ≤ i ∧ i < xs.length := by
 unfold atI at h
 cases e : ixN xs.length i with
 | none => rw [e] at h; cases h
 | some j =>
   rw [e] at h
   obtain ⟨h1, h2, h3, h4⟩ := ixN_seq e
   exact ⟨j, h1, h, h2, h3, h4⟩
theorem atI_nat {α : Type} {xs : List α} {j : Nat} {v : α} (h : xs[j]? = some v) : atI xs (j : Int) = some v := by
 have hj : j < xs.length := (List.getElem?_eq_some_iff.mp h).1
 have e : ixN xs.length (j : Int) = some j := by
   unfold ixN
   rw [if_pos (by lia), if_pos (by lia)]; simp
 unfold atI; rw [e]; exact h
def PlainIx (b : Expr) : Prop := ∀ o i, subscripted b false o i = operate [o, i] (getItem o i)
def IxR (X : Cx) (r : R2) : Prop :=
 ∀ (value slice : Expr) (pins : List (Addr × Obj)) (s : Shared) (σ : St) (H : Hp) (x y : V) (v u : Value) (Q : VK), Inv X pins σ H s → RelV x v → RelV y u → r x y H Q →
   subscripted slice false v u = operate [v, u] (getItem v u) → wpAny (model X.prog X.w) X.A (subscriptTail value slice v u) (EP X pins σ Q) X.xe s
def MtR (X : Cx) (id : String) (r : V → List V → Hp → VK → Prop) : Prop :=
 ∀ (pins : List (Addr × Obj)) (s : Shared) (σ : St) (H : Hp) (x : V) (xs : List V) (v : Value) (us : List Value) (Q : VK), Inv X pins σ H s → RelV x v → Vals xs us → r x xs H Q →
   wpAny (model X.prog X.w) X.A (call (.builtin id) (v :: us)) (EP X pins σ Q) X.xe s
section
variable {X : Cx} {a b : Expr} {ta tb : TE} {pos : Pos}
theorem IxR.or {r r' : R2} (h : IxR X r) (h' : IxR X r') : IxR X (fun x y H Q => r x y H Q ∨ r' x y H Q) := by
 intro value slice pins s σ H x y v u Q I rx ry q hs
 rcases q with q | q
 · exact h value slice pins s σ H x y v u Q I rx ry q hs
 · exact h' value slice pins s σ H x y v u Q I rx ry q hs
theorem pe_ix {r : R2} (hr : IxR X r) (ha : PE X a ta) (hb : PE X b tb) (hs : PlainIx b) : PE X (.Subscript a b pos) (tOp r ta tb) := by
 intro pins s σ H Q I h
 exact Subscript_ (binT ha hb I h fun v u s2 x y H2 I2 rx ry q => hr a b pins s2 σ H2 x y v u Q I2 rx ry q (hs _ _))
inductive rIxL (K : PySem.W.Frag) (x : V) (y : V) (H : Hp) (Q : VK) : Prop
 | mk (p : _) (xs : _) (i : _) (v : _) (h1 : x = .ref p) (h2 : y = .int i) (h3 : SqL K H p xs) (h4 : atI xs i = some v) (h5 : Q v H) : rIxL K x y H Q
inductive rIxT (K : PySem.W.Frag) (x : V) (y : V) (H : Hp) (Q : VK) : Prop
 | mk (p : _) (xs : _) (i : _) (v : _) (h1 : x = .ref p) (h2 : y = .int i) (h3 : SqT K H p xs) (h4 : atI xs i = some v) (h5 : Q v H) : rIxT K x y H Q
inductive rIxS (x : V) (y : V) (H : Hp) (Q : VK) : Prop
 | mk (z : _) (i : _) (c : _) (h1 : x = .str z) (h2 : y = .int i) (h3 : z.length ≤ sizeLine) (h4 : atI z.cps.toList i = some c) (h5 : Q (.str ⟨#[c]⟩) H) : rIxS x y H Q
theorem ix_list : IxR X (rIxL X.K) := by
 intro value slice pins s σ H x y v u Q I rx ry h hs
 obtain ⟨p, xs, i, z, rfl, rfl, hq, he, q⟩ := h
 cases rx
 obtain ⟨t, rfl⟩ := ry
 obtain ⟨its, r, pl, hz⟩ := I.list hq
 obtain ⟨j, h1, h2, h3, h4, h5⟩ := atI_get he
 obtain ⟨w, ew, rw'⟩ := r.get h2
 have hl := r.length
 have hn := line63
 have fin : EP X pins σ Q w s := ⟨z, H, I, rw', q⟩
 by_cases h0 : 0 ≤ i
 · have hj : i.toNat = j := by
     rw [seqIndex_of h0 h5] at h1
     exact Option.some.inj h1
   exact item_listR pl.isList h0 (by lia) (by rw [hj]; simpa using ew) fin hs
 · have hj : (i + (its.toArray.size : Int)).toNat = j := by
     rw [seqIndex_neg (by lia) h4] at h1
     rw [List.size_toArray, ← hl]
     exact Option.some.inj h1
   exact subscriptTail_builtinR (x := w) pl.isList.typeIs slot_list_getitem.lookup
     (wpAny_getItem_list_neg (Q := fun r s' => r = w ∧ EP X pins σ Q r s') pl.isList (by lia) (by rw [List.size_toArray] <;> lia) (by lia) (by rw [hj]; simpa using ew) ⟨rfl, fin⟩) hs
theorem ix_tup : IxR X (rIxT X.K) := by
 intro value slice pins s σ H x y v u Q I rx ry h hs
 obtain ⟨p, xs, i, z, rfl, rfl, hq, he, q⟩ := h
 cases rx
 obtain ⟨t, rfl⟩ := ry
 obtain ⟨its, r, pl, hz⟩ := I.tuple hq
 obtain ⟨j, h1, h2, h3, h4, h5⟩ := atI_get he
 obtain ⟨w, ew, rw'⟩ := r.get h2
 have hl := r.length
 have hn := line63
 have fin : EP X pins σ Q w s := ⟨z, H, I, rw', q⟩
 exact subscriptTail_builtinR (x := w) pl.typeIs slot_tuple_getitem.lookup
   (getItem_tuple (j := j) (Q := fun r s' => r = w ∧ EP X pins σ Q r s') pl (by lia) (by lia) (by rw [List.size_toArray, ← hl]; exact h1) (by simpa using ew) ⟨rfl, fin⟩) hs
theorem ix_str : IxR X rIxS := by
 intro value slice pins s σ H x y v u Q I rx ry h hs
 obtain ⟨z, i, c, rfl, rfl, hz, he, q⟩ := h
 obtain ⟨t, rfl⟩ := rx
 obtain ⟨t', rfl⟩ := ry
 obtain ⟨j, h1, h2, h3, h4, h5⟩ := atI_get he
 have hl : z.cps.toList.length = z.length := by simp [Str.length]
 rw [hl] at h1 h4 h5
 have hn := line63
 exact tail_any (typeIs_str s z t) slot_str_getitem.lookup (getItem_str (c := c) (by
   have e1 : decide (i < -(2 ^ 63 : Int)) = false := decide_eq_false (by lia)
   have e2 : decide (i ≥ 2 ^ 63) = false := decide_eq_false (by lia)
   rw [e1, e2, Bool.or_false]) (by rw [h1]; simpa using h2) ⟨.str ⟨#[c]⟩, H, I.tok _, ⟨_, rfl⟩, q⟩) hs
def rIx (K : PySem.W.Frag) : R2 := fun x y H Q => rIxL K x y H Q ∨ rIxT K x y H Q ∨ rIxS x y H Q
theorem ix_seq : IxR X (rIx X.K) := ix_list.or (ix_tup.or ix_str)
theorem mapSeq_set (its : List Value) (n j : Nat) (u : Value) : Obj.mapSeq (·.setIfInBounds j u) { cls := .type "list", data := .seq its.toArray n } = { cls := .type "list", data := .seq (its.set j u).toArray n } := by
 simp [Obj.mapSeq]
theorem Inv.lst {pins : List (Addr × Obj)} {σ : St} {H : Hp} {s : Shared} {p : Addr} {xs : List V} (I : Inv X pins σ H s) (h : H p = some (.lst xs)) :
   ∃ (its : List Value) (n : Nat), Vals xs its ∧ s.heap.get? p = some { cls := .type "list", data := .seq its.toArray n } ∧ xs.length ≤ sizeLine := by
 obtain ⟨z, its, n, r, e⟩ := I.hok p _ h
 exact ⟨its, n, r, e, z⟩
theorem Inv.lstUpd {pins : List (Addr × Obj)} {σ : St} {H : Hp} {s : Shared} {p : Addr} {xs ys : List V} {its its' : List Value} {n n' : Nat} {f : Obj → Obj} (I : Inv X pins σ H s) (h : H p = some (.lst xs))
   (ho : s.heap.get? p = some { cls := .type "list", data := .seq its.toArray n }) (hf : f { cls := .type "list", data := .seq its.toArray n } = { cls := .type "list", data := .seq its'.toArray n' }) (r : Vals ys its') (hz : ys.length ≤ sizeLine) (t : Nat) :
   Inv X pins σ (upd H p (.lst ys)) { s with heap := s.heap.update p f, toks := t } := by
 have e : (s.heap.update p f).get? p = some { cls := .type "list", data := .seq its'.toArray n' } := by
   rw [Heap.get?_update_self f ho (by rw [hf] <;> rfl), hf]
 refine I.write (x := p) (e := p) (by rw [h]; trivial) (.inl rfl) (fun b u hb q => (Heap.get?_update_other _ _ (Ne.symm hb)).trans q) ⟨_, e⟩ ?_
 exact ⟨hz, its', n', r, e⟩
inductive rSetL (o : V) (i : V) (v : V) (H : Hp) (Q : (Hp → Prop)) : Prop
 | mk (p : _) (xs : _) (k : _) (j : _) (h1 : o = .ref p) (h2 : i = .int k) (h3 : H p = some (.lst xs)) (h4 : ixN xs.length k = some j) (h5 : Q (upd H p (.lst (xs.set j v)))) : rSetL o i v H Q
theorem set_list : PSet X rSetL := by
 intro pins s σ H o i v ov iv u Q I ro ri rv h
 obtain ⟨p, xs, k, j, rfl, rfl, hp, hj, q⟩ := h
 cases ro
 obtain ⟨t, rfl⟩ := ri
 obtain ⟨its, n, r, ho, hz⟩ := I.lst hp
 obtain ⟨h1, h2, h3, h4⟩ := ixN_seq hj
 have hl := r.length
 have hn := line63
 have I' : Inv X pins σ (upd H p (.lst (xs.set j v))) { s with heap := s.heap.update p (Obj.mapSeq (·.setIfInBounds j u)) } :=
   I.lstUpd hp ho (mapSeq_set its n j u) (r.set rv j) (by rw [List.length_set]; exact hz) s.toks
 by_cases h0 : 0 ≤ k
 · have hk : k.toNat = j := by
     rw [seqIndex_of h0 h4] at h1
     exact Option.some.inj h1
   exact PySem.W.ki_setAt ho h0 (by lia) (by rw [List.size_toArray, ← hl]; exact h4) (by rw [hk]; exact ⟨_, I', q⟩)
 · have hk : (k + (its.toArray.size : Int)).toNat = j := by
     rw [seqIndex_neg (by lia) h3] at h1
     rw [List.size_toArray, ← hl]
     exact Option.some.inj h1
   exact PySem.W.ki_setBack ho (by lia) (by rw [List.size_toArray, ← hl]; exact h3) (by lia) (by rw [hk]; exact ⟨_, I', q⟩)
theorem slice_bounds (lo hi : Option Int) (n : Nat) : (sliceBounds lo hi none n).1 = ((HT.sIx n 0 lo : Nat) : Int) ∧ (sliceBounds lo hi none n).2.1 = ((HT.sIx n n hi : Nat) : Int) ∧ (sliceBounds lo hi none n).2.2 = 1 := by
 have key : ∀ (i : Int) (d : Nat), max 0 (min (if i < 0 then i + (n : Int) else i) (n : Int)) = ((HT.sIx n d (some i) : Nat) : Int) := by
   intro i d
   rw [← HT.clip_eq]
   by_cases h : i < 0
   · rw [if_pos h, if_pos h, Int.min_eq_left (by lia), Int.max_comm]
   · rw [if_neg h, if_neg h, Int.max_eq_right (Int.le_min.mpr ⟨by lia, by lia⟩)]
 refine ⟨?_, ?_, rfl⟩
 · cases lo with
   | none => simp [sliceBounds, HT.sIx]
   | some i => exact key i 0
 · cases hi with
   | none => simp [sliceBounds, HT.sIx]
   | some i => exact key i n
theorem slicePick_cut (its : List Value) (lo hi : Option Int) : slicePick its.toArray lo hi none = ((its.drop (HT.sIx its.length 0 lo)).take (HT.sIx its.length its.length hi - HT.sIx its.length 0 lo)).toArray := by
 obtain ⟨h1, h2, h3⟩ := slice_bounds lo hi its.toArray.size
 unfold slicePick
 rw [h1, h2, h3]
 simp only [sliceRange_one, pick_run, List.size_toArray] <;> rfl
inductive rSlL (K : PySem.W.Frag) (x : V) (lo : Option Int) (hi : Option Int) (H : Hp) (Q : VK) : Prop
 | mk (a : _) (xs : _) (h1 : x = .ref a) (h2 : SqL K H a xs) (h3 : ∀ p, H p = none → Q (.ref p) (upd H p (.lst (cutV xs lo hi)))) : rSlL K x lo hi H Q
theorem sl_list : SlR X (rSlL X.K) := by
 intro pins s σ H x v vl vu lo hi sl Q I rx hs pl pu h
 obtain ⟨a, xs, rfl, hx, q⟩ := h
 cases rx
 obtain ⟨its, r, ht, hz⟩ := I.list hx
 have hlen := r.length
 refine ⟨"list", _, slot_list_getitem.lookup, ht.isList.typeIs, ?_⟩
 refine wpAny_getItem_list_slice ht.isList hs pl pu .none (by simp) ?_ (by rw [List.size_toArray] <;> lia)
 rw [slicePick_cut, ← hlen]
 refine ⟨.ref s.heap.objs.size, _, I.laid (t' := s.toks) (o := .lst (cutV xs lo hi)) (fun b ob q => Heap.get?_push_of_some _ q) (Nat.le_refl _) ?_, rfl, q _ (I.hok.fresh (Nat.le_refl _))⟩
 exact ⟨Nat.le_trans (cutV_length xs lo hi) hz, _, 0, (r.drop (HT.sIx xs.length 0 lo)).take (HT.sIx xs.length xs.length hi - HT.sIx xs.length 0 lo), Heap.get?_push_size _ rfl⟩
def flatV : V → Bool
 | .non => true
 | .bl _ => true
 | .int _ => true
 | .str _ => true
 | _ => false
def eqV : V → V → Bool
 | .non, .non => true
 | .bl a, .bl b => a == b
 | .bl a, .int b => (if a then 1 else 0) == b
 | .int a, .bl b => a == (if b then 1 else 0)
 | .int a, .int b => a == b
 | .str a, .str b => a == b
 | _, _ => false
theorem eqAt_V {A : Around} {s : Shared} {y x : V} {u v : Value} (ry : RelV y u) (rx : RelV x v) (fy : flatV y = true) (fx : flatV x = true) : SeqAt.EqAt A s u v (eqV y x) := by
 cases y with
 | non =>
   cases ry
   cases x with
   | non => cases rx; exact SeqAt.EqAt.same _
   | bl b => cases rx; exact SeqAt.EqAt.none_bool b
   | int b => obtain ⟨t, rfl⟩ := rx; exact SeqAt.EqAt.none_int b t
   | str b => obtain ⟨t, rfl⟩ := rx; exact SeqAt.EqAt.none_str b t
   | _ => exact absurd (show false = true from fx) Bool.false_ne_true
 | bl a =>
   cases ry
   cases x with
   | non => cases rx; exact SeqAt.EqAt.bool_none a
   | bl b => cases rx; exact SeqAt.EqAt.bool_bool a b
   | int b => obtain ⟨t, rfl⟩ := rx; exact SeqAt.EqAt.bool_int a b t
   | str b => obtain ⟨t, rfl⟩ := rx; exact SeqAt.EqAt.bool_str a b t
   | _ => exact absurd (show false = true from fx) Bool.false_ne_true
 | int a =>
   obtain ⟨t', rfl⟩ := ry
   cases x with
   | non => cases rx; exact SeqAt.EqAt.int_none a t'
   | bl b => cases rx; exact SeqAt.EqAt.int_bool a t' b
   | int b => obtain ⟨t, rfl⟩ := rx; exact SeqAt.EqAt.int_int a t' b t
   | str b => obtain ⟨t, rfl⟩ := rx; exact SeqAt.EqAt.int_str a t' b t
   | _ => exact absurd (show false = true from fx) Bool.false_ne_true
 | str a =>
   obtain ⟨t', rfl⟩ := ry
   cases x with
   | non => cases rx; exact SeqAt.EqAt.str_none a t'
   | bl b => cases rx; exact SeqAt.EqAt.str_bool a t' b
   | int b => obtain ⟨t, rfl⟩ := rx; exact SeqAt.EqAt.str_int a t' b t
   | str b => obtain ⟨t, rfl⟩ := rx; exact SeqAt.EqAt.str_str a t' b t
   | _ => exact absurd (show false = true from fx) Bool.false_ne_true
 | _ => exact absurd (show false = true from fy) Bool.false_ne_true
def eqU (x : V) (u : Value) : Bool := match u with
 | .none => eqV .non x
 | .bool b => eqV (.bl b) x
 | .int i _ => eqV (.int i) x
 | .str z _ => eqV (.str z) x
 | _ => false
theorem eqU_of {x y : V} {u : Value} (r : RelV y u) (f : flatV y = true) : eqU x u = eqV y x := by
 cases y with
 | non => cases r; rfl
 | bl b => cases r; rfl
 | int i => obtain ⟨t, rfl⟩ := r; rfl
 | str z => obtain ⟨t, rfl⟩ := r; rfl
 | _ => exact absurd (show false = true from f) Bool.false_ne_true
theorem any_eqU {x : V} : ∀ {xs : List V} {us : List Value}, Vals xs us → xs.all flatV = true → us.any (eqU x) = xs.any fun y => eqV y x
 | _, _, .nil, _ => rfl
 | y :: xs, u :: us, .cons r t, f => by
   rw [List.all_cons, Bool.and_eq_true] at f
   rw [List.any_cons, List.any_cons, eqU_of r f.1, any_eqU t f.2]
theorem mem_eqAt {A : Around} {s : Shared} {x : V} {v : Value} (rx : RelV x v) (fx : flatV x = true) : ∀ {xs : List V} {us : List Value}, Vals xs us → xs.all flatV = true → ∀ u ∈ us, SeqAt.EqAt A s u v (eqU x u)
 | _, _, .nil, _ => fun u hu => by cases hu
 | y :: xs, u :: us, .cons r t, f => fun u' hu => by
   rw [List.all_cons, Bool.and_eq_true] at f
   rcases List.mem_cons.mp hu with rfl | hu
   · rw [eqU_of r f.1]; exact eqAt_V r rx f.1 fx
   · exact mem_eqAt rx fx t f.2 u' hu
def inV (x : V) (xs : List V) : Bool := xs.any fun y => eqV y x
inductive rIn (K : PySem.W.Frag) (neg : Bool) (x : V) (y : V) (H : Hp) (Q : VK) : Prop
 | mk (p : _) (xs : _) (h1 : y = .ref p) (h2 : (SqL K H p xs ∨ SqT K H p xs)) (h3 : flatV x = true) (h4 : xs.all flatV = true) (h5 : Q (.bl (if neg then !inV x xs else inV x xs)) H) : rIn K neg x y H Q
theorem op_notIn_seq : OpR X (compareOp .NotIn) (rIn X.K true) := by
 intro pins s σ H x y v u Q I rx ry h
 obtain ⟨p, xs, rfl, hq, fx, fs, q⟩ := h
 cases ry
 rcases hq with hq | hq
 · obtain ⟨its, r, pl, hz⟩ := I.list hq
   refine SeqAt.notIn_listAt (eqU x) pl.isList (fun w hw => mem_eqAt rx fx r fs w (by simpa using hw)) ⟨.bl _, H, I, rfl, ?_⟩
   rw [show its.toArray.any (eqU x) = its.any (eqU x) by simp, any_eqU r fs]
   exact q
 · obtain ⟨its, r, pl, hz⟩ := I.tuple hq
   refine SeqAt.notIn_tupleAt (eqU x) pl (fun w hw => mem_eqAt rx fx r fs w (by simpa using hw)) ⟨.bl _, H, I, rfl, ?_⟩
   rw [show its.toArray.any (eqU x) = its.any (eqU x) by simp, any_eqU r fs]
   exact q
theorem call_len_seq : CallR X (.builtin "len") (fun xs H Q => ∃ p ys, xs = [.ref p] ∧ (SqL X.K H p ys ∨ SqT X.K H p ys) ∧ Q (.int ys.length) H) := by
 intro pins s σ H xs us Q I r h
 obtain ⟨p, ys, rfl, hq, q⟩ := h
 obtain ⟨u, rfl, rx⟩ := vals1 r
 cases rx
 have hn := line63
 rcases hq with hq | hq
 · obtain ⟨its, r', pl, hz⟩ := I.list hq
   have hlen := r'.length
   exact Calls.call_len_list pl.isList (by simp only [List.size_toArray] <;> lia) ⟨.int ys.length, H, I.tok _, ⟨s.toks + 1, by rw [List.size_toArray, hlen]⟩, q⟩
 · obtain ⟨its, r', pl, hz⟩ := I.tuple hq
   have hlen := r'.length
   exact len_tuple pl (by simp only [List.size_toArray] <;> lia) ⟨.int ys.length, H, I.tok _, ⟨s.toks + 1, by rw [List.size_toArray, hlen]⟩, q⟩
theorem call_list_of : CallR X (.type "list") (fun xs H Q => ∃ p ys, xs = [.ref p] ∧ (SqL X.K H p ys ∨ SqT X.K H p ys) ∧ ∀ l, H l = none → Q (.ref l) (upd H l (.lst ys))) := by
 intro pins s σ H xs us Q I r h
 obtain ⟨p, ys, rfl, hq, q⟩ := h
 obtain ⟨u, rfl, rx⟩ := vals1 r
 cases rx
 have fin : ∀ (its : List Value), Vals ys its → ys.length ≤ sizeLine → ∀ (h' : Heap) (c' : Nat), (∀ b o', s.heap.get? b = some o' → h'.get? b = some o') →
     h'.get? s.heap.objs.size = some { cls := .type "list", dict := none, data := .seq its.toArray c', slots := #[] } → EP X pins σ Q (.ref s.heap.objs.size) { s with heap := h' } := fun its r' hz h' c' kp e =>
   ⟨.ref s.heap.objs.size, _, I.laid (t' := s.toks) kp (Nat.le_refl _) (show ObjOk X.prog X.w _ h' _ (.lst ys) from ⟨hz, its, c', r', e⟩), rfl, q _ (I.hok.fresh (Nat.le_refl _))⟩
 rcases hq with hq | hq
 · obtain ⟨its, r', pl, hz⟩ := I.list hq
   have hlen := r'.length
   obtain ⟨o, ho, hc, n, hd⟩ := pl.isList
   exact call_list_seq p (.inl rfl) ho hc hd (fun h' c' kp e => fin its r' hz h' c' kp e) (by simp only [List.size_toArray] <;> lia)
 · obtain ⟨its, r', pl, hz⟩ := I.tuple hq
   have hlen := r'.length
   obtain ⟨o, ho, hc, n, hd⟩ := pl
   exact call_list_seq p (.inr rfl) ho hc hd (fun h' c' kp e => fin its r' hz h' c' kp e) (by simp only [List.size_toArray] <;> lia)
theorem call_tuple_of : CallR X (.type "tuple") (fun xs H Q => ∃ p ys, xs = [.ref p] ∧ ((SqL X.K H p ys ∧ ∀ l, H l = none → Q (.ref l) (upd H l (.tup ys))) ∨ (SqT X.K H p ys ∧ Q (.ref p) H))) := by
 intro pins s σ H xs us Q I r h
 obtain ⟨p, ys, rfl, h⟩ := h
 obtain ⟨u, rfl, rx⟩ := vals1 r
 cases rx
 rcases h with ⟨hq, q⟩ | ⟨hq, q⟩
 · obtain ⟨its, r', pl, hz⟩ := I.list hq
   have hlen := r'.length
   refine call_tuple_list pl.isList (fun h' kp => ?_) (by simp only [List.size_toArray] <;> lia)
   have I1 : Inv X pins σ H { s with heap := h' } := I.kept (t' := s.toks) kp
   have I2 : Inv X pins σ (upd H h'.objs.size (.tup ys)) { s with heap := h'.push { cls := .type "tuple", data := .seq its.toArray } } :=
     I1.laid (t' := s.toks) (fun b o e => Heap.get?_push_of_some _ e) (Nat.le_refl _) (show ObjOk X.prog X.w _ _ _ (.tup ys) from ⟨hz, its, r', IsTup.new _ _⟩)
   exact ⟨.ref h'.objs.size, _, I2, rfl, q _ (I1.hok.fresh (Nat.le_refl _))⟩
 · obtain ⟨its, r', pl, hz⟩ := I.tuple hq
   exact call_tuple_same pl ⟨.ref p, H, I, rfl, q⟩
def tyV (K : PySem.W.Frag) (T : String) (x : V) (H : Hp) : Prop := match x with
 | .str _ => T = "str"
 | .int _ => T = "int"
 | .ref p => (T = "list" ∧ ∃ xs, SqL K H p xs) ∨ (T = "tuple" ∧ ∃ o, K.lookup p = some o ∧ o.cls = .type "tuple" ∧ o.dict = none) ∨
     (T = "dict" ∧ ((∃ kvs, H p = some (.dK kvs)) ∨ ∃ kvs, H p = some (.dT kvs))) ∨ (T = "set" ∧ ∃ S n, H p = some (.set S n))
 | _ => False
theorem tyV_is {pins : List (Addr × Obj)} {σ : St} {H : Hp} {s : Shared} {T : String} {x : V} {v : Value} (I : Inv X pins σ H s) (r : RelV x v) (ty : tyV X.K T x H) :
   s.TypeIs v T ∧ ∀ a, v = .ref a → ∃ ob, s.heap.get? a = some ob ∧ ob.dict = none := by
 cases x with
 | str z =>
   obtain ⟨t, rfl⟩ := r
   cases (show T = "str" from ty)
   exact ⟨typeIs_str s z t, fun _ e => nomatch e⟩
 | int i =>
   obtain ⟨t, rfl⟩ := r
   cases (show T = "int" from ty)
   exact ⟨typeIs_int s i t, fun _ e => nomatch e⟩
 | ref p =>
   cases r
   rcases ty with ⟨rfl, xs, hq⟩ | ⟨rfl, o, hk, hc, hd⟩ | ⟨rfl, hk⟩ | ⟨rfl, S, n, hk⟩
   · obtain ⟨its, _, pl, _⟩ := I.list hq
     refine ⟨pl.isList.typeIs, fun a e => ?_⟩
     cases e
     obtain ⟨o, n, e, c, hd, _⟩ := pl
     exact ⟨o, e, hd⟩
   · refine ⟨⟨o, I.kIn p o hk, hc⟩, fun a e => ?_⟩
     cases e
     exact ⟨o, I.kIn _ o hk, hd⟩
   · have z : ∃ o, s.heap.get? p = some o ∧ o.ExactDict := by
       rcases hk with ⟨kvs, hk⟩ | ⟨kvs, hk⟩
       · obtain ⟨_, _, _, _, o, _, _, e, ex, _⟩ := I.hok p _ hk
         exact ⟨o, e, ex⟩
       · obtain ⟨_, _, _, _, o, _, _, e, ex, _⟩ := I.hok p _ hk
         exact ⟨o, e, ex⟩
     obtain ⟨o, e, ex⟩ := z
     refine ⟨⟨o, e, ex.1⟩, fun a e2 => ?_⟩
     cases e2
     exact ⟨o, e, ex.2.1⟩
   · obtain ⟨o, _, _, _, e, ex, _⟩ := I.hok p _ hk
     refine ⟨⟨o, e, ex.1⟩, fun a e2 => ?_⟩
     cases e2
     exact ⟨o, e, ex.2.1⟩
 | _ => exact False.elim ty
def tBM (K : PySem.W.Frag) (T : String) (r : V → List V → Hp → VK → Prop) (to : TE) (t : TA) : TE := fun σ H Q => to σ H fun x H1 => tyV K T x H1 ∧ t σ H1 fun xs H2 => r x xs H2 Q
variable {o e : Expr} {es : List Expr} {to : TE} {t : TA} {name : Str} {apos cpos : Pos} {T id : String} {r : V → List V → Hp → VK → Prop}
theorem pe_bm (pa : PlainAttrs T) (slot : Slot T name id) (hty : typeOf (.builtin id) = pure (.type "method_descriptor")) (hm : MtR X id r) (ho : PE X o to) (ha : PA X (e :: es) t)
   (hbase : attributeBase o name X.env (eval o X.env) = eval o X.env := by rfl)
   (hfew : ((backTo cpos (starEach (e :: es) X.env)).all (fun x => !x.1) && (backToKw cpos (keywordEach [] X.env)).all (fun x => x.1.isSome)
     && decide ((e :: es).length + ([] : List Keyword).length + (if ([] : List Keyword).isEmpty then 0 else 1) < 30)) = true := by rfl)
   (hline : (apos.endLine == cpos.line) = true := by rfl) (hs : starEach (e :: es) X.env = (false, eval e X.env) :: starEach es X.env := by rfl) (hplain : (backTo cpos (starEach es X.env)).any (·.1) = false := by rfl) {K : PySem.W.Frag} (eK : X.K = K := by rfl) :
   PE X (.Call (.Attribute o name apos) (e :: es) [] cpos) (tBM K T r to t) := by
 subst eK
 intro pins s σ H Q I h
 refine wpAny_Call_method_late hbase hfew hline rfl (thn (ho pins s σ H _ I h) fun v s1 ⟨x, H1, I1, r1, ty, q1⟩ => ?_)
 obtain ⟨h1, h2⟩ := tyV_is I1 r1 ty
 refine ⟨T, id, pa, slot, hty, h1, h2, ?_⟩
 have hA := ha cpos pins s1 σ H1 _ I1 q1
 rw [hs] at hA ⊢
 refine Calls.callWith_builtin (by show (false || (backTo cpos (starEach es X.env)).any (·.1)) = false; rw [hplain] <;> rfl) (Calls.evalArgs_plain ?_)
 exact thn hA fun us s2 ⟨vs, H2, I2, r2, q2⟩ => hm pins s2 σ H2 x vs v us Q I2 r1 r2 q2
end
end L2
namespace L2
open PySem PySem.Spec PyProof.Rows
def MtM (X : Cx) (id : String) (r : V → List V → Hp → VK → Prop) : Prop :=
 ∀ (pins : List (Addr × Obj)) (s : Shared) (σ : St) (H : Hp) (x : V) (xs : List V) (v : Value) (us : List Value) (Q : VK), Inv X pins σ H s → RelV x v → Vals xs us → r x xs H Q →
   wpAny (model X.prog X.w) X.A (call (.builtin id) (v :: us)) (EP X pins σ Q) X.xe s
theorem Vals.one {x : V} {us : List Value} (h : Vals [x] us) : ∃ u, us = [u] ∧ RelV x u := by
 cases h with
 | cons r t => cases t; exact ⟨_, rfl, r⟩
theorem Vals.rep {xs : List V} {us : List Value} (h : Vals xs us) : ∀ k : Nat, Vals (List.replicate k xs).flatten (List.replicate k us).flatten
 | 0 => .nil
 | k + 1 => by
   rw [List.replicate_succ, List.replicate_succ, List.flatten_cons, List.flatten_cons]
   exact Vals.append h (Vals.rep h k)
theorem foldl_rep (its : List Value) : ∀ (k : Nat) (acc : List Value),
   List.foldl (fun x1 x2 => x1 ++ x2) acc.toArray (List.replicate k its.toArray) = (acc ++ (List.replicate k its).flatten).toArray
 | 0, acc => by simp
 | k + 1, acc => by
   have e : acc.toArray ++ its.toArray = (acc ++ its).toArray := by simp
   have e2 : (acc ++ its) ++ (List.replicate k its).flatten = acc ++ (List.replicate (k + 1) its).flatten := by
     rw [List.replicate_succ, List.flatten_cons, List.append_assoc]
   rw [← e2, ← foldl_rep its k (acc ++ its), ← e, List.replicate_succ, List.foldl_cons]
section
variable {X : Cx} {pins : List (Addr × Obj)} {σ : St} {H : Hp} {s : Shared} {l b : Addr} {xs ys zs : List V}
theorem Inv.lset {its its' : List Value} {n : Nat} {f : Array Value → Array Value} {t' : Nat} (I : Inv X pins σ H s) (hH : H l = some (.lst xs))
   (e : s.heap.get? l = some { cls := .type "list", data := .seq its.toArray n }) (hf : f its.toArray = its'.toArray) (hv : Vals ys its') (hz : ys.length ≤ sizeLine) :
   Inv X pins σ (upd H l (.lst ys)) { s with heap := s.heap.update l (Obj.mapSeq f), toks := t' } := by
 have q := PySem.IsL.update e f
 rw [hf] at q
 refine I.write (x := l) (e := l) (by rw [hH]; exact trivial) (.inl rfl) (fun b' u hb hu => (Heap.get?_update_other s.heap (Obj.mapSeq f) (Ne.symm hb)).trans hu) ⟨_, q⟩ ?_
 exact ⟨hz, its', _, hv, q⟩
theorem Inv.lnew {its : List Value} {t' : Nat} (I : Inv X pins σ H s) (hv : Vals ys its) (hz : ys.length ≤ sizeLine) :
   Inv X pins σ (upd H s.heap.objs.size (.lst ys)) { s with heap := s.heap.push { cls := .type "list", data := .seq its.toArray }, toks := t' } :=
 I.laid (fun _ _ q => Heap.get?_push_of_some _ q) (Nat.le_refl _) ⟨hz, its, 0, hv, Heap.get?_push_size _ rfl⟩
theorem Inv.fresh (I : Inv X pins σ H s) : H s.heap.objs.size = none := I.hok.fresh (Nat.le_refl _)
theorem Inv.lstM (I : Inv X pins σ H s) (hH : H l = some (.lst xs)) : xs.length ≤ sizeLine ∧ ∃ (its : List Value) (n : Nat), Vals xs its ∧ xs.length = its.length ∧ s.heap.get? l = some { cls := .type "list", data := .seq its.toArray n } := by
 obtain ⟨z, its, n, r, e⟩ := I.hok l _ hH
 exact ⟨z, its, n, r, r.length, e⟩
theorem notLongL {n : Nat} (h : n ≤ sizeLine) : Builtin.List.listTooLong n = false := by
 unfold Builtin.List.listTooLong
 exact decide_eq_false (by lia)
end
section
variable {X : Cx}
inductive rAppend (x : V) (vs : List V) (H : Hp) (Q : VK) : Prop
 | mk (l : _) (xs : _) (y : _) (h1 : x = .ref l) (h2 : vs = [y]) (h3 : H l = some (.lst xs)) (h4 : xs.length < sizeLine) (h5 : Q .non (upd H l (.lst (xs ++ [y])))) : rAppend x vs H Q
theorem mt_append : MtM X "list.append" rAppend := by
 intro pins s σ H x vs v us Q I rx rv h
 obtain ⟨l, xs, y, rfl, rfl, hH, hz, q⟩ := h
 cases rx
 obtain ⟨u, rfl, ru⟩ := rv.one
 obtain ⟨z, its, n, r, hl, e⟩ := I.lstM hH
 refine call_meets F.slot_list_append ⟨_, e, rfl⟩ F.entry_list_append (F.args_list_append_2 _ _) (PySem.list_append l its.toArray n u (by rw [List.size_toArray]; lia)) ⟨e, ?_⟩
 refine ⟨.non, _, I.lset (its' := its ++ [u]) hH e (by simp) (r.append (.cons ru .nil)) ?_, rfl, q⟩
 rw [List.length_append, List.length_singleton]
 lia
inductive rExtend (x : V) (vs : List V) (H : Hp) (Q : VK) : Prop
 | mk (l : _) (b : _) (xs : _) (zs : _) (h1 : x = .ref l) (h2 : vs = [.ref b]) (h3 : H l = some (.lst xs)) (h4 : H b = some (.lst zs)) (h5 : xs.length + zs.length ≤ sizeLine) (h6 : Q .non (upd H l (.lst (xs ++ zs)))) : rExtend x vs H Q
theorem mt_extend : MtM X "list.extend" rExtend := by
 intro pins s σ H x vs v us Q I rx rv h
 obtain ⟨l, b, xs, zs, rfl, rfl, hH, hB, hz, q⟩ := h
 cases rx
 obtain ⟨u, rfl, ru⟩ := rv.one
 cases ru
 obtain ⟨z, its, n, r, hl, e⟩ := I.lstM hH
 obtain ⟨z2, its2, n2, r2, hl2, e2⟩ := I.lstM hB
 have hsz : its.toArray.size + its2.toArray.size ≤ sizeLine := by rw [List.size_toArray, List.size_toArray]; lia
 have hlong : ¬ (!its.toArray.isEmpty && Builtin.List.listTooLong (its.toArray.size + its2.toArray.size)) = true := by
   rw [notLongL hsz, Bool.and_false]
   exact Bool.false_ne_true
 refine call_meets F.slot_list_extend ⟨_, e, rfl⟩ F.entry_list_extend (F.args_list_extend_2 _ _)
   (AutoSeq1.list_extend_list_list_0 l its.toArray n b its2.toArray n2 hlong (by rw [List.size_toArray]; lia) (by lia)) ⟨e, e2, ?_⟩
 refine ⟨.non, _, I.lset (its' := its ++ its2) hH e (by simp) (r.append r2) ?_, rfl, q⟩
 rw [List.length_append]
 lia
inductive rCat (x : V) (y : V) (H : Hp) (Q : VK) : Prop
 | mk (l : _) (b : _) (xs : _) (zs : _) (h1 : x = .ref l) (h2 : y = .ref b) (h3 : H l = some (.lst xs)) (h4 : H b = some (.lst zs)) (h5 : xs.length + zs.length ≤ sizeLine) (h6 : ∀ p, H p = none → Q (.ref p) (upd H p (.lst (xs ++ zs)))) : rCat x y H Q
theorem op_cat : OpR X (binaryOp .Add) rCat := by
 intro pins s σ H x y v u Q I rx ry h
 obtain ⟨l, b, xs, zs, rfl, rfl, hH, hB, hz, q⟩ := h
 cases rx
 cases ry
 obtain ⟨z, its, n, r, hl, e⟩ := I.lstM hH
 obtain ⟨z2, its2, n2, r2, hl2, e2⟩ := I.lstM hB
 refine PySem.P.add_list e e2 ?_ (by rw [List.size_toArray, List.size_toArray]; lia)
 have ea : its.toArray ++ its2.toArray = (its ++ its2).toArray := by simp
 rw [ea]
 exact ⟨.ref _, _, I.lnew (t' := s.toks) (r.append r2) (by rw [List.length_append]; lia), rfl, q _ I.fresh⟩
inductive rRep (x : V) (y : V) (H : Hp) (Q : VK) : Prop
 | mk (l : _) (k : _) (xs : _) (h1 : x = .ref l) (h2 : y = .int k) (h3 : H l = some (.lst xs)) (h4 : -(2 ^ 63) ≤ k) (h5 : k < 2 ^ 63) (h6 : xs.length * k.toNat ≤ sizeLine) (h7 : ∀ p, H p = none → Q (.ref p) (upd H p (.lst (List.replicate k.toNat xs).flatten))) : rRep x y H Q
theorem len_rep {α : Type} (xs : List α) (k : Nat) : (List.replicate k xs).flatten.length = k * xs.length := by
 induction k with
 | zero => simp
 | succ k ih => rw [List.replicate_succ, List.flatten_cons, List.length_append, ih, Nat.succ_mul, Nat.add_comm]
theorem op_rep : OpR X (binaryOp .Mult) rRep := by
 intro pins s σ H x y v u Q I rx ry h
 obtain ⟨l, k, xs, rfl, rfl, hH, h1, h2, hz, q⟩ := h
 cases rx
 obtain ⟨t, rfl⟩ := ry
 obtain ⟨z, its, n, r, hl, e⟩ := I.lstM hH
 have hlen : its.toArray.size * k.toNat ≤ sizeLine := by rw [List.size_toArray, ← hl]; exact hz
 have hcap : ¬ its.toArray.size * k.toNat > (2 ^ 63 - 1) / 8 := by
   have : (sizeLine : Nat) ≤ (2 ^ 63 - 1) / 8 := by decide
   lia
 have hfit : ¬ (!Builtin.List.listFitsIndex k) = true := by
   rw [fitsIndex_both h1 h2]
   exact Bool.false_ne_true
 have hlong : ¬ Builtin.List.listTooLong (its.toArray.size * k.toNat) = true := by
   rw [notLongL hlen]
   exact Bool.false_ne_true
 have hnew : List.foldl (fun x1 x2 => x1 ++ x2) #[] (List.replicate (if its.toArray.isEmpty = true then 0 else k.toNat) its.toArray) = (List.replicate k.toNat its).flatten.toArray := by
   have f0 : ∀ m : Nat, List.foldl (fun x1 x2 => x1 ++ x2) #[] (List.replicate m its.toArray) = (List.replicate m its).flatten.toArray := fun m => by
     have := foldl_rep its m []
     rw [List.nil_append] at this
     exact this
   rw [f0]
   cases its with
   | nil => simp
   | cons a r' => rw [if_neg (by simp)]
 refine wpAny_binaryOp_repeat_ref (T := "list") (U := "int") (by decide) ⟨_, e, rfl⟩ (fun s' => typeIs_int s' k t) noFill_list_mul F.fills_int_mul F.slot_int_rmul repeat_list F.slot_int_index.lookup
   (call_meets F.slot_int_rmul (typeIs_int s k t) F.entry_int_rmul (F.args_int_rmul_2 _ _) (int___rmul___int_list k t l its.toArray n)
     ⟨e, rfl, ⟨_, e, rfl⟩, call_meets F.slot_list_mul ⟨_, e, rfl⟩ F.entry_list_mul (F.args_list_mul_2 _ _) (AutoListH.list___mul___list_int_3 l its.toArray n k t hfit hcap hlong) ⟨e, ?_⟩⟩)
 rw [hnew]
 exact ⟨.ref _, _, I.lnew (t' := s.toks) (r.rep k.toNat) (by rw [len_rep, Nat.mul_comm]; exact hz), rfl, q _ I.fresh⟩
end
section
variable {prog : Program} {w : World} {A : Around} {E : Value → Shared → Prop} {s : Shared}
set_option maxRecDepth 100000 in
end
section
variable {X : Cx}
end
end L2
namespace Att
open PySem PySem.W PySem.Calls PyProof.Rows
theorem ints_of_wellAll {P : Params} {h : Heap} : ∀ (ns : List Int) (vs : List Value), WellAll P h vs (ns.map WData.int) → IntsAre vs ns := by
 intro ns
 induction ns with
 | nil =>
   intro vs w
   rw [List.map_nil] at w
   cases w
   exact .nil
 | cons n ns ih =>
   intro vs w
   rw [List.map_cons] at w
   cases w with
   | cons a b =>
     cases a
     exact .cons _ _ (ih _ b)
theorem script_of {l : OpenLaw} {n : Nat} (hn : l.most = some n) {P : Params} {h : Heap} {args : List WData} {vals : List Value}
   (hpre : l.row.toRowW.claim.pre args = true) (hwl : WellAll P h vals args) :
   ∃ a vs ns, vals = [Value.ref a] ∧ args = [WData.list (ns.map WData.int)] ∧ h.get? a = some { cls := .type "list", data := .seq vs.toArray } ∧ IntsAre vs ns ∧ ns.length ≤ n := by
 have hsh : WShape.hasAll [] args [.list .int] = true := (pre_splitW hpre).1
 have hc : l.pre.holds [] { args := args } = true := (pre_splitW hpre).2
 obtain ⟨d, r, rfl, h1, h2⟩ := hasAllW_cons hsh
 obtain rfl := hasAllW_nil h2
 obtain ⟨xs, rfl, h3⟩ := hasW_list h1
 obtain ⟨ns, rfl⟩ := items_int h3
 have hlen : ns.length ≤ n := by
   unfold OpenLaw.pre at hc
   have h4 : (WTm.not (.lt (.lit (.int (n : Int))) (.len (.arg 0)))).holds [] { args := [.list (ns.map .int)] } = true := by
     have h4 := (holds_andW hc).1
     rw [hn] at h4
     exact h4
   have h5 := condW_of h4 (w_not (w_lt w_lit (w_len_list (w_arg rfl))))
   rw [List.length_map] at h5
   refine Nat.le_of_not_lt fun q => ?_
   have q' : (n : Int) < ((ns.length : Nat) : Int) := by lia
   first
     | (rw [decide_eq_true q'] at h5; exact absurd h5 (by decide))
     | (simp at h5; lia)
 cases hwl with
 | cons w1 w2 =>
   cases w2
   cases w1 with
   | list ho hall => exact ⟨_, _, ns, rfl, rfl, ho, ints_of_wellAll ns _ hall, hlen⟩
theorem post_true (l : OpenLaw) (args : List WData) : l.row.toRowW.claim.post args (.bool true) args = true :=
 postW_of (r := l.row.toRowW) (X := (true == true))
   (show WShape.has [] (.bool true) .bool = true by first | rfl | decide | simp [WShape.has, WShape.arms, WShape.armsAll])
   (show (WTm.eq .res (.lit (.bool true))).value [] { args := args, res := some (.bool true), after := args } = some (.bool (true == true)) from w_eq_bool (w_res rfl) w_lit) rfl
theorem attach_call {l : OpenLaw} {n : Nat} {q : Program} {loose : List Str} {XP : (Str → Option Value) → Heap → Prop} {YP : World → Heap → Prop} {d : DefRec}
   (hn : l.most = some n) (hdf : d.params.defaults = [])
   (call : ∀ (w : World) (s₀ s₁ : Shared) (mg mb : Str → Option Value) (fa : Addr) (o : Obj) (pm cd doc : Value) (a : Addr) (vs : List Value) (ns : List Int),
     Ground q loose [] XP w s₀ mg mb s₁.heap → YP w s₁.heap →
     s₁.heap.get? fa = some o → o.data = .func (docDef d.name d.params d.body d.scope pm cd doc) → s₁.heap.CodeRec cd d.name → mg d.name = some (.ref fa) →
     s₁.heap.get? a = some { cls := .type "list", data := .seq vs.toArray } → IntsAre vs ns → ns.length ≤ n → s₁.gens = #[] →
     codeAny (model l.prog w) callerA (.call (.ref fa) ⟨[.ref a], []⟩) (fun r s' => r = .ok (.ret (.bool true)) ∧ OldK s₁.heap s'.heap ∧ s'.os = s₁.os ∧ AllBare s'.gens) s₁) :
   WalkO q loose XP YP l.row.toRowW d [] (fun f vs => PySem.call f vs) := by
 intro w s₀ s₁ mg mb G Y fa o pm cd doc dV kV ho hd hcd hD hmg hg args vals as hpre hlay hrd hwl hlo
 obtain rfl : dV = .none := Dflts.none hD hdf
 obtain rfl : kV = .none := Dflts.noKw hD
 obtain ⟨a, vs, ns, rfl, rfl, hobj, hints, hlen⟩ := script_of hn hpre hwl
 refine enter_call (codeAny_mono (call w s₀ s₁ mg mb fa o pm cd doc a vs ns G Y ho (fd_plain hd) hcd hmg hobj hints hlen hg) fun r s' hq => ?_)
 obtain ⟨rfl, h2, h3, h4⟩ := hq
 exact ⟨.inl ⟨.bool true, .bool true, [], rfl, fun _ => rfl, .bool true, post_true l _, fun _ => ⟨List.Pairwise.nil, fun _ hm => (nomatch hm)⟩⟩, h2, h3, h4⟩
section
variable {prog : Program} {w : World} {A : Around} {E : Value → Shared → Prop} {s : Shared} {K : Frag}
end
end Att
namespace L2
open PySem PySem.Spec PyProof.Rows
theorem vals_ints {vs : List Value} {ns : List Int} (h : IntsAre vs ns) : Vals (ns.map V.int) vs := by
 induction h with
 | nil => exact .nil
 | cons n t h ih => exact .cons ⟨t, rfl⟩ ih
def Only (H : Hp) : Prop := ∀ b, H b = none ∨ ∃ o xs, H b = some (.frz o (.lst xs))
theorem law_call {P : Program} {w : World} {K : PySem.W.Frag} {mg mb : Str → Option Value} {CX : CXT} {k : Nat} {fa a : Addr} {fd : FuncData} {x : Str} {sp : Sp} {s₁ : Shared} {vs : List Value} {ns : List Int}
   (KX : K.In s₁.heap) (hns : s₁.heap.Ns mainGlobals mg) (hb : s₁.heap.Ns builtinsNs mb) (hbb : ∀ x : Str, x ≠ "__name__" → mb x = bootBuiltins x) (hlim : s₁.heap.NoLimit) (hsee : s₁.heap.NoSeer) (hg : s₁.gens = #[])
   (ha : s₁.heap.get? a = some { cls := .type "list", data := .seq vs.toArray }) (hi : IntsAre vs ns) (hl : ns.length ≤ sizeLine) (hr : Room k callerA)
   (F : ∀ base : Heap, K.In base → base.Ns mainGlobals mg → FnOk P w K mg base CX k fa fd [x] sp) (hbind : ∀ (s : Shared) (u : Value), BindsTo s fd ⟨[u], []⟩ [(x, u)])
   (hsp : ∀ H : Hp, Only H → SqL K H a (ns.map V.int) → sp [.ref a] H (fun v _ => v = .bl true) fun _ _ _ => False)
   (hCX : ∀ H e s', CX [] H s₁ (fun _ _ _ => False) e s' → False) :
   codeAny (model P w) callerA (.call (.ref fa) ⟨[.ref a], []⟩) (fun r s' => r = .ok (.ret (.bool true)) ∧ OldK s₁.heap s'.heap ∧ s'.os = s₁.os ∧ AllBare s'.gens) s₁ := by
 have rv := vals_ints hi
 have lenV := hi.length
 -- from an abstract heap in which nothing but the script may be tracked
 have core : ∀ H : Hp, Only H → SqL K H a (ns.map V.int) → HOk P w H s₁.heap → (∀ b, H b ≠ none → b = a) → (H a ≠ none → K.lookup a = none) →
     codeAny (model P w) callerA (.call (.ref fa) ⟨[.ref a], []⟩) (fun r s' => r = .ok (.ret (.bool true)) ∧ OldK s₁.heap s'.heap ∧ s'.os = s₁.os ∧ AllBare s'.gens) s₁ := by
   intro H hO hS hok hA hK
   have base_of : ∀ {b : Addr} {o : Obj}, s₁.heap.get? b = some o → H b = none → (hidT s₁.heap H).get? b = some o := fun e n => hidT_get e n
   have noA : ∀ {b : Addr} {o : Obj} {es : Array DictEntry} {ep : Nat}, s₁.heap.get? b = some o → o.data = .dict es ep → H b = none := fun {b o es ep} e d => by
     cases q : H b with
     | none => rfl
     | some u =>
       have e' : b = a := hA b (by rw [q]; simp)
       subst e'
       rw [ha] at e; cases e
       have d' : Data.seq vs.toArray _ = Data.dict es ep := d
       cases d'
   have nsK : ∀ {b : Addr} {m : Str → Option Value}, s₁.heap.Ns b m → (hidT s₁.heap H).Ns b m := fun {b m} ⟨o, es, ep, e, d, r⟩ => ⟨o, es, ep, base_of e (noA e d), d, r⟩
   have hKb : K.In (hidT s₁.heap H) := fun b o e => base_of (KX b o e) (by
     cases q : H b with
     | none => rfl
     | some u =>
       have e' : b = a := hA b (by rw [q]; simp)
       subst e'
       rw [hK (by rw [q]; simp)] at e; cases e)
   have seerK : (hidT s₁.heap H).NoSeer := ⟨let ⟨mc, x, y⟩ := hsee.statics; ⟨mc, nsK x, y⟩, let ⟨mm, x, y⟩ := hsee.mods; ⟨mm, nsK x, y⟩, let ⟨mi, x, y⟩ := hsee.imp; ⟨mi, nsK x, y⟩, by
     obtain ⟨mg', bm, ob, x, y, z, u, v⟩ := hsee.main
     refine ⟨mg', bm, ob, nsK x, y, base_of z ?_, u, v⟩
     cases q : H bm with
     | none => rfl
     | some o =>
       have e' : bm = a := hA bm (by rw [q]; simp)
       subst e'
       rw [ha] at z
       cases z
       have u' : Value.type "list" = Value.type "module" := u
       exact absurd u' (by decide)⟩
   have hM : Mod K mg (hidT s₁.heap H) := ⟨hKb, nsK hns, ⟨mb, nsK hb, hbb⟩, let ⟨mc, h1, h2⟩ := hlim; ⟨mc, nsK h1, h2⟩, seerK⟩
   have e0 : Env0 P w K mg (hidT s₁.heap H) callerA [] s₁ H := ⟨rfl, hM, fun b o e => of_hidT e, Nat.le_of_eq (hidT_size _ _), trivial, fun b hb => absurd (show b ∈ ([] : List Addr) from hb) (by simp), hok, .of_eq hg⟩
   refine codeAny_mono ((F _ hKb (nsK hns)).run callerA [] s₁ H ⟨[.ref a], []⟩ [.ref a] [.ref a] _ _ hr e0 (hbind s₁ (.ref a)) (.cons rfl .nil) (hsp H hO hS)) fun r s' h => ?_
   cases r with
   | error e => exact (hCX H e s' h).elim
   | ok fl =>
     cases fl with
     | next => exact False.elim h
     | brk => exact False.elim h
     | cont => exact False.elim h
     | ret u =>
       obtain ⟨v, H', os, bare, un, hok', r', q⟩ := h
       have q' : v = .bl true := q
       subst q'
       obtain rfl : u = Value.bool true := r'
       refine ⟨rfl, OldK.of_keep fun b o e => ?_, os, bare⟩
       cases q : H b with
       | none => exact un.keep b o e q (by intro z; exact absurd (show b ∈ ([] : List Addr) from z) (by simp)) (by simp)
       | some u =>
         rcases hO b with z | ⟨ob, xs, z⟩
         · rw [q] at z; cases z
         · have z2 := un.frzs b ob _ z
           obtain ⟨e1, _⟩ := hok b _ z
           obtain ⟨e2, _⟩ := hok' b _ z2
           rw [e] at e1; cases e1
           exact e2
 cases hk : K.lookup a with
 | some o =>
   -- the script is one of the module's own objects
   have e := KX a o hk
   rw [ha] at e
   cases e
   refine core (fun _ => none) (fun _ => .inl rfl) (.inr ⟨_, vs.toArray, _, hk, rfl, rfl, rfl, by rw [List.size_toArray, lenV]; exact hl, by simpa using rv⟩) (fun b u z => by have z' : (none : Option HO) = some u := z; cases z') (fun b z => absurd rfl z) fun z => absurd rfl z
 | none =>
   refine core (fun b => if b = a then some (.frz { cls := .type "list", data := .seq vs.toArray } (.lst (ns.map V.int))) else none) (fun b => ?_) (.inl (.inr ⟨{ cls := .type "list", data := .seq vs.toArray }, if_pos rfl⟩)) (fun b u z => ?_) (fun b z => ?_) fun _ => hk
   · by_cases hb : b = a
     · exact .inr ⟨_, _, if_pos hb⟩
     · exact .inl (if_neg hb)
   · by_cases hb : b = a
     · have z' := (if_pos hb).symm.trans z
       cases z'
       subst hb
       exact ⟨ha, by rw [List.length_map]; exact hl, vs, _, rv, ha⟩
     · have z' := (if_neg hb).symm.trans z
       cases z'
   · by_cases hb : b = a
     · exact hb
     · exact absurd (if_neg hb) z
end L2
namespace L2
open PySem PySem.Spec PyProof.Rows
theorem walk_of {l : PySem.W.OpenLaw} {n k : Nat} {q : Program} {loose : List Str} {XP : (Str → Option Value) → Heap → Prop} {YP : World → Heap → Prop} {d : DefRec} {K : Params → PySem.W.Frag} {CX : World → CXT} {sp : World → Sp} {x : Str}
   (hI : importsNone q = true) (hn : l.most = some n) (hn2 : n ≤ sizeLine) (hdf : d.params.defaults = []) (hr : Room k callerA)
   (hY : ∀ (w : World) (h : Heap), YP w h → (K w.params).In h)
   (F : ∀ (w : World) (mg : Str → Option Value) (fa : Addr) (h : Heap), (K w.params).In h → h.Ns mainGlobals mg → mg d.name = some (.ref fa) →
     ∃ fd : FuncData, (∀ (s : Shared) (u : Value), BindsTo s fd ⟨[u], []⟩ [(x, u)]) ∧
       ∀ base : Heap, (K w.params).In base → base.Ns mainGlobals mg → FnOk l.prog w (K w.params) mg base (CX w) k fa fd [x] (sp w))
   (hsp : ∀ (w : World) (H : Hp) (a : Addr) (ns : List Int), ns.length ≤ n → Only H → SqL (K w.params) H a (ns.map V.int) → sp w [.ref a] H (fun v _ => v = .bl true) fun _ _ _ => False)
   (hCX : ∀ (w : World) (H : Hp) (s : Shared) (e : Value) (s' : Shared), CX w [] H s (fun _ _ _ => False) e s' → False) :
   PySem.W.WalkO q loose XP YP l.row.toRowW d [] (fun f vs => PySem.call f vs) := by
 refine Att.attach_call hn hdf fun w s₀ s₁ mg mb fa o pm cd doc a vs ns G Y ho hd hcd hmg hobj hints hlen hg => ?_
 have KX := hY w _ Y
 obtain ⟨fd, hb, hF⟩ := F w mg fa _ KX G.T.g hmg
 exact law_call KX G.T.g G.T.b G.T.builtins G.T.nolimit (G.T.seer hI) hg hobj hints (Nat.le_trans hlen hn2) hr hF hb (fun H hO hS => hsp w H a ns hlen hO hS) fun H e s' => hCX w H s₁ e s'
end L2
namespace L2
open PySem PySem.Spec PyProof.Rows
def defArgs (s : Stmt) : Arguments := match s with
 | .FunctionDef _ a _ _ _ _ _ _ _ _ => a
 | _ => { posonlyargs := [], args := [], vararg := none, kwonlyargs := [], kw_defaults := [], kwarg := none, defaults := [] }
def defBody (s : Stmt) : List Stmt := match s with
 | .FunctionDef _ _ b _ _ _ _ _ _ _ => b
 | _ => []
def defScope (s : Stmt) : Scope := match s with
 | .FunctionDef _ _ _ _ _ _ sc _ _ _ => sc
 | _ => { kind := .function, names := [], isGenerator := false, isCoroutine := false }
abbrev CX0 : CXT := fun _ _ _ _ _ _ => False
abbrev E0 : XK := fun _ _ _ => False
theorem pass0 {X : Cx} : Passes CX0 X E0 := fun _ _ _ _ _ _ _ h => h.elim
structure Fun (K : PySem.W.Frag) (x qual : Str) (st : Stmt) (f : Addr) (fd : FuncData) : Prop where
 ex : ∃ (oc : Value) (od : Option Addr) (kV doc pm : Value) (an : Option Addr) (cdv ct : Value) (osl : Array (Option Value)),
   fd = PySem.W.fnOf x qual (defArgs st) (defBody st) (defScope st) .none kV doc pm an cdv ct ∧ K.lookup f = some ⟨oc, od, .func fd, osl⟩ ∧ PySem.W.codeIn K cdv qual = true
 kp : PySem.W.keepIn K (.ref f) = true
section
variable {P : Program} {w : World} {K : PySem.W.Frag} {mg : Str → Option Value} {base : Heap}
theorem Fun.ok {x qual : Str} {st : Stmt} {f : Addr} {fd : FuncData} {N ps : List Str} {k : Nat} {sp : Sp} (F : Fun K x qual st f fd) (S : FnScope N ps (defScope st)) (len : ∀ vs H Q E, sp vs H Q E → vs.length = ps.length)
   (hbody : ∀ (cdv : Value) (A : Around) (outer : List Env) (s : Shared) (H : Hp) (vs : List V) (Q : VK) (E : XK), Room k (A.deeper (envOfC qual (defScope st) s.heap.objs.size f cdv)) → sp vs H Q E →
     ∃ t, PSs (cxOf CX0 P w K mg base N qual (defScope st) f cdv A outer s H E).nox (defBody st) t ∧ t { nx := fun _ H' => Q .non H', rt := Q } (start N vs) H) : FnOk P w K mg base CX0 (k + 1) f fd ps sp := by
 obtain ⟨oc, od, kV, doc, pm, an, cdv, ct, osl, rfl, lk, hcd⟩ := F.ex
 refine fn_of lk hcd S len fun A outer s H vs Q E hr hsp => ?_
 obtain ⟨t, h, q⟩ := hbody cdv A outer s H vs Q E hr hsp
 exact ⟨t, h.nox, q⟩
theorem Fun.binds {x qual : Str} {st : Stmt} {f : Addr} {fd : FuncData} {ps : List Str} (F : Fun K x qual st f fd)
   (h : ∀ (kV doc pm : Value) (an : Option Addr) (cdv ct : Value) (us : List Value), us.length = ps.length → bindArgs (PySem.W.fnOf x qual (defArgs st) (defBody st) (defScope st) .none kV doc pm an cdv ct) ⟨us, []⟩ = pure (ps.zip us)) : Binds K fd ps [] := by
 obtain ⟨oc, od, kV, doc, pm, an, cdv, ct, osl, rfl, lk, hcd⟩ := F.ex
 exact .all (h kV doc pm an cdv ct)
theorem fun_mk {x qual : Str} {st : Stmt} {f : Addr} {oc : Value} {od an : Option Addr} {osl : Array (Option Value)} {kV doc pm cdv ct : Value} (l : K.lookup f = some ⟨oc, od, .func (PySem.W.fnOf x qual (defArgs st) (defBody st) (defScope st) .none kV doc pm an cdv ct), osl⟩)
   (c : PySem.W.codeIn K cdv qual = true) (k : PySem.W.keepIn K (.ref f) = true) : Fun K x qual st f (PySem.W.fnOf x qual (defArgs st) (defBody st) (defScope st) .none kV doc pm an cdv ct) := ⟨⟨oc, od, kV, doc, pm, an, cdv, ct, osl, rfl, l, c⟩, k⟩
end
theorem small1000 {n : Nat} (h : n ≤ 1000) : n < sizeLine := Nat.lt_of_le_of_lt h (by decide)
section
variable {X : Cx}
theorem pv (i : Nat) {x : Str} {pos : Pos} (hN : X.N[i]? = some x := by rfl) (hv : Vis X.env.scope x := by first | exact Or.inl rfl | exact Or.inr (Or.inl rfl) | exact Or.inr (Or.inr rfl)) (hd : (x == ("__debug__" : Str)) = false := by decide)
   (hcd : (x == ("__classdict__" : Str)) = false := by decide) : PE X (.Name x pos) (tVar i) := pe_var hN hv hd hcd
end
theorem iteF {A B : Prop} (h : B) : if false = true then A else B := by
 rw [if_neg Bool.false_ne_true]
 exact h
theorem iteT {A B : Prop} (h : A) : if true = true then A else B := by
 rw [if_pos rfl]
 exact h
theorem ite2 {c A B : Prop} [Decidable c] (h1 : c → A) (h2 : ¬ c → B) : if c then A else B := by
 by_cases h : c
 · rw [if_pos h]
   exact h1 h
 · rw [if_neg h]
   exact h2 h
def Same (H H' : Hp) : Prop := ∀ b o, H b = some o → H' b = some o
theorem Same.refl (H : Hp) : Same H H := fun _ _ h => h
theorem Same.trans {H H1 H2 : Hp} (a : Same H H1) (b : Same H1 H2) : Same H H2 := fun c o h => b c o (a c o h)
theorem Same.free {H H' : Hp} (e : Same H H') {l : Addr} (h : H' l = Option.none) : H l = Option.none := by
 cases q : H l with
 | none => rfl
 | some o =>
   rw [e l o q] at h
   cases h
theorem Same.seq {K : PySem.W.Frag} {H H' : Hp} {a : Addr} {xs : List V} (e : Same H H') (h : SqL K H a xs) : SqL K H' a xs := by
 rcases h with (h | ⟨o, h⟩) | h
 · exact .inl (.inl (e _ _ h))
 · exact .inl (.inr ⟨o, e _ _ h⟩)
 · exact .inr h
end L2
namespace L2
open PySem PySem.Spec PyProof.Rows
section
variable {κ : Type} [DecidableEq κ]
def valV (kvs : List (κ × V)) (k : κ) : Option V := (kvs.find? fun kv => decide (kv.1 = k)).map (·.2)
def putK (kvs : List (κ × V)) (k : κ) (v : V) : List (κ × V) :=
 if (kvs.any fun kv => decide (kv.1 = k)) = true then kvs.map (fun kv => if kv.1 = k then (kv.1, v) else kv) else kvs ++ [(k, v)]
theorem valV_pos {p : κ × V} {r : List (κ × V)} {k : κ} (e : p.1 = k) : valV (p :: r) k = some p.2 := by simp [valV, List.find?_cons, e]
theorem valV_neg {p : κ × V} {r : List (κ × V)} {k : κ} (e : ¬ p.1 = k) : valV (p :: r) k = valV r k := by simp [valV, List.find?_cons, e]
theorem valV_any (k : κ) : ∀ kvs : List (κ × V), (kvs.any fun kv => decide (kv.1 = k)) = (valV kvs k).isSome
 | [] => rfl
 | p :: r => by
   rw [List.any_cons]
   by_cases e : p.1 = k
   · simp only [valV_pos e, decide_eq_true e, Bool.true_or, Option.isSome_some]
   · rw [valV_neg e, decide_eq_false e, Bool.false_or]; exact valV_any k r
theorem valV_map (k j : κ) (y : V) : ∀ kvs : List (κ × V), valV (kvs.map fun kv => if kv.1 = k then (kv.1, y) else kv) j = (valV kvs j).map fun x => if j = k then y else x
 | [] => rfl
 | p :: r => by
   have ih := valV_map k j y r
   rw [List.map_cons]
   by_cases h : p.1 = k
   · rw [if_pos h]
     by_cases e : p.1 = j
     · rw [valV_pos (p := (p.1, y)) e, valV_pos e, Option.map_some, if_pos (e.symm.trans h)]
     · rw [valV_neg (p := (p.1, y)) e, valV_neg e, ih]
   · rw [if_neg h]
     by_cases e : p.1 = j
     · rw [valV_pos (p := p) e, valV_pos e, Option.map_some, if_neg (fun z => h (e.trans z))]
     · rw [valV_neg (p := p) e, valV_neg e, ih]
theorem valV_snoc (k j : κ) (y : V) : ∀ kvs : List (κ × V), valV kvs k = none → valV (kvs ++ [(k, y)]) j = if j = k then some y else valV kvs j
 | [], _ => by
   by_cases e : k = j
   · rw [if_pos e.symm]; exact valV_pos (p := (k, y)) e
   · rw [if_neg (fun z => e z.symm)]; exact valV_neg (p := (k, y)) e
 | p :: r, hn => by
   rw [List.cons_append]
   have hk : ¬ p.1 = k := fun z => by rw [valV_pos z] at hn; cases hn
   rw [valV_neg hk] at hn
   have ih := valV_snoc k j y r hn
   by_cases e : p.1 = j
   · rw [valV_pos e, valV_pos e, if_neg (fun z => hk (e.trans z))]
   · rw [valV_neg e, valV_neg e, ih]
theorem valV_put (kvs : List (κ × V)) (k j : κ) (y : V) : valV (putK kvs k y) j = if j = k then some y else valV kvs j := by
 unfold putK
 by_cases a : (kvs.any fun kv => decide (kv.1 = k)) = true
 · rw [if_pos a, valV_map]
   rw [valV_any] at a
   by_cases e : j = k
   · obtain ⟨x, hx⟩ := Option.isSome_iff_exists.mp a
     rw [if_pos e, e, hx, Option.map_some, if_pos rfl]
   · rw [if_neg e]
     cases valV kvs j with
     | none => rfl
     | some x => rw [Option.map_some, if_neg e]
 · rw [if_neg a]
   refine valV_snoc k j y kvs ?_
   rw [valV_any] at a
   cases q : valV kvs k with
   | none => rfl
   | some x => rw [q] at a; exact (a rfl).elim
theorem length_putK (kvs : List (κ × V)) (k : κ) (v : V) : (putK kvs k v).length ≤ kvs.length + 1 := by
 unfold putK
 split
 · rw [List.length_map]; lia
 · rw [List.length_append, List.length_cons, List.length_nil]; lia
theorem RelO.isSome_eq {o : Option V} {u : Option Value} (r : RelO o u) : o.isSome = u.isSome := by
 cases o with
 | none => cases u with
   | none => rfl
   | some _ => exact (show False from r).elim
 | some _ => cases u with
   | none => exact (show False from r).elim
   | some _ => rfl
theorem KV.val {kvs : List (κ × V)} {vs : List (κ × Value)} (r : KV kvs vs) (k : κ) : RelO (valV kvs k) (valueAt vs k) := by
 unfold KV at r
 induction r with
 | nil => exact True.intro
 | @cons p q ps qs h t ih =>
   obtain ⟨h1, h2⟩ := h
   by_cases e : p.1 = k
   · have e' : q.1 = k := h1.symm.trans e
     have b : valueAt (q :: qs) k = some q.2 := by simp [valueAt, List.find?_cons, e']
     rw [valV_pos e, b]; exact h2
   · have e' : ¬ q.1 = k := fun z => e (h1.trans z)
     have b : valueAt (q :: qs) k = valueAt qs k := by simp [valueAt, List.find?_cons, e']
     rw [valV_neg e, b]; exact ih
theorem KV.any {kvs : List (κ × V)} {vs : List (κ × Value)} (r : KV kvs vs) (k : κ) : (kvs.any fun kv => decide (kv.1 = k)) = vs.any fun kv => decide (kv.1 = k) := by
 unfold KV at r
 induction r with
 | nil => rfl
 | cons h t ih => rw [List.any_cons, List.any_cons, ih, h.1]
theorem KV.repl {kvs : List (κ × V)} {vs : List (κ × Value)} (r : KV kvs vs) (k : κ) {y : V} {u : Value} (ry : RelV y u) :
   KV (kvs.map fun kv => if kv.1 = k then (kv.1, y) else kv) (vs.map fun kv => if kv.1 = k then (kv.1, u) else kv) := by
 unfold KV at r ⊢
 induction r with
 | nil => exact .nil
 | @cons p q ps qs h t ih =>
   rw [List.map_cons, List.map_cons]
   refine .cons ?_ ih
   obtain ⟨h1, h2⟩ := h
   by_cases e : p.1 = k
   · rw [if_pos e, if_pos (h1.symm.trans e)]; exact ⟨h1, ry⟩
   · rw [if_neg e, if_neg (fun z => e (h1.trans z))]; exact ⟨h1, h2⟩
theorem KV.put {kvs : List (κ × V)} {vs : List (κ × Value)} (r : KV kvs vs) (k : κ) {y : V} {u : Value} (ry : RelV y u) : KV (putK kvs k y) (stored vs k u) := by
 unfold putK stored
 rw [r.any k]
 by_cases e : (vs.any fun kv => decide (kv.1 = k)) = true
 · rw [if_pos e, if_pos e]; exact r.repl k ry
 · rw [if_neg e, if_neg e]; exact Paired.snoc r ⟨rfl, ry⟩
theorem KV.length {kvs : List (κ × V)} {vs : List (κ × Value)} (r : KV kvs vs) : kvs.length = vs.length := Paired.length r
end
theorem kV_is {P : Program} {w : World} {k : Key} {u : Value} (r : RelV (kV k) u) : (mixKind P w).is k u = true := by
 cases k with
 | inl i => obtain ⟨t, e⟩ := (show ∃ t, u = Value.int i t from r); subst e; exact mixKind_int P w i t
 | inr x => obtain ⟨t, e⟩ := (show ∃ t, u = Value.str x t from r); subst e; exact mixKind_str P w x t
theorem items_are {P : Program} {w : World} : ∀ {ks : List Key} {us : List Value}, Vals (ks.map kV) us → ItemsAre (mixKind P w) ks us
 | [], _, r => by rw [List.map_nil] at r; cases r; exact .nil
 | k :: ks, _, r => by
   rw [List.map_cons] at r
   cases r with
   | cons h t => exact .cons (kV_is h) (items_are t)
abbrev KT (H : Hp) : List (List Key × V) → List (List Key × Addr × Value) → Prop := Paired fun p q => p.1 = q.1 ∧ H q.2.1 = some (.tup (p.1.map kV)) ∧ RelV p.2 q.2.2
theorem KT.val {H : Hp} {kvs : List (List Key × V)} {xs : List (List Key × Addr × Value)} (r : KT H kvs xs) (k : List Key) : RelO (valV kvs k) ((atKey xs k).map (·.2)) := by
 induction r with
 | nil => exact True.intro
 | @cons p q ps qs h t ih =>
   obtain ⟨h1, _, h2⟩ := h
   by_cases e : p.1 = k
   · have e' : q.1 = k := h1.symm.trans e
     have b : atKey (q :: qs) k = some q.2 := by simp [atKey, List.find?_cons, e']
     rw [valV_pos e, b]; exact h2
   · have e' : ¬ q.1 = k := fun z => e (h1.trans z)
     have b : atKey (q :: qs) k = atKey qs k := by simp [atKey, List.find?_cons, e']
     rw [valV_neg e, b]; exact ih
theorem KT.repl {H : Hp} {kvs : List (List Key × V)} {xs : List (List Key × Addr × Value)} (r : KT H kvs xs) (k : List Key) {y : V} {u : Value} (ry : RelV y u) :
   KT H (kvs.map fun kv => if kv.1 = k then (kv.1, y) else kv) (xs.map (putAt k u)) := by
 induction r with
 | nil => exact .nil
 | @cons p q ps qs h t ih =>
   rw [List.map_cons, List.map_cons]
   refine .cons ?_ ih
   obtain ⟨h1, h2, h3⟩ := h
   unfold putAt
   by_cases e : p.1 = k
   · rw [if_pos e, if_pos (h1.symm.trans e)]; exact ⟨h1, h2, ry⟩
   · rw [if_neg e, if_neg (fun z => e (h1.trans z))]; exact ⟨h1, h2, h3⟩
theorem KT.put {H : Hp} {kvs : List (List Key × V)} {xs : List (List Key × Addr × Value)} (r : KT H kvs xs) (k : List Key) {b : Addr} {y : V} {u : Value} (hb : H b = some (.tup (k.map kV))) (ry : RelV y u) :
   KT H (putK kvs k y) (storedH xs k b u) := by
 have e : (kvs.any fun kv => decide (kv.1 = k)) = (atKey xs k).isSome := by
   rw [valV_any, (r.val k).isSome_eq, Option.isSome_map]
 unfold putK storedH
 rw [e]
 by_cases q : (atKey xs k).isSome = true
 · rw [if_pos q, if_pos q]; exact r.repl k ry
 · rw [if_neg q, if_neg q]; exact Paired.snoc r ⟨rfl, hb, ry⟩
theorem KT.keeps {H H' : Hp} {kvs : List (List Key × V)} {xs : List (List Key × Addr × Value)} (r : KT H kvs xs) (ht : ∀ b ys, H b = some (.tup ys) → H' b = some (.tup ys)) : KT H' kvs xs :=
 Paired.mapP r fun _ _ z => ⟨z.1, ht _ _ z.2.1, z.2.2⟩
section
variable {P : Program} {w : World} {H : Hp} {h : Heap} {a : Addr}
theorem rd_of {u : HO} (ok : HOk P w H h) (e : Rd H a u) : ObjOk P w H h a u := e.ok ok
theorem dk_rd {kvs : List (Key × V)} (ok : HOk P w H h) (e : Rd H a (.dK kvs)) : kvs.length ≤ sizeLine ∧ (a == sysModules) = false ∧ ∃ vs, KV kvs vs ∧ h.DictOf (mixKind P w) a vs :=
 show ObjOk P w H h a (.dK kvs) from rd_of ok e
theorem dk_of {kvs : List (Key × V)} (ok : HOk P w H h) (e : H a = some (.dK kvs)) : kvs.length ≤ sizeLine ∧ (a == sysModules) = false ∧ ∃ vs, KV kvs vs ∧ h.DictOf (mixKind P w) a vs := dk_rd ok (.inl e)
theorem key_of {ks : List Key} (ok : HOk P w H h) (e : H a = some (.tup (ks.map kV))) : (tupleKind (mixKind P w)).is h ks a := by
 obtain ⟨_, its, r, o, h1, h2, n, h3⟩ := (show ObjOk P w H h a (.tup (ks.map kV)) from ok a _ e)
 exact ⟨o, its.toArray, n, h1, h2, h3, by simpa using items_are r⟩
theorem dt_rd {kvs : List (List Key × V)} (ok : HOk P w H h) (e : Rd H a (.dT kvs)) : kvs.length ≤ sizeLine ∧ (a == sysModules) = false ∧
   ∃ xs, KT H kvs xs ∧ h.DictOfH (tupleKind (mixKind P w)) a xs := by
 obtain ⟨z, y, xs, r, o, es, ep, h1, h2, h3, h4, h5⟩ := (show ObjOk P w H h a (.dT kvs) from rd_of ok e)
 refine ⟨z, y, xs, r, o, es, ep, h1, h2, h3, h4, fun x hx => ?_, h5⟩
 have all : ∀ {l : List (List Key × V)} {m : List (List Key × Addr × Value)}, KT H l m → ∀ x ∈ m, (tupleKind (mixKind P w)).is h x.1 x.2.1 := by
   intro l m q
   induction q with
   | nil => intro x hx; exact nomatch hx
   | @cons p q ps qs hq t ih =>
     intro x hx
     rcases List.mem_cons.mp hx with e | hx
     · subst e
       exact key_of ok (by rw [← hq.1]; exact hq.2.1)
     · exact ih x hx
 exact all r x hx
theorem dt_of {kvs : List (List Key × V)} (ok : HOk P w H h) (e : H a = some (.dT kvs)) : kvs.length ≤ sizeLine ∧ (a == sysModules) = false ∧
   ∃ xs, KT H kvs xs ∧ h.DictOfH (tupleKind (mixKind P w)) a xs := dt_rd ok (.inl e)
end
def DGet (H : Hp) (a : Addr) (y : V) (r : Option V) : Prop :=
 (∃ kvs k, Rd H a (.dK kvs) ∧ y = kV k ∧ r = valV kvs k) ∨ ∃ kvs k b, Rd H a (.dT kvs) ∧ y = .ref b ∧ H b = some (.tup (k.map kV)) ∧ r = valV kvs k
def DPut (H : Hp) (a : Addr) (y v : V) (H' : Hp) : Prop :=
 (∃ kvs k, H a = some (.dK kvs) ∧ y = kV k ∧ kvs.length < sizeLine ∧ H' = upd H a (.dK (putK kvs k v))) ∨
 ∃ kvs k b, H a = some (.dT kvs) ∧ y = .ref b ∧ H b = some (.tup (k.map kV)) ∧ kvs.length < sizeLine ∧ H' = upd H a (.dT (putK kvs k v))
theorem DGet.t {H : Hp} {a b : Addr} {kvs : List (List Key × V)} {k : List Key} (e : H a = some (.dT kvs)) (eb : H b = some (.tup (k.map kV))) : DGet H a (.ref b) (valV kvs k) := .inr ⟨kvs, k, b, .inl e, rfl, eb, rfl⟩
theorem DPut.t {H : Hp} {a b : Addr} {kvs : List (List Key × V)} {k : List Key} {v : V} (e : H a = some (.dT kvs)) (eb : H b = some (.tup (k.map kV))) (hl : kvs.length < sizeLine) :
   DPut H a (.ref b) v (upd H a (.dT (putK kvs k v))) := .inr ⟨kvs, k, b, e, rfl, eb, hl, rfl⟩
section
variable {X : Cx} {pins : List (Addr × Obj)} {σ : St} {H : Hp} {s : Shared} {a : Addr} {y v : V} {u r : Value} {o : Option V} {A : Around} {E : Value → Shared → Prop}
theorem Inv.big (I : Inv X pins σ H s) : sysModules < s.heap.objs.size := by
 have h : mainGlobals < s.heap.objs.size := (I.mod.glob.keeps I.bk).lt
 exact Nat.lt_trans (by decide) h
theorem d_getItem {Q : Value → Shared → Prop} (hu : A.units + 1 < cLine) (I : Inv X pins σ H s) (g : DGet H a y (some v)) (ry : RelV y u) (h : ∀ w' s', Inv X pins σ H s' → RelV v w' → Q w' s') :
   wpAny (model X.prog X.w) A (getItem (.ref a) u) Q E s := by
 rcases g with ⟨kvs, k, e, ey, l⟩ | ⟨kvs, k, b, e, ey, eb, l⟩
 · subst ey
   obtain ⟨z, hd, vs, rel, dd⟩ := dk_rd I.hok e
   obtain ⟨w', hw, rw'⟩ := RelO.some_of (v := v) (o := valueAt vs k) (by rw [l]; exact rel.val k)
   exact wpAny_getItem_of (kV_is ry) dd.mapOf hw (h w' _ (I.tok _) rw')
 · subst ey
   cases (show u = Value.ref b from ry)
   obtain ⟨z, hd, xs, rel, dd⟩ := dt_rd I.hok e
   obtain ⟨w', hw, rw'⟩ := RelO.some_of (v := v) (o := (atKey xs k).map (·.2)) (by rw [l]; exact rel.val k)
   obtain ⟨p, hp, hp2⟩ := Option.map_eq_some_iff.mp hw
   refine wpAny_getItem_heap (tupleKind_room_in1 hu) (key_of I.hok eb) dd hp ?_
   rw [hp2]
   exact h w' _ (I.tok _) rw'
theorem d_write {h' : Heap} {t' : Nat} {ob : HO} (I : Inv X pins σ H s) (mu : Mut (H a)) (hs : Heap.SameBut a s.heap h') (he : ∃ q, h'.get? a = some q) (new : ObjOk X.prog X.w (upd H a ob) h' a ob) :
   Inv X pins σ (upd H a ob) { s with heap := h', toks := t' } :=
 I.write (x := a) (e := a) mu (.inl rfl) (fun b q hb z => (hs.2 b hb).trans z) he new
theorem dk_new {P : Program} {w : World} {H' : Hp} {h' : Heap} {kvs : List (Key × V)} {vs : List (Key × Value)} (z : kvs.length ≤ sizeLine) (hd : (a == sysModules) = false) (rel : KV kvs vs) (dd : h'.DictOf (mixKind P w) a vs) :
   ObjOk P w H' h' a (.dK kvs) := ⟨z, hd, vs, rel, dd⟩
theorem d_setItem {H' : Hp} {Q : Unit → Shared → Prop} (hu : A.units + 1 < cLine) (I : Inv X pins σ H s) (g : DPut H a y v H') (ry : RelV y u) (rv : RelV v r) (h : ∀ s', Inv X pins σ H' s' → Q () s') :
   wpAny (model X.prog X.w) A (setItem (.ref a) u r) Q E s := by
 rcases g with ⟨kvs, k, e, ey, l, eH⟩ | ⟨kvs, k, b, e, ey, eb, l, eH⟩
 · subst ey eH
   obtain ⟨z, hd, vs, rel, dd⟩ := dk_of I.hok e
   have hz : vs.length ≤ sizeLine := by rw [← rel.length]; exact z
   have hl : (putK kvs k v).length ≤ sizeLine := by have := length_putK kvs k v; lia
   refine wpAny_setItem_pairs (hsz := hz) (kV_is ry) dd fun h' dd' hs => h _ ?_
   have he : ∃ q, h'.get? a = some q := let ⟨q, _, _, hq, _⟩ := dd'; ⟨q, hq⟩
   exact d_write I (by rw [e]; exact True.intro) hs he (dk_new hl hd (rel.put k rv) dd')
 · subst ey eH
   cases (show u = Value.ref b from ry)
   obtain ⟨z, hd, xs, rel, dd⟩ := dt_of I.hok e
   have hz : xs.length ≤ sizeLine := by rw [← Paired.length rel]; exact z
   have hl : (putK kvs k v).length ≤ sizeLine := by have := length_putK kvs k v; lia
   refine wpAny_setItem_heap (hsz := hz) (tupleKind_room_in1 hu) (key_of I.hok eb) dd fun h' dd' hs => h _ ?_
   obtain ⟨q, es, ep, hq, h2, h3, h4, _, h5⟩ := dd'
   refine d_write I (by rw [e]; exact True.intro) hs ⟨q, hq⟩ ⟨hl, hd, _, (rel.put k eb rv).keeps fun c ys ec => ?_, q, es, ep, hq, h2, h3, h4, h5⟩
   rw [upd_ne (ne_of ec e (fun z => nomatch z))]
   exact ec
end
section
variable {X : Cx} {pins : List (Addr × Obj)} {σ : St} {H : Hp} {s : Shared} {a : Addr} {kvs : List (Key × V)} {k : Key} {u : Value} {A : Around} {E : Value → Shared → Prop}
end
def NoSl (i : Expr) : Prop := ∀ ov iv, subscripted i false ov iv = operate [ov, iv] (getItem ov iv)
theorem subD_of {prog : Program} {w : World} {A : Around} {E : Value → Shared → Prop} {s : Shared} {env : Env} {value slice : Expr} {pos : Pos} {T id : String} {Q : Value → Shared → Prop}
   (hl : typeLookup (.type T) "__getitem__" = pure (some (.builtin id))) (hs : NoSl slice)
   (h : wpAny (model prog w) A (eval value env) (fun o s₁ => wpAny (model prog w) A (eval slice env) (fun i s₂ => s₂.TypeIs o T ∧ wpAny (model prog w) A (getItem o i) Q E s₂) E s₁) E s) :
   wpAny (model prog w) A (eval (.Subscript value slice pos) env) Q E s := by
 refine Subscript_ (wpAny_mono h (fun o s₁ h₁ => wpAny_mono h₁ (fun i s₂ h₂ => ?_) fun _ _ x => x) fun _ _ x => x)
 obtain ⟨hT, h₂⟩ := h₂
 unfold subscriptTail
 refine wpAny_bind ?_
 rw [getitemInPython_of_ne hT.not_modules]
 refine wpAny_bind (wpAny_specialOf hT hl ?_)
 have fin : wpAny (model prog w) A (subscripted slice false o i) (fun r s₃ => wpAny (model prog w) A (letTemporaryGo value o r >>= fun _ => pure r) Q E s₃) E s₂ := by
   rw [hs o i]
   exact wpAny_operating (wpAny_mono h₂ (fun r s₃ h₃ => wpAny_bind (wpAny_letTemporaryGo (wpAny_pure h₃))) fun _ _ x => x)
 first
   | exact wpAny_pure (wpAny_bind fin)
   | exact wpAny_bind (wpAny_pure (wpAny_bind fin))
   | exact wpAny_bind fin
theorem dict_typeIs {X : Cx} {pins : List (Addr × Obj)} {σ : St} {H : Hp} {s : Shared} {a : Addr} {y : V} {o : Option V} (I : Inv X pins σ H s) (g : DGet H a y o) : s.TypeIs (.ref a) "dict" := by
 rcases g with ⟨kvs, k, e, _, _⟩ | ⟨kvs, k, b, e, _, _, _⟩
 · obtain ⟨_, _, vs, _, dd⟩ := dk_rd I.hok e
   exact dd.typeIs
 · obtain ⟨_, _, xs, _, dd⟩ := dt_rd I.hok e
   exact dd.typeIs
def tDGet (td ty : TE) : TE := fun σ H Q => td σ H fun x H1 => ty σ H1 fun y H2 => ∃ a v, x = .ref a ∧ DGet H2 a y (some v) ∧ Q v H2
def sDPut (td ty tv : TE) : TS := fun D σ H => tv σ H fun v H1 => td σ H1 fun x H2 => ty σ H2 fun y H3 => ∃ a H4, x = .ref a ∧ DPut H3 a y v H4 ∧ D.nx σ H4
section
variable {X : Cx} {o i e value : Expr} {pos pos' tpos : Pos} {td ty tv : TE}
theorem pe_dget (hu : X.A.units + 1 < cLine) (ho : PE X o td) (hi : PE X i ty) (hs : NoSl i) : PE X (.Subscript o i pos) (tDGet td ty) := by
 intro pins s σ H Q I h
 refine subD_of PySem.F.slot_dict_getitem.lookup hs (thn (ho pins s σ H _ I h) fun u s1 ⟨x, H1, I1, rx, q1⟩ => thn (hi pins s1 σ H1 _ I1 q1) fun iv s2 ⟨y, H2, I2, ry, a, v, ex, g, q2⟩ => ?_)
 subst ex
 obtain rfl : u = Value.ref a := rx
 exact ⟨dict_typeIs I2 g, d_getItem hu I2 g ry fun w' s3 I3 rw' => ⟨v, H2, I3, rw', q2⟩⟩
theorem ps_dput (hu : X.A.units + 1 < cLine) (ho : PE X o td) (hi : PE X i ty) (hv : PE X value tv) (hs : swapsWith value (some (.Subscript o i pos')) pos.line X.env = pure false) :
   PS X (.Assign [.Subscript o i pos'] value pos) (sDPut td ty tv) := by
 intro pins s σ H D I h
 refine wpAny_Assign_Subscript (thn (hv pins s σ H _ I h) fun r s1 ⟨v, H1, I1, rv, q1⟩ => thn (ho pins s1 σ H1 _ I1 q1) fun u s2 ⟨x, H2, I2, rx, q2⟩ => thn (hi pins s2 σ H2 _ I2 q2) fun iv s3 ⟨y, H3, I3, ry, a, H4, ex, g, q3⟩ => ?_) hs
 subst ex
 obtain rfl : u = Value.ref a := rx
 exact d_setItem hu I3 g ry rv fun s4 I4 => ⟨σ, H4, I4, q3⟩
end
theorem dt_empty {P : Program} {w : World} {H : Hp} (h : Heap) (hb : sysModules < h.objs.size) : ObjOk P w H (h.push { cls := .type "dict", data := .dict #[] }) h.objs.size (.dT []) :=
 ⟨Nat.zero_le _, beq_eq_false_iff_ne.mpr (Ne.symm (Nat.ne_of_lt hb)), [], .nil, _, #[], 0, Heap.get?_push_size _ rfl, ⟨rfl, rfl, rfl⟩, rfl, rfl, List.nodup_nil⟩
def tDNewT : TE := fun _ H Q => ∀ p, H p = none → Q (.ref p) (upd H p (.dT []))
section
variable {X : Cx} {pos : Pos}
theorem pe_dnewT : PE X (.Dict [] [] pos) tDNewT := fun pins s σ H Q I h =>
 wpAny_Dict_empty ⟨.ref s.heap.objs.size, _, I.laid (a := s.heap.objs.size) (o := .dT []) (t' := s.toks) (fun _ _ q => Heap.get?_push_of_some _ q) (Nat.le_refl _) (dt_empty s.heap I.big), rfl, h _ (I.hok.fresh (Nat.le_refl _))⟩
end
structure M1 (X : Cx) (o : Expr) (m : Str) (apos : Pos) (e : Expr) (cpos : Pos) : Prop where
 base : attributeBase o m X.env (eval o X.env) = eval o X.env
 few : ((backTo cpos (starEach [e] X.env)).all (fun x => !x.1) && (backToKw cpos (keywordEach [] X.env)).all (fun x => x.1.isSome)
   && decide (([e] : List Expr).length + ([] : List Keyword).length + (if ([] : List Keyword).isEmpty then 0 else 1) < 30)) = true
 line : (apos.endLine == cpos.line) = true
 trees : backTo cpos (starEach [e] X.env) = [(false, eval e X.env)]
structure M2 (X : Cx) (o : Expr) (m : Str) (apos : Pos) (e f : Expr) (cpos : Pos) : Prop where
 base : attributeBase o m X.env (eval o X.env) = eval o X.env
 few : ((backTo cpos (starEach [e, f] X.env)).all (fun x => !x.1) && (backToKw cpos (keywordEach [] X.env)).all (fun x => x.1.isSome)
   && decide (([e, f] : List Expr).length + ([] : List Keyword).length + (if ([] : List Keyword).isEmpty then 0 else 1) < 30)) = true
 line : (apos.endLine == cpos.line) = true
 trees : backTo cpos (starEach [e, f] X.env) = [(false, eval e X.env), (false, eval f X.env)]
section
variable {X : Cx} {pins : List (Addr × Obj)} {σ : St} {H : Hp} {s : Shared} {a : Addr} {y d : V} {u r : Value} {o : Option V} {A : Around} {E : Value → Shared → Prop}
end
section
variable {X : Cx} {o e f : Expr} {apos cpos : Pos} {td ty tx : TE}
end
section
variable {X : Cx} {pins : List (Addr × Obj)} {σ : St} {H : Hp} {s : Shared} {a : Addr} {kvs : List (Key × V)} {A : Around} {E : Value → Shared → Prop}
end
section
variable {X : Cx} {pins : List (Addr × Obj)} {σ : St} {H : Hp} {s : Shared} {a : Addr} {y : V} {u : Value} {A : Around} {E : Value → Shared → Prop}
end
end L2
namespace Nm
def msr (a b : Int) : Int := if b < 0 then -(Int.gcd a b : Int) else (Int.gcd a b : Int)
theorem gcd_pos {a b : Int} (hb : b ≠ 0) : 0 < Int.gcd a b := Nat.pos_of_ne_zero fun h => hb (Int.gcd_eq_zero_iff.mp h).2
theorem msr_ne {a b : Int} (hb : b ≠ 0) : msr a b ≠ 0 := by
 have := gcd_pos (a := a) hb
 unfold msr; split <;> lia
theorem fdiv_neg_dvd {a g : Int} (h : g ∣ a) : a.fdiv (-g) = -(a / g) := by
 obtain ⟨k, rfl⟩ := h
 by_cases hg : g = 0
 · subst hg; simp
 · rw [Int.mul_ediv_cancel_left _ hg, show g * k = -g * -k by rw [Int.neg_mul_neg], Int.mul_fdiv_cancel_left _ (by lia)]
theorem fdiv_dvd {a g : Int} (h : g ∣ a) : a.fdiv g = a / g := by
 obtain ⟨k, rfl⟩ := h
 by_cases hg : g = 0
 · subst hg; simp
 · rw [Int.mul_ediv_cancel_left _ hg, Int.mul_fdiv_cancel_left _ hg]
theorem top_msr {a b : Int} (hb : b ≠ 0) : a.fdiv (msr a b) = (Rat.divInt a b).num := by
 rw [Rat.num_divInt, Int.gcd_comm b a]
 have d : (Int.gcd a b : Int) ∣ a := Int.gcd_dvd_left ..
 unfold msr
 split
 · rename_i h
   rw [fdiv_neg_dvd d, Int.sign_eq_neg_one_of_neg h, Int.neg_mul, Int.one_mul, Int.neg_ediv_of_dvd d]
 · rw [fdiv_dvd d, Int.sign_eq_one_of_pos (by lia), Int.one_mul]
theorem bottom_msr {a b : Int} (hb : b ≠ 0) : b.fdiv (msr a b) = (Rat.divInt a b).den := by
 rw [Rat.den_divInt, if_neg hb, Int.gcd_comm b a]
 have d : (Int.gcd a b : Int) ∣ b := Int.gcd_dvd_right ..
 rw [Int.natCast_ediv]
 unfold msr
 split
 · rename_i h
   rw [fdiv_neg_dvd d, ← Int.neg_ediv_of_dvd d, Int.ofNat_natAbs_of_nonpos (by lia)]
 · rw [fdiv_dvd d, Int.natAbs_of_nonneg (by lia)]
theorem gcd_turn (x y : Int) : Int.gcd y (x % y) = Int.gcd x y := by
 have e : x % y + y * (x / y) = x := Int.emod_add_mul_ediv x y
 have h : Int.gcd (x % y + y * (x / y)) y = Int.gcd (x % y) y := Int.gcd_add_mul_left_left ..
 rw [e] at h
 rw [h, Int.gcd_comm]
theorem abs_if (i : Int) : (if i < 0 then -i else i) = (i.natAbs : Int) := by split <;> lia
theorem num_mul (q : Rat) : ((q.num : Int) : Rat) = q * ((q.den : Int) : Rat) := by
 have hd : ((q.den : Nat) : Int) ≠ 0 := by have := q.den_pos; lia
 have h1 : q = (q.num : Rat) / ((q.den : Int) : Rat) := by
   have := Rat.num_divInt_den q
   rw [Rat.divInt_eq_div] at this
   exact this.symm
 have h0 : (((q.den : Int)) : Rat) ≠ 0 := fun z => hd (by exact_mod_cast z)
 conv => rhs; lhs; rw [h1]
 rw [Rat.div_mul_cancel h0]
theorem den_ne (q : Rat) : ((q.den : Nat) : Int) ≠ 0 := by have := q.den_pos; lia
theorem cast_ne {a : Int} (h : a ≠ 0) : (a : Rat) ≠ 0 := fun z => h (by exact_mod_cast z)
theorem div_eq {t b : Int} {q : Rat} (hb : b ≠ 0) (h : (t : Rat) = q * (b : Rat)) : Rat.divInt t b = q := by
 rw [Rat.divInt_eq_div, h, Rat.mul_div_cancel (cast_ne hb)]
theorem plus_eq (p q : Rat) : Rat.divInt (p.num * q.den + q.num * p.den) (p.den * q.den) = p + q :=
 div_eq (Int.mul_ne_zero (den_ne p) (den_ne q)) (by rw [Rat.intCast_add, Rat.intCast_mul, Rat.intCast_mul, Rat.intCast_mul, num_mul p, num_mul q]; grind)
theorem minus_eq (p q : Rat) : Rat.divInt (p.num * q.den - q.num * p.den) (p.den * q.den) = p - q :=
 div_eq (Int.mul_ne_zero (den_ne p) (den_ne q)) (by rw [Rat.intCast_sub, Rat.intCast_mul, Rat.intCast_mul, Rat.intCast_mul, num_mul p, num_mul q]; grind)
theorem times_eq (p q : Rat) : Rat.divInt (p.num * q.num) (p.den * q.den) = p * q :=
 div_eq (Int.mul_ne_zero (den_ne p) (den_ne q)) (by rw [Rat.intCast_mul, Rat.intCast_mul, num_mul p, num_mul q]; grind)
theorem pow_add (x : Rat) (m : Nat) : ∀ n : Nat, x ^ (m + n) = x ^ m * x ^ n
 | 0 => by rw [Nat.add_zero, Rat.pow_zero]; grind
 | n + 1 => by rw [← Nat.add_assoc, Rat.pow_succ, Rat.pow_succ, pow_add x m n]; grind
end Nm
namespace Cv
def ev : List Rat → Rat → Rat
 | [], _ => 0
 | q :: r, x => q + x * ev r x
def strip : List Rat → List Rat
 | [] => []
 | q :: r => if strip r = [] ∧ q = 0 then [] else q :: strip r
theorem ev_strip (x : Rat) : ∀ qs, ev (strip qs) x = ev qs x
 | [] => rfl
 | q :: r => by
   have ih := ev_strip x r
   unfold strip
   split
   · rename_i h
     rw [h.1] at ih
     show (0 : Rat) = q + x * ev r x
     rw [← ih, h.2]; show (0 : Rat) = 0 + x * 0; grind
   · show q + x * ev (strip r) x = _
     rw [ih]; rfl
theorem strip_length : ∀ qs, (strip qs).length ≤ qs.length
 | [] => Nat.le_refl _
 | q :: r => by
   have ih := strip_length r
   unfold strip
   split
   · exact Nat.zero_le _
   · exact Nat.succ_le_succ ih
theorem strip_last : ∀ qs, strip qs ≠ [] → (strip qs)[(strip qs).length - 1]? ≠ some 0
 | [], h => absurd rfl h
 | q :: r, h => by
   have ih := strip_last r
   unfold strip at h ⊢
   split at h
   · exact absurd rfl h
   · rename_i hc
     rw [if_neg hc]
     by_cases e : strip r = []
     · rw [e]
       intro z
       have z' : q = 0 := by simpa using z
       exact hc ⟨e, z'⟩
     · have hl : 0 < (strip r).length := List.length_pos_iff.mpr e
       rw [List.length_cons, show (strip r).length + 1 - 1 = ((strip r).length - 1) + 1 by lia, List.getElem?_cons_succ]
       exact ih e
theorem strip_mem : ∀ qs q, q ∈ strip qs → q ∈ qs
 | [], _, h => h
 | p :: r, q, h => by
   unfold strip at h
   split at h
   · cases h
   · rcases List.mem_cons.mp h with e | e
     · exact e ▸ List.mem_cons_self
     · exact List.mem_cons_of_mem _ (strip_mem r q e)
theorem take_strip : ∀ (qs : List Rat) (w : Nat), (∀ j q, w ≤ j → qs[j]? = some q → q = 0) → (w = 0 ∨ ∃ q, qs[w - 1]? = some q ∧ q ≠ 0) → qs.take w = strip qs
 | [], w, _, _ => by simp [strip]
 | p :: r, 0, h, _ => by
   have ih := take_strip r 0 (fun j q _ e => h (j + 1) q (by lia) (by simpa using e)) (.inl rfl)
   have hp : p = 0 := h 0 p (Nat.le_refl _) rfl
   unfold strip
   rw [← ih, if_pos ⟨rfl, hp⟩]; rfl
 | p :: r, w + 1, h, h2 => by
   have hz : ∀ j q, w ≤ j → r[j]? = some q → q = 0 := fun j q hj e => h (j + 1) q (by lia) (by simpa using e)
   by_cases hw : w = 0
   · subst hw
     have ih := take_strip r 0 hz (.inl rfl)
     rcases h2 with z | ⟨q, e, hq⟩
     · exact absurd z (by lia)
     · have e' : p = q := by simpa using e
       subst e'
       unfold strip
       rw [← ih, if_neg (fun z => hq z.2)]; rfl
   · have ih := take_strip r w hz (by
       rcases h2 with z | ⟨q, e, hq⟩
       · exact absurd z (by lia)
       · refine .inr ⟨q, ?_, hq⟩
         rw [show w + 1 - 1 = (w - 1) + 1 by lia, List.getElem?_cons_succ] at e
         exact e)
     have hne : strip r ≠ [] := by
       rw [← ih]
       rcases h2 with z | ⟨q, e, hq⟩
       · exact absurd z (by lia)
       · rw [show w + 1 - 1 = (w - 1) + 1 by lia, List.getElem?_cons_succ] at e
         intro z
         have hl : 0 < (r.take w).length := by
           rw [List.length_take]
           have := (List.getElem?_eq_some_iff.mp e).1
           lia
         rw [z] at hl; simp at hl
     unfold strip
     rw [← ih, if_neg (fun z => hne (by rw [← ih]; exact z.1))]; rfl
def pw : List Rat → Rat → Rat → Rat
 | [], _, _ => 0
 | q :: r, x, p => q * p + pw r x (p * x)
theorem ev_scale (c x : Rat) : ∀ qs, ev (qs.map (· * c)) x = ev qs x * c
 | [] => by show (0 : Rat) = 0 * c; grind
 | q :: r => by
   show q * c + x * ev (r.map (· * c)) x = (q + x * ev r x) * c
   rw [ev_scale c x r]; grind
theorem ev_snoc (x q : Rat) : ∀ l : List Rat, ev (l ++ [q]) x = ev l x + q * x ^ l.length
 | [] => by show q + x * 0 = 0 + q * x ^ 0; rw [Rat.pow_zero]; grind
 | p :: r => by
   show p + x * ev (r ++ [q]) x = (p + x * ev r x) + q * x ^ (r.length + 1)
   rw [ev_snoc x q r, Rat.pow_succ]; grind
theorem strip_zeros : ∀ (qs : List Rat) (n : Nat), strip (qs ++ List.replicate n 0) = strip qs
 | [], 0 => rfl
 | [], n + 1 => by
   have ih := strip_zeros [] n
   show strip (0 :: List.replicate n 0) = []
   unfold strip
   have e : strip (List.replicate n 0) = [] := by simpa [strip] using ih
   rw [if_pos ⟨e, rfl⟩]
 | q :: r, n => by
   have ih := strip_zeros r n
   show strip (q :: (r ++ List.replicate n 0)) = strip (q :: r)
   unfold strip
   rw [ih]
theorem ev_set (x d : Rat) : ∀ (l : List Rat) (i : Nat) (v : Rat), l[i]? = some v → ev (l.set i (v + d)) x = ev l x + d * x ^ i
 | [], _, _, h => by simp at h
 | q :: r, 0, v, h => by
   have e : q = v := by simpa using h
   subst e
   show (q + d) + x * ev r x = (q + x * ev r x) + d * x ^ 0
   rw [Rat.pow_zero]; grind
 | q :: r, i + 1, v, h => by
   show q + x * ev (r.set i (v + d)) x = (q + x * ev r x) + d * x ^ (i + 1)
   rw [ev_set x d r i v (by simpa using h), Rat.pow_succ]; grind
theorem ev_zeros (x : Rat) : ∀ n, ev (List.replicate n 0) x = 0
 | 0 => rfl
 | n + 1 => by
   show (0 : Rat) + x * ev (List.replicate n 0) x = 0
   rw [ev_zeros x n]; grind
def evI (ts : List Int) (x : Rat) : Rat := ev (ts.map fun t : Int => (t : Rat)) x
theorem evI_set (x : Rat) (l : List Int) (i : Nat) (v d : Int) (h : l[i]? = some v) : evI (l.set i (v + d)) x = evI l x + (d : Rat) * x ^ i := by
 unfold evI
 rw [List.map_set, Rat.intCast_add]
 exact ev_set x _ _ i _ (by rw [List.getElem?_map, h]; rfl)
theorem evI_zeros (x : Rat) (n : Nat) : evI (List.replicate n 0) x = 0 := by
 unfold evI
 rw [List.map_replicate]
 exact ev_zeros x n
theorem evI_take_succ (x : Rat) (l : List Int) (i : Nat) (v : Int) (h : l[i]? = some v) : evI (l.take (i + 1)) x = evI (l.take i) x + (v : Rat) * x ^ i := by
 have hi : i < l.length := (List.getElem?_eq_some_iff.mp h).1
 unfold evI
 rw [List.take_add_one, h]
 show ev ((l.take i ++ [v]).map _) x = _
 rw [List.map_append]
 show ev (_ ++ [(v : Rat)]) x = _
 rw [ev_snoc, List.length_map, List.length_take, Nat.min_eq_left (by lia)]
def quot (c : Rat) : List Rat → List Rat
 | [] => []
 | [_] => []
 | _ :: b :: l => ev (b :: l) c :: quot c (b :: l)
theorem quot_ev (c x : Rat) : ∀ l : List Rat, ev l x = ev l c + (x - c) * ev (quot c l) x
 | [] => by show (0 : Rat) = 0 + _ * 0; grind
 | [a] => by show a + x * 0 = a + c * 0 + (x - c) * 0; grind
 | a :: b :: l => by
   have h := quot_ev c x (b :: l)
   show a + x * ev (b :: l) x = a + c * ev (b :: l) c + (x - c) * (ev (b :: l) c + x * ev (quot c (b :: l)) x)
   rw [h]; grind
theorem quot_length (c : Rat) : ∀ l : List Rat, (quot c l).length = l.length - 1
 | [] => rfl
 | [_] => rfl
 | _ :: b :: l => by
   show (quot c (b :: l)).length + 1 = _
   rw [quot_length c (b :: l)]
   simp
theorem ev_none (x : Rat) : ∀ l : List Rat, (∀ q ∈ l, q = 0) → ev l x = 0
 | [], _ => rfl
 | a :: l, h => by
   show a + x * ev l x = 0
   rw [h a List.mem_cons_self, ev_none x l fun q hq => h q (List.mem_cons_of_mem _ hq)]
   grind
theorem ident : ∀ (n : Nat) (l : List Rat), l.length ≤ n → ∀ s : Nat, (∀ k : Nat, s ≤ k → ev l (k : Rat) = 0) → ∀ q ∈ l, q = 0
 | 0, l, hl, _, _ => by
   have e : l = [] := List.eq_nil_of_length_eq_zero (by lia)
   rw [e]
   exact fun q h => nomatch h
 | n + 1, [], _, _, _ => fun q h => nomatch h
 | n + 1, a :: t, hl, s, h => by
   have hs := h s (Nat.le_refl _)
   have hq : ∀ q ∈ quot (s : Rat) (a :: t), q = 0 := ident n _ (by rw [quot_length]; simp at hl ⊢; lia) (s + 1) fun k hk => by
     have e := quot_ev (s : Rat) (k : Rat) (a :: t)
     rw [h k (by lia), hs] at e
     have e2 : ((k : Rat) - (s : Rat)) * ev (quot (s : Rat) (a :: t)) (k : Rat) = 0 := by grind
     rcases Rat.mul_eq_zero.mp e2 with z | z
     · have z2 : (k : Rat) = (s : Rat) := by grind
       have z3 : k = s := by exact_mod_cast z2
       lia
     · exact z
   have hall : ∀ x, ev (a :: t) x = 0 := fun x => by
     rw [quot_ev (s : Rat) x (a :: t), hs, ev_none x _ hq]; grind
   have ha : a = 0 := by
     have := hall 0
     show a = 0
     have e : ev (a :: t) 0 = a + 0 * ev t 0 := rfl
     rw [e] at this
     grind
   have ht : ∀ q ∈ t, q = 0 := ident n t (by simp at hl; lia) 1 fun k hk => by
     have e := hall (k : Rat)
     have e1 : ev (a :: t) (k : Rat) = a + (k : Rat) * ev t (k : Rat) := rfl
     rw [e1, ha] at e
     have e2 : (k : Rat) * ev t (k : Rat) = 0 := by grind
     rcases Rat.mul_eq_zero.mp e2 with z | z
     · have z3 : k = 0 := by exact_mod_cast z
       lia
     · exact z
   intro q hq'
   rcases List.mem_cons.mp hq' with z | z
   · rw [z]; exact ha
   · exact ht q z
def dif : List Rat → List Rat → List Rat
 | [], m => m.map (· * (-1))
 | a :: l, m => (a - m.headD 0) :: dif l m.tail
theorem ev_head (x : Rat) (m : List Rat) : ev m x = m.headD 0 + x * ev m.tail x := by
 cases m with
 | nil => show (0 : Rat) = 0 + x * 0; grind
 | cons b m => rfl
theorem dif_ev (x : Rat) : ∀ l m : List Rat, ev (dif l m) x = ev l x - ev m x
 | [], m => by
   show ev (m.map (· * (-1))) x = 0 - ev m x
   rw [ev_scale]; grind
 | a :: l, m => by
   show (a - m.headD 0) + x * ev (dif l m.tail) x = (a + x * ev l x) - ev m x
   rw [dif_ev x l m.tail, ev_head x m]; grind
theorem dif_none : ∀ l m : List Rat, l.length = m.length → (∀ q ∈ dif l m, q = 0) → l = m
 | [], [], _, _ => rfl
 | [], _ :: _, e, _ => nomatch e
 | _ :: _, [], e, _ => nomatch e
 | a :: l, b :: m, e, h => by
   have h1 : a - b = 0 := h _ List.mem_cons_self
   have h2 := dif_none l m (by simpa using e) fun q hq => h q (List.mem_cons_of_mem _ hq)
   rw [h2, show a = b by grind]
theorem same_of (l m : List Rat) (e : l.length = m.length) (h : ∀ x, ev l x = ev m x) : l = m :=
 dif_none l m e (ident _ _ (Nat.le_refl _) 0 fun k _ => by rw [dif_ev, h]; grind)
end Cv
namespace L2
open PySem PySem.Spec PyProof.Rows
theorem closure_ok {env : Env} : ∀ (names : List (Str × NameKind)) (acc : List (Str × Addr)), (∀ x ∈ names, x.2 = .free → ∃ c, env.cells.lookup x.1 = some c) →
   ∃ cl : List (Str × Addr), (forIn (m := Sem) names acc fun x r => do
       if x.2 == .free then pure (ForInStep.yield ((x.1, ← cellOf env x.1) :: r)) else pure (ForInStep.yield r)) = pure cl ∧
     (∀ p ∈ cl, p ∈ acc ∨ env.cells.lookup p.1 = some p.2) ∧ (∀ p ∈ acc, p ∈ cl) ∧ ∀ x ∈ names, x.2 = .free → ∃ c, (x.1, c) ∈ cl
 | [], acc, _ => ⟨acc, rfl, fun _ h => .inl h, fun _ h => h, fun _ h => nomatch h⟩
 | x :: r, acc, h => by
   by_cases hk : x.2 = .free
   · obtain ⟨c, hc⟩ := h x List.mem_cons_self hk
     obtain ⟨cl, e, h1, h2, h3⟩ := closure_ok r ((x.1, c) :: acc) fun y hy => h y (List.mem_cons_of_mem _ hy)
     refine ⟨cl, ?_, fun p hp => ?_, fun p hp => h2 p (List.mem_cons_of_mem _ hp), fun y hy hf => ?_⟩
     · rw [List.forIn_cons]
       have z : (x.2 == NameKind.free) = true := by rw [hk]; rfl
       have cell : cellOf env x.1 = pure c := by unfold cellOf; rw [hc]
       simp only [z, if_true, cell]
       exact e
     · rcases h1 p hp with q | q
       · rcases List.mem_cons.mp q with rfl | q
         · exact .inr hc
         · exact .inl q
       · exact .inr q
     · rcases List.mem_cons.mp hy with rfl | hy
       · exact ⟨c, h2 _ List.mem_cons_self⟩
       · exact h3 y hy hf
   · obtain ⟨cl, e, h1, h2, h3⟩ := closure_ok r acc fun y hy => h y (List.mem_cons_of_mem _ hy)
     refine ⟨cl, ?_, h1, h2, fun y hy hf => ?_⟩
     · rw [List.forIn_cons]
       have z : (x.2 == NameKind.free) = false := by
         cases e : x.2 <;> first | rfl | exact absurd e hk
       simp only [z, Bool.false_eq_true, if_false]
       exact e
     · rcases List.mem_cons.mp hy with rfl | hy
       · exact absurd hf hk
       · exact h3 y hy hf
theorem lookup_of_mem {x : Str} {c : Addr} : ∀ {cl : List (Str × Addr)}, (x, c) ∈ cl → ∃ c', cl.lookup x = some c'
 | [], h => nomatch h
 | (y, d) :: r, h => by
   by_cases e : x = y
   · subst e; exact ⟨d, by simp⟩
   · rcases List.mem_cons.mp h with q | q
     · cases q; exact absurd rfl e
     · obtain ⟨c', q'⟩ := lookup_of_mem q
       refine ⟨c', ?_⟩
       have : (x == y) = false := by simpa using e
       rw [List.lookup_cons, this]
       exact q'
theorem closureFor_ok {scope : Scope} {env : Env} (h : ∀ x ∈ scope.names, x.2 = .free → ∃ c, env.cells.lookup x.1 = some c) :
   ∃ cl : List (Str × Addr), closureFor scope env = pure cl ∧ (∀ x c, cl.lookup x = some c → env.cells.lookup x = some c) ∧ ∀ x ∈ scope.names, x.2 = .free → ∃ c, cl.lookup x.1 = some c := by
 obtain ⟨cl, e, h1, _, h3⟩ := closure_ok scope.names [] h
 refine ⟨cl, ?_, fun x c q => ?_, fun x hx hf => ?_⟩
 · unfold closureFor
   simp only [bind_pure]
   exact e
 · rcases h1 _ (PySem.mem_of_lookup q) with z | z
   · exact nomatch z
   · exact z
 · obtain ⟨c, hc⟩ := h3 x hx hf
   exact lookup_of_mem hc
theorem lookup_relabel_free {env : Env} : ∀ {names : List (Str × NameKind)} {x : Str}, names.lookup x = some .free →
   (names.map fun (n, k) => if (k == NameKind.free && env.scope.kind == .function && env.kindOf n == some .cell) then (n, NameKind.cell) else (n, k)).lookup x = some .cell ∨
   (names.map fun (n, k) => if (k == NameKind.free && env.scope.kind == .function && env.kindOf n == some .cell) then (n, NameKind.cell) else (n, k)).lookup x = some .free
 | [], _, h => by simp at h
 | (n, k) :: r, x, h => by
   have ih := @lookup_relabel_free env r x
   show List.lookup x ((if (k == NameKind.free && env.scope.kind == .function && env.kindOf n == some .cell) = true then (n, NameKind.cell) else (n, k)) :: _) = _ ∨ List.lookup x ((if (k == NameKind.free && env.scope.kind == .function && env.kindOf n == some .cell) = true then (n, NameKind.cell) else (n, k)) :: _) = _
   cases hx : x == n with
   | true =>
     simp only [List.lookup_cons, hx] at h
     cases h
     by_cases hc : (NameKind.free == NameKind.free && env.scope.kind == .function && env.kindOf n == some .cell) = true
     · rw [if_pos hc]; simp [List.lookup_cons, hx]
     · rw [if_neg hc]; simp [List.lookup_cons, hx]
   | false =>
     simp only [List.lookup_cons, hx] at h
     by_cases hc : (k == NameKind.free && env.scope.kind == .function && env.kindOf n == some .cell) = true
     · rw [if_pos hc]; simp only [List.lookup_cons, hx]; exact ih h
     · rw [if_neg hc]; simp only [List.lookup_cons, hx]; exact ih h
theorem relabel_free {env : Env} {x : Str} : ∀ {names : List (Str × NameKind)}, (∀ y ∈ names, y.2 ≠ .cell) →
   ((names.map fun (n, k) => if (k == NameKind.free && env.scope.kind == .function && env.kindOf n == some .cell) then (n, NameKind.cell) else (n, k)).lookup x = some .cell ∨
    (names.map fun (n, k) => if (k == NameKind.free && env.scope.kind == .function && env.kindOf n == some .cell) then (n, NameKind.cell) else (n, k)).lookup x = some .free) → (x, NameKind.free) ∈ names
 | [], _, h => by simp at h
 | (n, k) :: r, hc, h => by
   have ih := @relabel_free env x r fun y hy => hc y (List.mem_cons_of_mem _ hy)
   have hk : k ≠ .cell := hc (n, k) List.mem_cons_self
   change List.lookup x ((if (k == NameKind.free && env.scope.kind == .function && env.kindOf n == some .cell) = true then (n, NameKind.cell) else (n, k)) :: _) = _ ∨ List.lookup x ((if (k == NameKind.free && env.scope.kind == .function && env.kindOf n == some .cell) = true then (n, NameKind.cell) else (n, k)) :: _) = _ at h
   cases hx : x == n with
   | true =>
     have e : x = n := by simpa using hx
     subst e
     by_cases hq : (k == NameKind.free && env.scope.kind == .function && env.kindOf x == some .cell) = true
     · have : k = .free := by
         cases k <;> first | rfl | (simp at hq)
       subst this; exact List.mem_cons_self
     · rw [if_neg hq] at h
       simp only [List.lookup_cons, hx] at h
       rcases h with h | h
       · cases h; exact absurd rfl hk
       · cases h; exact List.mem_cons_self
   | false =>
     refine List.mem_cons_of_mem _ (ih ?_)
     by_cases hq : (k == NameKind.free && env.scope.kind == .function && env.kindOf n == some .cell) = true
     · rw [if_pos hq] at h; simpa only [List.lookup_cons, hx] using h
     · rw [if_neg hq] at h; simpa only [List.lookup_cons, hx] using h
def cxComp (X : Cx) (N : List Str) (scope : Scope) (cl : List (Str × Addr)) (C : Addr) (s : Shared) (H : Hp) (fp : List Addr) : Cx :=
 { prog := X.prog, w := X.w, K := X.K, mg := X.mg, base := X.base, A := X.A, N := N, s₀ := s, H₀ := H, env := compEnvC scope cl C X.env, outer := X.stack, stack := X.stack, ex := fp,
   fn := fun _ => false, calm := X.calm, pn := [], xe := fun _ _ => False }
def cS (nt : Nat) (js : List Nat) (σ : St) : St := List.replicate nt none ++ js.map fun i => σ.getD i none
abbrev lstO (ys : List Value) : Obj := { cls := .type "list", data := .seq ys.toArray ys.length }
theorem compLoop_any {prog : Program} {w : World} {A : Around} {R : Result → Shared → Prop} {s : Shared} {elt target iter : Expr} {ifs : List Expr} {scope : Scope} {pos : Pos} {it acc : Value} {env : Env} (I : Nat → Shared → Prop)
   (turn : ∀ n s, I n s → wpAny (model prog w) A (pyNext it) (fun r s₁ => match r with
     | none => R (.ok .next) s₁
     | some v => wpAny (model prog w) A (letOwnedTupleGo target it v) (fun _ s₁' => wpAny (model prog w) A (assign target env v) (fun _ s₂ =>
         wpAny (model prog w) A (forIn ifs true fun c r => if r = true then do let ok ← isTrue c env (eval c env); pure (ForInStep.yield ok) else pure (ForInStep.yield r)) (fun ok s₃ =>
           if ok = true then wpAny (model prog w) A (eval elt env) (fun x s₄ =>
             wpAny (model prog w) A (call (.builtin "list.append") [acc, x]) (fun _ s₅ => ∃ m, m < n ∧ I m s₅) (fun _ _ => False) s₄) (fun _ _ => False) s₃
           else ∃ m, m < n ∧ I m s₃) (fun _ _ => False) s₂) (fun _ _ => False) s₁') (fun _ _ => False) s₁) (fun _ _ => False) s)
   (n : Nat) (h : I n s) :
   codeAny (model prog w) A (.compLoop (.ListComp elt [⟨target, iter, ifs, 0⟩] scope pos) 0 it acc env) R s := by
 refine codeAny_loop rfl I (fun n s hI => ?_) n h
 show wpAny _ A ((compTurn (.ListComp elt [⟨target, iter, ifs, 0⟩] scope pos) 0 it acc env).onRaise (fun x => do noteFrame x env; theTreesLotGoes x)) _ _ s
 refine wpAny_noted ?_
 rw [compTurn_list]
 refine wpAny_bind (wpAny_standAt (wpAny_bind (wpAny_mono (turn n s hI) (fun r s₁ h₁ => ?_) fun _ _ h' => h'.elim)))
 cases r with
 | none => exact wpAny_pure h₁
 | some v =>
   refine wpAny_bind (wpAny_mono h₁ (fun _ s₁' h₁' => ?_) fun _ _ h' => h'.elim)
   refine wpAny_bind (wpAny_mono h₁' (fun _ s₂ h₂ => wpAny_bind (wpAny_mono h₂ (fun ok s₃ h₃ => ?_) fun _ _ h' => h'.elim)) fun _ _ h' => h'.elim)
   cases ok with
   | false => exact wpAny_pure ⟨rfl, h₃⟩
   | true =>
     exact wpAny_bind (wpAny_bind (wpAny_mono h₃ (fun x s₄ h₄ => wpAny_bind (wpAny_mono h₄ (fun _ s₅ h₅ => wpAny_pure (wpAny_pure ⟨rfl, h₅⟩)) fun _ _ h' => h'.elim)) fun _ _ h' => h'.elim))
def PTs (X : Cx) (ifs : List Expr) (t : TT) : Prop :=
 ∀ (pins : List (Addr × Obj)) (s : Shared) (σ : St) (H : Hp) (Q : Bool → Hp → Prop), Inv X pins σ H s → t σ H Q →
   wpAny (model X.prog X.w) X.A (forIn ifs true fun c r => if r = true then do let ok ← isTrue c X.env (eval c X.env); pure (ForInStep.yield ok) else pure (ForInStep.yield r)) (TP X pins σ Q) X.xe s
def tYes : TT := fun _ H Q => Q true H
theorem pts_nil {X : Cx} : PTs X [] tYes := fun _ _ _ H _ I h => wpAny_tests_nil ⟨H, I, h⟩
theorem pts_one {X : Cx} {c : Expr} {t : TT} (h : PT X c t) : PTs X [c] t := fun pins s σ H Q I q => wpAny_tests_one (h pins s σ H Q I q)
structure LcW (J : It) (n nt : Nat) (js : List Nat) (σ : St) (g : TG) (tc : TT) (te : TE) (Fin : List V → Hp → Prop) (W : Nat → List V → Hp → Prop) : Prop where
 go : ∀ i zs H, i < n → W i zs H → J.go i H ∧ zs.length < sizeLine
 step : ∀ i zs H x H', i < n → W i zs H → J.yld i H x H' → g x (cS nt js σ) H' fun σ2 H2 => tc σ2 H2 fun b H3 => if b = true then te σ2 H3 fun y H4 => W (i + 1) (zs ++ [y]) H4 else W (i + 1) zs H3
 stop : ∀ zs H, W n zs H → J.stop n H ∧ zs.length ≤ sizeLine ∧ Fin zs H
@[irreducible] def tLC (wi : TI) (nt : Nat) (js : List Nat) (g : TG) (tc : TT) (te : TE) : TE := fun σ H Q => wi σ H fun J H1 =>
 ∃ (n : Nat) (W : Nat → List V → Hp → Prop), W 0 [] H1 ∧ LcW J n nt js σ g tc te (fun zs H' => ∀ p, H' p = none → Q (.ref p) (upd H' p (.lst zs))) W
theorem lc_of {wi : TI} {nt : Nat} {js : List Nat} {g : TG} {tc : TT} {te : TE} {σ : St} {H : Hp} {Q : VK}
   (h : wi σ H fun J H1 => ∃ (n : Nat) (W : Nat → List V → Hp → Prop), W 0 [] H1 ∧ LcW J n nt js σ g tc te (fun zs H' => ∀ p, H' p = none → Q (.ref p) (upd H' p (.lst zs))) W) : tLC wi nt js g tc te σ H Q := by
 unfold tLC; exact h
theorem lc_to {wi : TI} {nt : Nat} {js : List Nat} {g : TG} {tc : TT} {te : TE} {σ : St} {H : Hp} {Q : VK} (h : tLC wi nt js g tc te σ H Q) :
   wi σ H fun J H1 => ∃ (n : Nat) (W : Nat → List V → Hp → Prop), W 0 [] H1 ∧ LcW J n nt js σ g tc te (fun zs H' => ∀ p, H' p = none → Q (.ref p) (upd H' p (.lst zs))) W := by
 unfold tLC at h; exact h
structure CompOk (X : Cx) (N : List Str) (nt : Nat) (js : List Nat) (scope : Scope) : Prop where
 kind : scope.kind = .function
 nocell : ∀ y ∈ scope.names, y.2 ≠ .cell
 names : ∀ y ∈ scope.names, y.2 = .local → scope.names.lookup y.1 = some .local
 free : ∀ y ∈ scope.names, y.2 = .free → X.env.kindOf y.1 = some .cell ∨ X.env.kindOf y.1 = some .free
 len : N.length = nt + js.length
 outer : ∀ j i, js[j]? = some i → ∃ x, N[nt + j]? = some x ∧ X.N[i]? = some x ∧ scope.names.lookup x = some .free
def compOkB (NX : List Str) (sc : Scope) (N : List Str) (nt : Nat) (js : List Nat) (scope : Scope) : Bool :=
 decide (scope.kind = .function) && scope.names.all (fun y => decide (y.2 ≠ .cell)) && scope.names.all (fun y => decide (y.2 ≠ .local) || decide (scope.names.lookup y.1 = some .local)) &&
 scope.names.all (fun y => decide (y.2 ≠ .free) || (decide (sc.names.lookup y.1 = some .cell) || decide (sc.names.lookup y.1 = some .free))) && decide (N.length = nt + js.length) &&
 (List.range js.length).all fun j => match js[j]?, N[nt + j]? with
   | some i, some x => decide (NX[i]? = some x) && decide (scope.names.lookup x = some .free)
   | _, _ => false
theorem CompOk.look {X : Cx} {NX N : List Str} {sc scope : Scope} {nt : Nat} {js : List Nat} (hN : X.N = NX) (hs : X.env.scope = sc) (h : compOkB NX sc N nt js scope = true) : CompOk X N nt js scope := by
 unfold compOkB at h
 simp only [Bool.and_eq_true, List.all_eq_true, Bool.or_eq_true, decide_eq_true_eq] at h
 obtain ⟨⟨⟨⟨⟨h1, h2⟩, h3⟩, h4⟩, h5⟩, h6⟩ := h
 refine ⟨h1, h2, fun y hy hl => (h3 y hy).resolve_left fun z => z hl, fun y hy hf => ?_, h5, fun j i e => ?_⟩
 · have q := (h4 y hy).resolve_left fun z => z hf
   rw [← hs] at q
   exact q
 · have hj : j < js.length := (List.getElem?_eq_some_iff.mp e).1
   have q := h6 j (List.mem_range.mpr hj)
   rw [e] at q
   cases en : N[nt + j]? with
   | none => rw [en] at q; cases q
   | some x =>
     rw [en] at q
     simp only [Bool.and_eq_true, decide_eq_true_eq] at q
     exact ⟨x, rfl, by rw [hN]; exact q.1, q.2⟩
section
variable {X : Cx} {N : List Str} {nt : Nat} {js : List Nat} {scope : Scope} {cl : List (Str × Addr)}
theorem HOk.track {P : Program} {w : World} {H : Hp} {h : Heap} {a : Addr} {o : HO} (x : HOk P w H h) (hn : H a = none) (new : ObjOk P w (upd H a o) h a o) : HOk P w (upd H a o) h := fun b u e => by
 by_cases hb : b = a
 · subst hb; rw [upd_same] at e; cases e; exact new
 · rw [upd_ne hb] at e
   exact (x b u e).stay (fun c v _ q => q) (fun c q => by rw [upd_ne (ne_of_none q hn)]; exact q) fun c xs q => by rw [upd_ne (ne_of_none q hn)]; exact q
theorem inv_comp {pins : List (Addr × Obj)} {σ : St} {H : Hp} {s : Shared} {C D : Addr} {h' : Heap} {tk : Nat} {fp : List Addr} {m : Str → Option Value} (I : Inv X pins σ H s) (ok : CompOk X N nt js scope)
   (hcl : ∀ x c, cl.lookup x = some c → X.env.cells.lookup x = some c) (hcl2 : ∀ x ∈ scope.names, x.2 = .free → ∃ c, cl.lookup x.1 = some c)
   (hf : ∀ b ∈ fp, FpOk X pins H b) (ho : ∀ b ∈ fp, ∃ o, s.heap.get? b = some o ∧ ∀ v, o.data ≠ .cell v)
   (hD : s.heap.objs.size ≤ D) (hC : s.heap.objs.size ≤ C) (hDC : D ≠ C) (k : ∀ b o, s.heap.get? b = some o → h'.get? b = some o) (hn : h'.Ns C m) (hd : h'.get? D = some (lstO [])) :
   Inv (cxComp X N scope cl C s H fp) [(D, lstO [])] (cS nt js σ) H { s with heap := h', toks := tk } := by
 have lt : ∀ b ∈ fp, b < s.heap.objs.size := fun b hb => by obtain ⟨o, e, _⟩ := ho b hb; exact Heap.lt_size e
 have frlt : ∀ b ∈ frs X.stack, b < s.heap.objs.size := fun b hb => by
   obtain ⟨_, o, e, _⟩ := I.stack.mem hb
   exact Heap.lt_size e
 refine ⟨⟨I.ok.mod, ok.kind, I.ok.glob, I.ok.blt, hC, fun x y c h1 h2 => I.ok.inj x y c (hcl x c h1) (hcl y c h2), fun x hx => ?_, fun x c hx => absurd hx Bool.false_ne_true, I.ok.hd, I.ok.frames, .inl rfl, fun b hb => ⟨?_, fun x c e => (hf b hb).2.2.2.2.1 x c (hcl x c e)⟩, I.bs,
     Nat.le_trans I.ok.bsz I.sz, fun b o e hb => ?_, fun b hb hs => ?_, I.stack, I.stkFree⟩, rfl, I.bare, Un.kept k, ⟨m, hn, fun j x v h1 h2 h3 => ?_⟩, fun x c e => ?_, I.hok.fresh hC, fun x c e => I.freeC x c (hcl x c e), fun p hp => ?_, I.hok.kept k, ?_⟩
 · obtain ⟨c, hc⟩ := hcl2 (x, .free) (relabel_free ok.nocell hx) rfl
   exact ⟨c, hc⟩
 · exact Nat.ne_of_lt (Nat.lt_of_lt_of_le (lt b hb) hC)
 · rcases (hf b hb).2.2.2.1 with z | z
   · exact I.ok.noex b o e z
   · exact absurd (Nat.lt_of_lt_of_le (Heap.lt_size e) (Nat.le_trans I.ok.bsz z)) (Nat.lt_irrefl _)
 · rcases List.mem_cons.mp (I.stkSub b hs) with z | z
   · exact (hf b hb).2.1 z
   · exact (hf b hb).2.2.1 z
 · change N[j]? = some x at h1
   unfold cS at h2
   by_cases hj : j < nt
   · rw [List.getElem?_append_left (by simpa using hj), List.getElem?_replicate] at h2
     rw [if_pos hj] at h2; cases h2
   · rw [List.getElem?_append_right (by simpa using Nat.not_lt.mp hj), List.length_replicate, List.getElem?_map] at h2
     cases ei : js[j - nt]? with
     | none => rw [ei] at h2; cases h2
     | some i =>
       rw [ei] at h2
       obtain ⟨y, e1, e2, e3⟩ := ok.outer _ i ei
       rw [show nt + (j - nt) = j by lia, h1] at e1
       cases e1
       have hv : σ[i]? = some (some v) := by
         simp only [Option.map_some, Option.some.injEq] at h2
         rw [List.getD_eq_getElem?_getD] at h2
         cases eσ : σ[i]? with
         | none => rw [eσ] at h2; cases h2
         | some z => rw [eσ] at h2; simp at h2; rw [h2]
       obtain ⟨m₀, _, hl⟩ := I.loc
       have kf := ok.free (x, .free) (PySem.mem_of_lookup e3) rfl
       obtain ⟨u, r, l⟩ := hl i x v e2 hv (kf.elim (fun z => .inr (.inl z)) fun z => .inr (.inr z))
       refine ⟨u, r, .inr ⟨lookup_relabel_free e3, ?_⟩⟩
       rcases l with ⟨kl, _⟩ | ⟨_, c, ec, ⟨oc, hoc, hod⟩⟩
       · rcases kf with z | z <;> (rw [z] at kl; cases kl)
       · obtain ⟨c', hc'⟩ := hcl2 (x, .free) (PySem.mem_of_lookup e3) rfl
         have e' := hcl x c' hc'
         rw [ec] at e'
         cases e'
         exact ⟨c, hc', oc, k _ _ hoc, hod⟩
 · obtain ⟨v, oc, hoc, hod⟩ := I.cell x c (hcl x c e)
   exact ⟨v, oc, k _ _ hoc, hod⟩
 · have e : p = (D, lstO []) := by
     have hp' : p ∈ [(D, lstO [])] := hp
     simpa using hp'
   subst e
   refine ⟨hd, I.hok.fresh hD, hDC, fun hb => absurd (Nat.lt_of_lt_of_le (frlt D hb) hD) (Nat.lt_irrefl _), fun v z => by cases z⟩
 · show (cS nt js σ).length = N.length
   unfold cS
   rw [List.length_append, List.length_replicate, List.length_map, ok.len]
end
end L2
namespace L2
open PySem PySem.Spec PyProof.Rows
def Stays (g : TG) (nt : Nat) : Prop := ∀ x σ H Q, g x σ H Q → g x σ H fun σ2 H2 => (σ2.length = σ.length ∧ σ2.drop nt = σ.drop nt) ∧ Q σ2 H2
theorem stays_name {i nt : Nat} (h : i < nt) : Stays (gName i) nt := fun x σ H Q q => ⟨⟨List.length_set, by
 apply List.ext_getElem?
 intro k
 rw [List.getElem?_drop, List.getElem?_drop, List.getElem?_set_ne (by lia)]⟩, q⟩
section
variable {X : Cx} {N : List Str} {nt : Nat} {js : List Nat} {scope : Scope} {elt iter tg : Expr} {ifs : List Expr} {pos : Pos} {g : TG} {tc : TT} {te : TE} {wi : TI}
theorem cS_weak {σ σ2 : St} (hl : σ2.length = (cS nt js σ).length) (hd : σ2.drop nt = (cS nt js σ).drop nt) : ∀ (i : Nat) v, (cS nt js σ)[i]? = some (some v) → σ2[i]? = some (some v) := fun i v e => by
 by_cases hi : i < nt
 · unfold cS at e
   rw [List.getElem?_append_left (by simpa using hi), List.getElem?_replicate, if_pos hi] at e
   cases e
 · have q : ((cS nt js σ).drop nt)[i - nt]? = some (some v) := by rw [List.getElem?_drop, show nt + (i - nt) = i by lia]; exact e
   rw [← hd, List.getElem?_drop, show nt + (i - nt) = i by lia] at q
   exact q
set_option maxHeartbeats 4000000 in
theorem comp_run {pins : List (Addr × Obj)} {σ : St} {H : Hp} {s₂ : Shared} {cl : List (Str × Addr)} {J : It} {fp : List Addr} {it : Addr} {tn : Nat → Heap → Prop} {E : Value → Shared → Prop} {Fin : List V → Hp → Prop} {W : Nat → List V → Hp → Prop} {nn : Nat}
   {RR : Value → Addr → Result → Shared → Prop} (hcalm : X.calm = true) (ok : CompOk X N nt js scope)
   (hcl : ∀ x c, cl.lookup x = some c → X.env.cells.lookup x = some c) (hcl2 : ∀ x ∈ scope.names, x.2 = .free → ∃ c, cl.lookup x.1 = some c)
   (hg : ∀ cl C s H fp, PG (cxComp X N scope cl C s H fp) tg g) (hk : Stays g nt) (hc : ∀ cl C s H fp, PTs (cxComp X N scope cl C s H fp) ifs tc) (he : ∀ cl C s H fp, PE (cxComp X N scope cl C s H fp) elt te)
   (I : Inv X pins σ H s₂) (T : Turn X.prog X.w X.K tg J fp it tn) (st : tn 0 s₂.heap) (hf : ∀ b ∈ fp, FpOk X pins H b) (w0 : W 0 [] H) (lw : LcW J nn nt js σ g tc te Fin W)
   (hRR : ∀ D C s' H' zs m, Inv X pins σ (upd H' D (.lst zs)) s' → s'.heap.Ns C m → H' D = none → (upd H' D (.lst zs)) C = none → C ≠ X.env.locals → X.s₀.heap.objs.size ≤ C → (∀ x c, X.env.cells.lookup x = some c → c ≠ C) →
     (∀ p ∈ X.pn ++ pins, p.1 ≠ C) → Fin zs H' → RR (.ref D) C (.ok .next) s') :
   wpAny (model X.prog X.w) X.A (newList []) (fun acc s₃ => wpAny (model X.prog X.w) X.A (newFunctionEnv scope X.env.globals cl [] X.env.qual none .none (some X.env)) (fun cenv s₄ =>
     codeAny (model X.prog X.w) X.A (.compStart (.ListComp elt [⟨tg, iter, ifs, 0⟩] scope pos) 0 (.ref it) acc { cenv with scope := relabel scope X.env }) (RR acc cenv.locals) s₄) E s₃) E s₂ := by
 refine wpAny_newObj_type (wpAny_newFunctionEnv ok.nocell (by intro y hy; simp at hy) (fun h₁ hns₁ hsb₁ => ?_) ok.kind)
 dsimp only at hns₁ hsb₁ ⊢
 generalize hH2 : s₂.heap.push { cls := .type "list", dict := none, data := .seq ([] : List Value).toArray } = H2 at hns₁ hsb₁ ⊢
 have hC : H2.objs.size = s₂.heap.objs.size + 1 := by rw [← hH2, Heap.size_push]
 have hDC : s₂.heap.objs.size ≠ H2.objs.size := by rw [hC]; exact Nat.ne_of_lt (Nat.lt_succ_self _)
 have hCle : s₂.heap.objs.size ≤ H2.objs.size := by rw [hC]; exact Nat.le_succ _
 have below : ∀ b, b < s₂.heap.objs.size → b ≠ H2.objs.size ∧ b ≠ s₂.heap.objs.size := fun b hb => ⟨by rw [hC]; exact Nat.ne_of_lt (Nat.lt_succ_of_lt hb), Nat.ne_of_lt hb⟩
 have old : ∀ b o, s₂.heap.get? b = some o → h₁.get? b = some o := fun b o e => hsb₁.extBut b o (below b (Heap.lt_size e)).1 (Heap.get?_push_of_some _ (hH2 ▸ Heap.get?_push_of_some _ e))
 have hacc : h₁.get? s₂.heap.objs.size = some (lstO []) := hsb₁.extBut _ _ hDC (Heap.get?_push_of_some _ (hH2 ▸ Heap.get?_push_size _ rfl))
 have ho := T.obj 0 _ st
 have lt : ∀ b ∈ fp, b < s₂.heap.objs.size := fun b hb => by obtain ⟨o, e, _⟩ := ho b hb; exact Heap.lt_size e
 have loop : ∀ s₃ : Shared, s₃ = { s₂ with heap := h₁, toks := s₂.toks + ([] : List (Str × Value)).length } →
     codeAny (model X.prog X.w) X.A (.compLoop (.ListComp elt [⟨tg, iter, ifs, 0⟩] scope pos) 0 (.ref it) (.ref s₂.heap.objs.size) (compEnvC scope cl H2.objs.size X.env)) (RR (.ref s₂.heap.objs.size) H2.objs.size) s₃ := by
   rintro s₃ rfl
   have I0 : Inv (cxComp X N scope cl H2.objs.size s₂ H fp) [(s₂.heap.objs.size, lstO [])] (cS nt js σ) H { s₂ with heap := h₁, toks := s₂.toks + ([] : List (Str × Value)).length } :=
     inv_comp I ok hcl hcl2 hf ho (Nat.le_refl _) hCle hDC old hns₁ hacc
   have fpy : ∀ {H' : Hp} {ys : List Value}, (∀ b ∈ fp, H' b = none) → ∀ b ∈ fp, FpOk (cxComp X N scope cl H2.objs.size s₂ H fp) [(s₂.heap.objs.size, lstO ys)] H' b := fun {H' ys} hn b hb =>
     ⟨hn b hb, (below b (lt b hb)).1, I0.ok.exfs b hb, .inl hb, (I0.ok.exf b hb).2, fun p hp => by
       have hp' : p ∈ [(s₂.heap.objs.size, lstO ys)] := hp
       have e : p = (s₂.heap.objs.size, lstO ys) := by simpa using hp'
       rw [e]; exact Ne.symm (below b (lt b hb)).2⟩
   refine compLoop_any (fun n s' => ∃ i zs ys H', n = nn - i ∧ i ≤ nn ∧ Inv (cxComp X N scope cl H2.objs.size s₂ H fp) [(s₂.heap.objs.size, lstO ys)] (cS nt js σ) H' s' ∧ Vals zs ys ∧ tn i s'.heap ∧ (∀ b ∈ fp, H' b = none) ∧ W i zs H') ?_ nn
     ⟨0, [], [], H, rfl, Nat.zero_le _, I0, .nil, T.keep 0 _ _ st (fun b _ o e => old b o e), fun b hb => (hf b hb).1, w0⟩
   rintro n s' ⟨i, zs, ys, H', hn0, hile, I', rv, st', fr', w'⟩
   by_cases hlt : i < nn
   case neg =>
     have hie : i = nn := Nat.le_antisymm hile (Nat.not_lt.mp hlt)
     rw [hie] at w' st'
     obtain ⟨stop, zl, fin⟩ := lw.stop zs H' w'
     refine thn (T.done (cxComp X N scope cl H2.objs.size s₂ H fp) rfl rfl rfl hcalm nn _ s' _ H' (fun _ _ => False) I' (fpy fr') st' stop) fun r s4 ⟨hr, I4⟩ => ?_
     subst hr
     have zD := (I4.pin (s₂.heap.objs.size, lstO ys) (List.mem_append_right _ (List.mem_singleton.mpr rfl)))
     have u := I4.base
     have u2 : Un (frs X.stack) fp H (upd H' s₂.heap.objs.size (.lst zs)) s₂.heap s4.heap :=
       ⟨u.keep, u.slot, fun b o q n hx => by rw [upd_ne (Nat.ne_of_lt (Heap.lt_size q))]; exact u.free b o q n hx, u.there, fun b xs q => by rw [upd_ne (ne_of_none (u.tups b xs q) zD.2.1)]; exact u.tups b xs q,
        fun b o xs q => by rw [upd_ne (ne_of_none (u.frzs b o xs q) zD.2.1)]; exact u.frzs b o xs q, fun b ps q => by
          obtain ⟨more, e⟩ := u.tbls b ps q
          exact ⟨more, by rw [upd_ne (ne_of_none e zD.2.1)]; exact e⟩⟩
     have hok2 : HOk X.prog X.w (upd H' s₂.heap.objs.size (.lst zs)) s4.heap := HOk.track I4.hok zD.2.1 ⟨zl, ys, _, rv, zD.1⟩
     have I5 : Inv X pins σ (upd H' s₂.heap.objs.size (.lst zs)) s4 := I.call' I4.os u2 hok2 I4.bare fun b hb => ⟨(hf b hb).2.2.2.1, (hf b hb).2.1, (hf b hb).2.2.2.2.1, (hf b hb).2.2.2.2.2⟩
     obtain ⟨m, hn, _⟩ := I4.loc
     refine hRR _ _ s4 H' zs m I5 hn zD.2.1 ?_ ?_ (Nat.le_trans I.sz hCle) ?_ ?_ fin
     · rw [upd_ne (Ne.symm hDC)]; exact I4.free
     · exact Nat.ne_of_gt (Nat.lt_of_lt_of_le I.lt hCle)
     · intro x c e z
       obtain ⟨v, q⟩ := I.cell x c e
       exact absurd (Nat.lt_of_lt_of_le q.lt (by rw [z]; exact hCle)) (Nat.lt_irrefl _)
     · intro p hp z
       exact absurd (Nat.lt_of_lt_of_le (Heap.lt_size (I.pin p hp).1) (by rw [z]; exact hCle)) (Nat.lt_irrefl _)
   case pos =>
     obtain ⟨go, zl⟩ := lw.go i zs H' hlt w'
     have step := lw.step i zs H'
     refine thn (T.item (cxComp X N scope cl H2.objs.size s₂ H fp) rfl rfl rfl hcalm i _ s' _ H' (fun _ _ => False) I' (fpy fr') st' go) fun r s4 ⟨u, hr, h4⟩ => ?_
     subst hr
     refine thn h4 fun _ s5 ⟨x, H5, I5, r5, y5, st5, fr5⟩ => ?_
     have I5' := I5.pinned (fpy fr5) (T.obj _ _ st5)
     refine thn (hg cl _ s₂ H fp _ s5 _ H5 x u _ I5' r5 (hk _ _ _ _ (step x H5 hlt w' y5))) fun _ s6 ⟨σ6, H6, I6, ⟨hl6, hd6⟩, q6⟩ => ?_
     refine thn (hc cl _ s₂ H fp _ s6 σ6 H6 _ I6 q6) fun okb s7 ⟨H7, I7, q7⟩ => ?_
     have frs' : ∀ {H8 : Hp} {σ8 : St} {s8 : Shared}, Inv (cxComp X N scope cl H2.objs.size s₂ H fp) ([(s₂.heap.objs.size, lstO ys)] ++ pinsAt fp s5.heap) σ8 H8 s8 → tn (i + 1) s8.heap ∧ ∀ b ∈ fp, H8 b = none := fun {H8 σ8 s8} I8 =>
       ⟨T.keep _ _ _ st5 fun b hb o e => (I8.pin (b, o) (List.mem_append_right _ (List.mem_append_right _ (mem_pinsAt hb e)))).1, fun b hb => by
         obtain ⟨o, e, d⟩ := T.obj _ _ st5 b hb
         exact (I8.pin (b, o) (List.mem_append_right _ (List.mem_append_right _ (mem_pinsAt hb e)))).2.1⟩
     cases okb with
     | false =>
       rw [if_neg Bool.false_ne_true] at q7 ⊢
       obtain ⟨a1, a2⟩ := frs' I7
       exact ⟨nn - (i + 1), by rw [hn0]; exact Nat.sub_lt_sub_left hlt (Nat.lt_succ_self i), i + 1, zs, ys, H7, rfl, hlt, I7.unpinned.weak (by rw [hl6]) (cS_weak hl6 hd6), rv, a1, a2, q7⟩
     | true =>
       rw [if_pos rfl] at q7 ⊢
       refine thn (he cl _ s₂ H fp _ s7 σ6 H7 _ I7 q7) fun v s8 ⟨y, H8, I8, r8, q8⟩ => ?_
       have zD := (I8.pin (s₂.heap.objs.size, lstO ys) (List.mem_append_right _ (List.mem_append_left _ (List.mem_singleton.mpr rfl))))
       have ylen : ys.length < sizeLine := by rw [← rv.length]; exact zl
       obtain ⟨a1, a2⟩ := frs' I8
       refine append_at (hsz := by rw [List.size_toArray]; exact Nat.le_of_lt ylen) zD.1 fun h9 hs9 hD9 => ?_
       have I8u : Inv (cxComp X N scope cl H2.objs.size s₂ H fp) [] (cS nt js σ) H8 s8 := (I8.pins_of (pins' := []) fun p hp => nomatch hp).weak (by rw [hl6]) (cS_weak hl6 hd6)
       have I9 : Inv (cxComp X N scope cl H2.objs.size s₂ H fp) [] (cS nt js σ) H8 { s8 with heap := h9 } := I8u.turned (t' := s8.toks) (it := s₂.heap.objs.size) (fun b o hb e => hs9.extBut b o hb e) zD.2.1 hDC (.inr (Nat.le_refl _))
         (fun x c e z => by
           obtain ⟨v, q⟩ := I.cell x c (hcl x c e)
           exact absurd (Nat.lt_of_lt_of_le q.lt (by rw [z]; exact Nat.le_refl _)) (Nat.lt_irrefl _)) (fun p hp => nomatch hp)
       refine ⟨nn - (i + 1), by rw [hn0]; exact Nat.sub_lt_sub_left hlt (Nat.lt_succ_self i), i + 1, zs ++ [y], ys ++ [v], H8, rfl, hlt, I9.pins_of (fun p hp => ?_), rv.snoc r8, T.keep _ _ _ a1 fun b hb o e => hs9.extBut b o (below b (lt b hb)).2 e, a2, q8⟩
       have e : p = (s₂.heap.objs.size, lstO (ys ++ [v])) := by simpa using hp
       subst e
       refine ⟨?_, zD.2.1, hDC, zD.2.2.2.1, fun v z => by cases z⟩
       rw [hD9]
       show some ({ cls := .type "list", data := .seq (ys.toArray.push v) (ys.length + 1) } : Obj) = some { cls := .type "list", data := .seq (ys ++ [v]).toArray (ys ++ [v]).length }
       rw [List.length_append, List.length_singleton, List.push_toArray]
 exact codeAny_compStart_list (loop _ rfl) (T.self _ 0 _ _ _ (T.keep 0 _ _ st (fun b _ o e => old b o e)) (loop _ rfl))
theorem pe_lc (hcalm : X.calm = true) (ok : CompOk X N nt js scope) (hi : PI X tg iter wi) (hg : ∀ cl C s H fp, PG (cxComp X N scope cl C s H fp) tg g) (hk : Stays g nt) (hc : ∀ cl C s H fp, PTs (cxComp X N scope cl C s H fp) ifs tc)
   (he : ∀ cl C s H fp, PE (cxComp X N scope cl C s H fp) elt te) (hs : ∀ x, foldedSetIterable iter X.env x = pure x := by intro _; rfl) : PE X (.ListComp elt [⟨tg, iter, ifs, 0⟩] scope pos) (tLC wi nt js g tc te) := by
 intro pins s σ H Q I h
 obtain ⟨cl, hclos, hcl, hcl2⟩ := closureFor_ok (scope := scope) (env := X.env) fun x hx hf => I.ok.has x.1 (ok.free x hx hf)
 rw [eval_ListComp]
 refine wpAny_comprehension_free (use := none) rfl hs hclos ok.kind ok.names ?_
 refine thn (hi pins s σ H _ I (lc_to h)) fun v s1 h1 => thn h1 fun itv s2 h2 => ?_
 obtain ⟨it, fp, tn, J, H2, e, I2, T, st2, f2, nn, W, w0, lw⟩ := h2
 subst e
 refine comp_run (RR := fun acc C => compPost (model X.prog X.w) X.A X.xe none (EP X pins σ Q) acc C) hcalm ok hcl hcl2 hg hk hc he I2 T st2 f2 w0 lw ?_
 intro D C s' H' zs m I3 hn hDn hCn hCL hC0 hCc hCp fin
 exact ⟨m, hn, fun h'' hs'' => ⟨.ref D, _, I3.turned (t' := s'.toks) (it := C) (fun b o hb e => hs''.extBut b o hb e) hCn hCL (.inr hC0) hCc hCp, rfl, fin D hDn⟩⟩
theorem ps_lc {i : Nat} {y : Str} {py spos : Pos} (hcalm : X.calm = true) (hN : X.N.Nodup) (hi' : X.N[i]? = some y) (hy : X.env.kindOf y = some .local) (ok : CompOk X N nt js scope) (hi : PI X tg iter wi) (hg : ∀ cl C s H fp, PG (cxComp X N scope cl C s H fp) tg g) (hk : Stays g nt)
   (hc : ∀ cl C s H fp, PTs (cxComp X N scope cl C s H fp) ifs tc) (he : ∀ cl C s H fp, PE (cxComp X N scope cl C s H fp) elt te)
   (hsw : swapsWith (.ListComp elt [⟨tg, iter, ifs, 0⟩] scope pos) (some (.Name y py)) spos.line X.env = pure true) (hs : ∀ x, foldedSetIterable iter X.env x = pure x := by intro _; rfl) :
   PS X (.Assign [.Name y py] (.ListComp elt [⟨tg, iter, ifs, 0⟩] scope pos) spos) (tAsg (tLC wi nt js g tc te) (gName i)) := by
 intro pins s σ H D₀ I h
 obtain ⟨cl, hclos, hcl, hcl2⟩ := closureFor_ok (scope := scope) (env := X.env) fun x hx hf => I.ok.has x.1 (ok.free x hx hf)
 rw [exec_Assign_Name_used _ _ _ _ hsw]
 refine wpAny_bind (wpAny_standAt (wpAny_bind ?_))
 show wpAny _ X.A (do let _ ← comprehension (.ListComp elt [⟨tg, iter, ifs, 0⟩] scope pos) scope X.env _ (newList []) false (eval iter X.env) (some (assign (.Name y py) X.env))) _ _ s
 refine wpAny_bind (wpAny_mono (wpAny_comprehension_free (use := some (assign (.Name y py) X.env)) (Q := fun _ s' => SP X pins D₀ .next s') rfl hs hclos ok.kind ok.names
   (thn (hi pins s σ H _ I (lc_to (show tLC wi nt js g tc te σ H fun x H1 => gName i x σ H1 D₀.nx from h))) fun v s1 h1 => thn h1 fun itv s2 h2 => ?_)) (fun _ s' hq => wpAny_pure (wpAny_pure hq)) fun _ _ e => e)
 obtain ⟨it, fp, tn, J, H2, e, I2, T, st2, f2, nn, W, w0, lw⟩ := h2
 subst e
 refine comp_run (RR := fun acc C => compPost (model X.prog X.w) X.A X.xe (some (assign (.Name y py) X.env)) (fun _ s' => SP X pins D₀ .next s') acc C) hcalm ok hcl hcl2 hg hk hc he I2 T st2 f2 w0 lw ?_
 intro D C s' H' zs m I3 hn hDn hCn hCL hC0 hCc hCp fin
 show wpAny _ X.A (assign (.Name y py) X.env (.ref D)) _ _ _
 refine wpAny_assign_Name (store_ok2 (v := .ref D) I3 hN hi' (.inl hy) rfl (fun s3 I4 hsb => ?_) (.inr hy))
 obtain ⟨a, hsb, ha⟩ := hsb
 have haC : C ≠ a := by
   rcases ha with z | z
   · rw [z]; exact hCL
   · exact Ne.symm (hCc y a z)
 refine ⟨m, hn.sameBut hsb haC, fun h'' hs'' => ?_⟩
 exact ⟨_, _, I4.turned (t' := s3.toks) (it := C) (fun b o hb e => hs''.extBut b o hb e) hCn hCL (.inr hC0) hCc hCp, fin D hDn⟩
end
end L2
namespace L2
open PySem PySem.Spec PyProof.Rows
def Bd (n : Nat) (x : Int) : Prop := x.natAbs < 2 ^ n
theorem Bd.bits {n : Nat} {x : Int} (h : Bd n x) : Builtin.Int.intBits x ≤ n := PySem.intBits_le_iff.mpr h
def MulOk (i j : Int) : Prop := ∃ m n, Bd m i ∧ Bd n j ∧ m + n ≤ 134217728
theorem MulOk.ok {i j : Int} (h : MulOk i j) : IntMulOk i j := by
 obtain ⟨m, n, h1, h2, h3⟩ := h
 exact PySem.IntMulOk.of_le h1.bits h2.bits h3
section
variable {X : Cx}
theorem op_fdivX {k : Nat} (hr : Room k X.A) (hT : X.prog.given.tree = none) (hk : 32 ≤ k := by decide)
   (hst : ∃ (env : Env) (l : List Env), X.stack = env :: l ∧ env.scope.isGenerator = false ∧ env.scope.isCoroutine = false ∧ env.builtins = builtinsNs ∧ env.globals = mainGlobals := by exact ⟨_, _, rfl, rfl, rfl, rfl, rfl⟩) :
   OpR X (binaryOp .FloorDiv) (rI (fun _ j => j ≠ 0) fun i j => .int (i.fdiv j)) := by
 intro pins s σ H x y v u Q I rx ry h
 obtain ⟨i, j, rfl, rfl, hc, q⟩ := h
 obtain ⟨t, rfl⟩ := rx
 obtain ⟨t', rfl⟩ := ry
 obtain ⟨env, l, e1, e2, e3, e4, e5⟩ := hst
 have hd : X.A.depth + Builtin.pylongFrames < recursionLimit := by
   have := hr.dp
   have e : Builtin.pylongFrames ≤ 101 := by decide
   lia
 refine floordiv_int hc ⟨.int (i.fdiv j), H, I.tok _, ⟨_, rfl⟩, q⟩ (.inr (PySem.PylongRoom.of I.nolimit hd (PySem.SeerAt.of (I.ok.mod.seer.keeps I.bk) hT (by rw [I.ok.frames, e1]) e2 e3 e4 e5)))
end
structure Fd (P : Program) (w : World) (K : PySem.W.Frag) (mg : Str → Option Value) (base : Heap) (n : Nat) (x : Str) (ps : List Str) (sp : Sp) : Prop where
 ex : ∃ (f : Addr) (fd : FuncData), FnOk P w K mg base CX0 n f fd ps sp ∧ Binds K fd ps [] ∧ PySem.W.keepIn K (.ref f) = true ∧ mg x = some (.ref f)
theorem pe_fn {X : Cx} {n k : Nat} {x : Str} {ps : List Str} {sp : Sp} {e : Expr} {es : List Expr} {t : TA} {p pos : Pos} (F : Fd X.prog X.w X.K X.mg X.base n x ps sp) (hr : Room k X.A) (hg : Gl X x) (ha : PA X (e :: es) t) (hn : n ≤ k := by decide)
   (hdb : (x == ("__debug__" : Str)) = false := by decide) (he : starEach (e :: es) X.env = (false, eval e X.env) :: starEach es X.env := by rfl) (hpl : (backTo pos (starEach es X.env)).any (·.1) = false := by rfl) :
   PE X (.Call (.Name x p) (e :: es) [] pos) (tCall sp [] E0 t) := by
 obtain ⟨f, fd, F1, F2, F3, F4⟩ := F.ex
 exact pe_call F1 (hr.mono hn) hg F4 F3 F2 .nil pass0 ha hdb he hpl
inductive Rds (K : PySem.W.Frag) (H : Hp) : V → PyData → Prop where
 | non : Rds K H .non .none
 | bl (b : Bool) : Rds K H (.bl b) (.bool b)
 | int (i : Int) : Rds K H (.int i) (.int i)
 | str (x : Str) : Rds K H (.str x) (.str x)
 | lst {a : Addr} {xs : List V} {ds : List PyData} : SqL K H a xs → xs.length = ds.length → (∀ (i : Nat) x d, xs[i]? = some x → ds[i]? = some d → Rds K H x d) → Rds K H (.ref a) (.list ds)
 | tup {a : Addr} {xs : List V} {ds : List PyData} : SqT K H a xs → xs.length = ds.length → (∀ (i : Nat) x d, xs[i]? = some x → ds[i]? = some d → Rds K H x d) → Rds K H (.ref a) (.tuple ds)
theorem readsAll_of {h : Heap} : ∀ {us : List Value} {xs : List V} {ds : List PyData}, Vals xs us → xs.length = ds.length → (∀ (i : Nat) x d u, xs[i]? = some x → ds[i]? = some d → RelV x u → ∃ as, Reads h u d as) → ∃ as, ReadsAll h us ds as
 | [], _, [], .nil, _, _ => ⟨[], .nil⟩
 | [], _, _ :: _, .nil, hl, _ => by simp at hl
 | _ :: _, _, [], .cons _ _, hl, _ => by simp at hl
 | u :: us, x :: xs, d :: ds, .cons r t, hl, hr => by
   obtain ⟨a1, r1⟩ := hr 0 x d u rfl rfl r
   obtain ⟨a2, r2⟩ := readsAll_of (us := us) (xs := xs) (ds := ds) t (by simpa using hl) fun i x' d' u' e1 e2 q => hr (i + 1) x' d' u' (by simpa using e1) (by simpa using e2) q
   exact ⟨_, .cons r1 r2⟩
theorem reads_of {X : Cx} {pins : List (Addr × Obj)} {σ : St} {H : Hp} {s : Shared} (I : Inv X pins σ H s) {x : V} {d : PyData} (r : Rds X.K H x d) : ∀ {u : Value}, RelV x u → ∃ as, Reads s.heap u d as := by
 induction r with
 | non => intro u ru; cases ru; exact ⟨_, .none⟩
 | bl b => intro u ru; cases ru; exact ⟨_, .bool b⟩
 | int i => intro u ru; obtain ⟨t, rfl⟩ := ru; exact ⟨_, .int i t⟩
 | str z => intro u ru; obtain ⟨t, rfl⟩ := ru; exact ⟨_, .str z t⟩
 | lst q hl _ ih =>
   intro u ru
   cases ru
   obtain ⟨its, rv, ⟨o, n, e, c, _, dd⟩, _⟩ := I.list q
   obtain ⟨as, ra⟩ := readsAll_of rv hl fun i x d u e1 e2 rr => ih i x d e1 e2 rr
   exact ⟨_, .list e c dd (by simpa using ra)⟩
 | tup q hl _ ih =>
   intro u ru
   cases ru
   obtain ⟨its, rv, ⟨o, e, c, n, dd⟩, _⟩ := I.tuple q
   obtain ⟨as, ra⟩ := readsAll_of rv hl fun i x d u e1 e2 rr => ih i x d e1 e2 rr
   exact ⟨_, .tuple e c dd (by simpa using ra)⟩
section
variable {X : Cx}
@[irreducible] def rEqD (K : PySem.W.Frag) (neg : Bool) : R2 := fun x y H Q => ∃ d e, Rds K H x d ∧ Rds K H y e ∧ SeqAt.shaped d = true ∧ SeqAt.shaped e = true ∧ Q (.bl (if neg then !PyData.eqv d e else PyData.eqv d e)) H
theorem eqD_of {K : PySem.W.Frag} {neg : Bool} {x y : V} {H : Hp} {Q : VK} (h : ∃ d e, Rds K H x d ∧ Rds K H y e ∧ SeqAt.shaped d = true ∧ SeqAt.shaped e = true ∧ Q (.bl (if neg then !PyData.eqv d e else PyData.eqv d e)) H) : rEqD K neg x y H Q := by
 unfold rEqD; exact h
theorem op_eqD (hu : X.A.units + 64 < cLine) : OpR X (compareOp .Eq) (rEqD X.K false) := by
 intro pins s σ H x y v u Q I rx ry h
 unfold rEqD at h
 obtain ⟨d, e, r1, r2, h1, h2, q⟩ := h
 obtain ⟨as, q1⟩ := reads_of I r1 rx
 obtain ⟨bs, q2⟩ := reads_of I r2 ry
 exact SeqAt.compareEq_shaped q1 q2 h1 h2 hu ⟨.bl _, H, I, rfl, q⟩
theorem op_neD (hu : X.A.units + 64 < cLine) : OpR X (compareOp .NotEq) (rEqD X.K true) := by
 intro pins s σ H x y v u Q I rx ry h
 unfold rEqD at h
 obtain ⟨d, e, r1, r2, h1, h2, q⟩ := h
 obtain ⟨as, q1⟩ := reads_of I r1 rx
 obtain ⟨bs, q2⟩ := reads_of I r2 ry
 exact SeqAt.compareNe_shaped q1 q2 h1 h2 hu ⟨.bl _, H, I, rfl, q⟩
end
end L2
namespace L2
open PySem PySem.Spec PyProof.Rows
theorem bt_len : bootBuiltins "len" = some (.builtin "len") := by decide +kernel
theorem bt_abs : bootBuiltins "abs" = some (.builtin "abs") := by decide +kernel
theorem bt_isinstance : bootBuiltins "isinstance" = some (.builtin "isinstance") := by decide +kernel
theorem bt_all : bootBuiltins "all" = some (.builtin "all") := by decide +kernel
theorem bt_list : bootBuiltins "list" = some (.type "list") := by decide +kernel
theorem bt_tuple : bootBuiltins "tuple" = some (.type "tuple") := by decide +kernel
theorem bt_int : bootBuiltins "int" = some (.type "int") := by decide +kernel
theorem bt_bool : bootBuiltins "bool" = some (.type "bool") := by decide +kernel
def Fx (H : Hp) (L : List (Addr × HO)) : Prop := ∀ p ∈ L, H p.1 = some p.2
def Mv (a : Addr) (H H' : Hp) : Prop := ∀ b o, b ≠ a → H b = some o → H' b = some o
theorem Mv.trans {a : Addr} {H H1 H2 : Hp} (x : Mv a H H1) (y : Mv a H1 H2) : Mv a H H2 := fun b o n h => y b o n (x b o n h)
theorem Mv.new {a p : Addr} {H : Hp} {o : HO} (h : H p = none) : Mv a H (upd H p o) := fun b u _ q => by rw [upd_ne (ne_of_none q h)]; exact q
theorem at_ints {ns : List Int} {k : Int} (h0 : 0 ≤ k) (h : k < (ns.length : Int)) : ∃ v : Int, atI (ns.map V.int) k = some (.int v) := by
 have hk : k.toNat < ns.length := by lia
 have ek : k = ((k.toNat : Nat) : Int) := by lia
 have q : atI (ns.map V.int) ((k.toNat : Nat) : Int) = some (.int ns[k.toNat]) := atI_nat (by rw [List.getElem?_map, List.getElem?_eq_getElem hk] <;> rfl)
 rw [← ek] at q
 exact ⟨_, q⟩
def nT (q : Rat) : HO := .tup [.int q.num, .int q.den]
def Pen (H : Hp) (a : Addr) : Prop := ∃ c0 c1 c2 : Int, H a = some (.lst [.int c0, .int c1, .int c2])
theorem Pen.same {H : Hp} {a p : Addr} {o : HO} (x : Pen H a) (h : H p = none) : Pen (upd H p o) a := by
 obtain ⟨c0, c1, c2, e⟩ := x
 exact ⟨c0, c1, c2, by rw [upd_ne (ne_of_none e h)]; exact e⟩
theorem Pen.put {H : Hp} {a : Addr} {c0 c1 c2 : Int} : Pen (upd H a (.lst [.int c0, .int c1, .int c2])) a := ⟨c0, c1, c2, upd_same⟩
def MulC (i j : Int) : Prop := (-(2 ^ 64) < i ∧ i < 2 ^ 64) ∨ (-(2 ^ 64) < j ∧ j < 2 ^ 64) ∨ MulOk i j
theorem MulC.ok {i j : Int} (h : MulC i j) : IntMulOk i j := by
 rcases h with ⟨h1, h2⟩ | ⟨h1, h2⟩ | h
 · exact .of_left (intBits_le_64 h1 h2)
 · exact .of_right (intBits_le_64 h1 h2)
 · exact h.ok
theorem op_mulC {X : Cx} : OpR X (binaryOp .Mult) (rI MulC fun i j => .int (i * j)) := opI fun _ _ _ _ _ _ _ hc q => mul_int q hc.ok
def OnlyAt (a : Addr) (H H' : Hp) : Prop := ∀ b, b ≠ a → H' b = H b
theorem OnlyAt.mv {a : Addr} {H H' : Hp} (x : OnlyAt a H H') : Mv a H H' := fun b o n h => by rw [x b n]; exact h
theorem OnlyAt.put {a : Addr} {H : Hp} {o : HO} : OnlyAt a H (upd H a o) := fun b n => upd_ne n
theorem Pen.ne {H : Hp} {a p : Addr} {o : HO} (x : Pen H a) (h : H p = some o) (hd : ∀ c0 c1 c2 : Int, o ≠ .lst [.int c0, .int c1, .int c2]) : p ≠ a := by
 obtain ⟨c0, c1, c2, e⟩ := x
 exact ne_of h e (hd c0 c1 c2)
structure Lg (a : Addr) (H : Hp) (L : List (Addr × HO)) : Prop where
 fx : Fx H L
 ne : ∀ x ∈ L, x.1 ≠ a
 pen : Pen H a
theorem nT_ne (q : Rat) : ∀ c0 c1 c2 : Int, nT q ≠ .lst [.int c0, .int c1, .int c2] := fun _ _ _ z => by cases z
theorem at_menu {xs : List Int} {i : Int} (h0 : 0 ≤ i) (h : i < (xs.length : Int)) : ∃ v : Int, atI (xs.map V.int) i = some (.int v) ∧ v ∈ xs := by
 have hk : i.toNat < xs.length := by lia
 have ek : i = ((i.toNat : Nat) : Int) := by lia
 have q : atI (xs.map V.int) ((i.toNat : Nat) : Int) = some (.int xs[i.toNat]) := atI_nat (by rw [List.getElem?_map, List.getElem?_eq_getElem hk] <;> rfl)
 rw [← ek] at q
 exact ⟨_, q, List.getElem_mem hk⟩
theorem sq_new {K : PySem.W.Frag} {H : Hp} {a p : Addr} {xs : List V} {o : HO} (hS : SqL K H a xs) (hp : H p = none) : SqL K (upd H p o) a xs := by
 have st : ∀ u, H a = some u → upd H p o a = some u := fun u e => by rw [upd_ne (ne_of_none e hp)]; exact e
 rcases hS with (h | ⟨o, h⟩) | h
 · exact .inl (.inl (st _ h))
 · exact .inl (.inr ⟨o, st _ h⟩)
 · exact .inr h
inductive spDraw (vs : List V) (H : Hp) (Q : VK) (E_3 : XK) : Prop
 | mk (a : Addr) (m : Int) (h1 : vs = [.ref a, .int m]) (h2 : Pen H a) (h3 : 1 ≤ m) (h4 : m < 1073741824) (h5 : ∀ (d : Int) (H' : Hp), 0 ≤ d → d < m → OnlyAt a H H' → Pen H' a → Q (.int d) H') : spDraw vs H Q E_3
inductive spPen (K : PySem.W.Frag) (vs : List V) (H : Hp) (Q : VK) (E_3 : XK) : Prop
 | mk (a : Addr) (ns : List Int) (k : Int) (h1 : vs = [.ref a, .int k]) (h2 : SqL K H a (ns.map V.int)) (h3 : ns.length ≤ 63) (h4 : 0 ≤ k) (h5 : k < 2 ^ 62) (h6 : ∀ (p : Addr) (c0 c1 : Int), H p = none → Q (.ref p) (upd H p (.lst [.int c0, .int c1, .int 0]))) : spPen K vs H Q E_3
inductive spLow (vs : List V) (H : Hp) (Q : VK) (E_3 : XK) : Prop
 | mk (t b : Int) (h1 : vs = [.int t, .int b]) (h2 : b ≠ 0) (h3 : ∀ p, H p = none → Q (.ref p) (upd H p (nT (Rat.divInt t b)))) : spLow vs H Q E_3
inductive spGcd (vs : List V) (H : Hp) (Q : VK) (E_3 : XK) : Prop
 | mk (a b : Int) (h1 : vs = [.int a, .int b]) (h2 : Q (.int (Int.gcd a b)) H) : spGcd vs H Q E_3
inductive spNum (n : Nat) (vs : List V) (H : Hp) (Q : VK) (E_3 : XK) : Prop
 | mk (a : _) (h1 : vs = [.ref a]) (h2 : Pen H a) (h3 : ∀ (q : Rat) (r : Addr) (H' : Hp), Mv a H H' → Pen H' a → H' r = some (nT q) → Bd n q.num → Bd n q.den → Q (.ref r) H') : spNum n vs H Q E_3
inductive spLaw (K : PySem.W.Frag) (vs : List V) (H : Hp) (Q : VK) (E_3 : XK) : Prop
 | mk (a : Addr) (ns : List Int) (h1 : vs = [.ref a]) (h2 : SqL K H a (ns.map V.int)) (h3 : ns.length ≤ 63) (h4 : ∀ H', Q (.bl true) H') : spLaw K vs H Q E_3
def mu (i : Nat) (σ : St) : Nat := match σ[i]? with | some (some (.int y)) => y.toNat | _ => 0
theorem Bd.mono {m n : Nat} {x : Int} (h : Bd m x) (hmn : m ≤ n) : Bd n x := Nat.lt_of_lt_of_le h (Nat.pow_le_pow_right (by decide) hmn)
theorem Bd.num {n : Nat} {t b : Int} (h : Bd n t) : Bd n (Rat.divInt t b).num := by
 unfold Bd at *
 by_cases hb : b = 0
 · subst hb; simp; exact Nat.pos_of_ne_zero (by simp)
 · rw [← Nm.top_msr hb]
   exact Nat.lt_of_le_of_lt (PySem.natAbs_fdiv_le t _) h
theorem Bd.den {n : Nat} {t b : Int} (hb : b ≠ 0) (h : Bd n b) : Bd n (Rat.divInt t b).den := by
 unfold Bd at *
 rw [← Nm.bottom_msr hb]
 exact Nat.lt_of_le_of_lt (PySem.natAbs_fdiv_le b _) h
end L2
namespace L2
open PySem PySem.Spec PyProof.Rows
section
variable {X : Cx} {tg : Expr}
end
theorem call_allB {X : Cx} (hc : X.calm = true) : CallR X (.builtin "all") (fun xs H Q => ∃ (a : Addr) (bs : List Bool), xs = [.ref a] ∧ SqL X.K H a (bs.map V.bl) ∧ Q (.bl (bs.all id)) H) := by
 intro pins s σ H xs us Q I r h
 obtain ⟨a, bs, rfl, hq, q⟩ := h
 obtain ⟨u, rfl, rfl⟩ := vals1 r
 obtain ⟨its, rv, p, hz⟩ := I.list hq
 have hl := rv.length
 rw [List.length_map] at hl
 have hlt : a < s.heap.objs.size := by obtain ⟨_, e, _⟩ := p.isList; exact Heap.lt_size e
 refine call_all_walk (wpAny_pyIter_list p.isList ?_)
 refine ⟨s.heap.objs.size, [s.heap.objs.size, a], [s.heap.objs.size], its.toArray.size, _, _, fun i => (bs[i]?).getD true, rfl, Walks.list (A := X.A.in1) (I.ok.hd hc) _ a (Nat.ne_of_lt hlt) its.toArray,
   ⟨⟨_, Heap.get?_push_size _ rfl, rfl, rfl⟩, p.isList.push _⟩, fun i v s' Q' E' hP hQ => ?_, fun h' tk hk => ?_⟩
 · have hP' : its[i]? = some v := by simpa using hP
   have hi : i < bs.length := by rw [hl]; exact (List.getElem?_eq_some_iff.mp hP').1
   obtain ⟨u', hu', ru⟩ := rv.get (i := i) (x := .bl bs[i]) (by rw [List.getElem?_map, List.getElem?_eq_getElem hi]; rfl)
   rw [hP'] at hu'
   cases hu'
   cases ru
   dsimp only at hQ
   rw [List.getElem?_eq_getElem hi, Option.getD_some] at hQ
   exact wpAny_truthy_bool hQ
 · have e : ((List.range its.toArray.size).all fun i => (bs[i]?).getD true) = bs.all id := by
     rw [List.size_toArray, ← hl, Bool.eq_iff_iff, List.all_eq_true, List.all_eq_true]
     constructor
     · intro z b hb
       obtain ⟨i, hi, rfl⟩ := List.getElem_of_mem hb
       have := z i (List.mem_range.mpr hi)
       rw [List.getElem?_eq_getElem hi, Option.getD_some] at this
       exact this
     · intro z i hi
       have hi' := List.mem_range.mp hi
       rw [List.getElem?_eq_getElem hi', Option.getD_some]
       exact z _ (List.getElem_mem hi')
   rw [e]
   exact ⟨.bl _, H, I.kept (fun b o e => hk b o (fun hm => by rw [List.mem_singleton.mp hm] at e; exact Nat.lt_irrefl _ (Heap.lt_size e)) (Heap.get?_push_of_some _ e)), rfl, q⟩
end L2
namespace L2
open PySem PySem.Spec PyProof.Rows
theorem SqT.same {K : PySem.W.Frag} {H H' : Hp} {a : Addr} {xs : List V} (h : SqT K H a xs) (e : Same H H') : SqT K H' a xs := by
 rcases h with (h | ⟨o, h⟩) | h
 · exact .inl (.inl (e _ _ h))
 · exact .inl (.inr ⟨o, e _ _ h⟩)
 · exact .inr h
theorem Same.new {H : Hp} {p : Addr} {o : HO} (h : H p = none) : Same H (upd H p o) := fun b u q => by rw [upd_ne (ne_of_none q h)]; exact q
theorem Same.mv {H H' : Hp} {a : Addr} (h : Same H H') : Mv a H H' := fun b o _ q => h b o q
theorem Paired.get {α β : Type} {F : α → β → Prop} : ∀ {l₁ : List α} {l₂ : List β} {i : Nat} {a : α}, Paired F l₁ l₂ → l₁[i]? = some a → ∃ b, l₂[i]? = some b ∧ F a b
 | _, _, _, _, .nil, e => by simp at e
 | _, _, 0, _, .cons h _, e => by simp at e; subst e; exact ⟨_, rfl, h⟩
 | _, _, i + 1, _, .cons _ t, e => by
   obtain ⟨b, h1, h2⟩ := Paired.get (i := i) t (by simpa using e)
   exact ⟨b, by simpa using h1, h2⟩
theorem Paired.get' {α β : Type} {F : α → β → Prop} : ∀ {l₁ : List α} {l₂ : List β} {i : Nat} {b : β}, Paired F l₁ l₂ → l₂[i]? = some b → ∃ a, l₁[i]? = some a ∧ F a b
 | _, _, _, _, .nil, e => by simp at e
 | _, _, 0, _, .cons h _, e => by simp at e; subst e; exact ⟨_, rfl, h⟩
 | _, _, i + 1, _, .cons _ t, e => by
   obtain ⟨b, h1, h2⟩ := Paired.get' (i := i) t (by simpa using e)
   exact ⟨b, by simpa using h1, h2⟩
theorem Paired.take {α β : Type} {F : α → β → Prop} : ∀ {l₁ : List α} {l₂ : List β} (n : Nat), Paired F l₁ l₂ → Paired F (l₁.take n) (l₂.take n)
 | _, _, 0, _ => by simp; exact .nil
 | _, _, _ + 1, .nil => .nil
 | _, _, n + 1, .cons h t => .cons h (Paired.take n t)
theorem Paired.append {α β : Type} {F : α → β → Prop} {l₁ l₁' : List α} {l₂ l₂' : List β} (a : Paired F l₁ l₂) (b : Paired F l₁' l₂') : Paired F (l₁ ++ l₁') (l₂ ++ l₂') := by
 induction a with
 | nil => exact b
 | cons h t ih => exact .cons h ih
def NumV (K : PySem.W.Frag) (H : Hp) (x : V) (q : Rat) : Prop := ∃ r, x = .ref r ∧ SqT K H r [.int q.num, .int q.den]
abbrev Nums (K : PySem.W.Frag) (H : Hp) : List V → List Rat → Prop := Paired (NumV K H)
theorem NumV.of {K : PySem.W.Frag} {H : Hp} {r : Addr} {q : Rat} (h : H r = some (nT q)) : NumV K H (.ref r) q := ⟨r, rfl, SqT.of h⟩
theorem NumV.same {K : PySem.W.Frag} {H H' : Hp} {x : V} {q : Rat} (h : NumV K H x q) (e : Same H H') : NumV K H' x q := by
 obtain ⟨r, rfl, h⟩ := h
 exact ⟨r, rfl, h.same e⟩
theorem Nums.same {K : PySem.W.Frag} {H H' : Hp} {xs : List V} {qs : List Rat} (h : Nums K H xs qs) (e : Same H H') : Nums K H' xs qs := Paired.mapP h fun _ _ z => z.same e
theorem SqT.mv {K : PySem.W.Frag} {H H' : Hp} {a p : Addr} {xs : List V} (h : SqT K H a xs) (pn : Pen H p) (m : Mv p H H') : SqT K H' a xs := by
 obtain ⟨c0, c1, c2, e⟩ := pn
 rcases h with (h | ⟨o, h⟩) | h
 · exact .inl (.inl (m _ _ (ne_of h e (fun z => by cases z)) h))
 · exact .inl (.inr ⟨o, m _ _ (ne_of h e (fun z => by cases z)) h⟩)
 · exact .inr h
theorem NumV.mv {K : PySem.W.Frag} {H H' : Hp} {x : V} {q : Rat} {p : Addr} (h : NumV K H x q) (pn : Pen H p) (m : Mv p H H') : NumV K H' x q := by
 obtain ⟨r, rfl, h⟩ := h
 exact ⟨r, rfl, h.mv pn m⟩
theorem Nums.mv {K : PySem.W.Frag} {H H' : Hp} {xs : List V} {qs : List Rat} {p : Addr} (h : Nums K H xs qs) (pn : Pen H p) (m : Mv p H H') : Nums K H' xs qs := Paired.mapP h fun _ _ z => z.mv pn m
theorem SqT.put {K : PySem.W.Frag} {H : Hp} {a p : Addr} {xs ys : List V} {o : HO} (h : SqT K H a xs) (hp : H p = some (.lst ys)) : SqT K (upd H p o) a xs := by
 rcases h with (h | ⟨u, h⟩) | h
 · exact .inl (.inl (by rw [upd_ne (ne_of h hp (fun z => by cases z))]; exact h))
 · exact .inl (.inr ⟨u, by rw [upd_ne (ne_of h hp (fun z => by cases z))]; exact h⟩)
 · exact .inr h
theorem NumV.put {K : PySem.W.Frag} {H : Hp} {x : V} {q : Rat} {p : Addr} {ys : List V} {o : HO} (h : NumV K H x q) (hp : H p = some (.lst ys)) : NumV K (upd H p o) x q := by
 obtain ⟨r, rfl, h⟩ := h
 exact ⟨r, rfl, h.put hp⟩
theorem Nums.put {K : PySem.W.Frag} {H : Hp} {xs : List V} {qs : List Rat} {p : Addr} {ys : List V} {o : HO} (h : Nums K H xs qs) (hp : H p = some (.lst ys)) : Nums K (upd H p o) xs qs := Paired.mapP h fun _ _ z => z.put hp
def Crv (K : PySem.W.Frag) (H : Hp) (r : Addr) (qs : List Rat) : Prop := ∃ xs, SqT K H r xs ∧ Nums K H xs qs
theorem Crv.same {K : PySem.W.Frag} {H H' : Hp} {r : Addr} {qs : List Rat} (h : Crv K H r qs) (e : Same H H') : Crv K H' r qs := let ⟨xs, a, b⟩ := h; ⟨xs, a.same e, b.same e⟩
theorem Crv.mv {K : PySem.W.Frag} {H H' : Hp} {r p : Addr} {qs : List Rat} (h : Crv K H r qs) (pn : Pen H p) (m : Mv p H H') : Crv K H' r qs := let ⟨xs, a, b⟩ := h; ⟨xs, a.mv pn m, b.mv pn m⟩
def nD (q : Rat) : PyData := .tuple [.int q.num, .int q.den]
theorem NumV.rds {K : PySem.W.Frag} {H : Hp} {x : V} {q : Rat} (h : NumV K H x q) : Rds K H x (nD q) := by
 obtain ⟨r, rfl, h⟩ := h
 refine .tup h rfl fun i x d e1 e2 => ?_
 match i with
 | 0 => simp at e1 e2; subst e1; subst e2; exact .int _
 | 1 => simp at e1 e2; subst e1; subst e2; exact .int _
 | i + 2 => simp at e1
theorem nD_eqv (p q : Rat) : PyData.eqv (nD p) (nD q) = decide (p = q) := by
 show (p.num == q.num && (((p.den : Int) == (q.den : Int)) && true)) = _
 rw [Bool.and_true, Bool.eq_iff_iff]
 simp only [Bool.and_eq_true, beq_iff_eq, decide_eq_true_eq]
 constructor
 · rintro ⟨h1, h2⟩
   exact Rat.ext h1 (Int.ofNat.inj h2)
 · rintro rfl
   exact ⟨rfl, rfl⟩
theorem nDs_eqv : ∀ ps qs : List Rat, PyData.eqvAll (ps.map nD) (qs.map nD) = decide (ps = qs)
 | [], [] => rfl
 | [], _ :: _ => rfl
 | _ :: _, [] => rfl
 | p :: ps, q :: qs => by
   show (PyData.eqv (nD p) (nD q) && PyData.eqvAll (ps.map nD) (qs.map nD)) = _
   rw [nD_eqv, nDs_eqv ps qs, Bool.eq_iff_iff]
   simp
theorem nD_shaped (q : Rat) : SeqAt.shaped (nD q) = true := by rfl
theorem Nums.rds {K : PySem.W.Frag} {H : Hp} {xs : List V} {qs : List Rat} (h : Nums K H xs qs) : ∀ (i : Nat) x d, xs[i]? = some x → (qs.map nD)[i]? = some d → Rds K H x d := fun i x d e1 e2 => by
 obtain ⟨q, hq, hn⟩ := Paired.get h e1
 rw [List.getElem?_map, hq] at e2
 cases e2
 exact hn.rds
theorem Nums.rdsT {K : PySem.W.Frag} {H : Hp} {r : Addr} {xs : List V} {qs : List Rat} (h : Nums K H xs qs) (s : SqT K H r xs) : Rds K H (.ref r) (.tuple (qs.map nD)) := .tup s (by rw [h.length, List.length_map]) h.rds
theorem Nums.rdsL {K : PySem.W.Frag} {H : Hp} {r : Addr} {xs : List V} {qs : List Rat} (h : Nums K H xs qs) (s : SqL K H r xs) : Rds K H (.ref r) (.list (qs.map nD)) := .lst s (by rw [h.length, List.length_map]) h.rds
theorem nDs_lay : ∀ qs : List Rat, PyData.canLayAll0 (qs.map nD) = true
 | [] => rfl
 | q :: r => by
   show (PyData.canLay0 (nD q) && PyData.canLayAll0 (r.map nD)) = true
   rw [nDs_lay r]; rfl
theorem nDs_depth : ∀ qs : List Rat, PyData.depthAll (qs.map nD) ≤ 1
 | [] => Nat.zero_le _
 | q :: r => by
   have ih := nDs_depth r
   show max (PyData.depth (nD q)) (PyData.depthAll (r.map nD)) ≤ 1
   exact Nat.max_le.mpr ⟨Nat.le_refl _, ih⟩
theorem nDs_shL (qs : List Rat) : SeqAt.shaped (.list (qs.map nD)) = true := by
 show (PyData.canLayAll0 (qs.map nD) && decide (PyData.depthAll (qs.map nD) + 1 ≤ 64)) = true
 rw [nDs_lay, Bool.true_and]
 exact decide_eq_true (by have := nDs_depth qs; lia)
theorem nDs_shT (qs : List Rat) : SeqAt.shaped (.tuple (qs.map nD)) = true := nDs_shL qs
theorem eqN {K : PySem.W.Frag} {H : Hp} {x y : V} {p q : Rat} {Q : VK} {neg : Bool} (h1 : NumV K H x p) (h2 : NumV K H y q) (h : Q (.bl (if neg then !decide (p = q) else decide (p = q))) H) : rEqD K neg x y H Q :=
 eqD_of ⟨_, _, h1.rds, h2.rds, nD_shaped _, nD_shaped _, by rw [nD_eqv]; exact h⟩
theorem eqT {K : PySem.W.Frag} {H : Hp} {a b : Addr} {ps qs : List Rat} {Q : VK} {neg : Bool} (h1 : Crv K H a ps) (h2 : Crv K H b qs) (h : Q (.bl (if neg then !decide (ps = qs) else decide (ps = qs))) H) : rEqD K neg (.ref a) (.ref b) H Q := by
 obtain ⟨xs, s1, n1⟩ := h1
 obtain ⟨ys, s2, n2⟩ := h2
 refine eqD_of ⟨_, _, n1.rdsT s1, n2.rdsT s2, nDs_shT _, nDs_shT _, ?_⟩
 have e : PyData.eqv (.tuple (ps.map nD)) (.tuple (qs.map nD)) = decide (ps = qs) := nDs_eqv ps qs
 rw [e]; exact h
theorem wh_by {c : TT} {tb : TS} {D : Ends} {σ : St} {H : Hp} (Pv : St → Hp → Prop) (μ : St → Hp → Nat) (h0 : Pv σ H)
   (hs : ∀ σ H, Pv σ H → c σ H fun b H1 => if b = true then ∃ N : St → Hp → Prop, (∀ σ' H', N σ' H' → ∃ m', m' < μ σ H ∧ (m' = μ σ' H' ∧ Pv σ' H')) ∧ tb { D with nx := N, ct := N, bk := D.nx } σ H1 else D.nx σ H1) : tWhile c tb D σ H := by
 refine ⟨fun m σ H => m = μ σ H ∧ Pv σ H, ⟨_, rfl, h0⟩, ?_⟩
 rintro m σ H ⟨rfl, p⟩
 exact hs σ H p
theorem wh_go {tb : TS} {D : Ends} {σ : St} {H1 : Hp} {m : Nat} {Pv : St → Hp → Prop} {μ : St → Hp → Nat}
   (h : tb { D with nx := fun σ' H' => Pv σ' H' ∧ μ σ' H' < m, ct := fun σ' H' => Pv σ' H' ∧ μ σ' H' < m, bk := D.nx } σ H1) :
   ∃ N : St → Hp → Prop, (∀ σ' H', N σ' H' → ∃ m', m' < m ∧ (m' = μ σ' H' ∧ Pv σ' H')) ∧ tb { D with nx := N, ct := N, bk := D.nx } σ H1 :=
 ⟨_, fun _ _ ⟨p, l⟩ => ⟨_, l, rfl, p⟩, h⟩
def RB (n : Nat) (q : Rat) : Prop := Bd n q.num ∧ Bd n (q.den : Int)
theorem Bd.mul {m n : Nat} {x y : Int} (h1 : Bd m x) (h2 : Bd n y) : Bd (m + n) (x * y) := by
 unfold Bd at *
 rw [Int.natAbs_mul, Nat.pow_add]
 exact Nat.mul_lt_mul'' h1 h2
theorem Bd.add {n : Nat} {x y : Int} (h1 : Bd n x) (h2 : Bd n y) : Bd (n + 1) (x + y) := by
 unfold Bd at *
 rw [Nat.pow_succ, Nat.mul_two]
 exact Nat.lt_of_le_of_lt (Int.natAbs_add_le x y) (Nat.add_lt_add h1 h2)
theorem Bd.sub {n : Nat} {x y : Int} (h1 : Bd n x) (h2 : Bd n y) : Bd (n + 1) (x - y) := by
 rw [Int.sub_eq_add_neg]
 exact Bd.add h1 (by unfold Bd; rw [Int.natAbs_neg]; exact h2)
theorem Bd.fdiv {n : Nat} {x y : Int} (h : Bd n x) : Bd n (x.fdiv y) := Nat.lt_of_le_of_lt (PySem.natAbs_fdiv_le x y) h
theorem MulC.bd {m n : Nat} {x y : Int} (h1 : Bd m x) (h2 : Bd n y) (h : m + n ≤ 134217728 := by lia) : MulC x y := .inr (.inr ⟨m, n, h1, h2, h⟩)
theorem RB.mono {m n : Nat} {q : Rat} (h : RB m q) (hmn : m ≤ n) : RB n q := ⟨h.1.mono hmn, h.2.mono hmn⟩
theorem RB.div {m n : Nat} {t b : Int} (h1 : Bd n t) (h2 : Bd n b) (hb : b ≠ 0) : RB n (Rat.divInt t b) := ⟨Bd.num h1, Bd.den hb h2⟩
theorem vals_abs : ∀ {us : List Value} {xs : List V}, us.map absV = xs.map some → (∀ u ∈ us, ∀ x, absV u = some x → RelV x u) → Vals xs us
 | [], [], _, _ => .nil
 | [], _ :: _, e, _ => by simp at e
 | _ :: _, [], e, _ => by simp at e
 | u :: us, x :: xs, e, h => by
   simp only [List.map_cons, List.cons.injEq] at e
   exact .cons (h u List.mem_cons_self x e.1) (vals_abs e.2 fun v hv => h v (List.mem_cons_of_mem _ hv))
theorem absV_rel {u : Value} {x : V} (h : absV u = some x) : RelV x u := by
 cases u <;> first | (cases h; rfl) | (cases h; exact ⟨_, rfl⟩) | cases h
theorem const_num {K : PySem.W.Frag} {H : Hp} {a : Addr} {o : Obj} {vs : Array Value} {n : Nat} {q : Rat} (hk : K.lookup a = some o) (hc : o.cls = .type "tuple") (hd : o.data = .seq vs n) (e : vs.toList.map absV = [some (.int q.num), some (.int (q.den : Int))]) : SqT K H a [.int q.num, .int q.den] := by
 refine .inr ⟨o, vs, n, hk, hc, hd, ?_, vals_abs e fun u _ x h => absV_rel h⟩
 have hl := congrArg List.length e
 simp at hl
 rw [hl]; decide
theorem RB.plus {m n : Nat} {p q : Rat} (h1 : RB m p) (h2 : RB n q) : RB (m + n + 1) (p + q) := by
 rw [← Nm.plus_eq]
 refine ⟨Bd.num (Bd.add (h1.1.mul h2.2) ((h2.1.mul h1.2).mono (by lia))), Bd.den (Int.mul_ne_zero (Nm.den_ne p) (Nm.den_ne q)) ((h1.2.mul h2.2).mono (by lia))⟩
theorem RB.minus {m n : Nat} {p q : Rat} (h1 : RB m p) (h2 : RB n q) : RB (m + n + 1) (p - q) := by
 rw [← Nm.minus_eq]
 refine ⟨Bd.num (Bd.sub (h1.1.mul h2.2) ((h2.1.mul h1.2).mono (by lia))), Bd.den (Int.mul_ne_zero (Nm.den_ne p) (Nm.den_ne q)) ((h1.2.mul h2.2).mono (by lia))⟩
theorem RB.times {m n : Nat} {p q : Rat} (h1 : RB m p) (h2 : RB n q) : RB (m + n) (p * q) := by
 rw [← Nm.times_eq]
 exact ⟨Bd.num (h1.1.mul h2.1), Bd.den (Int.mul_ne_zero (Nm.den_ne p) (Nm.den_ne q)) (h1.2.mul h2.2)⟩
theorem RB.zero {n : Nat} (h : 1 ≤ n) : RB n 0 := ⟨(show Bd 1 0 by unfold Bd; decide).mono h, (show Bd 1 1 by unfold Bd; decide).mono h⟩
theorem RB.one {n : Nat} (h : 1 ≤ n) : RB n 1 := ⟨(show Bd 1 1 by unfold Bd; decide).mono h, (show Bd 1 1 by unfold Bd; decide).mono h⟩
inductive spBin (K : PySem.W.Frag) (g : Rat → Rat → Rat) (vs : List V) (H : Hp) (Q : VK) (E_3 : XK) : Prop
 | mk (x y : V) (p q : Rat) (m n : Nat) (h1 : vs = [x, y]) (h2 : NumV K H x p) (h3 : NumV K H y q) (h4 : RB m p) (h5 : RB n q) (h6 : m + n ≤ 100000000) (h7 : ∀ r, H r = none → Q (.ref r) (upd H r (nT (g p q)))) : spBin K g vs H Q E_3
end L2
namespace L2
open PySem PySem.Spec PyProof.Rows
def Sq (b : Bool) (K : PySem.W.Frag) (H : Hp) (a : Addr) (xs : List V) : Prop := match b with
 | true => SqL K H a xs
 | false => SqT K H a xs
theorem Sq.same {b : Bool} {K : PySem.W.Frag} {H H' : Hp} {a : Addr} {xs : List V} (h : Sq b K H a xs) (e : Same H H') : Sq b K H' a xs := by
 cases b
 · exact SqT.same h e
 · exact e.seq h
theorem pi_either {X : Cx} {tg l : Expr} {w1 w2 : TI} (h1 : PI X tg l w1) (h2 : PI X tg l w2) : PI X tg l (fun σ H R => w1 σ H R ∨ w2 σ H R) := fun pins s σ H R I h => by
 rcases h with h | h
 · exact h1 pins s σ H R I h
 · exact h2 pins s σ H R I h
abbrev iSeq (K : PySem.W.Frag) (tl : TE) : TI := fun σ H R => iList K tl σ H R ∨ iTup K tl σ H R
theorem for_seq {K : PySem.W.Frag} {b : Bool} {a : Addr} {n : Nat} {xs : List V} {g : TG} {tb : TS} {D : Ends} {σ : St} {H : Hp} (hσ : σ[n]? = some (some (.ref a))) (Pv : Nat → St → Hp → Prop) (h0 : Pv 0 σ H) (hl : ∀ i σ H, i ≤ xs.length → Pv i σ H → Sq b K H a xs)
   (hs : ∀ i x σ H, xs[i]? = some x → Pv i σ H → g x σ H fun σ2 H2 => tb { D with nx := Pv (i + 1), ct := Pv (i + 1), bk := D.nx } σ2 H2) (hd : ∀ σ H, Pv xs.length σ H → D.nx σ H) :
   tFor (iSeq K (tVar n)) g tb D σ H := by
 have q := hl 0 σ H (Nat.zero_le _) h0
 cases b with
 | true => exact .inl ⟨_, hσ, a, rfl, ⟨xs, q⟩, for_list Pv h0 hl hs hd⟩
 | false => exact .inr ⟨_, hσ, a, rfl, ⟨xs, q⟩, for_tup Pv h0 hl hs hd⟩
theorem lc_seq {K : PySem.W.Frag} {b : Bool} {a : Addr} {n : Nat} {js : List Nat} {xs : List V} {te : TE} {σ : St} {H : Hp} {Q : VK} (hσ : σ[n]? = some (some (.ref a))) (Pv : Nat → List V → Hp → Prop) (h0 : Pv 0 [] H)
   (hl : ∀ i zs H, i ≤ xs.length → Pv i zs H → Sq b K H a xs ∧ zs.length = i) (hz : xs.length ≤ sizeLine)
   (hs : ∀ i x zs H, xs[i]? = some x → Pv i zs H → te ((cS 1 js σ).set 0 (some x)) H fun y H4 => Pv (i + 1) (zs ++ [y]) H4) (fin : ∀ zs H', Pv xs.length zs H' → ∀ p, H' p = none → Q (.ref p) (upd H' p (.lst zs))) :
   tLC (iSeq K (tVar n)) 1 js (gName 0) tYes te σ H Q := by
 have q := (hl 0 [] H (Nat.zero_le _) h0).1
 cases b with
 | true =>
   refine lc_of (.inl ⟨_, hσ, a, rfl, ⟨xs, q⟩, xs.length, Pv, h0, ⟨?_, ?_, ?_⟩⟩)
   · intro i zs H' hi p
     have hle := Nat.le_of_lt hi
     obtain ⟨h1, h2⟩ := hl i zs H' hle p
     exact ⟨⟨xs, xs[i], h1, by simp [hi]⟩, by lia⟩
   · rintro i zs H' x H1 hi p ⟨rfl, y⟩
     have hle := Nat.le_of_lt hi
     have hx := y xs (hl i zs _ hle p).1
     exact hs i x zs _ hx p
   · intro zs H' p
     have hle := Nat.le_refl xs.length
     obtain ⟨h1, h2⟩ := hl _ zs H' hle p
     exact ⟨⟨xs, h1, Nat.le_refl _⟩, by lia, fin zs H' p⟩
 | false =>
   refine lc_of (.inr ⟨_, hσ, a, rfl, ⟨xs, q⟩, xs.length, Pv, h0, ⟨?_, ?_, ?_⟩⟩)
   · intro i zs H' hi p
     have hle := Nat.le_of_lt hi
     obtain ⟨h1, h2⟩ := hl i zs H' hle p
     exact ⟨⟨xs, xs[i], h1, by simp [hi]⟩, by lia⟩
   · rintro i zs H' x H1 hi p ⟨rfl, y⟩
     have hle := Nat.le_of_lt hi
     have hx := y xs (hl i zs _ hle p).1
     exact hs i x zs _ hx p
   · intro zs H' p
     have hle := Nat.le_refl xs.length
     obtain ⟨h1, h2⟩ := hl _ zs H' hle p
     exact ⟨⟨xs, h1, Nat.le_refl _⟩, by lia, fin zs H' p⟩
section
variable {X : Cx} (K : PySem.W.Frag)
theorem ixT (e : X.K = K := by rfl) : IxR X (rIxT K) := by subst e; exact ix_tup
theorem ixL (e : X.K = K := by rfl) : IxR X (rIxL K) := by subst e; exact ix_list
theorem eqD (hu : X.A.units + 64 < cLine) (e : X.K = K := by rfl) : OpR X (compareOp .Eq) (rEqD K false) := by subst e; exact op_eqD hu
theorem neD (hu : X.A.units + 64 < cLine) (e : X.K = K := by rfl) : OpR X (compareOp .NotEq) (rEqD K true) := by subst e; exact op_neD hu
theorem notInS (e : X.K = K := by rfl) : OpR X (compareOp .NotIn) (rIn K true) := by subst e; exact op_notIn_seq
theorem slL (e : X.K = K := by rfl) : SlR X (rSlL K) := by subst e; exact sl_list
inductive TyX (K : PySem.W.Frag) (H : Hp) : V → Value → Prop where
 | of {x : V} {t : Value} (h : TyOf K H x t) : TyX K H x t
 | tup {a : Addr} {xs : List V} (h : SqT K H a xs) : TyX K H (.ref a) (.type "tuple")
 | lst {a : Addr} {xs : List V} (h : SqL K H a xs) : TyX K H (.ref a) (.type "list")
inductive cIsi (xs : List V) (H : Hp) (Q : VK) : Prop
 | mk (x : _) (T : _) (t : _) (b : _) (h1 : xs = [x, .ty T]) (h2 : TyX K H x t) (h3 : PySem.W.kitOne K t (.type T) = some b) (h4 : Q (.bl b) H) : cIsi xs H Q
theorem isiK (e : X.K = K := by rfl) : CallR X (.builtin "isinstance") (cIsi K) := by
 subst e
 intro pins s σ H xs us Q I r h
 obtain ⟨x, T, t, b, rfl, ty, e, q⟩ := h
 obtain ⟨u, w', rfl, rx, rT⟩ := vals2 r
 cases rT
 cases ty with
 | of ty => exact isinst_ok I rx ty e fun tk => ⟨.bl b, H, I.tok _, rfl, q⟩
 | tup hq =>
   cases rx
   obtain ⟨its, rv, ⟨o, e1, c, _⟩, _⟩ := I.tuple hq
   exact PySem.W.kia_one PySem.W.kitx_tuple I.kIn ⟨o, e1, c⟩ e (fun z => nomatch z) fun tk => ⟨.bl b, H, I.tok _, rfl, q⟩
 | lst hq =>
   cases rx
   obtain ⟨its, rv, ⟨o, n, e1, c, _⟩, _⟩ := I.list hq
   exact PySem.W.kia_one PySem.W.kitx_list I.kIn ⟨o, e1, c⟩ e (fun z => nomatch z) fun tk => ⟨.bl b, H, I.tok _, rfl, q⟩
inductive cLen (xs : List V) (H : Hp) (Q : VK) : Prop
 | mk (p : _) (ys : _) (h1 : xs = [.ref p]) (h2 : (SqL K H p ys ∨ SqT K H p ys)) (h3 : Q (.int ys.length) H) : cLen xs H Q
theorem lenK (e : X.K = K := by rfl) : CallR X (.builtin "len") (cLen K) := by subst e; exact fun pins s σ H xs us Q I r ⟨p, ys, h1, h2, h3⟩ => call_len_seq pins s σ H xs us Q I r ⟨p, ys, h1, h2, h3⟩
inductive cList (xs : List V) (H : Hp) (Q : VK) : Prop
 | mk (p : _) (ys : _) (h1 : xs = [.ref p]) (h2 : (SqL K H p ys ∨ SqT K H p ys)) (h3 : ∀ l, H l = none → Q (.ref l) (upd H l (.lst ys))) : cList xs H Q
theorem listK (e : X.K = K := by rfl) : CallR X (.type "list") (cList K) := by subst e; exact fun pins s σ H xs us Q I r ⟨p, ys, h1, h2, h3⟩ => call_list_of pins s σ H xs us Q I r ⟨p, ys, h1, h2, h3⟩
inductive cTuple (xs : List V) (H : Hp) (Q : VK) : Prop
 | mk (p : _) (ys : _) (h1 : xs = [.ref p]) (h2 : ((SqL K H p ys ∧ ∀ l, H l = none → Q (.ref l) (upd H l (.tup ys))) ∨ (SqT K H p ys ∧ Q (.ref p) H))) : cTuple xs H Q
theorem tupleK (e : X.K = K := by rfl) : CallR X (.type "tuple") (cTuple K) := by subst e; exact fun pins s σ H xs us Q I r ⟨p, ys, h1, h2⟩ => call_tuple_of pins s σ H xs us Q I r ⟨p, ys, h1, h2⟩
inductive cAll (xs : List V) (H : Hp) (Q : VK) : Prop
 | mk (a : Addr) (bs : List Bool) (h1 : xs = [.ref a]) (h2 : SqL K H a (bs.map V.bl)) (h3 : Q (.bl (bs.all id)) H) : cAll xs H Q
theorem allB (hc : X.calm = true) (e : X.K = K := by rfl) : CallR X (.builtin "all") (cAll K) := by subst e; exact fun pins s σ H xs us Q I r ⟨a, bs, h1, h2, h3⟩ => call_allB hc pins s σ H xs us Q I r ⟨a, bs, h1, h2, h3⟩
variable {tg l : Expr} {tl : TE}
theorem piL (hl : PE X l tl) (e : X.K = K := by rfl) : PI X tg l (iList K tl) := by subst e; exact pi_list hl
theorem piT (hl : PE X l tl) (e : X.K = K := by rfl) : PI X tg l (iTup K tl) := by subst e; exact pi_tup hl
theorem piS (hl : PE X l tl) (e : X.K = K := by rfl) : PI X tg l (iSeq K tl) := by subst e; exact pi_either (pi_list hl) (pi_tup hl)
theorem pgT {es : List Expr} {k : Nat} {t : TGs} {n : Nat} {pos : Pos} (hc : X.calm = true) (h : PGs X es t) (hn : (assignEach es X.env).length = n := by rfl) (hst : (assignEach es X.env).findIdx? (·.1) = none := by rfl) (e : X.K = K := by rfl) : PG X (.Tuple es k pos) (gTup K n t) := by subst e; exact pg_tup hc h hn hst
end
end L2
namespace L2
open PySem PySem.Spec PyProof.Rows
inductive Whole (K : PySem.W.Frag) (H : Hp) : V → Bool → Prop where
 | int (i : Int) : Whole K H (.int i) true
 | bl (b : Bool) : Whole K H (.bl b) false
 | oth {x : V} {t : Value} (ty : TyX K H x t) (h : PySem.W.kitOne K t (.type "int") = some false) : Whole K H x false
inductive spWhole (K : PySem.W.Frag) (vs : List V) (H : Hp) (Q : VK) (E_3 : XK) : Prop
 | mk (x : _) (b : _) (h1 : vs = [x]) (h2 : Whole K H x b) (h3 : Q (.bl b) H) : spWhole K vs H Q E_3
theorem kit_ii (K : PySem.W.Frag) : PySem.W.kitOne K (.type "int") (.type "int") = some true := by kernel_rfl
theorem kit_ib (K : PySem.W.Frag) : PySem.W.kitOne K (.type "int") (.type "bool") = some false := by kernel_rfl
theorem kit_bi (K : PySem.W.Frag) : PySem.W.kitOne K (.type "bool") (.type "int") = some true := by kernel_rfl
theorem kit_bb (K : PySem.W.Frag) : PySem.W.kitOne K (.type "bool") (.type "bool") = some true := by kernel_rfl
theorem kit_tt (K : PySem.W.Frag) : PySem.W.kitOne K (.type "tuple") (.type "tuple") = some true := by kernel_rfl
theorem lc_itr {lo : Int} {n : Nat} {js : List Nat} {te : TE} {σ : St} {H : Hp} {Fin : List V → Hp → Prop} (Pv : Nat → List V → Hp → Prop) (h0 : Pv 0 [] H) (hl : ∀ i zs H, i ≤ n → Pv i zs H → zs.length = i) (hz : n ≤ sizeLine)
   (hs : ∀ i zs H, i < n → Pv i zs H → te ((cS 1 js σ).set 0 (some (.int (lo + i)))) H fun y H4 => Pv (i + 1) (zs ++ [y]) H4) (fin : ∀ zs H', Pv n zs H' → Fin zs H') :
   ∃ (n' : Nat) (W : Nat → List V → Hp → Prop), W 0 [] H ∧ LcW (Itr lo n) n' 1 js σ (gName 0) tYes te Fin W := by
 refine ⟨n, Pv, h0, ⟨?_, ?_, ?_⟩⟩
 · intro i zs H' hi p
   have := hl i zs H' (Nat.le_of_lt hi) p
   exact ⟨hi, by lia⟩
 · rintro i zs H' x H1 hi p ⟨rfl, rfl⟩
   exact hs i zs _ hi p
 · intro zs H' p
   have := hl n zs H' (Nat.le_refl _) p
   exact ⟨Nat.le_refl _, by lia, fin zs H' p⟩
theorem atI_back {α : Type} {xs : List α} {v : α} (h : xs[xs.length - 1]? = some v) : atI xs (-1) = some v := by
 have hl : xs.length - 1 < xs.length := (List.getElem?_eq_some_iff.mp h).1
 have e : ixN xs.length (-1) = some (xs.length - 1) := by
   unfold ixN
   rw [if_neg (by decide), if_pos (by lia)]
   congr 1
   lia
 unfold atI
 rw [e]
 exact h
inductive spIsN (K : PySem.W.Frag) (vs : List V) (H : Hp) (Q : VK) (E_3 : XK) : Prop
 | mk (x : _) (q : _) (h1 : vs = [x]) (h2 : NumV K H x q) (h3 : ∀ H', Same H H' → Q (.bl true) H') : spIsN K vs H Q E_3
def Good (qs : List Rat) : Prop := qs = [] ∨ ∃ q, qs[qs.length - 1]? = some q ∧ q ≠ 0
theorem good_strip (qs : List Rat) : Good (Cv.strip qs) := by
 by_cases h : Cv.strip qs = []
 · exact .inl h
 · have hl : 0 < (Cv.strip qs).length := List.length_pos_iff.mpr h
   have e := List.getElem?_eq_getElem (l := Cv.strip qs) (i := (Cv.strip qs).length - 1) (by lia)
   refine .inr ⟨_, e, fun z => Cv.strip_last qs h ?_⟩
   rw [e, z]
theorem all_rep (n : Nat) : (List.replicate n true).all id = true := by
 rw [List.all_eq_true]
 intro b hb
 exact (List.mem_replicate.mp hb).2
theorem Pen.sm {H H' : Hp} {p : Addr} (h : Pen H p) (e : Same H H') : Pen H' p := let ⟨c0, c1, c2, z⟩ := h; ⟨c0, c1, c2, e _ _ z⟩
theorem rep_nums {K : PySem.W.Frag} {H : Hp} {x : V} {q : Rat} (h : NumV K H x q) : ∀ n : Nat, Nums K H (List.replicate n [x]).flatten (List.replicate n q)
 | 0 => .nil
 | n + 1 => by
   rw [List.replicate_succ, List.flatten_cons, List.replicate_succ]
   exact .cons h (rep_nums h n)
theorem at_plus {ns : List Int} {i : Nat} {t : Int} {k : Int} (h : ns[i]? = some t) (e : k = (i : Int)) : atI (ns.map V.int) k = some (.int t) := by
 subst e
 exact atI_nat (by rw [List.getElem?_map, h]; rfl)
theorem ixN_plus {n i : Nat} {k : Int} (h : i < n) (e : k = (i : Int)) : ixN n k = some i := by
 subst e
 unfold ixN
 rw [if_pos (by lia), if_pos (by lia), Int.toNat_natCast]
theorem Same.put {H H' : Hp} {p : Addr} {o : HO} (h : Same H H') (hp : H p = none) : Same H (upd H' p o) := fun b u q => by rw [upd_ne (ne_of_none q hp)]; exact h b u q
def Up (c M : Nat) (t : Int) : Prop := t.natAbs ≤ c * 2 ^ M
theorem Up.bd {c k M : Nat} {t : Int} (h : Up c M t) (hc : c < 2 ^ k) : Bd (M + k) t := by
 unfold Up at h
 unfold Bd
 rw [Nat.pow_add, Nat.mul_comm (2 ^ M)]
 exact Nat.lt_of_le_of_lt h (Nat.mul_lt_mul_of_pos_right hc (Nat.pow_pos (by decide)))
theorem Up.add {c M : Nat} {t d : Int} (h : Up c M t) (hd : Bd M d) : Up (c + 1) M (t + d) := by
 unfold Up at *
 unfold Bd at hd
 rw [Nat.add_mul, Nat.one_mul]
 exact Nat.le_trans (Int.natAbs_add_le t d) (Nat.add_le_add h (Nat.le_of_lt hd))
theorem Up.mono {c c' M : Nat} {t : Int} (h : Up c M t) (hc : c ≤ c') : Up c' M t := Nat.le_trans h (Nat.mul_le_mul_right _ hc)
end L2
namespace L2
open PySem PySem.Spec PyProof.Rows
def CX1 (P : Program) (w : World) : CXT := fun outer H s E e s' => ∃ (ea : Addr) (cls a0 : Value) (B : Heap) (H' : Hp), e = .ref ea ∧ s'.os = s.os ∧ AllBare s'.gens ∧ Un (frs outer) [] H H' s.heap s'.heap ∧ HOk P w H' s'.heap ∧
 Heap.FlyingW B outer ea cls a0 s'.heap ∧ (∀ b o, s.heap.get? b = some o → b ∉ frs outer → ∃ o', B.get? b = some o') ∧ (∀ b u, H' b = some u → ∃ o', B.get? b = some o') ∧ E cls none H'
section
variable {X : Cx} {pins : List (Addr × Obj)} {σ : St} {H H' : Hp} {s s' : Shared} {B : Heap}
end
section
variable {P : Program} {w : World} {K : PySem.W.Frag} {mg : Str → Option Value} {base : Heap} {N : List Str} {qual : Str} {scope : Scope} {f : Addr} {cd : Value} {A : Around} {outer : List Env} {s : Shared} {H : Hp} {E : XK}
end
structure XCls (K : PySem.W.Frag) (x : Str) (C : Addr) : Prop where
 ns : PySem.W.nsIn K mainGlobals x = some (some (.ref C))
 ob : ∃ bm N nm q bs hdct sn sub ab col dd k0 k1 k2 k3 k5, K.lookup C = some (excClassObj nm q C N bs bm hdct sn sub ab col dd k0 k1 k2 k3 k5 "ValueError.__new__")
 ex : PySem.W.excIn K C [.type "ValueError", .type "Exception", .type "BaseException", .type "object"] "ValueError.__new__" = true
section
variable {X : Cx} {pins : List (Addr × Obj)} {σ : St} {H H' : Hp} {s s' : Shared} {B : Heap}
end
section
open PySem.W PySem.Builtin PySem.Builtin.ObjectAttr PySem.Builtin.Getset_descriptor
variable {prog : Program} {w : World} {A : Around} {E : Value → Shared → Prop} {s : Shared} {K : PySem.W.Frag} {x D : Addr}
structure XTy (K : PySem.W.Frag) (D : Addr) : Prop where
 ga : findIn K (.ref D) "__getattribute__" = some (some (.builtin "BaseException.__getattribute__"))
 gt : findIn K (.ref D) "__getattr__" = some none
 ca : findIn K (.ref D) "__class__" = some (some (.builtin "object.__class__"))
 gg : specialIn K (.builtin "object.__class__") "__get__" = some (some (.builtin "getset_descriptor.__get__"))
 tk : takesIn K (.builtin "object.__class__") = some true
 ob : mroIn K D (.type "object") = some true
 be : mroIn K D (.type "BaseException") = some true
 cl : ∃ c d cd sl, K.lookup D = some ⟨c, d, .cls cd, sl⟩
def clsV : V → Option Value
 | .ref a => some (.ref a)
 | .ty T => some (.type T)
 | _ => none
theorem clsV_rel {y : V} {u c : Value} (r : RelV y u) (e : clsV y = some c) : u = c := by
 cases y <;> cases e <;> exact r
theorem clsV_rels : ∀ {ys : List V} {us cs : List Value}, Vals ys us → ys.map clsV = cs.map some → us = cs
 | _, _, [], .nil, _ => rfl
 | _, _, _ :: _, .nil, e => nomatch e
 | _, _, [], .cons _ _, e => nomatch e
 | _, _, c :: cs, .cons r rs, e => by
   injection e with e1 e2
   rw [clsV_rel r e1, clsV_rels rs e2]
end
section
open PySem.W
variable {X : Cx} (K : PySem.W.Frag)
end
section
variable {P : Program} {w : World} {K : PySem.W.Frag} {mg : Str → Option Value} {base : Heap}
end
structure FdX (P : Program) (w : World) (K : PySem.W.Frag) (mg : Str → Option Value) (base : Heap) (n : Nat) (x : Str) (ps : List Str) (sp : Sp) : Prop where
 ex : ∃ (f : Addr) (fd : FuncData), FnOk P w K mg base (CX1 P w) n f fd ps sp ∧ Binds K fd ps [] ∧ PySem.W.keepIn K (.ref f) = true ∧ mg x = some (.ref f)
end L2
namespace L2
open PySem PySem.Spec PyProof.Rows
def Itd (lo : Int) (n : Nat) : It := ⟨fun i _ => i < n, fun i H x H' => H' = H ∧ x = .int (lo - i), fun i _ => n ≤ i⟩
theorem turn_down {P : Program} {w : World} {K : PySem.W.Frag} {tg : Expr} (it : Addr) (lo : Int) (n : Nat) : Turn P w K tg (Itd lo n) [it] it (fun i h => IsRangeIter h it (lo + (i : Nat) * (-1)) ((n : Int) - (i : Nat)) (-1)) where
 mem := by simp
 obj := fun i h st b hb => by
   have e : b = it := by simpa using hb
   subst e
   exact ⟨_, st, fun v z => by
     have z' : Data.fields _ = Data.cell v := z
     cases z'⟩
 keep := fun i h h' st k => k it (by simp) _ st
 item := by
   intro X hP hw hK hc i pins s σ H E I hf st hg
   subst hP hw hK
   obtain ⟨f0, f1, f2, f3, f4, f5⟩ := hf it (by simp)
   refine (Walks.range (prog := X.prog) (w := X.w) (I.ok.hd hc) it lo (-1) n).item i s _ _ hg st fun v h' tk hv st' kk => ?_
   obtain ⟨t, rfl⟩ := hv
   have I1 : Inv X pins σ H { s with heap := h', toks := tk } := I.turned (fun b o hb e => kk b o (by simpa using hb) e) f0 f1 f3 f4 f5
   refine ⟨_, rfl, go_of (s := { s with heap := h', toks := tk }) (n := "range_iterator") st' rfl rfl (by decide) ⟨.int (lo - i), H, I1, ⟨t, ?_⟩, ⟨rfl, rfl⟩, st', fun b hb => (hf b hb).1⟩⟩
   rw [show lo + (i : Int) * -1 = lo - i by lia]
 done := by
   intro X hP hw hK hc i pins s σ H E I hf st hg
   subst hP hw hK
   obtain ⟨f0, f1, f2, f3, f4, f5⟩ := hf it (by simp)
   exact wpAny_pyNext_range_end (I.ok.hd hc) st (by have : n ≤ i := hg; lia) fun h' eb => ⟨rfl, I.turned (t' := s.toks) (fun b o hb e => eb b o hb e) f0 f1 f3 f4 f5⟩
 self := fun _ _ _ _ _ st h => wpAny_pyIter_rangeiter st h
theorem size_down (a b : Int) : Builtin.Range.rangeSize a b (-1) = (((a - b).toNat : Nat) : Int) := by
 unfold Builtin.Range.rangeSize
 rw [if_neg (by decide)]
 split
 · rw [show -(-1 : Int) = 1 by decide, Int.ediv_one]; lia
 · lia
section
variable {X : Cx} {tg : Expr}
def iDown (ta : TA) : TI := fun σ H R => ta σ H fun vs H1 => ∃ i j : Int, vs = [.int i, .int j, .int (-1)] ∧ (-1000000 ≤ i ∧ i ≤ 1000000 ∧ -1000000 ≤ j ∧ j ≤ 1000000) ∧ R (Itd i (i - j).toNat) H1
theorem pi_down {a b c : Expr} {ta : TA} {p pos : Pos} (hg : Gl X "range") (hm : X.mg "range" = none) (ha : PA X [a, b, c] ta) (hs : starEach [a, b, c] X.env = [(false, eval a X.env), (false, eval b X.env), (false, eval c X.env)] := by rfl)
   (hs2 : starEach [b, c] X.env = [(false, eval b X.env), (false, eval c X.env)] := by rfl) : PI X tg (.Call (.Name "range" p) [a, b, c] [] pos) (iDown ta) := by
 intro pins s σ H R I h
 refine Call_ (ld_blt I hg hm boot_range (PyProof.Rows.callWith_type1 (thn (ha pos pins s σ H _ I h) fun us s1 ⟨vs, H1, I1, r1, q1⟩ => ?_) (by rw [hs, hs2]) (by rw [hs2]; rfl)))
 obtain ⟨i, j, e, ⟨q1, q2, q3, q4⟩, q⟩ := q1
 subst e
 cases r1 with
 | cons r rr =>
   cases rr with
   | cons r' rr =>
     cases rr with
     | cons r3 rr =>
       cases rr
       obtain ⟨t, rfl⟩ := r
       obtain ⟨t', rfl⟩ := r'
       obtain ⟨t3, rfl⟩ := r3
       have sm : Builtin.Range.small i j (-1) = true := by
         unfold Builtin.Range.small
         rw [size_down]
         simp only [Builtin.Range.rangeFitsLong, Bool.and_eq_true, Bool.or_eq_true, decide_eq_true_eq, beq_iff_eq]
         rw [if_neg (by decide)]
         simp only [Bool.and_eq_true, decide_eq_true_eq]
         lia
       refine call_range_3 (by decide) ?_ (.inl (PyProof.noPylong_small (by lia)))
       refine wpAny_pyIter_range (IsRange.new ..) sm ?_
       have I2 : Inv X pins σ H1 { s1 with heap := s1.heap.push { cls := .type "range", data := .fields #[.int i t, .int j t', .int (-1) t3] }, toks := s1.toks } := I1.kept fun b o e => Heap.get?_push_of_some _ e
       refine ⟨_, [_], _, _, H1, rfl, I2.kept (t' := s1.toks) fun b o e => Heap.get?_push_of_some _ e, turn_down _ i (i - j).toNat, ?_, fun b hb => ?_, q⟩
       · show IsRangeIter _ _ (i + ((0 : Nat) : Int) * (-1)) ((((i - j).toNat : Nat) : Int) - ((0 : Nat) : Int)) (-1)
         rw [show i + ((0 : Nat) : Int) * (-1) = i by lia, show (((i - j).toNat : Nat) : Int) - ((0 : Nat) : Int) = Builtin.Range.rangeSize i j (-1) by rw [size_down]; lia]
         exact Heap.get?_push_size _ rfl
       · have e := List.mem_singleton.mp hb
         subst e
         exact I2.fpOk (Nat.le_refl _) (I2.hok.fresh (Nat.le_refl _))
end
theorem for_down {lo : Int} {n : Nat} {g : TG} {tb : TS} {D : Ends} {σ : St} {H : Hp} (Pv : Nat → St → Hp → Prop) (h0 : Pv 0 σ H)
   (hs : ∀ i σ H, i < n → Pv i σ H → g (.int (lo - i)) σ H fun σ2 H2 => tb { D with nx := Pv (i + 1), ct := Pv (i + 1), bk := D.nx } σ2 H2) (hd : ∀ σ H, Pv n σ H → D.nx σ H) :
   ∃ W : Nat → Nat → St → Hp → Prop, (∃ m, W 0 m σ H) ∧ ∀ i m σ H, W i m σ H →
     ((Itd lo n).stop i H ∧ D.nx σ H) ∨ ((Itd lo n).go i H ∧ ∃ N : St → Hp → Prop, (∀ σ' H', N σ' H' → ∃ m', m' < m ∧ W (i + 1) m' σ' H') ∧ ∀ x H', (Itd lo n).yld i H x H' → g x σ H' fun σ2 H2 => tb { D with nx := N, ct := N, bk := D.nx } σ2 H2) := by
 refine ⟨fun i m σ H => m = n - i ∧ i ≤ n ∧ Pv i σ H, ⟨n, by simp, Nat.zero_le _, h0⟩, ?_⟩
 rintro i m σ H ⟨rfl, hi, p⟩
 by_cases hlt : i < n
 · refine .inr ⟨hlt, Pv (i + 1), fun σ' H' p' => ⟨n - (i + 1), by lia, rfl, hlt, p'⟩, fun x H' y => ?_⟩
   obtain ⟨rfl, rfl⟩ := y
   exact hs i σ _ hlt p
 · have e : i = n := by lia
   subst e
   exact .inl ⟨Nat.le_refl _, hd σ H p⟩
theorem lc_lst {K : PySem.W.Frag} {a : Addr} {js : List Nat} {xs : List V} {te : TE} {σ : St} {H : Hp} {Fin : List V → Hp → Prop} (Pv : Nat → List V → Hp → Prop) (h0 : Pv 0 [] H)
   (hl : ∀ i zs H, i ≤ xs.length → Pv i zs H → SqL K H a xs ∧ zs.length = i) (hz : xs.length ≤ sizeLine)
   (hs : ∀ i x zs H, xs[i]? = some x → Pv i zs H → te ((cS 1 js σ).set 0 (some x)) H fun y H4 => Pv (i + 1) (zs ++ [y]) H4) (fin : ∀ zs H', Pv xs.length zs H' → Fin zs H') :
   ∃ (n' : Nat) (W : Nat → List V → Hp → Prop), W 0 [] H ∧ LcW (Itl K a) n' 1 js σ (gName 0) tYes te Fin W := by
 refine ⟨xs.length, Pv, h0, ⟨?_, ?_, ?_⟩⟩
 · intro i zs H' hi p
   obtain ⟨h1, h2⟩ := hl i zs H' (Nat.le_of_lt hi) p
   exact ⟨⟨xs, xs[i], h1, by simp [hi]⟩, by lia⟩
 · rintro i zs H' x H1 hi p ⟨rfl, y⟩
   exact hs i x zs _ (y xs (hl i zs _ (Nat.le_of_lt hi) p).1) p
 · intro zs H' p
   obtain ⟨h1, h2⟩ := hl _ zs H' (Nat.le_refl _) p
   exact ⟨⟨xs, h1, Nat.le_refl _⟩, by lia, fin zs H' p⟩
end L2
namespace L2
open PySem PySem.Spec PyProof.Rows
theorem seq_joinN {i : Nat} {v : V} {c : TT} {t u rest : TS} {D : Ends} {σ : St} {H : Hp} (Pv : St → Hp → Prop) (h : ∀ nx : St → Hp → Prop, (∀ σ' H', Pv σ' H' → nx σ' H') → tIfS c t u { D with nx := nx } (σ.set i (some v)) H) (k : ∀ σ' H', Pv σ' H' → rest D σ' H') : gName i v σ H (tSeq (tIfS c t u) rest D) := h _ k
theorem Bd.neg {n : Nat} {x : Int} (h : Bd n x) : Bd n (-x) := by unfold Bd at *; rw [Int.natAbs_neg]; exact h
theorem rcancel {a c b : Rat} (hb : b ≠ 0) (h : a * b = c * b) : a = c := by
 have h2 : a * b * b⁻¹ = c * b * b⁻¹ := by rw [h]
 rw [Rat.mul_assoc, Rat.mul_assoc, Rat.mul_inv_cancel _ hb, Rat.mul_one, Rat.mul_one] at h2
 exact h2
theorem div_back {b : Int} (hb : b ≠ 0) (t : Int) : Rat.divInt t b * (b : Rat) = (t : Rat) := by
 rw [Rat.divInt_eq_div]
 exact Rat.div_mul_cancel (Nm.cast_ne hb)
theorem ev_over {b : Int} (hb : b ≠ 0) (x : Rat) : ∀ ts : List Int, Cv.ev (ts.map fun t => Rat.divInt t b) x * (b : Rat) = Cv.evI ts x
 | [] => by show (0 : Rat) * _ = 0; grind
 | t :: ts => by
   have ih := ev_over hb x ts
   have e := div_back hb t
   show (Rat.divInt t b + x * Cv.ev (ts.map fun t => Rat.divInt t b) x) * (b : Rat) = (t : Rat) + x * Cv.evI ts x
   rw [← ih, ← e]
   grind
theorem drop_at {α : Type} {l : List α} {n i : Nat} {v : α} (hn : l.length = n) (hi : i < n) (h : l[n - 1 - i]? = some v) : l.drop (n - (i + 1)) = v :: l.drop (n - i) := by
 have hlt : n - (i + 1) < l.length := by rw [hn]; exact Nat.sub_lt (Nat.lt_of_le_of_lt (Nat.zero_le _) hi) (Nat.succ_pos i)
 rw [List.drop_eq_getElem_cons hlt, show n - (i + 1) + 1 = n - i from Nat.succ_pred_eq_of_pos (Nat.sub_pos_of_lt hi)]
 congr 1
 have e : l[n - (i + 1)]? = some v := by rw [show n - (i + 1) = n - 1 - i by rw [Nat.sub_sub, Nat.add_comm]]; exact h
 rw [List.getElem?_eq_getElem hlt] at e
 exact Option.some.inj e
theorem Mv.put' {a l : Addr} {H H' : Hp} {o : HO} (m : Mv a H H') (hl : H l = none) : Mv a H (upd H' l o) := fun b u n q => by rw [upd_ne (ne_of_none q hl)]; exact m b u n q
theorem Mv.free {a l : Addr} {H H' : Hp} (m : Mv a H H') (la : l ≠ a) (h : H' l = none) : H l = none := by
 cases z : H l with
 | none => rfl
 | some u => rw [m l u la z] at h; cases h
theorem Pen.put' {H : Hp} {a l : Addr} {o : HO} (h : Pen H a) (la : l ≠ a) : Pen (upd H l o) a := let ⟨x0, x1, x2, ex⟩ := h; ⟨x0, x1, x2, by rw [upd_ne (Ne.symm la)]; exact ex⟩
theorem Pen.ne' {H : Hp} {a l : Addr} (h : Pen H a) (hl : H l = none) : l ≠ a := let ⟨_, _, _, ex⟩ := h; (ne_of_none ex hl).symm
def RowV (K : PySem.W.Frag) (H : Hp) (x : V) (rs : List Rat) : Prop := ∃ a ys, x = .ref a ∧ SqL K H a ys ∧ Nums K H ys rs
abbrev Rows (K : PySem.W.Frag) (H : Hp) : List V → List (List Rat) → Prop := Paired (RowV K H)
end L2
namespace L2
open PySem PySem.Spec PyProof.Rows
section
variable {X : Cx}
@[irreducible] def rInD (K : PySem.W.Frag) (neg : Bool) : R2 := fun x y H Q => ∃ p ds d, y = .ref p ∧ Rds K H (.ref p) (.list ds) ∧ Rds K H x d ∧ SeqAt.shaped (.list ds) = true ∧ SeqAt.shaped d = true ∧ Q (.bl (if neg then !(ds.any fun y => PyData.eqv y d) else ds.any fun y => PyData.eqv y d)) H
theorem inD_of {K : PySem.W.Frag} {neg : Bool} {x y : V} {H : Hp} {Q : VK} (h : ∃ p ds d, y = .ref p ∧ Rds K H (.ref p) (.list ds) ∧ Rds K H x d ∧ SeqAt.shaped (.list ds) = true ∧ SeqAt.shaped d = true ∧ Q (.bl (if neg then !(ds.any fun y => PyData.eqv y d) else ds.any fun y => PyData.eqv y d)) H) : rInD K neg x y H Q := by
 unfold rInD; exact h
theorem inD (K : PySem.W.Frag) {k : Nat} (hr : Room k X.A) (e : X.K = K := by rfl) : OpR X (compareOp .In) (rInD K false) := by
 subst e
 intro pins s σ H x y v u Q I rx ry h
 unfold rInD at h
 obtain ⟨p, ds, d, rfl, r1, r2, h1, h2, q⟩ := h
 cases ry
 obtain ⟨as, q1⟩ := reads_of I r1 (u := .ref p) rfl
 obtain ⟨bs, q2⟩ := reads_of I r2 rx
 exact SeqAt.in_list_reads q1 q2 (SeqAt.canLay_of_shaped h1) (SeqAt.canLay_of_shaped h2) (PyProof.Rows.room_in_shaped h2 (by have := hr.un; lia)) ⟨.bl _, H, I, rfl, q⟩
theorem notInD (K : PySem.W.Frag) {k : Nat} (hr : Room k X.A) (e : X.K = K := by rfl) : OpR X (compareOp .NotIn) (rInD K true) := by
 subst e
 intro pins s σ H x y v u Q I rx ry h
 unfold rInD at h
 obtain ⟨p, ds, d, rfl, r1, r2, h1, h2, q⟩ := h
 cases ry
 obtain ⟨as, q1⟩ := reads_of I r1 (u := .ref p) rfl
 obtain ⟨bs, q2⟩ := reads_of I r2 rx
 exact SeqAt.notIn_list_reads q1 q2 (SeqAt.canLay_of_shaped h1) (SeqAt.canLay_of_shaped h2) (PyProof.Rows.room_in_shaped h2 (by have := hr.un; lia)) ⟨.bl _, H, I, rfl, q⟩
end
theorem any_nD (q : Rat) : ∀ qs : List Rat, ((qs.map nD).any fun y => PyData.eqv y (nD q)) = decide (q ∈ qs)
 | [] => by simp
 | c :: r => by
   rw [List.map_cons, List.any_cons, nD_eqv, any_nD q r, Bool.eq_iff_iff]
   simp only [Bool.or_eq_true, decide_eq_true_eq, List.mem_cons]
   constructor
   · rintro (h | h)
     · exact .inl h.symm
     · exact .inr h
   · rintro (h | h)
     · exact .inl h.symm
     · exact .inr h
theorem inN {K : PySem.W.Frag} {H : Hp} {x : V} {a : Addr} {xs : List V} {q : Rat} {qs : List Rat} {Q : VK} {neg : Bool} (h1 : NumV K H x q) (s2 : SqL K H a xs) (n2 : Nums K H xs qs) (h : Q (.bl (if neg then !decide (q ∈ qs) else decide (q ∈ qs))) H) : rInD K neg x (.ref a) H Q :=
 inD_of ⟨a, _, _, rfl, n2.rdsL s2, h1.rds, nDs_shL _, nD_shaped _, by rw [any_nD]; exact h⟩
def PtV (K : PySem.W.Frag) (H : Hp) (x : V) (ps : List Rat) : Prop := ∃ a, x = .ref a ∧ Crv K H a ps
abbrev Pts (K : PySem.W.Frag) (H : Hp) : List V → List (List Rat) → Prop := Paired (PtV K H)
theorem PtV.same {K : PySem.W.Frag} {H H' : Hp} {x : V} {ps : List Rat} (h : PtV K H x ps) (e : Same H H') : PtV K H' x ps := let ⟨a, h1, h2⟩ := h; ⟨a, h1, h2.same e⟩
theorem Pts.same {K : PySem.W.Frag} {H H' : Hp} {xs : List V} {pss : List (List Rat)} (h : Pts K H xs pss) (e : Same H H') : Pts K H' xs pss := Paired.mapP h fun _ _ z => z.same e
structure Told where
 x : Rat
 k : Int
 n : Rat
deriving DecidableEq
def TlV (K : PySem.W.Frag) (H : Hp) (v : V) (t : Told) : Prop := ∃ a rx rn, v = .ref a ∧ SqT K H a [rx, .int t.k, rn] ∧ NumV K H rx t.x ∧ NumV K H rn t.n
abbrev Tls (K : PySem.W.Frag) (H : Hp) : List V → List Told → Prop := Paired (TlV K H)
theorem TlV.same {K : PySem.W.Frag} {H H' : Hp} {x : V} {t : Told} (h : TlV K H x t) (e : Same H H') : TlV K H' x t := let ⟨a, rx, rn, h1, h2, h3, h4⟩ := h; ⟨a, rx, rn, h1, h2.same e, h3.same e, h4.same e⟩
theorem TlV.put {K : PySem.W.Frag} {H : Hp} {x : V} {t : Told} {p : Addr} {ys : List V} {o : HO} (h : TlV K H x t) (hp : H p = some (.lst ys)) : TlV K (upd H p o) x t := let ⟨a, rx, rn, h1, h2, h3, h4⟩ := h; ⟨a, rx, rn, h1, h2.put hp, h3.put hp, h4.put hp⟩
theorem Tls.same {K : PySem.W.Frag} {H H' : Hp} {xs : List V} {ts : List Told} (h : Tls K H xs ts) (e : Same H H') : Tls K H' xs ts := Paired.mapP h fun _ _ z => z.same e
theorem Tls.put {K : PySem.W.Frag} {H : Hp} {xs : List V} {ts : List Told} {p : Addr} {ys : List V} {o : HO} (h : Tls K H xs ts) (hp : H p = some (.lst ys)) : Tls K (upd H p o) xs ts := Paired.mapP h fun _ _ z => z.put hp
end L2
namespace L2
open PySem PySem.Spec PyProof.Rows
section
variable {X : Cx} {e : Expr} {te : TE}
theorem vals_rev : ∀ {xs : List V} {us : List Value}, Vals xs us → Vals xs.reverse us.reverse
 | _, _, .nil => .nil
 | x :: xs, u :: us, .cons r t => by
   rw [List.reverse_cons, List.reverse_cons]
   exact (vals_rev t).snoc r
end
end L2
namespace L2
def addL : List Rat → List Rat → List Rat
 | [], m => m
 | a :: l, [] => a :: l
 | a :: l, b :: m => (a + b) :: addL l m
theorem ev_addL (x : Rat) : ∀ l m, Cv.ev (addL l m) x = Cv.ev l x + Cv.ev m x
 | [], m => by show _ = 0 + _; grind [addL]
 | a :: l, [] => by show _ = _ + 0; rw [addL]; grind
 | a :: l, b :: m => by
   have ih := ev_addL x l m
   show (a + b) + x * Cv.ev (addL l m) x = (a + x * Cv.ev l x) + (b + x * Cv.ev m x)
   rw [ih]; grind
theorem addL_length : ∀ l m, (addL l m).length = max l.length m.length
 | [], m => by show m.length = max 0 m.length; lia
 | a :: l, [] => by show l.length + 1 = max (l.length + 1) 0; lia
 | a :: l, b :: m => by
   have ih := addL_length l m
   show (addL l m).length + 1 = max (l.length + 1) (m.length + 1)
   lia
def mulL : List Rat → List Rat → List Rat
 | [], _ => []
 | a :: l, m => addL (m.map (· * a)) (0 :: mulL l m)
theorem ev_mulL (x : Rat) (m : List Rat) : ∀ l, Cv.ev (mulL l m) x = Cv.ev l x * Cv.ev m x
 | [] => by show (0 : Rat) = 0 * _; grind
 | a :: l => by
   have ih := ev_mulL x m l
   show Cv.ev (addL (m.map (· * a)) (0 :: mulL l m)) x = (a + x * Cv.ev l x) * _
   rw [ev_addL, Cv.ev_scale]
   show _ + (0 + x * Cv.ev (mulL l m) x) = _
   rw [ih]; grind
theorem good_le {l m : List Rat} (hm : Good m) (hle : l.length ≤ m.length) (h : ∀ x, Cv.ev l x = Cv.ev m x) : l = m := by
 have e : l ++ List.replicate (m.length - l.length) 0 = m := by
   refine Cv.same_of _ _ (by rw [List.length_append, List.length_replicate]; lia) fun x => ?_
   rw [← Cv.ev_strip, Cv.strip_zeros, Cv.ev_strip]
   exact h x
 by_cases hlt : l.length < m.length
 · rcases hm with hm | ⟨q, hq, q0⟩
   · rw [hm] at hlt; simp at hlt
   · exfalso
     rw [← e, List.length_append, List.length_replicate, List.getElem?_append_right (by lia), List.getElem?_replicate, if_pos (by lia)] at hq
     exact q0 (Option.some.inj hq).symm
 · rw [show m.length - l.length = 0 by lia, List.replicate_zero, List.append_nil] at e
   exact e
theorem good_one {l m : List Rat} (hl : Good l) (hm : Good m) (h : ∀ x, Cv.ev l x = Cv.ev m x) : l = m := by
 by_cases hle : l.length ≤ m.length
 · exact good_le hm hle h
 · exact (good_le hl (by lia) fun x => (h x).symm).symm
open PySem PySem.Spec PyProof.Rows
theorem lc_tup {K : PySem.W.Frag} {a : Addr} {js : List Nat} {xs : List V} {te : TE} {σ : St} {H : Hp} {Fin : List V → Hp → Prop} (Pv : Nat → List V → Hp → Prop) (h0 : Pv 0 [] H)
   (hl : ∀ i zs H, i ≤ xs.length → Pv i zs H → SqT K H a xs ∧ zs.length = i) (hz : xs.length ≤ sizeLine)
   (hs : ∀ i x zs H, xs[i]? = some x → Pv i zs H → te ((cS 1 js σ).set 0 (some x)) H fun y H4 => Pv (i + 1) (zs ++ [y]) H4) (fin : ∀ zs H', Pv xs.length zs H' → Fin zs H') :
   ∃ (n' : Nat) (W : Nat → List V → Hp → Prop), W 0 [] H ∧ LcW (Itt K a) n' 1 js σ (gName 0) tYes te Fin W := by
 refine ⟨xs.length, Pv, h0, ⟨?_, ?_, ?_⟩⟩
 · intro i zs H' hi p
   obtain ⟨h1, h2⟩ := hl i zs H' (Nat.le_of_lt hi) p
   exact ⟨⟨xs, xs[i], h1, by simp [hi]⟩, by lia⟩
 · rintro i zs H' x H1 hi p ⟨rfl, y⟩
   exact hs i x zs _ (y xs (hl i zs _ (Nat.le_of_lt hi) p).1) p
 · intro zs H' p
   obtain ⟨h1, h2⟩ := hl _ zs H' (Nat.le_refl _) p
   exact ⟨⟨xs, h1, Nat.le_refl _⟩, by lia, fin zs H' p⟩
end L2
namespace L2
def ch : Nat → Nat → Nat
 | _, 0 => 1
 | 0, _ + 1 => 0
 | n + 1, k + 1 => ch n k + ch n (k + 1)
def aQ (l : List Rat) : List Rat := (List.range (l.length - 1)).map fun j => l.getD j 0 + l.getD (j + 1) 0
def aQN : Nat → List Rat → List Rat
 | 0, l => l
 | n + 1, l => aQ (aQN n l)
def partsQ (al : List Rat) : List Rat := (List.range al.length).map fun k => al.getD k 0 / ((ch (al.length - 1) k : Nat) : Rat)
def htsQ (al : List Rat) : List Rat := (List.range al.length).map fun j => (aQN j (partsQ al)).getD 0 0
def goL (a b : Rat) : Rat → List Rat → List Rat
 | p, [] => [a * p]
 | p, c :: r => (a * p + b * c) :: goL a b c r
def compL (a b : Rat) : List Rat → List Rat
 | [] => []
 | q :: r => match compL a b r with
   | [] => [q]
   | c :: s => (q + b * c) :: goL a b c s
def hts (cs : List Rat) (lo hi : Rat) : List Rat := if cs = [] then [0] else htsQ (compL (hi - lo) lo cs)
end L2
namespace L2
def sd : List Rat → List Rat
 | [] => []
 | [_] => []
 | _ :: p :: r => addL (0 :: sd (p :: r)) (compL 1 1 (p :: r))
theorem cast_next (n : Nat) : ((n + 1 : Nat) : Rat) = ((n : Nat) : Rat) + 1 := by rw [Rat.natCast_add]; rfl
def nw (c : Nat → Rat) (x : Rat) : Nat → Nat → Rat
 | _, 0 => 0
 | j, n + 1 => c j + (x - ((j : Nat) : Rat)) * nw c x (j + 1) n
end L2
namespace L2
open PySem PySem.Spec PyProof.Rows PySem.SeqAt
end L2
namespace L2
def dL : List Rat → List Rat
 | [] => []
 | _ :: r => addL r (0 :: dL r)
theorem ev_dL (q : Rat) (r : List Rat) (x : Rat) : Cv.ev (dL (q :: r)) x = Cv.ev r x + x * Cv.ev (dL r) x := by
 show Cv.ev (addL r (0 :: dL r)) x = _
 rw [ev_addL]
 show _ + (0 + x * Cv.ev (dL r) x) = _
 grind
def wL (l : List Rat) (c : Nat) : List Rat := (List.range l.length).map fun j => l.getD j 0 * ((j + c : Nat) : Rat)
theorem wL_cons (a : Rat) (r : List Rat) (c : Nat) : wL (a :: r) c = a * ((c : Nat) : Rat) :: wL r (c + 1) := by
 unfold wL
 show (List.range (r.length + 1)).map _ = _
 rw [List.range_succ_eq_map, List.map_cons, List.map_map]
 refine congr (congrArg List.cons ?_) ?_
 · show a * ((0 + c : Nat) : Rat) = _
   rw [Nat.zero_add]
 · refine List.map_congr_left fun j _ => ?_
   show r.getD j 0 * ((j + 1 + c : Nat) : Rat) = r.getD j 0 * ((j + (c + 1) : Nat) : Rat)
   rw [show j + 1 + c = j + (c + 1) by lia]
theorem ev_wL (x : Rat) : ∀ (l : List Rat) (c : Nat), Cv.ev (wL l c) x = ((c : Nat) : Rat) * Cv.ev l x + x * Cv.ev (dL l) x
 | [], c => by show (0 : Rat) = _ * 0 + x * 0; grind
 | a :: r, c => by
   rw [wL_cons, ev_dL]
   show a * ((c : Nat) : Rat) + x * Cv.ev (wL r (c + 1)) x = ((c : Nat) : Rat) * (a + x * Cv.ev r x) + _
   rw [ev_wL x r (c + 1), cast_next]
   grind
theorem slope_ev (x : Rat) : ∀ l : List Rat, Cv.ev ((List.range (l.length - 1)).map fun j => l.getD (j + 1) 0 * ((j + 1 : Nat) : Rat)) x = Cv.ev (dL l) x
 | [] => rfl
 | q :: r => by
   rw [ev_dL]
   have h := ev_wL x r 1
   have e : ((1 : Nat) : Rat) = 1 := rfl
   rw [e, Rat.one_mul] at h
   rw [← h]
   rfl
def ty (x : Rat) : List Rat → List Rat
 | [] => []
 | q :: r => addL (q :: ty x r) ((ty x r).map (· * x))
theorem ev_ty (x h : Rat) : ∀ l, Cv.ev (ty x l) h = Cv.ev l (x + h)
 | [] => rfl
 | q :: r => by
   have ih := ev_ty x h r
   show Cv.ev (addL (q :: ty x r) ((ty x r).map (· * x))) h = q + (x + h) * Cv.ev r (x + h)
   rw [ev_addL, Cv.ev_scale]
   show (q + h * Cv.ev (ty x r) h) + _ = _
   rw [ih]; grind
theorem getD_addL : ∀ (l m : List Rat) (k : Nat), (addL l m).getD k 0 = l.getD k 0 + m.getD k 0
 | [], m, k => by show m.getD k 0 = 0 + m.getD k 0; grind
 | a :: l, [], k => by show (a :: l).getD k 0 = (a :: l).getD k 0 + 0; grind
 | a :: l, b :: m, 0 => rfl
 | a :: l, b :: m, k + 1 => getD_addL l m k
theorem getD_scale (y : Rat) (l : List Rat) (k : Nat) : (l.map (· * y)).getD k 0 = l.getD k 0 * y := by
 rw [List.getD_eq_getElem?_getD, List.getD_eq_getElem?_getD, List.getElem?_map]
 cases l[k]? with
 | none => show (0 : Rat) = 0 * y; grind
 | some t => rfl
theorem ty_zero (x : Rat) : ∀ l, (ty x l).getD 0 0 = Cv.ev l x
 | [] => rfl
 | q :: r => by
   have ih := ty_zero x r
   show (addL (q :: ty x r) ((ty x r).map (· * x))).getD 0 0 = q + x * Cv.ev r x
   rw [getD_addL, getD_scale, ih]
   show q + _ = _
   grind
theorem ty_one (x : Rat) : ∀ l, (ty x l).getD 1 0 = Cv.ev (dL l) x
 | [] => rfl
 | q :: r => by
   have ih := ty_one x r
   have i0 := ty_zero x r
   rw [ev_dL]
   show (addL (q :: ty x r) ((ty x r).map (· * x))).getD 1 0 = _
   rw [getD_addL, getD_scale, ih]
   show (ty x r).getD 0 0 + _ = _
   rw [i0]; grind
theorem coef_one {l m : List Rat} (h : ∀ k : Nat, Cv.ev l ((k : Nat) : Rat) = Cv.ev m ((k : Nat) : Rat)) (k : Nat) : l.getD k 0 = m.getD k 0 := by
 have z := Cv.ident _ (addL l (m.map (· * (-1)))) (Nat.le_refl _) 0 fun k _ => by
   rw [ev_addL, Cv.ev_scale, h k]; grind
 have e : (addL l (m.map (· * (-1)))).getD k 0 = 0 := by
   rw [List.getD_eq_getElem?_getD]
   cases q : (addL l (m.map (· * (-1))))[k]? with
   | none => rfl
   | some t => exact z t (List.mem_of_getElem? q)
 rw [getD_addL, getD_scale] at e
 grind
theorem slope_one {l m : List Rat} (h : ∀ x, Cv.ev l x = Cv.ev m x) (x : Rat) : Cv.ev (dL l) x = Cv.ev (dL m) x := by
 rw [← ty_one, ← ty_one]
 exact coef_one (fun k => by rw [ev_ty, ev_ty, h]) 1
theorem getD_mul0 (a b : List Rat) : (mulL a b).getD 0 0 = a.getD 0 0 * b.getD 0 0 := by
 cases a with
 | nil => show (0 : Rat) = 0 * _; grind
 | cons a l =>
   show (addL (b.map (· * a)) (0 :: mulL l b)).getD 0 0 = a * _
   rw [getD_addL, getD_scale]
   show _ + 0 = _
   grind
theorem getD_mul1 (a b : List Rat) : (mulL a b).getD 1 0 = a.getD 0 0 * b.getD 1 0 + a.getD 1 0 * b.getD 0 0 := by
 cases a with
 | nil => show (0 : Rat) = 0 * _ + 0 * _; grind
 | cons a l =>
   show (addL (b.map (· * a)) (0 :: mulL l b)).getD 1 0 = a * _ + l.getD 0 0 * _
   rw [getD_addL, getD_scale]
   show _ + (mulL l b).getD 0 0 = _
   rw [getD_mul0]; grind
theorem slope_mul {l a b : List Rat} (h : ∀ x, Cv.ev l x = Cv.ev a x * Cv.ev b x) (x : Rat) : Cv.ev (dL l) x = Cv.ev a x * Cv.ev (dL b) x + Cv.ev (dL a) x * Cv.ev b x := by
 rw [← ty_one, ← ty_one, ← ty_one, ← ty_zero, ← ty_zero, ← getD_mul1]
 exact coef_one (fun k => by rw [ev_ty, ev_mulL, ev_ty, ev_ty, h]) 1
theorem slope_add {l a b : List Rat} (h : ∀ x, Cv.ev l x = Cv.ev a x + Cv.ev b x) (x : Rat) : Cv.ev (dL l) x = Cv.ev (dL a) x + Cv.ev (dL b) x := by
 rw [← ty_one, ← ty_one, ← ty_one, ← getD_addL]
 exact coef_one (fun k => by rw [ev_ty, ev_addL, ev_ty, ev_ty, h]) 1
theorem slope_const (c x : Rat) : Cv.ev (dL [c]) x = 0 := by
 rw [ev_dL]; show (0 : Rat) + x * 0 = 0; grind
theorem slope_line (c d x : Rat) : Cv.ev (dL [c, d]) x = d := by
 rw [ev_dL, ev_dL]; show (d + x * 0) + x * (0 + x * 0) = d; grind
def quo (c : Rat) : List Rat → List Rat
 | [] => []
 | _ :: r => addL r ((quo c r).map (· * c))
theorem quo_ev (c x : Rat) : ∀ l, Cv.ev l x = Cv.ev l c + (x - c) * Cv.ev (quo c l) x
 | [] => by show (0 : Rat) = 0 + _ * 0; grind
 | q :: r => by
   have ih := quo_ev c x r
   show q + x * Cv.ev r x = (q + c * Cv.ev r c) + (x - c) * Cv.ev (addL r ((quo c r).map (· * c))) x
   rw [ev_addL, Cv.ev_scale]
   have h : (x - c) * (Cv.ev r x + Cv.ev (quo c r) x * c) = x * Cv.ev r x - c * (Cv.ev r x - (x - c) * Cv.ev (quo c r) x) := by grind
   rw [h, show Cv.ev r x - (x - c) * Cv.ev (quo c r) x = Cv.ev r c by grind]
   grind
theorem quo_length (c : Rat) : ∀ l, (quo c l).length = l.length - 1
 | [] => rfl
 | q :: r => by
   have ih := quo_length c r
   show (addL r ((quo c r).map (· * c))).length = r.length
   rw [addL_length, List.length_map, ih]
   lia
end L2
namespace L2
def prL : List Rat → List Rat
 | [] => [1]
 | o :: os => mulL [-o, 1] (prL os)
def prV (x : Rat) : List Rat → Rat
 | [] => 1
 | o :: os => (x - o) * prV x os
def tuV (x : Rat) : List Rat → Rat
 | [] => 0
 | o :: os => 1 / (x - o) + tuV x os
theorem prL_ev (x : Rat) : ∀ os, Cv.ev (prL os) x = prV x os
 | [] => by show (1 : Rat) + x * 0 = 1; grind
 | o :: os => by
   show Cv.ev (mulL [-o, 1] (prL os)) x = _
   rw [ev_mulL, prL_ev x os]
   show (-o + x * (1 + x * 0)) * prV x os = (x - o) * prV x os
   grind
theorem prV_ne {x : Rat} : ∀ {os : List Rat}, x ∉ os → prV x os ≠ 0
 | [], _ => by show (1 : Rat) ≠ 0; decide
 | o :: os, h => fun z => by
   have h1 : x ≠ o := fun e => h (by rw [e]; exact List.mem_cons_self)
   have h2 : x ∉ os := fun e => h (List.mem_cons_of_mem _ e)
   rcases Rat.mul_eq_zero.mp z with z | z
   · exact h1 (by grind)
   · exact prV_ne h2 z
theorem prV_in {x : Rat} : ∀ {os : List Rat}, x ∈ os → prV x os = 0
 | o :: os, h => by
   show (x - o) * prV x os = 0
   rcases List.mem_cons.mp h with e | e
   · rw [e]; grind
   · rw [prV_in e]; grind
theorem prL_slope (x o : Rat) (os : List Rat) : Cv.ev (dL (prL (o :: os))) x = (x - o) * Cv.ev (dL (prL os)) x + prV x os := by
 rw [slope_mul (l := prL (o :: os)) (a := [-o, 1]) (b := prL os) (fun y => ev_mulL y (prL os) [-o, 1]), slope_line, prL_ev]
 show (-o + x * (1 + x * 0)) * _ + 1 * _ = _
 grind
theorem prL_slope_out {x : Rat} : ∀ {os : List Rat}, x ∉ os → Cv.ev (dL (prL os)) x = prV x os * tuV x os
 | [], _ => by
   show Cv.ev (dL [1]) x = 1 * 0
   rw [slope_const]; grind
 | o :: os, h => by
   have h1 : x ≠ o := fun e => h (by rw [e]; exact List.mem_cons_self)
   have h2 : x ∉ os := fun e => h (List.mem_cons_of_mem _ e)
   rw [prL_slope, prL_slope_out h2]
   show _ = ((x - o) * prV x os) * (1 / (x - o) + tuV x os)
   have hd : x - o ≠ 0 := fun z => h1 (by grind)
   have e : (x - o) * (1 / (x - o)) = 1 := by rw [Rat.mul_comm]; exact Rat.div_mul_cancel hd
   have e2 : ((x - o) * prV x os) * (1 / (x - o) + tuV x os) = ((x - o) * (1 / (x - o))) * prV x os + (x - o) * (prV x os * tuV x os) := by grind
   rw [e2, e]; grind
theorem prL_slope_two {x : Rat} : ∀ {os : List Rat}, 2 ≤ os.count x → Cv.ev (dL (prL os)) x = 0
 | [], h => by simp at h
 | o :: os, h => by
   rw [prL_slope]
   by_cases e : o = x
   · subst e
     rw [List.count_cons_self] at h
     have hin : o ∈ os := List.count_pos_iff.mp (by lia)
     rw [prV_in hin]; grind
   · rw [List.count_cons_of_ne e] at h
     have hin : x ∈ os := List.count_pos_iff.mp (by lia)
     rw [prL_slope_two h, prV_in hin]; grind
theorem share_in {l m os : List Rat} {y : Rat} (h : ∀ x, Cv.ev l x = prV x os * Cv.ev m x) (hy : y ∈ os) : Cv.ev l y = 0 := by
 rw [h, prV_in hy]; grind
theorem share_slope {l m os : List Rat} (h : ∀ x, Cv.ev l x = prV x os * Cv.ev m x) (y : Rat) : Cv.ev (dL l) y = prV y os * Cv.ev (dL m) y + Cv.ev (dL (prL os)) y * Cv.ev m y := by
 rw [slope_mul (l := l) (a := prL os) (b := m) (fun x => by rw [h, prL_ev]), prL_ev]
theorem share_slope_in {l m os : List Rat} {y : Rat} (h : ∀ x, Cv.ev l x = prV x os * Cv.ev m x) (hy : 2 ≤ os.count y) : Cv.ev (dL l) y = 0 := by
 rw [share_slope h, prL_slope_two hy, prV_in (List.count_pos_iff.mp (by lia))]; grind
end L2
namespace L2
open PySem PySem.Spec PyProof.Rows
theorem lc_filt {K : PySem.W.Frag} {a : Addr} {js : List Nat} {xs : List V} {tc : TT} {te : TE} {σ : St} {H : Hp} {Fin : List V → Hp → Prop} (Pv : Nat → List V → Hp → Prop) (h0 : Pv 0 [] H)
   (hl : ∀ i zs H, i ≤ xs.length → Pv i zs H → SqL K H a xs ∧ zs.length ≤ i) (hz : xs.length ≤ sizeLine)
   (hs : ∀ i x zs H, xs[i]? = some x → Pv i zs H → tc ((cS 1 js σ).set 0 (some x)) H fun b H3 => if b = true then te ((cS 1 js σ).set 0 (some x)) H3 fun y H4 => Pv (i + 1) (zs ++ [y]) H4 else Pv (i + 1) zs H3) (fin : ∀ zs H', Pv xs.length zs H' → Fin zs H') :
   ∃ (n' : Nat) (W : Nat → List V → Hp → Prop), W 0 [] H ∧ LcW (Itl K a) n' 1 js σ (gName 0) tc te Fin W := by
 refine ⟨xs.length, Pv, h0, ⟨?_, ?_, ?_⟩⟩
 · intro i zs H' hi p
   obtain ⟨h1, h2⟩ := hl i zs H' (Nat.le_of_lt hi) p
   exact ⟨⟨xs, xs[i], h1, by simp [hi]⟩, by lia⟩
 · rintro i zs H' x H1 hi p ⟨rfl, y⟩
   exact hs i x zs _ (y xs (hl i zs _ (Nat.le_of_lt hi) p).1) p
 · intro zs H' p
   obtain ⟨h1, h2⟩ := hl _ zs H' (Nat.le_refl _) p
   exact ⟨⟨xs, h1, Nat.le_refl _⟩, by lia, fin zs H' p⟩
end L2
namespace PySem
open Sem (wp)
open Builtin
set_option maxRecDepth 100000
end PySem
namespace L2
open PySem PySem.Spec PyProof.Rows
variable {X : Cx}
end L2
namespace L2
open PySem PySem.Spec PyProof.Rows
def tpD (rs : List Rat) : PyData := .tuple (rs.map nD)
theorem PtV.rds {K : PySem.W.Frag} {H : Hp} {x : V} {ps : List Rat} (h : PtV K H x ps) : Rds K H x (tpD ps) := by
 obtain ⟨a, rfl, xs, s, n⟩ := h
 exact n.rdsT s
theorem tpDs_eqv : ∀ ps qs : List (List Rat), PyData.eqvAll (ps.map tpD) (qs.map tpD) = decide (ps = qs)
 | [], [] => rfl
 | [], _ :: _ => rfl
 | _ :: _, [] => rfl
 | p :: ps, q :: qs => by
   show (PyData.eqv (tpD p) (tpD q) && PyData.eqvAll (ps.map tpD) (qs.map tpD)) = _
   have e : PyData.eqv (tpD p) (tpD q) = decide (p = q) := nDs_eqv p q
   rw [e, tpDs_eqv ps qs, Bool.eq_iff_iff]
   simp
theorem tpDs_lay : ∀ qs : List (List Rat), PyData.canLayAll0 (qs.map tpD) = true
 | [] => rfl
 | q :: r => by
   show (PyData.canLayAll0 (q.map nD) && PyData.canLayAll0 (r.map tpD)) = true
   rw [nDs_lay q, tpDs_lay r]; rfl
theorem tpDs_depth : ∀ qs : List (List Rat), PyData.depthAll (qs.map tpD) ≤ 2
 | [] => Nat.zero_le _
 | q :: r => by
   have ih := tpDs_depth r
   have iq := nDs_depth q
   show max (PyData.depthAll (q.map nD) + 1) (PyData.depthAll (r.map tpD)) ≤ 2
   exact Nat.max_le.mpr ⟨by lia, ih⟩
theorem tpDs_shT (qs : List (List Rat)) : SeqAt.shaped (.tuple (qs.map tpD)) = true := by
 show (PyData.canLayAll0 (qs.map tpD) && decide (PyData.depthAll (qs.map tpD) + 1 ≤ 64)) = true
 rw [tpDs_lay, Bool.true_and]
 exact decide_eq_true (by have := tpDs_depth qs; lia)
theorem Pts.rds {K : PySem.W.Frag} {H : Hp} {xs : List V} {rss : List (List Rat)} (h : Pts K H xs rss) : ∀ (i : Nat) x d, xs[i]? = some x → (rss.map tpD)[i]? = some d → Rds K H x d := fun i x d e1 e2 => by
 obtain ⟨q, hq, hn⟩ := Paired.get h e1
 rw [List.getElem?_map, hq] at e2
 cases e2
 exact hn.rds
theorem eqTT {K : PySem.W.Frag} {H : Hp} {a b : Addr} {xs ys : List V} {ps qs : List (List Rat)} {Q : VK} {neg : Bool} (s1 : SqT K H a xs) (n1 : Pts K H xs ps) (s2 : SqT K H b ys) (n2 : Pts K H ys qs) (h : Q (.bl (if neg then !decide (ps = qs) else decide (ps = qs))) H) : rEqD K neg (.ref a) (.ref b) H Q := by
 refine eqD_of ⟨_, _, .tup s1 (by rw [n1.length, List.length_map]) n1.rds, .tup s2 (by rw [n2.length, List.length_map]) n2.rds, tpDs_shT _, tpDs_shT _, ?_⟩
 have e : PyData.eqv (.tuple (ps.map tpD)) (.tuple (qs.map tpD)) = decide (ps = qs) := tpDs_eqv ps qs
 rw [e]; exact h
end L2
namespace L2
open PySem PySem.Spec PyProof.Rows
theorem Room.units1 {k : Nat} {A : Around} (r : Room k A) : A.units + 1 < cLine := by have := r.un; lia
def kQ (q : Rat) : List Key := [.inl q.num, .inl (q.den : Int)]
theorem kQ_inj {p q : Rat} (h : kQ p = kQ q) : p = q := by
 unfold kQ at h
 injection h with h1 h2
 injection h2 with h2 _
 injection h1 with h1
 injection h2 with h2
 exact Rat.ext h1 (Int.ofNat.inj h2)
def NumT (H : Hp) (x : V) (q : Rat) : Prop := ∃ r, x = .ref r ∧ H r = some (nT q)
abbrev NumsT (H : Hp) : List V → List Rat → Prop := Paired (NumT H)
theorem NumT.num {K : PySem.W.Frag} {H : Hp} {x : V} {q : Rat} (h : NumT H x q) : NumV K H x q := let ⟨r, e, h⟩ := h; ⟨r, e, SqT.of h⟩
theorem NumT.same {H H' : Hp} {x : V} {q : Rat} (h : NumT H x q) (e : Same H H') : NumT H' x q := let ⟨r, z, h⟩ := h; ⟨r, z, e _ _ h⟩
theorem NumT.mv {H H' : Hp} {x : V} {q : Rat} {p : Addr} (h : NumT H x q) (pn : Pen H p) (m : Mv p H H') : NumT H' x q := let ⟨r, z, h⟩ := h; ⟨r, z, m r _ (pn.ne h (nT_ne q)) h⟩
theorem NumT.put {H : Hp} {x : V} {q : Rat} {p : Addr} {ys : List V} {o : HO} (h : NumT H x q) (hp : H p = some (.lst ys)) : NumT (upd H p o) x q := let ⟨r, z, h⟩ := h; ⟨r, z, by rw [upd_ne (ne_of h hp (fun z => by cases z))]; exact h⟩
theorem NumsT.nums {K : PySem.W.Frag} {H : Hp} {xs : List V} {qs : List Rat} (h : NumsT H xs qs) : Nums K H xs qs := Paired.mapP h fun _ _ z => z.num
theorem NumsT.same {H H' : Hp} {xs : List V} {qs : List Rat} (h : NumsT H xs qs) (e : Same H H') : NumsT H' xs qs := Paired.mapP h fun _ _ z => z.same e
theorem NumsT.mv {H H' : Hp} {xs : List V} {qs : List Rat} {p : Addr} (h : NumsT H xs qs) (pn : Pen H p) (m : Mv p H H') : NumsT H' xs qs := Paired.mapP h fun _ _ z => z.mv pn m
theorem NumsT.put {H : Hp} {xs : List V} {qs : List Rat} {p : Addr} {ys : List V} {o : HO} (h : NumsT H xs qs) (hp : H p = some (.lst ys)) : NumsT (upd H p o) xs qs := Paired.mapP h fun _ _ z => z.put hp
def PtT (K : PySem.W.Frag) (H : Hp) (x : V) (ps : List Rat) : Prop := ∃ a us p, x = .ref a ∧ SqT K H a us ∧ Nums K H us ps ∧ us[0]? = some (.ref p) ∧ H p = some (nT (ps.getD 0 0))
abbrev PtsT (K : PySem.W.Frag) (H : Hp) : List V → List (List Rat) → Prop := Paired (PtT K H)
section
variable {K : PySem.W.Frag} {H H' : Hp} {x : V} {ps : List Rat} {xs : List V} {pss : List (List Rat)} {p : Addr} {ys : List V} {o : HO}
theorem PtT.pt (h : PtT K H x ps) : PtV K H x ps := let ⟨a, us, _, e, h1, h2, _⟩ := h; ⟨a, e, us, h1, h2⟩
theorem PtT.same (h : PtT K H x ps) (e : Same H H') : PtT K H' x ps := let ⟨a, us, b, z, h1, h2, h3, h4⟩ := h; ⟨a, us, b, z, h1.same e, h2.same e, h3, e _ _ h4⟩
theorem PtT.mv (h : PtT K H x ps) (pn : Pen H p) (m : Mv p H H') : PtT K H' x ps := let ⟨a, us, b, z, h1, h2, h3, h4⟩ := h; ⟨a, us, b, z, h1.mv pn m, h2.mv pn m, h3, m b _ (pn.ne h4 (nT_ne _)) h4⟩
theorem PtT.put (h : PtT K H x ps) (hp : H p = some (.lst ys)) : PtT K (upd H p o) x ps := let ⟨a, us, b, z, h1, h2, h3, h4⟩ := h; ⟨a, us, b, z, h1.put hp, h2.put hp, h3, by rw [upd_ne (ne_of h4 hp (fun z => by cases z))]; exact h4⟩
theorem PtsT.pts (h : PtsT K H xs pss) : Pts K H xs pss := Paired.mapP h fun _ _ z => z.pt
theorem PtsT.same (h : PtsT K H xs pss) (e : Same H H') : PtsT K H' xs pss := Paired.mapP h fun _ _ z => z.same e
theorem PtsT.mv (h : PtsT K H xs pss) (pn : Pen H p) (m : Mv p H H') : PtsT K H' xs pss := Paired.mapP h fun _ _ z => z.mv pn m
theorem PtsT.put (h : PtsT K H xs pss) (hp : H p = some (.lst ys)) : PtsT K (upd H p o) xs pss := Paired.mapP h fun _ _ z => z.put hp
end
def TlT (K : PySem.W.Frag) (H : Hp) (v : V) (t : Told) : Prop := ∃ a p rn, v = .ref a ∧ SqT K H a [.ref p, .int t.k, rn] ∧ H p = some (nT t.x) ∧ NumV K H rn t.n
abbrev TlsT (K : PySem.W.Frag) (H : Hp) : List V → List Told → Prop := Paired (TlT K H)
section
variable {K : PySem.W.Frag} {H H' : Hp} {x : V} {t : Told} {xs : List V} {ts : List Told} {p : Addr} {ys : List V} {o : HO}
theorem TlT.same (h : TlT K H x t) (e : Same H H') : TlT K H' x t := let ⟨a, b, rn, z, h1, h2, h3⟩ := h; ⟨a, b, rn, z, h1.same e, e _ _ h2, h3.same e⟩
theorem TlT.put (h : TlT K H x t) (hp : H p = some (.lst ys)) : TlT K (upd H p o) x t := let ⟨a, b, rn, z, h1, h2, h3⟩ := h; ⟨a, b, rn, z, h1.put hp, by rw [upd_ne (ne_of h2 hp (fun z => by cases z))]; exact h2, h3.put hp⟩
theorem TlsT.same (h : TlsT K H xs ts) (e : Same H H') : TlsT K H' xs ts := Paired.mapP h fun _ _ z => z.same e
theorem TlsT.put (h : TlsT K H xs ts) (hp : H p = some (.lst ys)) : TlsT K (upd H p o) xs ts := Paired.mapP h fun _ _ z => z.put hp
end
end L2
namespace L2
theorem prL_length : ∀ os, (prL os).length = os.length + 1
 | [] => rfl
 | o :: os => by
   have ih := prL_length os
   show (addL ((prL os).map (· * -o)) (0 :: addL ((prL os).map (· * 1)) (0 :: mulL [] (prL os)))).length = _
   have e : mulL [] (prL os) = [] := rfl
   rw [addL_length, List.length_map, List.length_cons, addL_length, List.length_map, e, ih]
   simp only [List.length_cons, List.length_nil]
   lia
def nwT (T : Nat → Nat → Rat) (x : Nat → Rat) (j : Nat) : Nat → List Rat
 | 0 => []
 | n + 1 => addL (nwT T x j n) ((prL ((List.range n).map fun i => x (j + i))).map (· * T n j))
def prF (x : Nat → Rat) (j n : Nat) (X : Rat) : Rat := prV X ((List.range n).map fun i => x (j + i))
theorem prV_app (X : Rat) : ∀ (l m : List Rat), prV X (l ++ m) = prV X l * prV X m
 | [], m => by show prV X m = 1 * prV X m; grind
 | a :: l, m => by
   show (X - a) * prV X (l ++ m) = (X - a) * prV X l * prV X m
   rw [prV_app X l m]; grind
theorem prF_last (x : Nat → Rat) (j n : Nat) (X : Rat) : prF x j (n + 1) X = prF x j n X * (X - x (j + n)) := by
 unfold prF
 rw [List.range_succ, List.map_append, prV_app]
 show _ * ((X - x (j + n)) * 1) = _
 grind
theorem prF_first (x : Nat → Rat) (j : Nat) (X : Rat) : ∀ n, prF x j (n + 1) X = (X - x j) * prF x (j + 1) n X
 | 0 => by show (X - x (j + 0)) * 1 = (X - x j) * 1; rw [Nat.add_zero]
 | n + 1 => by
   rw [prF_last, prF_first x j X n, prF_last, show j + (n + 1) = j + 1 + n by lia]; grind
theorem nwT_ev (T : Nat → Nat → Rat) (x : Nat → Rat) (j n : Nat) (X : Rat) : Cv.ev (nwT T x j (n + 1)) X = Cv.ev (nwT T x j n) X + T n j * prF x j n X := by
 show Cv.ev (addL _ _) X = _
 rw [ev_addL, Cv.ev_scale, prL_ev]
 show _ + prV X _ * _ = _ + _ * prV X _
 grind
theorem nwT_length (T : Nat → Nat → Rat) (x : Nat → Rat) (j : Nat) : ∀ n, (nwT T x j n).length ≤ n
 | 0 => Nat.le_refl _
 | n + 1 => by
   have ih := nwT_length T x j n
   show (addL _ _).length ≤ _
   rw [addL_length, List.length_map]
   have : (prL ((List.range n).map fun i => x (j + i))).length ≤ n + 1 := by
     have := prL_length ((List.range n).map fun i => x (j + i))
     rw [List.length_map, List.length_range] at this
     lia
   lia
def TabOk (T : Nat → Nat → Rat) (x : Nat → Rat) (N : Nat) : Prop := ∀ k j, j + k + 1 < N → T (k + 1) j * (x (j + k + 1) - x j) = T k (j + 1) - T k j
theorem nwT_back {T : Nat → Nat → Rat} {x : Nat → Rat} {N : Nat} (h : TabOk T x N) (X : Rat) : ∀ n j, j + n < N → Cv.ev (nwT T x j (n + 1)) X = Cv.ev (nwT T x (j + 1) n) X + T n j * prF x (j + 1) n X
 | 0, j, _ => by
   rw [nwT_ev]
   show Cv.ev [] X + T 0 j * 1 = Cv.ev [] X + T 0 j * 1
   rfl
 | n + 1, j, hj => by
   have ih := nwT_back h X n j (by lia)
   have hk := h n j (by lia)
   rw [nwT_ev, ih, nwT_ev T x (j + 1) n, prF_first, prF_last x (j + 1) n, show j + 1 + n = j + n + 1 by lia]
   grind
theorem nwT_at {T : Nat → Nat → Rat} {x : Nat → Rat} {N : Nat} (h : TabOk T x N) : ∀ n j i, j + n ≤ N → i < n → Cv.ev (nwT T x j n) (x (j + i)) = T 0 (j + i)
 | n + 1, j, i, hj, hi => by
   have IH := nwT_at h n
   by_cases hin : i < n
   · rw [nwT_ev, IH j i (by lia) hin]
     have : prF x j n (x (j + i)) = 0 := prV_in (List.mem_map.mpr ⟨i, List.mem_range.mpr hin, rfl⟩)
     rw [this]; grind
   · have e : i = n := by lia
     subst e
     match i, hj, IH with
     | 0, _, _ =>
       rw [nwT_ev]
       show (0 : Rat) + T 0 j * 1 = T 0 j
       grind
     | i + 1, hj, IH =>
       rw [nwT_back h _ (i + 1) j (by lia)]
       have ih := IH (j + 1) i (by lia) (by lia)
       rw [show j + 1 + i = j + (i + 1) by lia] at ih
       rw [ih]
       have : prF x (j + 1) (i + 1) (x (j + (i + 1))) = 0 := prV_in (List.mem_map.mpr ⟨i, List.mem_range.mpr (by lia), by show x (j + 1 + i) = _; rw [show j + 1 + i = j + (i + 1) by lia]⟩)
       rw [this]; grind
theorem count_two {f : Nat → Rat} {n i : Nat} {y : Rat} (h : i + 1 < n) (h0 : f i = y) (h1 : f (i + 1) = y) : 2 ≤ ((List.range n).map f).count y := by
 have hs : [f i, f (i + 1)].Sublist ((List.range n).map f) := by
   have e : (List.range n).map f = ((List.range n).map f).take i ++ (f i :: f (i + 1) :: ((List.range n).map f).drop (i + 2)) := by
     have h0 : ((List.range n).map f)[i]? = some (f i) := by rw [List.getElem?_map, List.getElem?_range (by lia)]; rfl
     have h1 : ((List.range n).map f)[i + 1]? = some (f (i + 1)) := by rw [List.getElem?_map, List.getElem?_range (by lia)]; rfl
     obtain ⟨l0, e0⟩ := List.getElem?_eq_some_iff.mp h0
     obtain ⟨l1, e1⟩ := List.getElem?_eq_some_iff.mp h1
     have a := (List.take_append_drop i ((List.range n).map f)).symm
     rw [List.drop_eq_getElem_cons l0, List.drop_eq_getElem_cons l1, e0, e1] at a
     exact a
   rw [e]
   exact (List.Sublist.cons₂ _ (List.Sublist.cons₂ _ (List.nil_sublist _))).trans (List.sublist_append_right _ _)
 have := hs.count_le y
 rw [h0, h1] at this
 simpa using this
theorem ev_slope_add {l a b : List Rat} {c : Rat} (h : ∀ X, Cv.ev l X = Cv.ev a X + c * Cv.ev b X) (X : Rat) : Cv.ev (dL l) X = Cv.ev (dL a) X + c * Cv.ev (dL b) X := by
 have h1 : ∀ X, Cv.ev l X = Cv.ev a X + Cv.ev (mulL [c] b) X := fun X => by
   rw [h X, ev_mulL]
   show _ = _ + (c + X * 0) * _
   grind
 rw [slope_add h1 X, slope_mul (l := mulL [c] b) (a := [c]) (b := b) (fun X => ev_mulL _ _ _) X, slope_const]
 show _ + ((c + X * 0) * _ + 0 * _) = _
 grind
theorem nwT_slope {T : Nat → Nat → Rat} {x : Nat → Rat} {N : Nat} (h : TabOk T x N) : ∀ n j i, j + n ≤ N → i + 1 < n → x (j + i + 1) = x (j + i) → Cv.ev (dL (nwT T x j n)) (x (j + i)) = T 1 (j + i)
 | n + 1, j, i, hj, hi, he => by
   have IH := nwT_slope h n
   have fwd : ∀ X, Cv.ev (nwT T x j (n + 1)) X = Cv.ev (nwT T x j n) X + T n j * Cv.ev (prL ((List.range n).map fun i => x (j + i))) X := fun X => by
     rw [nwT_ev, prL_ev]; rfl
   by_cases hin : i + 1 < n
   · rw [ev_slope_add fwd, IH j i (by lia) hin he, prL_slope_two (count_two hin rfl he)]
     grind
   · have e : n = i + 1 := by lia
     subst e
     match i, hj, he, fwd, IH with
     | 0, hj, he, fwd, _ =>
       have f2 : ∀ X, Cv.ev (nwT T x j 2) X = Cv.ev [T 0 j] X + T 1 j * Cv.ev [- x j, 1] X := fun X => by
         rw [nwT_ev, nwT_ev]
         show ((0 : Rat) + T 0 j * 1) + T 1 j * ((X - x (j + 0)) * 1) = (T 0 j + X * 0) + T 1 j * (- x j + X * (1 + X * 0))
         rw [Nat.add_zero]; grind
       rw [ev_slope_add f2, slope_const, slope_line]
       show (0 : Rat) + T 1 j * 1 = T 1 j
       grind
     | i + 1, hj, he, fwd, IH =>
       have bwd : ∀ X, Cv.ev (nwT T x j (i + 1 + 1 + 1)) X = Cv.ev (nwT T x (j + 1) (i + 1 + 1)) X + T (i + 1 + 1) j * Cv.ev (prL ((List.range (i + 1 + 1)).map fun k => x (j + 1 + k))) X := fun X => by
         rw [nwT_back h X (i + 1 + 1) j (by lia), prL_ev]; rfl
       rw [show j + (i + 1) + 1 = j + 1 + i + 1 by lia, show j + (i + 1) = j + 1 + i by lia] at he
       have ih := IH (j + 1) i (by lia) (by lia) he
       rw [show j + (i + 1) = j + 1 + i by lia, ev_slope_add bwd, ih, prL_slope_two (count_two (f := fun k => x (j + 1 + k)) (i := i) (by lia) rfl he)]
       grind
end L2
namespace HT
open PySem PyProof.Rows
open PySem.SeqAt
open PySem.AutoSeq1 (wpAny_loadPart')
open PySem.MeetsSeq PySem.MeetsSeq2 PySem.MeetsSeq3
theorem getItem_tuple_whole {prog : Program} {w : World} {A : Around} {E : Value → Shared → Prop} {s : Shared} {t sl : Addr} {items : Array Value} {vl vu : Value} {lo hi : Option Int} {Q : Value → Shared → Prop} (ht : IsTup s.heap t items) (hs : s.heap.IsSliceOf sl vl vu .none) (pl : IsPart vl lo) (pu : IsPart vu hi)
   (hw : sIx items.size 0 lo = 0 ∧ sIx items.size items.size hi = items.size) (h : Q (.ref t) s) : wpAny (model prog w) A (getItem (.ref t) (.ref sl)) Q E s := by
 obtain ⟨os, hos, hcs, hds⟩ := id hs
 have hTs : s.TypeIs (.ref sl) "slice" := ⟨os, hos, hcs⟩
 unfold getItem
 try with_reducible refine wpAny_holding ?_
 first | refine wpAny_bind (wpAny_pure ?_) | skip
 refine wpAny_bind (wpAny_sequenceKey ht.typeIs (by decide) ?_)
 refine wpAny_bind (wpAny_callSpecial?_slot (name := Str.ofString "__getitem__") ht.typeIs PyProof.Rows.slot_tuple_getitem
   (wpAny_call_entry PyProof.Rows.slot_tuple_getitem ht.typeIs entry_tuple_getitem ?_ (args_tuple_getitem _ _)))
 show wpAny _ _ (Builtin.Tuple.tupleItemsOf (.ref t) >>= _) _ _ s
 refine wpAny_bind (tupleItemsOf_ ht ?_)
 refine wpAny_bind (wpAny_typeOf hTs ?_)
 rw [if_pos (by decide)]
 refine wpAny_bind (sliceApplied_gen hs pl pu ?_)
 have hyes : (((sIx items.size 0 lo : Nat) : Int) == 0 && (1 : Int) == 1 && (sIx items.size items.size hi - sIx items.size 0 lo) == items.size) = true := by
   rw [hw.1, hw.2]; simp
 show wpAny _ _ (if (((sIx items.size 0 lo : Nat) : Int) == 0 && (1 : Int) == 1 && (sIx items.size items.size hi - sIx items.size 0 lo) == items.size) = true then _ else _) _ _ s
 rw [if_pos hyes]
 refine wpAny_bind ?_
 refine wpAny_bind (wpAny_typeOf ht.typeIs ?_)
 refine wpAny_pure ?_
 rw [if_pos (by decide)]
 first
   | exact wpAny_bind (wpAny_rule (wpAny_pure ⟨_, rfl, wpAny_pure h⟩))
   | exact wpAny_pure ⟨_, rfl, wpAny_pure h⟩
   | trace_state
end HT
namespace L2
open PySem PySem.Spec PyProof.Rows
section
variable {X : Cx} {K : PySem.W.Frag}
inductive rSlTW (K : PySem.W.Frag) (x : V) (lo : Option Int) (hi : Option Int) (H : Hp) (Q : VK) : Prop
 | mk (a : _) (xs : _) (h1 : x = .ref a) (h2 : SqT K H a xs) (h3 : (HT.sIx xs.length 0 lo = 0 ∧ HT.sIx xs.length xs.length hi = xs.length)) (h4 : Q (.ref a) H) : rSlTW K x lo hi H Q
theorem sl_tupW : SlR X (rSlTW X.K) := by
 intro pins s σ H x v vl vu lo hi sl Q I rx hs pl pu h
 obtain ⟨a, xs, rfl, hx, hw, q⟩ := h
 cases rx
 obtain ⟨its, r, ht, hz⟩ := I.tuple hx
 have hlen : its.toArray.size = xs.length := by rw [List.size_toArray]; exact r.length.symm
 refine ⟨"tuple", _, PyProof.Rows.slot_tuple_getitem.lookup, ht.typeIs, ?_⟩
 exact HT.getItem_tuple_whole ht hs pl pu (by rw [hlen]; exact hw) ⟨.ref a, H, I, rfl, q⟩
def rSlTA (K : PySem.W.Frag) : V → Option Int → Option Int → Hp → VK → Prop := fun x lo hi H Q => rSlT K x lo hi H Q ∨ rSlTW K x lo hi H Q
theorem slTA (K : PySem.W.Frag) (e : X.K = K := by rfl) : SlR X (rSlTA K) := by subst e; exact SlR.or sl_tup sl_tupW
end
theorem cut_to (xs : List V) (v : Nat) : cutV xs none (some (v : Int)) = xs.take v := by
 unfold cutV
 have e1 : HT.sIx xs.length 0 none = 0 := rfl
 have e2 : HT.sIx xs.length xs.length (some (v : Int)) = min v xs.length := HT.sIx_nat _ _ v
 rw [e1, e2, List.drop_zero, Nat.sub_zero]
 by_cases h : v ≤ xs.length
 · rw [Nat.min_eq_left h]
 · rw [Nat.min_eq_right (by lia), List.take_of_length_le (Nat.le_refl _), List.take_of_length_le (by lia)]
end L2
namespace L2
open PySem PySem.Spec PyProof.Rows PySem.SeqAt
section
variable {X : Cx}
theorem _root_.HT.cat_tup0 {prog : Program} {w : World} {A : Around} {E : Value → Shared → Prop} {s : Shared} {t b : Addr} {ws : List Value} {Q : Value → Shared → Prop} (ht : IsTup s.heap t ([] : List Value).toArray) (hb : IsTup s.heap b ws.toArray)
   (h1 : Q (.ref b) s) : wpAny (model prog w) A (binaryOp .Add (.ref t) (.ref b)) Q E s := by
 obtain ⟨⟨cls, dd, data, sl⟩, ho, hc, n, hd⟩ := id ht
 obtain ⟨⟨cls2, dd2, data2, sl2⟩, ho2, hc2, n2, hd2⟩ := id hb
 simp only at hc hd hc2 hd2
 subst hc hd hc2 hd2
 exact concat_meets ⟨_, ho, rfl⟩ ⟨_, ho2, rfl⟩ noFill_tuple_add seq_tuple_add PySem.F.slot_tuple_add PySem.F.entry_tuple_add (PySem.F.args_tuple_add_2 _ _)
     (tuple_addW0 t b ([] : List Value).toArray ws.toArray n n2 dd dd2 sl sl2 (by simp)) ⟨ho, ho2, h1⟩
def rCatTA (K : PySem.W.Frag) : R2 := fun x y H Q => rCatT K x y H Q ∨ ∃ a b ys, x = .ref a ∧ y = .ref b ∧ SqT K H a [] ∧ SqT K H b ys ∧ Q (.ref b) H
theorem op_catTA : OpR X (binaryOp .Add) (rCatTA X.K) := by
 intro pins s σ H x y v u Q I rx ry h
 rcases h with h | ⟨a, b, ys, rfl, rfl, ha, hb, q⟩
 · exact op_catT pins s σ H x y v u Q I rx ry h
 · cases rx
   cases ry
   obtain ⟨its, r1, p1, _⟩ := I.tuple ha
   obtain ⟨its2, r2, p2, _⟩ := I.tuple hb
   cases r1
   exact HT.cat_tup0 p1 p2 ⟨.ref b, H, I, rfl, q⟩
theorem catTA (K : PySem.W.Frag) (e : X.K = K := by rfl) : OpR X (binaryOp .Add) (rCatTA K) := by subst e; exact op_catTA
end
theorem cut_from (xs : List V) (v : Nat) : cutV xs (some (v : Int)) none = xs.drop v := by
 unfold cutV
 have e1 : HT.sIx xs.length 0 (some (v : Int)) = min v xs.length := HT.sIx_nat _ _ v
 have e2 : HT.sIx xs.length xs.length none = xs.length := rfl
 rw [e1, e2]
 by_cases h : v ≤ xs.length
 · rw [Nat.min_eq_left h, List.take_of_length_le (by rw [List.length_drop]; exact Nat.le_refl _)]
 · rw [Nat.min_eq_right (by lia), Nat.sub_self, List.take_zero, List.drop_eq_nil_of_le (by lia)]
end L2
namespace L2
open PySem PySem.Spec PyProof.Rows
theorem bt_zip : bootBuiltins "zip" = some (.type "zip") := by decide +kernel
section
variable {X : Cx} {pins : List (Addr × Obj)} {σ : List (Option V)} {H : Hp} {s : Shared} {h' : Heap}
theorem Inv.turnedL {t' : Nat} {ch : List Addr} (I : Inv X pins σ H s) (k : ∀ b o, b ∉ ch → s.heap.get? b = some o → h'.get? b = some o) (hf : ∀ b ∈ ch, FpOk X pins H b) : Inv X pins σ H { s with heap := h', toks := t' } := by
 have nit : ∀ b u, H b = some u → b ∉ ch := fun b u e z => by rw [(hf b z).1] at e; cases e
 refine I.step (g' := s.gens) (d' := s.drawn) (ch := ch) (fun b hb => ?_) (fun b o _ _ hc e _ => k b o hc e) (fun b o _ _ hc e _ => ⟨o.slots, k b o hc e⟩) (fun _ _ _ _ n => n)
   (fun b o hc e => ⟨o, k b o hc e⟩) (fun _ _ e => e) (fun _ _ _ e => e) (fun b ps e => ⟨#[], by rw [e]; simp⟩) (fun m hm => ?_) (fun b u e => ?_) I.bare
 · obtain ⟨_, hL, _, h1, h2, h3⟩ := hf b hb
   exact ⟨h1, hL, h2, h3⟩
 · obtain ⟨o, es, ep, ho, r⟩ := hm
   exact ⟨o, es, ep, k _ o (fun z => (hf _ z).2.1 rfl) ho, r⟩
 · refine (I.hok b u e).stay (fun c v hc q => k c v ?_ q) (fun _ q => q) fun _ _ q => q
   rcases hc with z | z
   · rw [z]; exact nit b u e
   · exact nit c _ z
end
def Itz (K : PySem.W.Frag) (a b : Addr) (xs ys : List V) : It :=
 ⟨fun i H => SqL K H a xs ∧ SqL K H b ys ∧ i < min xs.length ys.length,
  fun i H x H' => ∃ T x1 y1, xs[i]? = some x1 ∧ ys[i]? = some y1 ∧ H T = none ∧ x = .ref T ∧ H' = upd H T (.tup [x1, y1]),
  fun i H => SqL K H a xs ∧ SqL K H b ys ∧ min xs.length ys.length ≤ i⟩
theorem turn_zip {P : Program} {w : World} {K : PySem.W.Frag} {elts : List Expr} {kk} {pos : Pos} {a b z TI TO i1 i2 : Addr} (D : ZipApart z TI TO i1 i2 a b) (xs ys : List V) :
   Turn P w K (.Tuple elts kk pos) (Itz K a b xs ys) [z, TI, TO, i1, i2] z (fun i h => IsZip h z TI TO .none ∧ IsPair h TI (.ref i1) (.ref i2) ∧ (∃ u v, IsPair h TO u v) ∧ h.IsListIter i1 a i ∧ h.IsListIter i2 b i) where
 mem := by simp
 obj := fun i h st c hc => by
   obtain ⟨hz, hTI, ⟨u, v, hTO⟩, ⟨o1, e1, _, d1⟩, ⟨o2, e2, _, d2⟩⟩ := st
   have hc' : c = z ∨ c = TI ∨ c = TO ∨ c = i1 ∨ c = i2 := by simpa using hc
   rcases hc' with rfl | rfl | rfl | rfl | rfl
   · exact ⟨_, hz, fun v z => by cases z⟩
   · exact ⟨_, hTI, fun v z => by cases z⟩
   · exact ⟨_, hTO, fun v z => by cases z⟩
   · exact ⟨o1, e1, fun v z => by rw [d1] at z; cases z⟩
   · exact ⟨o2, e2, fun v z => by rw [d2] at z; cases z⟩
 keep := fun i h h' st k => by
   obtain ⟨hz, hTI, ⟨u, v, hTO⟩, h1, h2⟩ := st
   exact ⟨k z (by simp) _ hz, k TI (by simp) _ hTI, ⟨u, v, k TO (by simp) _ hTO⟩, h1.at fun o e => k i1 (by simp) o e, h2.at fun o e => k i2 (by simp) o e⟩
 item := by
   intro X hP hw hK hc i pins s σ H E I hf st hg
   subst hP hw hK
   obtain ⟨hq1, hq2, hi⟩ := hg
   obtain ⟨its1, rv1, p1, _⟩ := I.list hq1
   obtain ⟨its2, rv2, p2, _⟩ := I.list hq2
   have hx : xs[i]? = some (xs[i]'(by lia)) := List.getElem?_eq_getElem (by lia)
   have hy : ys[i]? = some (ys[i]'(by lia)) := List.getElem?_eq_getElem (by lia)
   obtain ⟨u1, hu1, ru1⟩ := rv1.get hx
   obtain ⟨u2, hu2, ru2⟩ := rv2.get hy
   generalize xs[i]'(by lia) = x1 at hx ru1
   generalize ys[i]'(by lia) = y1 at hy ru2
   obtain ⟨hz, hTI, ⟨ta, tb, hTO⟩, h1, h2⟩ := st
   refine wpAny_pyNext_zip_item D hz hTI hTO h1 h2 p1.isList p2.isList (x := u1) (y := u2) (by simpa using hu1) (by simpa using hu2) fun h' a1 a2 a3 a4 a5 a6 a7 => ?_
   refine ⟨_, rfl, wpAny_letOwnedTupleGo_zip (s := { s with heap := h' }) a1 fun h'' b1 b2 => ?_⟩
   have lz : z < s.heap.objs.size := Heap.lt_size hz
   have lTI : TI < s.heap.objs.size := Heap.lt_size hTI
   have lTO : TO < s.heap.objs.size := Heap.lt_size hTO
   have l1 : i1 < s.heap.objs.size := by obtain ⟨_, e, _⟩ := h1; exact Heap.lt_size e
   have l2 : i2 < s.heap.objs.size := by obtain ⟨_, e, _⟩ := h2; exact Heap.lt_size e
   have I1 : Inv X pins σ (upd H s.heap.objs.size (.tup [x1, y1])) { s with heap := s.heap.push { cls := .type "tuple", data := .seq #[u1, u2] } } :=
     I.laid (t' := s.toks) (o := .tup [x1, y1]) (fun b ob q => Heap.get?_push_of_some _ q) (Nat.le_refl _) ⟨by show 2 ≤ sizeLine; decide, [u1, u2], .cons ru1 (.cons ru2 .nil), IsTup.new _ _⟩
   have hfp : ∀ c ∈ [z, TI, TO, i1, i2], FpOk X pins (upd H s.heap.objs.size (.tup [x1, y1])) c := fun c hc => by
     obtain ⟨f0, fr⟩ := hf c hc
     have hlt : c < s.heap.objs.size := by
       have hc' : c = z ∨ c = TI ∨ c = TO ∨ c = i1 ∨ c = i2 := by simpa using hc
       rcases hc' with rfl | rfl | rfl | rfl | rfl <;> assumption
     exact ⟨by rw [upd_ne (Nat.ne_of_lt hlt)]; exact f0, fr⟩
   have I2 := I1.turnedL (h' := h'') (t' := s.toks) (ch := [z, TO, i1, i2]) (fun c o hcn e => by
     have hcn' : c ≠ z ∧ c ≠ TO ∧ c ≠ i1 ∧ c ≠ i2 := by simpa using hcn
     obtain ⟨c1, c2, c3, c4⟩ := hcn'
     refine b2.extBut _ _ c1 ?_
     by_cases hcs : c = s.heap.objs.size
     · subst hcs
       have e' : (s.heap.push { cls := .type "tuple", data := .seq #[u1, u2] }).get? s.heap.objs.size = some o := e
       rw [Heap.get?_push_size _ rfl] at e'
       cases e'
       exact a5
     · have e' : (s.heap.push { cls := .type "tuple", data := .seq #[u1, u2] }).get? c = some o := e
       refine a7 c o c1 c2 c3 c4 ?_
       rw [Heap.get?_push_ne _ _ _ hcs] at e'
       exact e') (fun c hc => hfp c (by
         have hc' : c = z ∨ c = TO ∨ c = i1 ∨ c = i2 := by simpa using hc
         rcases hc' with rfl | rfl | rfl | rfl <;> simp))
   refine ⟨.ref s.heap.objs.size, upd H s.heap.objs.size (.tup [x1, y1]), I2, rfl, ⟨_, x1, y1, hx, hy, I.hok.fresh (Nat.le_refl _), rfl, rfl⟩, ⟨b1, ?_, ⟨_, _, b2.extBut _ _ D.TOz a2⟩, a3.extBut b2.extBut D.i1z, a4.extBut b2.extBut D.i2z⟩, fun c hc => (hfp c hc).1⟩
   exact b2.extBut _ _ D.TIz (a7 _ _ D.TIz D.TITO D.TIi1 D.TIi2 hTI)
 done := by
   intro X hP hw hK hc i pins s σ H E I hf st hg
   subst hP hw hK
   obtain ⟨hq1, hq2, hi⟩ := hg
   obtain ⟨its1, rv1, p1, _⟩ := I.list hq1
   obtain ⟨its2, rv2, p2, _⟩ := I.list hq2
   have e1 := rv1.length
   have e2 := rv2.length
   obtain ⟨hz, hTI, ⟨ta, tb, hTO⟩, h1, h2⟩ := st
   refine wpAny_pyNext_zip_end (I.ok.hd hc) D hz hTI hTO h1 h2 p1.isList p2.isList ?_ fun h' k => ⟨rfl, I.turnedL (t' := s.toks) (ch := [z, TO, i1, i2]) (fun c o hcn e => by
     have hcn' : c ≠ z ∧ c ≠ TO ∧ c ≠ i1 ∧ c ≠ i2 := by simpa using hcn
     exact k c o hcn'.1 hcn'.2.1 hcn'.2.2.1 hcn'.2.2.2 e) fun c hc => hf c (by
         have hc' : c = z ∨ c = TO ∨ c = i1 ∨ c = i2 := by simpa using hc
         rcases hc' with rfl | rfl | rfl | rfl <;> simp)⟩
   by_cases h : xs.length ≤ i
   · exact .inl (by rw [Array.getElem?_eq_none]; simp; lia)
   · exact .inr (by rw [Array.getElem?_eq_none]; simp; lia)
 self := fun _ _ _ _ _ st h => wpAny_pyIter_zip st.1 h
section
variable {X : Cx}
def iZip (K : PySem.W.Frag) (ta : TA) : TI := fun σ H R => ta σ H fun vs H1 => ∃ a b xs ys, vs = [.ref a, .ref b] ∧ SqL K H1 a xs ∧ SqL K H1 b ys ∧ R (Itz K a b xs ys) H1
theorem pi_zip {elts : List Expr} {kk} {pos' : Pos} {e1 e2 : Expr} {ta : TA} {p pos : Pos} (hg : Gl X "zip") (hm : X.mg "zip" = none) (ha : PA X [e1, e2] ta) (hs : starEach [e1, e2] X.env = [(false, eval e1 X.env), (false, eval e2 X.env)] := by rfl) (hs2 : starEach [e2] X.env = [(false, eval e2 X.env)] := by rfl) :
   PI X (.Tuple elts kk pos') (.Call (.Name "zip" p) [e1, e2] [] pos) (iZip X.K ta) := by
 intro pins s σ H R I h
 refine Call_ (ld_blt I hg hm bt_zip (PyProof.Rows.callWith_type1 (thn (ha pos pins s σ H _ I h) fun us s1 ⟨vs, H1, I1, r1, q1⟩ => ?_) (by rw [hs, hs2]) (by rw [hs2]; rfl)))
 obtain ⟨a, b, xs, ys, e, hq1, hq2, q⟩ := q1
 subst e
 cases r1 with
 | cons r rr =>
   cases rr with
   | cons r' rr =>
     cases rr
     cases r
     cases r'
     obtain ⟨its1, rv1, p1, _⟩ := I1.list hq1
     obtain ⟨its2, rv2, p2, _⟩ := I1.list hq2
     have la : a < s1.heap.objs.size := by obtain ⟨_, e, _⟩ := p1.isList; exact Heap.lt_size e
     have lb : b < s1.heap.objs.size := by obtain ⟨_, e, _⟩ := p2.isList; exact Heap.lt_size e
     refine call_zip_2 p1.isList p2.isList fun h' hz hTI hTO hi1 hi2 hsz hk => ?_
     refine wpAny_pyIter_zip (s := { s1 with heap := h' }) hz ?_
     have D := zipApart_new la lb
     refine ⟨s1.heap.objs.size + 4, [s1.heap.objs.size + 4, s1.heap.objs.size + 2, s1.heap.objs.size + 3, s1.heap.objs.size, s1.heap.objs.size + 1], _, _, H1, rfl, I1.kept (t' := s1.toks) hk, turn_zip D xs ys, ⟨hz, hTI, ⟨_, _, hTO⟩, hi1, hi2⟩, fun c hc => ?_, q⟩
     have hge : s1.heap.objs.size ≤ c := by
       have hc' : c = s1.heap.objs.size + 4 ∨ c = s1.heap.objs.size + 2 ∨ c = s1.heap.objs.size + 3 ∨ c = s1.heap.objs.size ∨ c = s1.heap.objs.size + 1 := by simpa using hc
       rcases hc' with rfl | rfl | rfl | rfl | rfl
       · exact Nat.le_add_right _ _
       · exact Nat.le_add_right _ _
       · exact Nat.le_add_right _ _
       · exact Nat.le_refl _
       · exact Nat.le_add_right _ _
     exact I1.fpOk hge (I1.hok.fresh hge)
theorem piZip (K : PySem.W.Frag) {elts : List Expr} {kk} {pos' : Pos} {e1 e2 : Expr} {ta : TA} {p pos : Pos} (hg : Gl X "zip") (hm : X.mg "zip" = none) (ha : PA X [e1, e2] ta) (hs : starEach [e1, e2] X.env = [(false, eval e1 X.env), (false, eval e2 X.env)] := by rfl) (hs2 : starEach [e2] X.env = [(false, eval e2 X.env)] := by rfl) (e : X.K = K := by rfl) :
   PI X (.Tuple elts kk pos') (.Call (.Name "zip" p) [e1, e2] [] pos) (iZip K ta) := by subst e; exact pi_zip hg hm ha hs hs2
end
theorem for_zip {K : PySem.W.Frag} {a b : Addr} {xs ys : List V} {g : TG} {tb : TS} {D : Ends} {σ : St} {H : Hp} (Pv : Nat → St → Hp → Prop) (h0 : Pv 0 σ H) (hl : ∀ i σ H, i ≤ min xs.length ys.length → Pv i σ H → SqL K H a xs ∧ SqL K H b ys)
   (hs : ∀ i x y T σ H, xs[i]? = some x → ys[i]? = some y → H T = none → Pv i σ H → g (.ref T) σ (upd H T (.tup [x, y])) fun σ2 H2 => tb { D with nx := Pv (i + 1), ct := Pv (i + 1), bk := D.nx } σ2 H2) (hd : ∀ σ H, Pv (min xs.length ys.length) σ H → D.nx σ H) :
   ∃ W : Nat → Nat → St → Hp → Prop, (∃ m, W 0 m σ H) ∧ ∀ i m σ H, W i m σ H →
     ((Itz K a b xs ys).stop i H ∧ D.nx σ H) ∨ ((Itz K a b xs ys).go i H ∧ ∃ N : St → Hp → Prop, (∀ σ' H', N σ' H' → ∃ m', m' < m ∧ W (i + 1) m' σ' H') ∧ ∀ x H', (Itz K a b xs ys).yld i H x H' → g x σ H' fun σ2 H2 => tb { D with nx := N, ct := N, bk := D.nx } σ2 H2) := by
 refine ⟨fun i m σ H => m = min xs.length ys.length - i ∧ i ≤ min xs.length ys.length ∧ Pv i σ H, ⟨min xs.length ys.length, by simp, Nat.zero_le _, h0⟩, ?_⟩
 rintro i m σ H ⟨rfl, hi, p⟩
 obtain ⟨q1, q2⟩ := hl i σ H hi p
 by_cases hlt : i < min xs.length ys.length
 · refine .inr ⟨⟨q1, q2, hlt⟩, Pv (i + 1), fun σ' H' p' => ⟨min xs.length ys.length - (i + 1), by lia, rfl, hlt, p'⟩, fun x H' y => ?_⟩
   obtain ⟨T, x1, y1, hx, hy, hT, rfl, rfl⟩ := y
   exact hs i x1 y1 T σ _ hx hy hT p
 · have e : i = min xs.length ys.length := by lia
   subst e
   exact .inl ⟨⟨q1, q2, Nat.le_refl _⟩, hd σ H p⟩
end L2
namespace L2
open PySem PySem.Spec PyProof.Rows
namespace St
open SetTable
def it (mask : Nat) : Nat → Nat → Nat
 | 0, i => i
 | n + 1, i => it mask n ((i * 5 + 1) % (mask + 1))
theorem cover7 : ∀ i : Fin 8, ∀ e : Fin 8, ∃ m : Fin 8, it 7 m.val i.val = e.val := by decide +kernel
theorem cover31 : ∀ i : Fin 32, ∀ e : Fin 32, ∃ m : Fin 32, it 31 m.val i.val = e.val := by decide +kernel
theorem cover {mask : Nat} (hm : mask = 7 ∨ mask = 31) {i e : Nat} (hi : i < mask + 1) (he : e < mask + 1) : ∃ m, m ≤ mask ∧ it mask m i = e := by
 rcases hm with rfl | rfl
 · obtain ⟨m, h⟩ := cover7 ⟨i, hi⟩ ⟨e, he⟩
   exact ⟨m.val, by lia, h⟩
 · obtain ⟨m, h⟩ := cover31 ⟨i, hi⟩ ⟨e, he⟩
   exact ⟨m.val, by lia, h⟩
def bs (mask : Nat) (b : Nat) : Nat → Nat × Nat
 | 0 => (b % (mask + 1), b)
 | n + 1 => leap mask (bs mask b n).1 (bs mask b n).2
theorem bs_pert (mask b : Nat) : ∀ n, (bs mask b n).2 = b / 32 ^ n
 | 0 => by show b = b / 1; rw [Nat.div_one]
 | n + 1 => by
   show (bs mask b n).2 / 32 = _
   rw [bs_pert mask b n, Nat.div_div_eq_div_mul, Nat.pow_succ]
theorem bs_lt (mask b : Nat) : ∀ n, (bs mask b n).1 < mask + 1
 | 0 => Nat.mod_lt _ (Nat.succ_pos _)
 | _ + 1 => Nat.mod_lt _ (Nat.succ_pos _)
theorem bits_lt (h : Int) : bits h < 2 ^ 64 := by
 unfold bits
 have h1 : (0 : Int) ≤ h % 2 ^ 64 := Int.emod_nonneg _ (by decide)
 have h2 : h % 2 ^ 64 < 2 ^ 64 := Int.emod_lt_of_pos _ (by decide)
 lia
theorem bs_late {mask b n : Nat} (hb : b < 2 ^ 64) (hn : 13 ≤ n) : (bs mask b n).2 = 0 := by
 rw [bs_pert]
 refine Nat.div_eq_of_lt (Nat.lt_of_lt_of_le hb ?_)
 exact Nat.le_trans (by decide : 2 ^ 64 ≤ 32 ^ 13) (Nat.pow_le_pow_right (by decide) hn)
theorem bs_cyc {mask b : Nat} (hb : b < 2 ^ 64) : ∀ m n, 13 ≤ n → (bs mask b (n + m)).1 = it mask m (bs mask b n).1
 | 0, n, _ => rfl
 | m + 1, n, hn => by
   have ih := bs_cyc (mask := mask) hb m (n + 1) (by lia)
   rw [show n + (m + 1) = n + 1 + m by lia, ih]
   show it mask m (leap mask (bs mask b n).1 (bs mask b n).2).1 = it mask m (((bs mask b n).1 * 5 + 1) % (mask + 1))
   rw [bs_late hb hn]
   rfl
theorem bs_hits {mask b e : Nat} (hm : mask = 7 ∨ mask = 31) (hb : b < 2 ^ 64) (he : e < mask + 1) : ∃ n, n ≤ 13 + mask ∧ (bs mask b n).1 = e := by
 obtain ⟨m, h1, h2⟩ := cover hm (bs_lt mask b 13) he
 exact ⟨13 + m, by lia, by rw [bs_cyc hb m 13 (Nat.le_refl _)]; exact h2⟩
def base (mask i pert : Nat) : Probe := { j := i, more := runEnd mask i - i, i, perturb := pert, dummy := none }
def advs (t : SetTable) : Nat → Probe → Probe
 | 0, p => p
 | n + 1, p => advs t n (t.advance p)
theorem advs_add (t : SetTable) : ∀ m n p, advs t (m + n) p = advs t n (advs t m p)
 | 0, n, p => by rw [Nat.zero_add]; rfl
 | m + 1, n, p => by rw [show m + 1 + n = (m + n) + 1 by lia]; exact advs_add t m n _
theorem run_le (mask i : Nat) : runEnd mask i - i ≤ 9 := by unfold runEnd; split <;> lia
theorem advs_run (t : SetTable) : ∀ (r j i pert : Nat), advs t (r + 1) { j := j, more := r, i := i, perturb := pert, dummy := none } = base t.mask (leap t.mask i pert).1 (leap t.mask i pert).2
 | 0, j, i, pert => rfl
 | r + 1, j, i, pert => by
   have ih := advs_run t r (j + 1) i pert
   show advs t (r + 1) (t.advance { j := j, more := r + 1, i := i, perturb := pert, dummy := none }) = _
   rw [← ih]
   rfl
theorem reach (t : SetTable) (h : Int) : ∀ n, ∃ k, k ≤ 10 * n ∧ advs t k (t.probeStart h) = base t.mask (bs t.mask (bits h) n).1 (bs t.mask (bits h) n).2
 | 0 => ⟨0, Nat.le_refl _, rfl⟩
 | n + 1 => by
   obtain ⟨k, hk, e⟩ := reach t h n
   refine ⟨k + (runEnd t.mask (bs t.mask (bits h) n).1 - (bs t.mask (bits h) n).1 + 1), ?_, ?_⟩
   · have := run_le t.mask (bs t.mask (bits h) n).1
     lia
   · rw [advs_add, e]
     exact advs_run t _ _ _ _
theorem slot_empty {t : SetTable} (hd : t.dummies = #[]) {e : Nat} (he : ∀ i : Nat, t.place[i]? ≠ some e) : t.slot e = .empty := by
 unfold slot
 have h1 : (t.place[below t.place e]? == some e) = false := by
   rw [beq_eq_false_iff_ne]; exact he _
 have h2 : has t.dummies e = false := by
   rw [hd]; unfold has; rfl
 simp only [h1, h2]
 rfl
theorem slot_cases {t : SetTable} (hd : t.dummies = #[]) (j : Nat) : t.slot j = .empty ∨ ∃ i, t.slot j = .live i ∧ t.place[i]? = some j := by
 by_cases h : t.place[below t.place j]? = some j
 · refine .inr ⟨below t.place j, ?_, h⟩
   unfold slot
   have h1 : (t.place[below t.place j]? == some j) = true := by rw [h]; exact beq_self_eq_true _
   simp only [h1]
   rfl
 · refine .inl ?_
   unfold slot
   have h1 : (t.place[below t.place j]? == some j) = false := by rw [beq_eq_false_iff_ne]; exact h
   have h2 : has t.dummies j = false := by rw [hd]; unfold has; rfl
   simp only [h1, h2]
   rfl
def Hit (t : SetTable) (k : Nat) (p : Probe) : Prop := t.slot (advs t k p).j = .empty
theorem adv_dummy (t : SetTable) {p : Probe} (h : p.dummy = none) : (t.advance p).dummy = none := by
 unfold advance
 split
 · exact h
 · exact h
theorem go_hit {t : SetTable} (hd : t.dummies = #[]) {ha : Nat → Int} {h : Int} : ∀ (fuel k : Nat) (p : Probe), k < fuel → p.dummy = none → Hit t k p →
   (∃ j, probe.go t ha h fuel p = some (.empty j none)) ∨ ∃ j i next k', probe.go t ha h fuel p = some (.candidate j i next) ∧ t.slot j = .live i ∧ t.place[i]? = some j ∧ next.dummy = none ∧ Hit t k' next ∧ k' < k
 | fuel + 1, k, p, hk, hp, hh => by
   unfold probe.go
   rcases slot_cases hd p.j with z | ⟨i, z, zp⟩
   · rw [z]
     exact .inl ⟨p.j, by simp only [hp]⟩
   · rw [z]
     have hk0 : ∃ k', k = k' + 1 := by
       cases k with
       | zero => unfold Hit at hh; rw [show advs t 0 p = p from rfl, z] at hh; cases hh
       | succ k' => exact ⟨k', rfl⟩
     obtain ⟨k', rfl⟩ := hk0
     have hh' : Hit t k' (t.advance p) := hh
     by_cases hq : (ha i == h) = true
     · refine .inr ⟨p.j, i, t.advance p, k', ?_, z, zp, adv_dummy t hp, hh', by lia⟩
       simp only [hq]
       rfl
     · have hq' : (ha i == h) = false := by simpa using hq
       simp only [hq']
       rcases go_hit hd fuel k' (t.advance p) (by lia) (adv_dummy t hp) hh' with ⟨j, e⟩ | ⟨j, i', nx, k2, e, r1, r2, r3, r4, r5⟩
       · exact .inl ⟨j, e⟩
       · exact .inr ⟨j, i', nx, k2, e, r1, r2, r3, r4, by lia⟩
theorem nd_le : ∀ {l m : List Nat}, l.Nodup → (∀ x, x ∈ l → x ∈ m) → l.length ≤ m.length
 | [], m, _, _ => Nat.zero_le _
 | a :: l, m, hn, hs => by
   rw [List.nodup_cons] at hn
   have ha := hs a List.mem_cons_self
   have ih := nd_le (l := l) (m := m.erase a) hn.2 fun x hx => (List.mem_erase_of_ne (fun e : x = a => hn.1 (e ▸ hx))).mpr (hs x (List.mem_cons_of_mem _ hx))
   rw [List.length_erase_of_mem ha] at ih
   have := List.length_pos_of_mem ha
   rw [List.length_cons]; lia
theorem start_hit {t : SetTable} (hm : t.mask = 7 ∨ t.mask = 31) (hd : t.dummies = #[]) (hs : t.place.size ≤ t.mask) (h : Int) : ∃ k, k < 10 * turns t.mask ∧ Hit t k (t.probeStart h) := by
 have he : ∃ e, e < t.mask + 1 ∧ ∀ i : Nat, t.place[i]? ≠ some e := by
   refine Classical.byContradiction fun hn => ?_
   have hall : ∀ e, e < t.mask + 1 → e ∈ t.place.toList := fun e he => by
     refine Classical.byContradiction fun hne => hn ⟨e, he, fun i hi => hne ?_⟩
     exact List.mem_of_getElem? (by rw [Array.getElem?_toList]; exact hi)
   have hsub : (List.range (t.mask + 1)).Subset t.place.toList := fun e he => hall e (List.mem_range.mp he)
   have hlen := nd_le (List.nodup_range (n := t.mask + 1)) hsub
   rw [List.length_range, Array.length_toList] at hlen
   lia
 obtain ⟨e, he1, he2⟩ := he
 obtain ⟨n, hn, hb⟩ := bs_hits (b := bits h) hm (bits_lt h) he1
 obtain ⟨k, hk, hr⟩ := reach t h n
 refine ⟨k, ?_, ?_⟩
 · unfold turns; lia
 · unfold Hit
   rw [hr]
   show t.slot (bs t.mask (bits h) n).1 = _
   rw [hb]
   exact slot_empty hd he2
end St
end L2
namespace L2
open PySem PySem.Spec PyProof.Rows
namespace St
open SetTable
section
variable {prog : Program} {w : World} {K : Type} [DecidableEq K] (knd : KeyKind prog w K)
def IsN (h : Heap) (ks : List K) (a : Addr) : Prop := ∃ o items n, h.get? a = some o ∧ o.cls = .type "tuple" ∧ o.data = .seq items n ∧ ItemsAre knd ks items.toList ∧ ∀ v ∈ items.toList, ∃ k t, v = .int k t
variable {knd}
theorem IsN.key {h : Heap} {ks : List K} {a : Addr} (x : IsN knd h ks a) : IsTupleKey knd h ks a := let ⟨o, i, n, h1, h2, h3, h4, _⟩ := x; ⟨o, i, n, h1, h2, h3, h4⟩
theorem IsN.keep {h h' : Heap} {ks : List K} {a : Addr} (x : IsN knd h ks a) (k : ∀ o, h.get? a = some o → h'.get? a = some o) : IsN knd h' ks a := let ⟨o, i, n, h1, h2⟩ := x; ⟨o, i, n, k o h1, h2⟩
variable {A : Around} {E : Value → Shared → Prop} {s : Shared}
theorem wpAny_seqItemsQ {M : Model} {a : Addr} {o : Obj} {items n} {Q : Option (Array Value) → Shared → Prop} (ho : s.heap.get? a = some o) (hd : o.data = .seq items n) (h : Q (some items) s) : wpAny M A (seqItems? (.ref a)) Q E s := by
 unfold seqItems?
 refine wpAny_bind (wpAny_load ho ?_)
 rw [hd]
 exact wpAny_pure h
theorem hashByValue_n {ks : List K} {a : Addr} {Q : Bool → Shared → Prop} (hk : IsN knd s.heap ks a) (h : Q true s) : wpAny (model prog w) A (hashByValue 8 (.ref a)) Q E s := by
 have hT := hk.key.typeIs
 obtain ⟨o, items, n, ho, _, hd, hi, hall⟩ := hk
 unfold hashByValue
 refine wpAny_bind (wpAny_specialOf hT F.slot_tuple_hash.lookup ?_)
 show wpAny _ _ (seqItems? (.ref a) >>= _) _ _ s
 refine wpAny_bind (wpAny_seqItemsQ ho hd ?_)
 refine wpAny_bind ?_
 show wpAny _ _ (forIn items _ _) _ _ s
 rw [← Array.forIn_toList]
 refine wpAny_forIn_list _ (fun rest r s' => r.1 = none ∧ s' = s ∧ ∀ v ∈ rest, ∃ k t, v = Value.int k t) _ ?_ ?_ _ _ ⟨rfl, rfl, hall⟩
 · rintro v rest r s' ⟨hr, rfl, hall⟩
   obtain ⟨k, t, rfl⟩ := hall v List.mem_cons_self
   refine wpAny_bind (m := hashByValue 7 (.int k t)) (wpAny_pure ?_)
   simp only [Bool.not_true, Bool.false_eq_true, if_false]
   exact wpAny_pure ⟨rfl, rfl, fun u hu' => hall u (List.mem_cons_of_mem _ hu')⟩
 · rintro ⟨r1, r2⟩ s' ⟨hr, rfl, _⟩
   simp only at hr
   subst hr
   exact wpAny_pure h
theorem ofClass_n {ks : List K} {a : Addr} {Q : Bool → Shared → Prop} (hk : IsN knd s.heap ks a) (h : Q false s) : wpAny (model prog w) A (ofAClassStatement 8 (.ref a)) Q E s := by
 have hT := hk.key.typeIs
 obtain ⟨o, items, n, ho, _, hd, hi, hall⟩ := hk
 unfold ofAClassStatement
 refine wpAny_bind (wpAny_typeOf hT ?_)
 refine wpAny_bind (m := pure true) (wpAny_pure ?_)
 simp only [Bool.not_true, Bool.false_eq_true, if_false]
 refine wpAny_bind (wpAny_seqItemsQ ho hd ?_)
 refine wpAny_bind ?_
 show wpAny _ _ (forIn items _ _) _ _ s
 rw [← Array.forIn_toList]
 refine wpAny_forIn_list _ (fun rest r s' => r.1 = none ∧ s' = s ∧ ∀ v ∈ rest, ∃ k t, v = Value.int k t) _ ?_ ?_ _ _ ⟨rfl, rfl, hall⟩
 · rintro v rest r s' ⟨hr, rfl, hall⟩
   obtain ⟨k, t, rfl⟩ := hall v List.mem_cons_self
   refine wpAny_bind (m := ofAClassStatement 7 (.int k t)) (wpAny_pure ?_)
   simp only [Bool.false_eq_true, if_false]
   exact wpAny_pure ⟨rfl, rfl, fun u hu' => hall u (List.mem_cons_of_mem _ hu')⟩
 · rintro ⟨r1, r2⟩ s' ⟨hr, rfl, _⟩
   simp only at hr
   subst hr
   exact wpAny_pure h
def Ns (knd : KeyKind prog w K) (h : Heap) (l : List Value) (ks : List K) : Prop := ∀ v ∈ l, ∃ b k', v = .ref b ∧ IsN knd h k' b ∧ k' ≠ ks
theorem unseen {ks : List K} {x : Addr} {Q : Bool → Shared → Prop} (hx : IsN knd s.heap ks x) {l : List Value} (hl : Ns knd s.heap l ks) (h : Q false s) : wpAny (model prog w) A (searchCouldBeSeen (.ref x) l) Q E s := by
 unfold searchCouldBeSeen
 refine wpAny_bind ?_
 refine wpAny_forIn_list _ (fun rest r s' => r.1 = none ∧ s' = s ∧ Ns knd s.heap rest ks) _ ?_ ?_ _ _ ⟨rfl, rfl, hl⟩
 · rintro v rest r s' ⟨hr, rfl, hall⟩
   obtain ⟨b, k', rfl, hb, hne⟩ := hall v List.mem_cons_self
   have hrest : Ns knd s'.heap rest ks := fun u hu' => hall u (List.mem_cons_of_mem _ hu')
   have hxb : (x == b) = false := by
     rw [beq_eq_false_iff_ne]
     intro e
     subst e
     exact hne (hb.key.inj hx.key)
   have hc : ((match (Value.ref x), (Value.ref b) with | .ref a, .ref b => a == b | _, _ => false) || (carriedByValue (.ref x) && carriedByValue (.ref b))) = false := by
     show ((x == b) || (false && false)) = false
     rw [hxb]; rfl
   show wpAny _ _ (if ((match (Value.ref x), (Value.ref b) with | .ref a, .ref b => a == b | _, _ => false) || (carriedByValue (.ref x) && carriedByValue (.ref b))) = true then _ else _) _ _ _
   rw [if_neg (by rw [hc]; exact Bool.false_ne_true)]
   refine wpAny_bind (wpAny_eqIsQuiet_tuple hx.key ?_)
   simp only [Bool.not_true, Bool.false_eq_true, if_false]
   refine wpAny_bind (wpAny_eqIsQuiet_tuple hb.key ?_)
   simp only [Bool.not_true, Bool.false_eq_true, if_false]
   refine wpAny_bind (ofClass_n hx ?_)
   simp only [Bool.false_eq_true, if_false]
   refine wpAny_bind (ofClass_n hb ?_)
   simp only [Bool.false_eq_true, if_false]
   exact wpAny_pure ⟨rfl, rfl, hrest⟩
 · rintro ⟨r1, r2⟩ s' ⟨hr, rfl, _⟩
   simp only at hr
   subst hr
   exact wpAny_pure h
theorem search_free {S : Addr} {o : Obj} {es : Array (Int × Value)} {ep : Nat} {t : SetTable} (ho : s.heap.get? S = some o) (hd : o.data = .set es ep t) (hf : t.fits es.size = true) (hm : t.mask = 7 ∨ t.mask = 31) (hdm : t.dummies = #[])
   {x : Addr} {ks : List K} (hx : IsN knd s.heap ks x) (hes : ∀ e ∈ es.toList, ∃ b k', e.2 = Value.ref b ∧ IsN knd s.heap k' b ∧ k' ≠ ks) (hu : A.units < cLine) {h : Int} {Q : SetFound → Shared → Prop} (hQ : ∀ j, Q (.free j false) s) :
   ∀ (k F : Nat) (stand : Option Probe), k < F → k < 10 * turns t.mask → (stand.getD (t.probeStart h)).dummy = none → Hit t k (stand.getD (t.probeStart h)) → wpAny (model prog w) A (setSearchFrom S (.ref x) h true F stand) Q E s := by
 intro k
 induction k using Nat.strongRecOn with
 | ind k ih =>
   intro F stand hF hk hdn hh
   obtain ⟨F', rfl⟩ : ∃ F', F = F' + 1 := ⟨F - 1, by lia⟩
   unfold setSearchFrom
   refine wpAny_bind (wpAny_setState_of ho hd hf ?_)
   dsimp only
   have hgw : t.gaveWay = false := by
     unfold gaveWay
     rcases hm with z | z <;> rw [z] <;> rfl
   rw [hgw]
   simp only [Bool.false_eq_true, if_false]
   have bad : ∀ {ha : Nat → Int}, (∀ met, t.probe ha h (stand.getD (t.probeStart h)) = some met → False) → False := fun {ha} hn => by
     rcases go_hit (ha := ha) (h := h) hdm (10 * turns t.mask) k _ hk hdn hh with ⟨j, e⟩ | ⟨j, i, next, k', e, _⟩
     · exact hn _ e
     · exact hn _ e
   split
   · next met heq =>
     rcases go_hit hdm (10 * turns t.mask) k _ hk hdn hh with ⟨j, e⟩ | ⟨j, i, next, k', e, r1, r2, r3, r4, r5⟩
     · have e2 := Option.some.inj (e.symm.trans heq)
       subst e2
       exact wpAny_pure (hQ j)
     · have e2 := Option.some.inj (e.symm.trans heq)
       subst e2
       dsimp only
       have hps : t.place.size = es.size := by
         unfold fits at hf
         rw [Bool.and_eq_true] at hf
         exact eq_of_beq hf.1
       have hil : i < es.size := by
         have := (Array.getElem?_eq_some_iff.mp r2).1
         lia
       obtain ⟨h0, y, hei⟩ : ∃ h0 y, es[i]? = some (h0, y) := ⟨es[i].1, es[i].2, Array.getElem?_eq_getElem hil⟩
       obtain ⟨b, kb, eb, hb, hne⟩ := hes (h0, y) (List.mem_of_getElem? (by rw [Array.getElem?_toList]; exact hei))
       have eb : y = .ref b := eb
       subst eb
       have hNs : Ns knd s.heap (List.map (fun x => x.snd) (Array.filter (fun x => x.fst == h) es).toList) ks := fun v hv => by
         obtain ⟨e0, he0, rfl⟩ := List.mem_map.mp hv
         rw [Array.toList_filter] at he0
         obtain ⟨b', k2, q1, q2, q3⟩ := hes e0 (List.mem_filter.mp he0).1
         exact ⟨b', k2, q1, q2, q3⟩
       have hsm : t.sameMemory t.moves t.mask = some true := by unfold sameMemory; rw [if_pos (beq_self_eq_true _)]
       rcases Bool.eq_false_or_eq_true t.led with hl | hl
       · simp only [hl, Bool.not_true, Bool.false_eq_true, if_false]
         rw [hei]
         dsimp only
         refine wpAny_bind (wpAny_holding (wpAny_eqBool_tuple hu hb.key hx.key ?_))
         rw [decide_eq_false hne]
         refine wpAny_bind (wpAny_setState_of ho hd hf ?_)
         simp only [Bool.and_false, Bool.false_eq_true, if_false, hsm, if_true, r1, hei]
         refine wpAny_bind (wpAny_isSame_ref_self ?_)
         simp only [if_true]
         refine wpAny_bind (wpAny_pure ?_)
         simp only [Bool.false_eq_true, if_false]
         exact ih k' r5 F' (some next) (by lia) (by lia) r3 r4
       · simp only [hl, Bool.not_false, if_true]
         refine wpAny_bind (unseen hx hNs ?_)
         simp only [Bool.false_eq_true, if_false]
         rw [hei]
         dsimp only
         refine wpAny_bind (wpAny_holding (wpAny_eqBool_tuple hu hb.key hx.key ?_))
         rw [decide_eq_false hne]
         refine wpAny_bind (wpAny_setState_of ho hd hf ?_)
         simp only [Bool.and_false, Bool.false_eq_true, if_false, hsm, if_true, r1, hei]
         refine wpAny_bind (wpAny_isSame_ref_self ?_)
         simp only [if_true]
         refine wpAny_bind (wpAny_pure ?_)
         simp only [Bool.false_eq_true, if_false]
         exact ih k' r5 F' (some next) (by lia) (by lia) r3 r4
   · next heq => exact (bad heq).elim
end
end St
end L2
namespace L2
open PySem PySem.Spec PyProof.Rows
namespace St
open SetTable
theorem free_ok {owner : Array (Option Nat)} {b e : Nat} (he : owner.getD e (some 0) = none) : ∀ (fuel m n : Nat), m < fuel → (bs 31 b (n + m)).1 = e →
   ∃ j, layClean.free 31 owner fuel (bs 31 b n).1 (bs 31 b n).2 = some j ∧ owner.getD j (some 0) = none
 | fuel + 1, m, n, hm, hb => by
   unfold layClean.free
   split
   · next k hk =>
     have := List.find?_some hk
     exact ⟨_, rfl, Option.isNone_iff_eq_none.mp this⟩
   · next hk =>
     cases m with
     | zero =>
       exfalso
       rw [List.find?_eq_none] at hk
       have h0 : (0 : Nat) ∈ List.range (runEnd 31 (bs 31 b n).1 + 1 - (bs 31 b n).1) := List.mem_range.mpr (by unfold runEnd; split <;> lia)
       have h1 := hk 0 h0
       rw [Nat.add_zero] at hb h1
       rw [hb, he] at h1
       exact h1 rfl
     | succ m =>
       obtain ⟨j, h1, h2⟩ := free_ok he fuel m (n + 1) (by lia) (by rw [show n + 1 + m = n + (m + 1) by lia]; exact hb)
       exact ⟨j, h1, h2⟩
def lv (owner : Array (Option Nat)) (j : Nat) : Option (Nat × Nat) := (owner.getD j none).map (j, ·)
theorem lv_set {owner : Array (Option Nat)} {j k : Nat} (hj : owner.getD j (some 0) = none) (hs : owner.size = 32) : (((List.range 32).filterMap (lv (owner.setIfInBounds j (some k)))).map (·.2)).Perm (k :: ((List.range 32).filterMap (lv owner)).map (·.2)) ∧ j < 32 := by
 have hjl : j < 32 := by
   refine Nat.lt_of_not_le fun hle => ?_
   rw [Array.getD_eq_getD_getElem?, Array.getElem?_eq_none (by lia)] at hj
   cases hj
 refine ⟨?_, hjl⟩
 have hsplit : List.range 32 = List.range j ++ j :: (List.range 32).drop (j + 1) := by
   have h1 : (List.range 32)[j]? = some j := List.getElem?_range hjl
   obtain ⟨hlt, hg⟩ := List.getElem?_eq_some_iff.mp h1
   have h2 := (List.take_append_drop j (List.range 32)).symm
   rw [List.drop_eq_getElem_cons hlt, hg, List.take_range, Nat.min_eq_left (by lia)] at h2
   exact h2
 have hne1 : ∀ a ∈ List.range j, lv (owner.setIfInBounds j (some k)) a = lv owner a := fun a ha => by
   have : a ≠ j := by have := List.mem_range.mp ha; lia
   unfold lv
   rw [Array.getD_eq_getD_getElem?, Array.getD_eq_getD_getElem?, Array.getElem?_setIfInBounds_ne (Ne.symm this)]
 have hne2 : ∀ a ∈ (List.range 32).drop (j + 1), lv (owner.setIfInBounds j (some k)) a = lv owner a := fun a ha => by
   have : a ≠ j := by
     obtain ⟨i, hi⟩ := List.getElem?_of_mem ha
     rw [List.getElem?_drop] at hi
     have hi2 := (List.getElem?_eq_some_iff.mp hi)
     obtain ⟨hl, hi3⟩ := hi2
     rw [List.getElem_range] at hi3
     lia
   unfold lv
   rw [Array.getD_eq_getD_getElem?, Array.getD_eq_getD_getElem?, Array.getElem?_setIfInBounds_ne (Ne.symm this)]
 have hnew : lv (owner.setIfInBounds j (some k)) j = some (j, k) := by
   unfold lv
   rw [Array.getD_eq_getD_getElem?, Array.getElem?_setIfInBounds_self_of_lt (by lia)]; rfl
 have hold : lv owner j = none := by
   unfold lv
   rw [Array.getD_eq_getD_getElem?] at hj ⊢
   have hlt : j < owner.size := by lia
   rw [Array.getElem?_eq_getElem hlt] at hj ⊢
   show (owner[j]).map _ = none
   have hj' : owner[j] = none := hj
   rw [hj']; rfl
 have hcong : ∀ {l : List Nat}, (∀ a ∈ l, lv (owner.setIfInBounds j (some k)) a = lv owner a) → l.filterMap (lv (owner.setIfInBounds j (some k))) = l.filterMap (lv owner) := fun {l} h => by
   induction l with
   | nil => rfl
   | cons a l ih =>
     rw [List.filterMap_cons, List.filterMap_cons, h a List.mem_cons_self, ih fun b hb => h b (List.mem_cons_of_mem _ hb)]
 rw [hsplit, List.filterMap_append, List.filterMap_append, List.filterMap_cons_some hnew, List.filterMap_cons_none hold, hcong hne1, hcong hne2, List.map_append, List.map_append, List.map_cons]
 exact List.perm_middle
def Own (owner : Array (Option Nat)) (k : Nat) : Prop := owner.size = 32 ∧ (((List.range 32).filterMap (lv owner)).map (·.2)).Perm (List.range k)
theorem own_free {owner : Array (Option Nat)} {k : Nat} (ho : Own owner k) (hk : k < 32) : ∃ e, e < 32 ∧ owner.getD e (some 0) = none := by
 refine Classical.byContradiction fun hn => ?_
 have hall : ∀ e, e < 32 → owner.getD e (some 0) ≠ none := fun e he z => hn ⟨e, he, z⟩
 have hlen := ho.2.length_eq
 rw [List.length_map, List.length_range] at hlen
 have hall2 : ∀ a ∈ List.range 32, (lv owner a).isSome = true := fun a ha => by
   have ha' := List.mem_range.mp ha
   have h1 := hall a ha'
   unfold lv
   rw [Array.getD_eq_getD_getElem?] at h1 ⊢
   have hlt : a < owner.size := by rw [ho.1]; exact ha'
   rw [Array.getElem?_eq_getElem hlt] at h1 ⊢
   cases hc : owner[a] with
   | none => rw [hc] at h1; exact absurd rfl h1
   | some v => show ((some v).map (fun x => (a, x))).isSome = true; rfl
 have hfl : ∀ {l : List Nat}, (∀ a ∈ l, (lv owner a).isSome = true) → (l.filterMap (lv owner)).length = l.length := fun {l} h => by
   induction l with
   | nil => rfl
   | cons a l ih =>
     obtain ⟨v, hv⟩ := Option.isSome_iff_exists.mp (h a List.mem_cons_self)
     rw [List.filterMap_cons_some hv, List.length_cons, List.length_cons, ih fun b hb => h b (List.mem_cons_of_mem _ hb)]
 rw [hfl hall2, List.length_range] at hlen
 lia
def stp (acc : Option (Array (Option Nat) × Nat)) (h : Int) : Option (Array (Option Nat) × Nat) := do
 let (owner, k) ← acc
 let j ← layClean.free 31 owner (turns 31) (bits h % (31 + 1)) (bits h)
 pure (owner.setIfInBounds j (some k), k + 1)
theorem stp_ok {owner : Array (Option Nat)} {k : Nat} (ho : Own owner k) (hk : k < 32) (h : Int) : ∃ owner', stp (some (owner, k)) h = some (owner', k + 1) ∧ Own owner' (k + 1) := by
 obtain ⟨e, he, hn⟩ := own_free ho hk
 obtain ⟨n, hn1, hn2⟩ := bs_hits (mask := 31) (b := bits h) (.inr rfl) (bits_lt h) (show e < 31 + 1 by lia)
 obtain ⟨j, hj1, hj2⟩ := free_ok (owner := owner) (b := bits h) hn (turns 31) n 0 (by unfold turns; lia) (by rw [Nat.zero_add]; exact hn2)
 have hp := lv_set (k := k) hj2 ho.1
 refine ⟨owner.setIfInBounds j (some k), ?_, ?_, ?_⟩
 · have hj1' : layClean.free 31 owner (turns 31) (bits h % (31 + 1)) (bits h) = some j := hj1
   show (do let j ← layClean.free 31 owner (turns 31) (bits h % (31 + 1)) (bits h); pure (owner.setIfInBounds j (some k), k + 1)) = _
   rw [hj1']; rfl
 · rw [Array.size_setIfInBounds]; exact ho.1
 · refine hp.1.trans ?_
   rw [show List.range (k + 1) = List.range k ++ [k] from List.range_succ]
   exact (List.Perm.cons k ho.2).trans (List.perm_append_comm (l₁ := [k]))
theorem fold_ok : ∀ (hs : List Int) {owner : Array (Option Nat)} {k : Nat}, Own owner k → k + hs.length ≤ 32 → ∃ owner', hs.foldl stp (some (owner, k)) = some (owner', k + hs.length) ∧ Own owner' (k + hs.length)
 | [], owner, k, ho, _ => ⟨owner, rfl, ho⟩
 | h :: hs, owner, k, ho, hl => by
   rw [List.length_cons] at hl
   obtain ⟨o1, e1, ho1⟩ := stp_ok ho (by lia) h
   obtain ⟨o2, e2, ho2⟩ := fold_ok hs ho1 (by lia)
   refine ⟨o2, ?_, ?_⟩
   · rw [List.foldl_cons, e1, e2, List.length_cons, show k + 1 + hs.length = k + (hs.length + 1) by lia]
   · rw [List.length_cons, show k + (hs.length + 1) = k + 1 + hs.length by lia]; exact ho2
theorem own_none : Own (Array.replicate 32 none) 0 := by
 refine ⟨Array.size_replicate, ?_⟩
 have : (List.range 32).filterMap (lv (Array.replicate 32 none)) = [] := by decide +kernel
 rw [this]; exact List.Perm.refl _
theorem laid_ok (hashes : Array Int) (hn : hashes.size ≤ 32) (finger moves : Nat) (led plain : Bool) : ∃ t order, laid 31 finger moves led plain hashes = some (t, order) ∧ t.mask = 31 ∧ t.dummies = #[] ∧ t.place.size = hashes.size ∧ order.toList.Perm (List.range hashes.size) := by
 obtain ⟨owner, e, ho⟩ := fold_ok hashes.toList own_none (by rw [Array.length_toList]; lia)
 have hc : layClean 31 hashes = some owner := by
   unfold layClean
   have e' : hashes.foldl stp (some (Array.replicate 32 none, 0)) = some (owner, 0 + hashes.toList.length) := by rw [← Array.foldl_toList]; exact e
   have e2 : hashes.foldl (init := some (Array.replicate (31 + 1) none, 0)) (fun acc h => do
       let (owner, k) ← acc
       let j ← layClean.free 31 owner (turns 31) (bits h % (31 + 1)) (bits h)
       pure (owner.setIfInBounds j (some k), k + 1)) = some (owner, 0 + hashes.toList.length) := e'
   rw [e2]; rfl
 have hp := ho.2
 rw [Nat.zero_add, Array.length_toList] at hp
 refine ⟨{ mask := 31, place := (((List.range 32).filterMap (lv owner)).map (·.1)).toArray, dummies := #[], finger, led, moves, plain }, (((List.range 32).filterMap (lv owner)).map (·.2)).toArray, ?_, rfl, rfl, ?_, ?_⟩
 · unfold laid
   rw [hc]
   rfl
 · have := hp.length_eq
   rw [List.length_map, List.length_range] at this
   show (((List.range 32).filterMap (lv owner)).map (·.1)).toArray.size = _
   rw [List.size_toArray, List.length_map]; exact this
 · exact hp
end St
end L2
namespace L2
open PySem PySem.Spec PyProof.Rows
namespace St
open SetTable
section
variable {prog : Program} {w : World} {K : Type} [DecidableEq K] (knd : KeyKind prog w K) (G : Addr → Prop)
def SetN (h : Heap) (S : Addr) (keys : List (List K)) : Prop := ∃ o es ep t, h.get? S = some o ∧ o.ExactSet ∧ o.data = .set es ep t ∧ (t.mask = 7 ∧ es.size ≤ 4 ∨ t.mask = 31) ∧ t.dummies = #[] ∧ t.place.size = es.size ∧ es.size = keys.length ∧
 ∀ e ∈ es.toList, ∃ b k, e.2 = Value.ref b ∧ IsN knd h k b ∧ k ∈ keys ∧ G b
variable {knd} {G}
theorem SetN.keep {h h' : Heap} {S : Addr} {keys : List (List K)} (x : SetN knd G h S keys) (k : ∀ b o, b = S ∨ G b → h.get? b = some o → h'.get? b = some o) : SetN knd G h' S keys := by
 obtain ⟨o, es, ep, t, h1, h2, h3, h4, h5, h6, h7, h8⟩ := x
 refine ⟨o, es, ep, t, k _ _ (.inl rfl) h1, h2, h3, h4, h5, h6, h7, fun e he => ?_⟩
 obtain ⟨b, k', q1, q2, q3, q4⟩ := h8 e he
 exact ⟨b, k', q1, q2.keep fun o e => k _ o (.inr q4) e, q3, q4⟩
variable {A : Around} {E : Value → Shared → Prop} {s : Shared}
theorem insert_size {α : Type} (xs : Array α) (p : Nat) (x : α) : (insertAt xs p x).size = xs.size + 1 := by
 have h := (SetTable.insertAt_perm xs p x).length_eq
 rw [Array.length_toList, Array.length_toList, Array.size_push] at h
 exact h
theorem keep_but {h h' : Heap} {S : Addr} (sb : Heap.SameBut S h h') {ks : List K} {b : Addr} {o : Obj} {es ep t} (hS : h.get? S = some o) (hd : o.data = .set es ep t) (x : IsN knd h ks b) : IsN knd h' ks b := by
 obtain ⟨o', items, n, h1, h2, h3, h4⟩ := id x
 have hne : b ≠ S := by
   rintro rfl
   rw [hS] at h1
   cases h1
   rw [hd] at h3
   cases h3
 exact x.keep fun o'' e => (sb.2 b hne).trans e
theorem add_tail {S : Addr} {o : Obj} {es : Array (Int × Value)} {ep : Nat} {t : SetTable} (ho : s.heap.get? S = some o) (hcl : o.ExactSet) (hd : o.data = .set es ep t) {es1 : Array (Int × Value)} {t1 : SetTable} {keys : List (List K)}
   (hmk : t1.mask = 7 ∧ es1.size ≤ 5 ∨ t1.mask = 31) (hdm : t1.dummies = #[]) (hps : t1.place.size = es1.size) (hn : es1.size = keys.length) (h17 : es1.size ≤ 17) (hel : ∀ e ∈ es1.toList, ∃ b k, e.2 = Value.ref b ∧ IsN knd s.heap k b ∧ k ∈ keys ∧ G b) {m : Nat} (hm : m = es1.size) {Q : Bool → Shared → Prop}
   (h : ∀ h', Heap.SameBut S s.heap h' → SetN knd G h' S keys → Q true { s with heap := h' }) :
   wpAny (model prog w) A (do storeSet S es1 t1; if (!false && t1.tooFull) = true then do { setRelay S (grown m); pure true } else pure true) Q E s := by
 refine wpAny_bind (wpAny_storeSet_of ho hd ?_ (Nat.le_trans h17 (by decide)))
 have hg1 : (s.heap.update S (Obj.putSet es1 t1)).get? S = some { o with data := .set es1 (ep + 1) t1 } := by
   have := Heap.get?_update_self (Obj.putSet es1 t1) ho (by rw [putSet_of _ _ hd]; rfl)
   rw [putSet_of _ _ hd] at this; exact this
 have sb1 : Heap.SameBut S s.heap (s.heap.update S (Obj.putSet es1 t1)) := Heap.SameBut.update ..
 generalize s.heap.update S (Obj.putSet es1 t1) = h1 at hg1 sb1 ⊢
 have hel1 : ∀ e ∈ es1.toList, ∃ b k, e.2 = Value.ref b ∧ IsN knd h1 k b ∧ k ∈ keys ∧ G b := fun e he => by
   obtain ⟨b, k, q1, q2, q3, q4⟩ := hel e he
   exact ⟨b, k, q1, keep_but sb1 ho hd q2, q3, q4⟩
 have hfl : SetTable.fill t1 = es1.size := by unfold SetTable.fill; rw [hdm, hps]; rfl
 by_cases hfull : t1.tooFull = true
 · have hf5 : es1.size * 5 ≥ t1.mask * 3 := by
     unfold tooFull at hfull
     rw [hfl] at hfull
     exact of_decide_eq_true hfull
   have hm7 : t1.mask = 7 ∧ es1.size = 5 := by
     rcases hmk with z | z
     · rw [z.1] at hf5; exact ⟨z.1, by lia⟩
     · rw [z] at hf5; lia
   simp only [hfull, Bool.not_false, Bool.and_self, if_true]
   refine wpAny_bind ?_
   unfold setRelay
   have hfit1 : t1.fits es1.size = true := by
     unfold fits
     rw [hfl, hps, hm7.1, hm7.2]; rfl
   refine wpAny_bind (wpAny_setState_of (s := { s with heap := h1 }) (o := { o with data := .set es1 (ep + 1) t1 }) hg1 rfl hfit1 ?_)
   dsimp only
   have hgr : grown m = 20 := by rw [hm, hm7.2]; rfl
   have hsa : sizeAbove 20 = 32 := by decide
   rw [hgr, hsa, if_neg (by decide)]
   have hrl : t1.relaid (es1.map (·.1)) 20 = laid 31 t1.finger (t1.movedTo 31) t1.led t1.plain (es1.map (·.1)) := by
     unfold relaid
     rw [hsa]
   obtain ⟨t2, order, el, et1, et2, et3, eo⟩ := laid_ok (es1.map (·.1)) (by rw [Array.size_map]; lia) t1.finger (t1.movedTo 31) t1.led t1.plain
   rw [Array.size_map] at et3 eo
   have hperm : (order.filterMap (es1[·]?)).toList.Perm es1.toList := by
     rw [Array.toList_filterMap]
     have := eo.filterMap (fun i => es1[i]?)
     rw [filterMap_getElem?_range] at this
     exact this
   have hsz2 : (order.filterMap (es1[·]?)).size = es1.size := by
     have := hperm.length_eq
     rw [Array.length_toList, Array.length_toList] at this
     exact this
   rw [hrl, el]
   refine wpAny_bind ?_
   show wpAny _ _ (if ((order.filterMap (es1[·]?)).size != es1.size) = true then _ else pure (order.filterMap (es1[·]?), t2)) _ _ _
   rw [if_neg (by rw [hsz2]; simp)]
   refine wpAny_pure ?_
   generalize order.filterMap (es1[·]?) = es2 at hperm hsz2 ⊢
   refine wpAny_storeSet_of (s := { s with heap := h1 }) (o := { o with data := .set es1 (ep + 1) t1 }) hg1 rfl ?_ (by rw [hsz2]; exact Nat.le_trans h17 (by decide))
   have hg2 : (h1.update S (Obj.putSet es2 t2)).get? S = some { o with data := .set es2 (ep + 1 + 1) t2 } := by
     have := Heap.get?_update_self (Obj.putSet es2 t2) hg1 (by rw [putSet_of (es := es1) (ep := ep + 1) (t := t1) _ _ rfl]; rfl)
     rw [putSet_of (es := es1) (ep := ep + 1) (t := t1) _ _ rfl] at this; exact this
   have sb2 : Heap.SameBut S h1 (h1.update S (Obj.putSet es2 t2)) := Heap.SameBut.update ..
   have hel2 : ∀ e ∈ es2.toList, ∃ b k, e.2 = Value.ref b ∧ IsN knd (h1.update S (Obj.putSet es2 t2)) k b ∧ k ∈ keys ∧ G b := fun e he => by
     obtain ⟨b, k, q1, q2, q3, q4⟩ := hel1 e (hperm.mem_iff.mp he)
     exact ⟨b, k, q1, keep_but (es := es1) (ep := ep + 1) (t := t1) sb2 hg1 rfl q2, q3, q4⟩
   refine wpAny_pure (h (h1.update S (Obj.putSet es2 t2)) ⟨sb2.1.trans sb1.1, fun b hb => (sb2.2 b hb).trans (sb1.2 b hb)⟩ ⟨_, _, _, _, hg2, hcl, rfl, .inr et1, et2, by rw [et3, hsz2], by rw [hsz2]; exact hn, hel2⟩)
 · have hfull' : t1.tooFull = false := by simpa using hfull
   simp only [hfull', Bool.and_false, Bool.false_eq_true, if_false]
   refine wpAny_pure (h h1 sb1 ⟨_, _, _, _, hg1, hcl, rfl, ?_, hdm, hps, hn, hel1⟩)
   rcases hmk with z | z
   · refine .inl ⟨z.1, ?_⟩
     unfold tooFull at hfull'
     rw [hfl, z.1] at hfull'
     have hf' := of_decide_eq_false hfull'
     lia
   · exact .inr z
theorem add_n {S x : Addr} {ks : List K} {keys : List (List K)} {hsh : Int} {Q : Bool → Shared → Prop} (hS : SetN knd G s.heap S keys) (hx : IsN knd s.heap ks x) (hGx : G x) (hne : ks ∉ keys) (hl : keys.length ≤ 16) (hu : A.units < cLine)
   (h : ∀ h', Heap.SameBut S s.heap h' → SetN knd G h' S (ks :: keys) → Q true { s with heap := h' }) : wpAny (model prog w) A (setAddHashed S (.ref x) hsh) Q E s := by
 obtain ⟨o, es, ep, t, ho, hcl, hd, hmk, hdm, hps, hn, hel⟩ := hS
 have hm : t.mask = 7 ∨ t.mask = 31 := hmk.elim (fun z => .inl z.1) .inr
 have hsz : es.size ≤ t.mask := by rcases hmk with z | z <;> lia
 have hfl : SetTable.fill t = es.size := by unfold SetTable.fill; rw [hdm, hps]; rfl
 have hfit : t.fits es.size = true := by
   unfold fits
   rw [hfl, hps]
   simp
   exact hsz
 have hes : ∀ e ∈ es.toList, ∃ b k', e.2 = Value.ref b ∧ IsN knd s.heap k' b ∧ k' ≠ ks := fun e he => by
   obtain ⟨b, k, q1, q2, q3, _⟩ := hel e he
   exact ⟨b, k, q1, q2, fun z => hne (z ▸ q3)⟩
 unfold setAddHashed setAddHashedIn
 refine wpAny_holding (wpAny_bind (wpAny_setState_of ho hd hfit ?_))
 dsimp only
 have hbs : byScan (.ref x) es = false := rfl
 rw [hbs]
 simp only [Bool.false_eq_true, if_false]
 obtain ⟨k, hk1, hk2⟩ := start_hit hm hdm (by rw [hps]; exact hsz) hsh
 have hkF : k < 100000 := by
   unfold turns at hk1
   rcases hm with z | z <;> rw [z] at hk1 <;> lia
 refine wpAny_bind (m := setSearch S (.ref x) hsh true) (search_free ho hd hfit hm hdm hx hes hu (fun j => ?_) k 100000 none hkF hk1 rfl hk2)
 dsimp only
 refine wpAny_bind (wpAny_setState_of ho hd hfit ?_)
 dsimp only
 have hput : (t.put j).1 = { t with place := insertAt t.place (t.put j).2 j } := by
   unfold put
   have hz : has t.dummies j = false := by rw [hdm]; unfold has; rfl
   simp only [hz, Bool.false_eq_true, if_false]
 have hpl1 : (t.put j).1.place.size = es.size + 1 := by rw [hput]; show (insertAt _ _ _).size = _; rw [insert_size, hps]
 have hdm1 : (t.put j).1.dummies = #[] := by rw [hput]; exact hdm
 have hmk1 : (t.put j).1.mask = t.mask := by rw [hput]
 generalize (t.put j).1 = t1 at hpl1 hdm1 hmk1 ⊢
 generalize (t.put j).2 = p
 have hsz1 : (insertAt es p (hsh, Value.ref x)).size = es.size + 1 := insert_size _ _ _
 have hel1 : ∀ e ∈ (insertAt es p (hsh, Value.ref x)).toList, ∃ b k, e.2 = Value.ref b ∧ IsN knd s.heap k b ∧ k ∈ ks :: keys ∧ G b := fun e he => by
   have he' := (SetTable.insertAt_perm es p (hsh, Value.ref x)).mem_iff.mp he
   rw [Array.toList_push] at he'
   rcases List.mem_append.mp he' with z | z
   · obtain ⟨b, k, q1, q2, q3, q4⟩ := hel e z
     exact ⟨b, k, q1, q2, List.mem_cons_of_mem _ q3, q4⟩
   · rw [List.mem_singleton.mp z]
     exact ⟨x, ks, rfl, hx, List.mem_cons_self, hGx⟩
 have tail := add_tail (knd := knd) (G := G) (A := A) (E := E) (Q := Q) ho hcl hd (es1 := insertAt es p (hsh, Value.ref x)) (t1 := t1) (keys := ks :: keys) (by rw [hmk1, hsz1]; rcases hmk with z | z; exact .inl ⟨z.1, by lia⟩; exact .inr z) hdm1 (by rw [hpl1, hsz1]) (by rw [hsz1, hn]; rfl) (by rw [hsz1]; lia) hel1 (m := es.size + 1) (by rw [hsz1]) h
 split
 · refine wpAny_bind (hashByValue_n hx ?_)
   simp only [if_true]
   exact tail
 · refine wpAny_bind (wpAny_pure ?_)
   simp only [if_true]
   exact tail
end
end St
end L2
namespace L2
open PySem PySem.Spec PyProof.Rows
namespace St
section
variable {prog : Program} {w : World} {K : Type} [DecidableEq K] {knd : KeyKind prog w K} {G : Addr → Prop} {A : Around} {R : Result → Shared → Prop} {I : Addr} {fp wr : List Addr} {GG : Array GenState → Array GenState → Prop} {n : Nat} {P : Nat → Value → Prop} {St : Nat → Shared → Prop}
def ksAt (key : Nat → List K) : Nat → List (List K)
 | 0 => []
 | i + 1 => key i :: ksAt key i
theorem ksAt_length (key : Nat → List K) : ∀ i, (ksAt key i).length = i
 | 0 => rfl
 | i + 1 => by show (ksAt key i).length + 1 = i + 1; rw [ksAt_length key i]
theorem ksAt_mem {key : Nat → List K} {k : List K} : ∀ {i}, k ∈ ksAt key i → ∃ j, j < i ∧ key j = k
 | i + 1, h => by
   rcases List.mem_cons.mp h with z | z
   · exact ⟨i, Nat.lt_succ_self _, z.symm⟩
   · obtain ⟨j, h1, h2⟩ := ksAt_mem z
     exact ⟨j, Nat.lt_succ_of_lt h1, h2⟩
theorem turn_of {S : Addr} {s : Shared} (hz : wpAny (model prog w) A.in1 (Builtin.«set.update.loop» ⟨[.ref S, .ref I], []⟩)
     (fun fin s' => match fin with | .done f => R (.ok f) s' | .again c' => c'.quiet = true ∧ codeAny (model prog w) A c' R s') (fun e s' => R (.error e) s') s) :
   codeAny (model prog w) A (.builtin "set.update.loop" ⟨[.ref S, .ref I], []⟩) R s :=
 codeAny_builtin F.entry_set_update_loop ((Around.under_plainId F.plain_set_update_loop (A := A) ⟨[.ref S, .ref I], []⟩).symm ▸ hz)
theorem loop_n (W : WalksS prog w A.in1 I fp wr GG n P St) (S : Addr) (hSf : S ∉ fp) (key : Nat → List K) (adr : Nat → Addr) (hval : ∀ i v, P i v → v = Value.ref (adr i)) (hG : ∀ i, i < n → G (adr i)) (hGw : ∀ b, G b → b ∉ wr ∧ b ≠ S)
   (hinj : ∀ i j, i < n → j < n → key i = key j → i = j) (hn : n ≤ 17) (hu : A.units + 1 < cLine) (left i : Nat) (s : Shared) (hk : i + left = n) (hst : St i s) (hN : ∀ j, j < n → IsN knd s.heap (key j) (adr j)) (hS : SetN knd G s.heap S (ksAt key i))
   (hR : ∀ s', Moved (S :: wr) GG s s' → SetN knd G s'.heap S (ksAt key n) → R (.ok (.ret .none)) s') : codeAny (model prog w) A (.builtin "set.update.loop" ⟨[.ref S, .ref I], []⟩) R s := by
 have grow : ∀ {a b : Shared}, Moved wr GG a b → Moved (S :: wr) GG a b := fun m => m.mono fun _ => List.mem_cons_of_mem _
 have stay : ∀ {a b : Shared}, Moved wr GG a b → ∀ c o, c = S ∨ G c → a.heap.get? c = some o → b.heap.get? c = some o := fun m c o hc => m.heap c o (hc.elim (fun z => z ▸ mt (W.sub _) hSf) fun z => (hGw c z).1)
 induction left generalizing i s with
 | zero =>
   obtain rfl : i = n := by lia
   refine turn_of (show wpAny (model prog w) A.in1 (pyNext (Value.ref I) >>= _) _ _ s from wpAny_bind (W.done s _ _ hst fun s' m => ?_))
   exact wpAny_pure (hR s' (grow m) (hS.keep (stay m)))
 | succ left ih =>
   have hlt : i < n := by lia
   refine turn_of (show wpAny (model prog w) A.in1 (pyNext (Value.ref I) >>= _) _ _ s from wpAny_bind (W.item i s _ _ hlt hst fun v s' hP hst' m => ?_))
   obtain rfl := hval i v hP
   have hN' : ∀ j, j < n → IsN knd s'.heap (key j) (adr j) := fun j hj => (hN j hj).keep fun o e => stay m _ o (.inr (hG j hj)) e
   have hS' : SetN knd G s'.heap S (ksAt key i) := hS.keep (stay m)
   refine wpAny_bind (m := holding [Value.ref (adr i)] (setAdd S (Value.ref (adr i)))) (wpAny_holding ?_)
   unfold setAdd
   refine wpAny_holding (wpAny_bind (wpAny_pyHash_tuple hu (hN' i hlt).key ?_))
   refine add_n (knd := knd) (G := G) (s := { s' with toks := s'.toks + ((key i).length + 1) }) hS' (hN' i hlt) (hG i hlt) (fun z => ?_) (by rw [ksAt_length]; lia) hu fun h' sb hS2 => ?_
   · obtain ⟨j, j1, j2⟩ := ksAt_mem z
     have := hinj j i (by lia) hlt j2
     lia
   have other : ∀ c o, c ≠ S → s'.heap.get? c = some o → h'.get? c = some o := fun c o hc e => (sb.2 c hc).trans e
   refine wpAny_pure ⟨plainId_quiet F.plain_set_update_loop _, ih (i + 1) _ (by lia) (W.frame _ s' _ _ hst' (Nat.le_add_right _ _) fun b hb o e => other b o (fun z => hSf (z ▸ hb)) e) (fun j hj => (hN' j hj).keep fun o e => other _ o (hGw _ (hG j hj)).2 e) hS2 fun s'' m2 hS3 => ?_⟩
   exact hR s'' (((grow m).then_heap (Nat.le_add_right _ _) fun b o hb e => other b o (fun z => hb (z ▸ List.mem_cons_self)) e).trans W.gtrans m2) hS3
end
section
variable {prog : Program} {w : World} {K : Type} [DecidableEq K] {knd : KeyKind prog w K} {A : Around} {E : Value → Shared → Prop} {s : Shared}
abbrev nS (led : Bool) : Obj := { cls := .type "set", dict := none, data := .set #[] 0 (.fresh 0 0 led) }
abbrev nI (l : Addr) : Obj := { cls := .type "list_iterator", data := .fields #[.ref l, .int 0 0] }
theorem init_n {l : Addr} {items : Array Value} (led : Bool) (key : Nat → List K) (adr : Nat → Addr) (hh : A.handled = none) (hl : s.heap.IsList l items) (hv : ∀ (i : Nat) (v : Value), items[i]? = some v → v = Value.ref (adr i)) (hN : ∀ j, j < items.size → IsN knd s.heap (key j) (adr j))
   (hinj : ∀ i j, i < items.size → j < items.size → key i = key j → i = j) (hb : items.size ≤ 17) (hu : A.units + 20 < cLine) {Q : Fin → Shared → Prop} {E' : Value → Shared → Prop}
   (h : ∀ (h' : Heap) (tk : Nat), SetN knd (fun b => b < s.heap.objs.size) h' s.heap.objs.size (ksAt key items.size) → (∀ b o, s.heap.get? b = some o → h'.get? b = some o) → Q (.done (.ret .none)) { s with heap := h', toks := tk }) :
   wpAny (model prog w) A (Builtin.«set.__init__» ⟨[.ref s.heap.objs.size, .ref l], []⟩) Q E' { s with heap := s.heap.push (nS led) } := by
 have lS : l < s.heap.objs.size := by obtain ⟨_, e, _⟩ := hl; exact Heap.lt_size e
 obtain ⟨⟨_, od, _, osl⟩, el, hc, nl, hd⟩ := id hl
 simp only at hc hd; subst hc hd
 have el1 : (s.heap.push (nS led)).get? l = some { cls := .type "list", dict := od, data := .seq items nl, slots := osl } := Heap.get?_push_of_some _ el
 have eS : (s.heap.push (nS led)).get? s.heap.objs.size = some (nS led) := Heap.get?_push_size _ rfl
 have hl1 : (s.heap.push (nS led)).IsList l items := ⟨_, el1, rfl, nl, rfl⟩
 have t1 := F.sub_list_set; have t2 := F.sub_list_frozenset; have t3 : (Value.type "list" == Value.type "dict") = false := by decide
 unfold Builtin.«set.__init__» noKeywords Builtin.Frozenset.updateFrom
 generalize hPI : pyIter = PI; wp_walk; subst hPI
 have zS : (s.heap.push (nS led)).objs.size = s.heap.objs.size + 1 := Heap.size_push ..
 refine wpAny_pyIter_list hl1 (wpAny_bind (wpAny_runValue ?_))
 have up : ∀ b o, s.heap.get? b = some o → ((s.heap.push (nS led)).push (nI l)).get? b = some o := fun b o e => Heap.get?_push_of_some _ (Heap.get?_push_of_some _ e)
 have lI : l ≠ (s.heap.push (nS led)).objs.size := by rw [zS]; exact Nat.ne_of_lt (Nat.lt_succ_of_lt lS)
 refine loop_n (knd := knd) (G := fun b => b < s.heap.objs.size) ((Walks.list (A := A.in1) hh _ l lI items).toS) s.heap.objs.size ?_ key adr (fun i v hP => hv i v hP) (fun i hi => ?_) (fun b hb => ⟨?_, Nat.ne_of_lt hb⟩) hinj hb (by lia) items.size 0 _ (Nat.zero_add _)
   ⟨⟨_, Heap.get?_push_size _ rfl, rfl, rfl⟩, hl1.push _⟩ (fun j hj => (hN j hj).keep fun o e => up _ _ e) ⟨_, _, _, _, Heap.get?_push_of_some _ eS, ⟨rfl, rfl, rfl⟩, rfl, .inl ⟨rfl, Nat.zero_le _⟩, rfl, rfl, rfl, (fun e he => by simp at he)⟩ ?_
 · rw [zS]; intro hm
   rcases List.mem_cons.mp hm with z | z
   · exact absurd z (Nat.ne_of_lt (Nat.lt_succ_self _))
   · exact absurd (List.mem_singleton.mp z) (Nat.ne_of_gt lS)
 · obtain ⟨_, _, _, e, _⟩ := hN i hi; exact Heap.lt_size e
 · rw [zS]; intro hm
   exact absurd (List.mem_singleton.mp hm) (Nat.ne_of_lt (Nat.lt_succ_of_lt hb))
 rintro ⟨h', g', d', tk', os'⟩ m hS'
 obtain rfl : g' = s.gens := m.gens
 obtain rfl : d' = s.drawn := m.drawn
 obtain rfl : os' = s.os := m.os
 refine wpAny_pure (wpAny_pure (h h' tk' hS' fun b o e => ?_))
 have lb := Heap.lt_size e
 refine m.heap b o (fun hm => ?_) (up b o e)
 rw [zS] at hm
 rcases List.mem_cons.mp hm with z | z
 · exact absurd z (Nat.ne_of_lt lb)
 · exact absurd (List.mem_singleton.mp z) (Nat.ne_of_lt (Nat.lt_succ_of_lt lb))
theorem call_setN {l : Addr} {items : Array Value} {Q : Value → Shared → Prop} (key : Nat → List K) (adr : Nat → Addr) (hh : A.handled = none) (hl : s.heap.IsList l items) (hv : ∀ (i : Nat) (v : Value), items[i]? = some v → v = Value.ref (adr i)) (hN : ∀ j, j < items.size → IsN knd s.heap (key j) (adr j))
   (hinj : ∀ i j, i < items.size → j < items.size → key i = key j → i = j) (hb : items.size ≤ 17) (hu : A.units + 40 < cLine)
   (h : ∀ (h' : Heap) (tk : Nat), SetN knd (fun b => b < s.heap.objs.size) h' s.heap.objs.size (ksAt key items.size) → (∀ b o, s.heap.get? b = some o → h'.get? b = some o) → Q (.ref s.heap.objs.size) { s with heap := h', toks := tk }) :
   wpAny (model prog w) A (call (.type "set") [.ref l]) Q E s := by
 obtain ⟨_, _, hmro⟩ := F.called_set.mro
 have m1 := F.called_set.made; have m2 := F.called_set.sub; have m3 := F.called_set.notType; have m4 := F.called_set.canCreate; have m5 := F.typeCall_set_1 (.ref l)
 refine wpAny_call (codeAny_of_tree (show wpAny _ _ (callAny (.type "set") _) _ _ _ from wpAny_pure ⟨Code.quiet_builtin _ (by decide +kernel), codeAny_builtin F.entry_type_call ?_⟩))
 rw [Around.under_plain (weight_type_call_type "set" [.ref l] []) rfl]
 repeat any_goals first | assumption | wp_step
 refine codeAny_mono (code_set_new_1 (.ref l) (E := E) (Q₁ := fun v s₁ => v = .ref s.heap.objs.size ∧ ∃ led, s₁ = { s with heap := s.heap.push (nS led) }) fun led => ⟨rfl, led, rfl⟩) fun r s₁ hr => ?_
 rcases r with e | fl
 · exact hr
 cases fl with
 | ret v =>
   obtain ⟨e1, led, e2⟩ := hr
   subst e1 e2
   have hT : Shared.TypeIs { s with heap := s.heap.push (nS led) } (.ref s.heap.objs.size) "set" := ⟨_, Heap.get?_push_size _ rfl, rfl⟩
   have m6 := F.called_set.init.lookup; have m7 := F.called_set.init.bind (.ref s.heap.objs.size)
   repeat any_goals first | assumption | wp_step
   refine codeAny_mono (codeAny_call_builtin (R := wants (fun r s₂ => r = .none ∧ Q (.ref s.heap.objs.size) s₂) E) F.called_set.init.plain F.entry_set_init (check_set_init_1 hT ?_)) fun r₂ s₂ hr₂ => ?_
   · refine init_n (knd := knd) led key adr ?_ hl hv hN hinj hb ?_ fun h' tk hS hk => ?_
     · simp [hh]
     · simp only [Around.in1]; lia
     · exact ⟨rfl, h h' tk hS hk⟩
   · rcases r₂ with e | fl₂
     · exact hr₂
     cases fl₂ with
     | ret _ =>
       obtain ⟨e3, q⟩ := hr₂
       subst e3
       repeat any_goals first | assumption | wp_step
     | _ => exact hr₂.elim
 | _ => exact hr.elim
end
end St
end L2
namespace L2
open PySem PySem.Spec PyProof.Rows
theorem bt_set : bootBuiltins "set" = some (.type "set") := by decide +kernel
def SetO (p : Addr) (n : Nat) : HO := .ext fun h => ∃ o es ep t, h.get? p = some o ∧ o.ExactSet ∧ o.data = .set es ep t ∧ SetTable.fits t es.size = true ∧ es.size = n
theorem isN_of {P : Program} {w : World} {H : Hp} {h : Heap} {a : Addr} {q : Rat} (ok : HOk P w H h) (e : H a = some (nT q)) : St.IsN (mixKind P w) h (kQ q) a := by
 obtain ⟨_, its, rv, o, ho, hc, n, hd⟩ := ok a _ e
 refine ⟨o, its.toArray, n, ho, hc, hd, items_are (ks := kQ q) rv, fun v hv => ?_⟩
 have hv' : v ∈ its := by simpa using hv
 cases rv with
 | cons r1 rr =>
   cases rr with
   | cons r2 rr =>
     cases rr
     obtain ⟨t1, rfl⟩ := r1
     obtain ⟨t2, rfl⟩ := r2
     rcases List.mem_cons.mp hv' with z | z
     · exact ⟨_, _, z⟩
     · exact ⟨_, _, List.mem_singleton.mp z⟩
section
variable {X : Cx}
inductive rSetN (K : PySem.W.Frag) (xs : List V) (H : Hp) (Q : VK) : Prop
 | mk (l : Addr) (ys : List V) (qs : List Rat) (h1 : xs = [.ref l]) (h2 : SqL K H l ys) (h3 : NumsT H ys qs) (h4 : qs.Nodup) (h5 : qs.length ≤ 17) (h6 : ∀ p, H p = none → Q (.ref p) (upd H p (SetO p qs.length))) : rSetN K xs H Q
theorem call_setR (hc : X.calm = true) (hu : X.A.units + 64 < cLine) : CallR X (.type "set") (rSetN X.K) := by
 intro pins s σ H xs us Q I r h
 obtain ⟨l, ys, qs, rfl, hq, hn, hnd, h17, q⟩ := h
 obtain ⟨u, rfl, rfl⟩ := vals1 r
 obtain ⟨its, rv, p, hz⟩ := I.list hq
 have hl := rv.length
 have hyl := hn.length
 have hsz : its.toArray.size = qs.length := by rw [List.size_toArray]; lia
 let adr : Nat → Addr := fun j => match ys[j]? with | some (.ref r) => r | _ => 0
 have had : ∀ j, j < qs.length → ∃ r, ys[j]? = some (.ref r) ∧ adr j = r ∧ H r = some (nT (qs.getD j 0)) := fun j hj => by
   have g : qs[j]? = some (qs.getD j 0) := by rw [List.getD_eq_getElem?_getD, List.getElem?_eq_getElem hj]; rfl
   obtain ⟨y, hy, r, rfl, hr⟩ := Paired.get' hn g
   exact ⟨r, hy, by show (match ys[j]? with | some (.ref r) => r | _ => 0) = r; rw [hy], hr⟩
 refine St.call_setN (knd := mixKind X.prog X.w) (fun j => kQ (qs.getD j 0)) adr (I.ok.hd hc) p.isList (fun i v hv => ?_) (fun j hj => ?_) (fun i j hi hj e => ?_) (by lia) (by lia) fun h' tk hS hk => ?_
 · have hv' : its[i]? = some v := by simpa using hv
   have hi : i < its.length := (List.getElem?_eq_some_iff.mp hv').1
   obtain ⟨r, hy, hr, _⟩ := had i (by lia)
   obtain ⟨u, hu1, ru⟩ := rv.get hy
   rw [hv'] at hu1
   cases hu1
   rw [hr]; exact ru
 · rw [hsz] at hj
   obtain ⟨r, _, hr, hH⟩ := had j hj
   rw [hr]
   exact isN_of I.hok hH
 · rw [hsz] at hi hj
   have e' := kQ_inj e
   have g1 : qs[i]? = some (qs.getD i 0) := by rw [List.getD_eq_getElem?_getD, List.getElem?_eq_getElem hi]; rfl
   have g2 : qs[j]? = some (qs.getD j 0) := by rw [List.getD_eq_getElem?_getD, List.getElem?_eq_getElem hj]; rfl
   exact (List.getElem?_inj hi hnd).mp (by rw [g1, g2, e'])
 · obtain ⟨o, es, ep, t, h1, h2, h3, h4, h5, h6, h7, _⟩ := hS
   rw [St.ksAt_length, hsz] at h7
   have hfit : SetTable.fits t es.size = true := by
     unfold SetTable.fits SetTable.fill
     rw [h5, h6]
     rcases h4 with z | z <;> simp <;> lia
   have new : ObjOk X.prog X.w (upd H s.heap.objs.size (SetO s.heap.objs.size qs.length)) h' s.heap.objs.size (SetO s.heap.objs.size qs.length) := by
     refine ⟨⟨o, es, ep, t, h1, h2, h3, hfit, h7⟩, ⟨o, h1⟩, fun g1 g2 hg hk => ?_⟩
     obtain ⟨o, es, ep, t, k1, k2, k3, k4, k5⟩ := hg
     exact ⟨o, es, ep, t, hk o k1, k2, k3, k4, k5⟩
   exact ⟨.ref s.heap.objs.size, _, I.laid (t' := tk) hk (Nat.le_refl _) new, rfl, q _ (I.hok.fresh (Nat.le_refl _))⟩
theorem setR (K : PySem.W.Frag) (hc : X.calm = true) (hu : X.A.units + 64 < cLine) (e : X.K = K := by rfl) : CallR X (.type "set") (rSetN K) := by subst e; exact call_setR hc hu
theorem call_lenS : CallR X (.builtin "len") (fun xs H Q => ∃ (p : Addr) (n : Nat), xs = [.ref p] ∧ H p = some (SetO p n) ∧ n ≤ 1000 ∧ Q (.int (n : Int)) H) := by
 intro pins s σ H xs us Q I r h
 obtain ⟨p, n, rfl, hp, hn, q⟩ := h
 obtain ⟨u, rfl, rfl⟩ := vals1 r
 obtain ⟨⟨o, es, ep, t, h1, h2, h3, h4, h5⟩, _⟩ := I.hok p _ hp
 subst h5
 exact call_len_set h1 h2 h3 h4 (by lia) ⟨.int _, H, I.tok _, ⟨_, rfl⟩, q⟩
end
end L2
namespace L2
open PySem PySem.Spec PyProof.Rows
section
open PySem.W
variable {X : Cx} (K : PySem.W.Frag)
inductive cIsiT (xs : List V) (H : Hp) (Q : VK) : Prop
 | mk (a : _) (t : _) (tp : _) (ys : _) (cs : _) (b : _) (h1 : xs = [.ref a, .ref tp]) (h2 : ((∃ zs, SqT K H a zs) ∧ t = Value.type "tuple" ∨ (∃ zs, SqL K H a zs) ∧ t = Value.type "list")) (h3 : H tp = some (.tup ys)) (h4 : ys.map clsV = cs.map some) (h5 : kitAny K t cs = some b) (h6 : Q (.bl b) H) : cIsiT xs H Q
theorem isiT (e : X.K = K := by rfl) : CallR X (.builtin "isinstance") (cIsiT K) := by
 subst e
 intro pins s σ H xs us Q I r h
 obtain ⟨a, t, tp, ys, cs, b, rfl, ht, htp, hys, hk, q⟩ := h
 obtain ⟨u, w', rfl, rx, ry⟩ := vals2 r
 cases rx
 cases ry
 obtain ⟨_, its, rv, ⟨cc, dd, dt, sl⟩, e1, e2, n, e3⟩ := I.hok tp _ htp
 have e2 : cc = .type "tuple" := e2
 have e3 : dt = .seq its.toArray n := e3
 subst e2 e3
 rw [clsV_rels rv hys] at e1
 rcases ht with ⟨⟨zs, hz⟩, rfl⟩ | ⟨⟨zs, hz⟩, rfl⟩
 · obtain ⟨_, _, ⟨o, o1, o2, _⟩, _⟩ := I.tuple hz
   exact kia_tup kitx_tuple I.kIn ⟨o, o1, o2⟩ e1 hk (fun z => nomatch z) fun tk => ⟨.bl b, H, I.tok _, rfl, q⟩
 · obtain ⟨_, _, ⟨o, _, o1, o2, _⟩, _⟩ := I.list hz
   exact kia_tup kitx_list I.kIn ⟨o, o1, o2⟩ e1 hk (fun z => nomatch z) fun tk => ⟨.bl b, H, I.tok _, rfl, q⟩
theorem kitA_l : kitAny K (.type "list") [.type "list", .type "tuple"] = some true := by kernel_rfl
theorem kitA_t : kitAny K (.type "tuple") [.type "list", .type "tuple"] = some true := by kernel_rfl
end
end L2
namespace L2
open PySem PySem.Spec PyProof.Rows
structure CompOkC (X : Cx) (N : List Str) (nt : Nat) (js : List Nat) (scope : Scope) (x : Str) : Prop where
 kind : scope.kind = .function
 split : ∃ pre post, scope.names = pre ++ (x, .cell) :: post ∧ (∀ y ∈ pre, y.2 ≠ .cell) ∧ ∀ y ∈ post, y.2 ≠ .cell
 only : ∀ y ∈ scope.names, y.2 = .cell → y.1 = x
 lx : scope.names.lookup x = some .cell
 names : ∀ y ∈ scope.names, y.2 = .local → scope.names.lookup y.1 = some .local
 free : ∀ y ∈ scope.names, y.2 = .free → X.env.kindOf y.1 = some .cell ∨ X.env.kindOf y.1 = some .free
 len : N.length = nt + js.length
 outer : ∀ j i, js[j]? = some i → ∃ x, N[nt + j]? = some x ∧ X.N[i]? = some x ∧ scope.names.lookup x = some .free
section
variable {X : Cx} {N : List Str} {nt : Nat} {js : List Nat} {scope : Scope} {cl : List (Str × Addr)} {x : Str} {c : Addr}
end
section
variable {X : Cx} {N : List Str} {nt : Nat} {js : List Nat} {scope : Scope} {elt iter tg : Expr} {ifs : List Expr} {pos : Pos} {g : TG} {tc : TT} {te : TE} {wi : TI} {xn : Str}
end
end L2
namespace L2
open PySem PySem.Spec PyProof.Rows
@[reducible] def Cl (u : PySem.W.Frag → TS) (K : PySem.W.Frag) : TS := u K
theorem pss_consC {X : Cx} {st : Stmt} {rest : List Stmt} {t v : TS} {K : PySem.W.Frag} {u : PySem.W.Frag → TS} (h1 : PS X st t) (h2 : PSs X rest v) (e : v = u K) : PSs X (st :: rest) (tSeq t (Cl u K)) := by
 subst e; exact pss_cons h1 h2
section
variable {X : Cx} {o e : Expr} {es : List Expr} {to : TE} {t : TA} {name : Str} {apos cpos : Pos} {T id : String} {r : V → List V → Hp → VK → Prop}
theorem pe_bmK (K : PySem.W.Frag) (pa : PlainAttrs T) (slot : Slot T name id) (hty : typeOf (.builtin id) = pure (.type "method_descriptor")) (hm : MtR X id r) (ho : PE X o to) (ha : PA X (e :: es) t)
   (hbase : attributeBase o name X.env (eval o X.env) = eval o X.env := by rfl)
   (hfew : ((backTo cpos (starEach (e :: es) X.env)).all (fun x => !x.1) && (backToKw cpos (keywordEach [] X.env)).all (fun x => x.1.isSome)
     && decide ((e :: es).length + ([] : List Keyword).length + (if ([] : List Keyword).isEmpty then 0 else 1) < 30)) = true := by rfl)
   (hline : (apos.endLine == cpos.line) = true := by rfl) (hs : starEach (e :: es) X.env = (false, eval e X.env) :: starEach es X.env := by rfl) (hplain : (backTo cpos (starEach es X.env)).any (·.1) = false := by rfl) (eK : X.K = K := by rfl) :
   PE X (.Call (.Attribute o name apos) (e :: es) [] cpos) (tBM K T r to t) := pe_bm pa slot hty hm ho ha hbase hfew hline hs hplain eK
end
theorem iteTc {c : Bool} {A B : Prop} (e : c = true) (h : A) : if c = true then A else B := by
 rw [if_pos e]; exact h
theorem iteFc {c : Bool} {A B : Prop} (e : c = false) (h : B) : if c = true then A else B := by
 rw [if_neg (by rw [e]; decide)]; exact h
theorem len_succ {α : Type} {l : List α} {n : Nat} (h : l.length = n + 1) : ∃ a r, l = a :: r ∧ r.length = n := by
 cases l with
 | nil => cases h
 | cons a r => exact ⟨a, r, rfl, Nat.succ.inj h⟩
theorem Fun.binds1 {K : PySem.W.Frag} {x qual : Str} {st : Stmt} {f : Addr} {fd : FuncData} (p1 : Str) (F : Fun K x qual st f fd)
   (h : ∀ (kV doc pm : Value) (an : Option Addr) (cdv ct a1 : Value), bindArgs (PySem.W.fnOf x qual (defArgs st) (defBody st) (defScope st) .none kV doc pm an cdv ct) ⟨[a1], []⟩ = pure [(p1, a1)]) : Binds K fd [p1] [] :=
 F.binds fun kV doc pm an cdv ct us l0 => by
   obtain ⟨a1, r1, rfl, l1⟩ := len_succ l0
   cases List.length_eq_zero_iff.mp l1
   exact h kV doc pm an cdv ct a1
theorem Fun.binds2 {K : PySem.W.Frag} {x qual : Str} {st : Stmt} {f : Addr} {fd : FuncData} (p1 p2 : Str) (F : Fun K x qual st f fd)
   (h : ∀ (kV doc pm : Value) (an : Option Addr) (cdv ct a1 a2 : Value), bindArgs (PySem.W.fnOf x qual (defArgs st) (defBody st) (defScope st) .none kV doc pm an cdv ct) ⟨[a1, a2], []⟩ = pure [(p1, a1), (p2, a2)]) : Binds K fd [p1, p2] [] :=
 F.binds fun kV doc pm an cdv ct us l0 => by
   obtain ⟨a1, r1, rfl, l1⟩ := len_succ l0
   obtain ⟨a2, r2, rfl, l2⟩ := len_succ l1
   cases List.length_eq_zero_iff.mp l2
   exact h kV doc pm an cdv ct a1 a2
theorem Fun.binds3 {K : PySem.W.Frag} {x qual : Str} {st : Stmt} {f : Addr} {fd : FuncData} (p1 p2 p3 : Str) (F : Fun K x qual st f fd)
   (h : ∀ (kV doc pm : Value) (an : Option Addr) (cdv ct a1 a2 a3 : Value), bindArgs (PySem.W.fnOf x qual (defArgs st) (defBody st) (defScope st) .none kV doc pm an cdv ct) ⟨[a1, a2, a3], []⟩ = pure [(p1, a1), (p2, a2), (p3, a3)]) : Binds K fd [p1, p2, p3] [] :=
 F.binds fun kV doc pm an cdv ct us l0 => by
   obtain ⟨a1, r1, rfl, l1⟩ := len_succ l0
   obtain ⟨a2, r2, rfl, l2⟩ := len_succ l1
   obtain ⟨a3, r3, rfl, l3⟩ := len_succ l2
   cases List.length_eq_zero_iff.mp l3
   exact h kV doc pm an cdv ct a1 a2 a3
theorem Fun.binds4 {K : PySem.W.Frag} {x qual : Str} {st : Stmt} {f : Addr} {fd : FuncData} (p1 p2 p3 p4 : Str) (F : Fun K x qual st f fd)
   (h : ∀ (kV doc pm : Value) (an : Option Addr) (cdv ct a1 a2 a3 a4 : Value), bindArgs (PySem.W.fnOf x qual (defArgs st) (defBody st) (defScope st) .none kV doc pm an cdv ct) ⟨[a1, a2, a3, a4], []⟩ = pure [(p1, a1), (p2, a2), (p3, a3), (p4, a4)]) : Binds K fd [p1, p2, p3, p4] [] :=
 F.binds fun kV doc pm an cdv ct us l0 => by
   obtain ⟨a1, r1, rfl, l1⟩ := len_succ l0
   obtain ⟨a2, r2, rfl, l2⟩ := len_succ l1
   obtain ⟨a3, r3, rfl, l3⟩ := len_succ l2
   obtain ⟨a4, r4, rfl, l4⟩ := len_succ l3
   cases List.length_eq_zero_iff.mp l4
   exact h kV doc pm an cdv ct a1 a2 a3 a4
@[reducible] def L2 {α1 α2 : Type} {δ : Type} (x1 : α1) (x2 : α2) (u : α1 → α2 → δ) : δ := u x1 x2
@[reducible] def L3 {α1 α2 α3 : Type} {δ : Type} (x1 : α1) (x2 : α2) (x3 : α3) (u : α1 → α2 → α3 → δ) : δ := u x1 x2 x3
@[reducible] def L4 {α1 α2 α3 α4 : Type} {δ : Type} (x1 : α1) (x2 : α2) (x3 : α3) (x4 : α4) (u : α1 → α2 → α3 → α4 → δ) : δ := u x1 x2 x3 x4
@[reducible] def L5 {α1 α2 α3 α4 α5 : Type} {δ : Type} (x1 : α1) (x2 : α2) (x3 : α3) (x4 : α4) (x5 : α5) (u : α1 → α2 → α3 → α4 → α5 → δ) : δ := u x1 x2 x3 x4 x5
@[reducible] def L6 {α1 α2 α3 α4 α5 α6 : Type} {δ : Type} (x1 : α1) (x2 : α2) (x3 : α3) (x4 : α4) (x5 : α5) (x6 : α6) (u : α1 → α2 → α3 → α4 → α5 → α6 → δ) : δ := u x1 x2 x3 x4 x5 x6
@[reducible] def L7 {α1 α2 α3 α4 α5 α6 α7 : Type} {δ : Type} (x1 : α1) (x2 : α2) (x3 : α3) (x4 : α4) (x5 : α5) (x6 : α6) (x7 : α7) (u : α1 → α2 → α3 → α4 → α5 → α6 → α7 → δ) : δ := u x1 x2 x3 x4 x5 x6 x7
@[reducible] def L8 {α1 α2 α3 α4 α5 α6 α7 α8 : Type} {δ : Type} (x1 : α1) (x2 : α2) (x3 : α3) (x4 : α4) (x5 : α5) (x6 : α6) (x7 : α7) (x8 : α8) (u : α1 → α2 → α3 → α4 → α5 → α6 → α7 → α8 → δ) : δ := u x1 x2 x3 x4 x5 x6 x7 x8
@[reducible] def L9 {α1 α2 α3 α4 α5 α6 α7 α8 α9 : Type} {δ : Type} (x1 : α1) (x2 : α2) (x3 : α3) (x4 : α4) (x5 : α5) (x6 : α6) (x7 : α7) (x8 : α8) (x9 : α9) (u : α1 → α2 → α3 → α4 → α5 → α6 → α7 → α8 → α9 → δ) : δ := u x1 x2 x3 x4 x5 x6 x7 x8 x9
@[reducible] def L10 {α1 α2 α3 α4 α5 α6 α7 α8 α9 α10 : Type} {δ : Type} (x1 : α1) (x2 : α2) (x3 : α3) (x4 : α4) (x5 : α5) (x6 : α6) (x7 : α7) (x8 : α8) (x9 : α9) (x10 : α10) (u : α1 → α2 → α3 → α4 → α5 → α6 → α7 → α8 → α9 → α10 → δ) : δ := u x1 x2 x3 x4 x5 x6 x7 x8 x9 x10
@[reducible] def L11 {α1 α2 α3 α4 α5 α6 α7 α8 α9 α10 α11 : Type} {δ : Type} (x1 : α1) (x2 : α2) (x3 : α3) (x4 : α4) (x5 : α5) (x6 : α6) (x7 : α7) (x8 : α8) (x9 : α9) (x10 : α10) (x11 : α11) (u : α1 → α2 → α3 → α4 → α5 → α6 → α7 → α8 → α9 → α10 → α11 → δ) : δ := u x1 x2 x3 x4 x5 x6 x7 x8 x9 x10 x11
@[reducible] def L12 {α1 α2 α3 α4 α5 α6 α7 α8 α9 α10 α11 α12 : Type} {δ : Type} (x1 : α1) (x2 : α2) (x3 : α3) (x4 : α4) (x5 : α5) (x6 : α6) (x7 : α7) (x8 : α8) (x9 : α9) (x10 : α10) (x11 : α11) (x12 : α12) (u : α1 → α2 → α3 → α4 → α5 → α6 → α7 → α8 → α9 → α10 → α11 → α12 → δ) : δ := u x1 x2 x3 x4 x5 x6 x7 x8 x9 x10 x11 x12
@[reducible] def L13 {α1 α2 α3 α4 α5 α6 α7 α8 α9 α10 α11 α12 α13 : Type} {δ : Type} (x1 : α1) (x2 : α2) (x3 : α3) (x4 : α4) (x5 : α5) (x6 : α6) (x7 : α7) (x8 : α8) (x9 : α9) (x10 : α10) (x11 : α11) (x12 : α12) (x13 : α13) (u : α1 → α2 → α3 → α4 → α5 → α6 → α7 → α8 → α9 → α10 → α11 → α12 → α13 → δ) : δ := u x1 x2 x3 x4 x5 x6 x7 x8 x9 x10 x11 x12 x13
@[reducible] def L14 {α1 α2 α3 α4 α5 α6 α7 α8 α9 α10 α11 α12 α13 α14 : Type} {δ : Type} (x1 : α1) (x2 : α2) (x3 : α3) (x4 : α4) (x5 : α5) (x6 : α6) (x7 : α7) (x8 : α8) (x9 : α9) (x10 : α10) (x11 : α11) (x12 : α12) (x13 : α13) (x14 : α14) (u : α1 → α2 → α3 → α4 → α5 → α6 → α7 → α8 → α9 → α10 → α11 → α12 → α13 → α14 → δ) : δ := u x1 x2 x3 x4 x5 x6 x7 x8 x9 x10 x11 x12 x13 x14
@[reducible] def L15 {α1 α2 α3 α4 α5 α6 α7 α8 α9 α10 α11 α12 α13 α14 α15 : Type} {δ : Type} (x1 : α1) (x2 : α2) (x3 : α3) (x4 : α4) (x5 : α5) (x6 : α6) (x7 : α7) (x8 : α8) (x9 : α9) (x10 : α10) (x11 : α11) (x12 : α12) (x13 : α13) (x14 : α14) (x15 : α15) (u : α1 → α2 → α3 → α4 → α5 → α6 → α7 → α8 → α9 → α10 → α11 → α12 → α13 → α14 → α15 → δ) : δ := u x1 x2 x3 x4 x5 x6 x7 x8 x9 x10 x11 x12 x13 x14 x15
@[reducible] def L16 {α1 α2 α3 α4 α5 α6 α7 α8 α9 α10 α11 α12 α13 α14 α15 α16 : Type} {δ : Type} (x1 : α1) (x2 : α2) (x3 : α3) (x4 : α4) (x5 : α5) (x6 : α6) (x7 : α7) (x8 : α8) (x9 : α9) (x10 : α10) (x11 : α11) (x12 : α12) (x13 : α13) (x14 : α14) (x15 : α15) (x16 : α16) (u : α1 → α2 → α3 → α4 → α5 → α6 → α7 → α8 → α9 → α10 → α11 → α12 → α13 → α14 → α15 → α16 → δ) : δ := u x1 x2 x3 x4 x5 x6 x7 x8 x9 x10 x11 x12 x13 x14 x15 x16
@[reducible] def L17 {α1 α2 α3 α4 α5 α6 α7 α8 α9 α10 α11 α12 α13 α14 α15 α16 α17 : Type} {δ : Type} (x1 : α1) (x2 : α2) (x3 : α3) (x4 : α4) (x5 : α5) (x6 : α6) (x7 : α7) (x8 : α8) (x9 : α9) (x10 : α10) (x11 : α11) (x12 : α12) (x13 : α13) (x14 : α14) (x15 : α15) (x16 : α16) (x17 : α17) (u : α1 → α2 → α3 → α4 → α5 → α6 → α7 → α8 → α9 → α10 → α11 → α12 → α13 → α14 → α15 → α16 → α17 → δ) : δ := u x1 x2 x3 x4 x5 x6 x7 x8 x9 x10 x11 x12 x13 x14 x15 x16 x17
@[reducible] def L18 {α1 α2 α3 α4 α5 α6 α7 α8 α9 α10 α11 α12 α13 α14 α15 α16 α17 α18 : Type} {δ : Type} (x1 : α1) (x2 : α2) (x3 : α3) (x4 : α4) (x5 : α5) (x6 : α6) (x7 : α7) (x8 : α8) (x9 : α9) (x10 : α10) (x11 : α11) (x12 : α12) (x13 : α13) (x14 : α14) (x15 : α15) (x16 : α16) (x17 : α17) (x18 : α18) (u : α1 → α2 → α3 → α4 → α5 → α6 → α7 → α8 → α9 → α10 → α11 → α12 → α13 → α14 → α15 → α16 → α17 → α18 → δ) : δ := u x1 x2 x3 x4 x5 x6 x7 x8 x9 x10 x11 x12 x13 x14 x15 x16 x17 x18
@[reducible] def L19 {α1 α2 α3 α4 α5 α6 α7 α8 α9 α10 α11 α12 α13 α14 α15 α16 α17 α18 α19 : Type} {δ : Type} (x1 : α1) (x2 : α2) (x3 : α3) (x4 : α4) (x5 : α5) (x6 : α6) (x7 : α7) (x8 : α8) (x9 : α9) (x10 : α10) (x11 : α11) (x12 : α12) (x13 : α13) (x14 : α14) (x15 : α15) (x16 : α16) (x17 : α17) (x18 : α18) (x19 : α19) (u : α1 → α2 → α3 → α4 → α5 → α6 → α7 → α8 → α9 → α10 → α11 → α12 → α13 → α14 → α15 → α16 → α17 → α18 → α19 → δ) : δ := u x1 x2 x3 x4 x5 x6 x7 x8 x9 x10 x11 x12 x13 x14 x15 x16 x17 x18 x19
@[reducible] def L20 {α1 α2 α3 α4 α5 α6 α7 α8 α9 α10 α11 α12 α13 α14 α15 α16 α17 α18 α19 α20 : Type} {δ : Type} (x1 : α1) (x2 : α2) (x3 : α3) (x4 : α4) (x5 : α5) (x6 : α6) (x7 : α7) (x8 : α8) (x9 : α9) (x10 : α10) (x11 : α11) (x12 : α12) (x13 : α13) (x14 : α14) (x15 : α15) (x16 : α16) (x17 : α17) (x18 : α18) (x19 : α19) (x20 : α20) (u : α1 → α2 → α3 → α4 → α5 → α6 → α7 → α8 → α9 → α10 → α11 → α12 → α13 → α14 → α15 → α16 → α17 → α18 → α19 → α20 → δ) : δ := u x1 x2 x3 x4 x5 x6 x7 x8 x9 x10 x11 x12 x13 x14 x15 x16 x17 x18 x19 x20
@[reducible] def L21 {α1 α2 α3 α4 α5 α6 α7 α8 α9 α10 α11 α12 α13 α14 α15 α16 α17 α18 α19 α20 α21 : Type} {δ : Type} (x1 : α1) (x2 : α2) (x3 : α3) (x4 : α4) (x5 : α5) (x6 : α6) (x7 : α7) (x8 : α8) (x9 : α9) (x10 : α10) (x11 : α11) (x12 : α12) (x13 : α13) (x14 : α14) (x15 : α15) (x16 : α16) (x17 : α17) (x18 : α18) (x19 : α19) (x20 : α20) (x21 : α21) (u : α1 → α2 → α3 → α4 → α5 → α6 → α7 → α8 → α9 → α10 → α11 → α12 → α13 → α14 → α15 → α16 → α17 → α18 → α19 → α20 → α21 → δ) : δ := u x1 x2 x3 x4 x5 x6 x7 x8 x9 x10 x11 x12 x13 x14 x15 x16 x17 x18 x19 x20 x21
@[reducible] def L22 {α1 α2 α3 α4 α5 α6 α7 α8 α9 α10 α11 α12 α13 α14 α15 α16 α17 α18 α19 α20 α21 α22 : Type} {δ : Type} (x1 : α1) (x2 : α2) (x3 : α3) (x4 : α4) (x5 : α5) (x6 : α6) (x7 : α7) (x8 : α8) (x9 : α9) (x10 : α10) (x11 : α11) (x12 : α12) (x13 : α13) (x14 : α14) (x15 : α15) (x16 : α16) (x17 : α17) (x18 : α18) (x19 : α19) (x20 : α20) (x21 : α21) (x22 : α22) (u : α1 → α2 → α3 → α4 → α5 → α6 → α7 → α8 → α9 → α10 → α11 → α12 → α13 → α14 → α15 → α16 → α17 → α18 → α19 → α20 → α21 → α22 → δ) : δ := u x1 x2 x3 x4 x5 x6 x7 x8 x9 x10 x11 x12 x13 x14 x15 x16 x17 x18 x19 x20 x21 x22
@[reducible] def L23 {α1 α2 α3 α4 α5 α6 α7 α8 α9 α10 α11 α12 α13 α14 α15 α16 α17 α18 α19 α20 α21 α22 α23 : Type} {δ : Type} (x1 : α1) (x2 : α2) (x3 : α3) (x4 : α4) (x5 : α5) (x6 : α6) (x7 : α7) (x8 : α8) (x9 : α9) (x10 : α10) (x11 : α11) (x12 : α12) (x13 : α13) (x14 : α14) (x15 : α15) (x16 : α16) (x17 : α17) (x18 : α18) (x19 : α19) (x20 : α20) (x21 : α21) (x22 : α22) (x23 : α23) (u : α1 → α2 → α3 → α4 → α5 → α6 → α7 → α8 → α9 → α10 → α11 → α12 → α13 → α14 → α15 → α16 → α17 → α18 → α19 → α20 → α21 → α22 → α23 → δ) : δ := u x1 x2 x3 x4 x5 x6 x7 x8 x9 x10 x11 x12 x13 x14 x15 x16 x17 x18 x19 x20 x21 x22 x23
@[reducible] def L24 {α1 α2 α3 α4 α5 α6 α7 α8 α9 α10 α11 α12 α13 α14 α15 α16 α17 α18 α19 α20 α21 α22 α23 α24 : Type} {δ : Type} (x1 : α1) (x2 : α2) (x3 : α3) (x4 : α4) (x5 : α5) (x6 : α6) (x7 : α7) (x8 : α8) (x9 : α9) (x10 : α10) (x11 : α11) (x12 : α12) (x13 : α13) (x14 : α14) (x15 : α15) (x16 : α16) (x17 : α17) (x18 : α18) (x19 : α19) (x20 : α20) (x21 : α21) (x22 : α22) (x23 : α23) (x24 : α24) (u : α1 → α2 → α3 → α4 → α5 → α6 → α7 → α8 → α9 → α10 → α11 → α12 → α13 → α14 → α15 → α16 → α17 → α18 → α19 → α20 → α21 → α22 → α23 → α24 → δ) : δ := u x1 x2 x3 x4 x5 x6 x7 x8 x9 x10 x11 x12 x13 x14 x15 x16 x17 x18 x19 x20 x21 x22 x23 x24
theorem ps_ifC {X : Cx} {c : Expr} {a b : List Stmt} {pos : Pos} {tc : TT} {v1 v2 : TS} {K : PySem.W.Frag} {u1 u2 : PySem.W.Frag → TS} (hc : PT X c tc) (ha : PSs X a v1) (hb : PSs X b v2) (e1 : v1 = u1 K) (e2 : v2 = u2 K) : PS X (.If c a b pos) (tIfS tc (Cl u1 K) (Cl u2 K)) := by
 subst e1; subst e2; exact ps_if hc ha hb
theorem ps_forC {X : Cx} {tg iter : Expr} {body : List Stmt} {wi : TI} {g : TG} {v : TS} {pos : Pos} {K : PySem.W.Frag} {u : PySem.W.Frag → TS} (hp : PassesOwn (model X.prog X.w) X.A X.env X.xe) (hc : X.calm = true) (hi : PI X tg iter wi) (hg : PG X tg g) (hb : PSs X body v) (e : v = u K)
   (hs : ∀ x, foldedSetIterable iter X.env x = pure x := by intro _; rfl) : PS X (.For tg iter body [] pos) (tFor wi g (Cl u K)) := by
 subst e; exact ps_for hp hc hi hg hb hs
theorem nat_diff {a b c d : Nat} (h1 : a = c) (h2 : b = d) : ((a : Int) - (b : Int)).toNat = c - d := by rw [h1, h2]; exact Int.toNat_sub c d
theorem nat_pred {a b : Nat} (h : a = b) : ((a : Int) - 1).toNat = b - 1 := nat_diff (b := 1) h rfl
theorem nat_sum1' {a b c d : Nat} (h1 : a = c) (h2 : b = d) (_h : 1 ≤ d) : ((a : Int) + (b : Int) - 1).toNat = c + d - 1 := by
 rw [h1, h2, ← Int.natCast_add]
 exact nat_pred rfl
theorem nat_sum1 {a b : Nat} (h : 1 ≤ b) : ((a : Int) + (b : Int) - 1).toNat = a + b - 1 := nat_sum1' rfl rfl h
theorem nat_sumle {a b m : Nat} (h1 : a ≤ m) (h2 : b ≤ m) : ((a : Int) + (b : Int) - 1).toNat ≤ 2 * m := by
 rw [← Int.natCast_add, nat_pred rfl, Nat.two_mul]
 exact Nat.le_trans (Nat.sub_le _ _) (Nat.add_le_add h1 h2)
theorem nat_back {a b i : Nat} (h : a = b) (hi : i < b) : (a : Int) - 1 - (i : Int) = ((b - 1 - i : Nat) : Int) := by
 rw [h, Int.ofNat_sub (show i ≤ b - 1 from Nat.le_pred_of_lt hi), Int.ofNat_sub (show 1 ≤ b from Nat.lt_of_le_of_lt (Nat.zero_le i) hi)]
 rfl
theorem nat_lt {b i : Nat} (hi : i < b) : b - 1 - i < b := Nat.lt_of_le_of_lt (Nat.sub_le _ _) (Nat.sub_lt (Nat.lt_of_le_of_lt (Nat.zero_le i) hi) Nat.one_pos)
theorem nat_all {a b : Nat} (h : a = b) : ((a : Int) - 1 - -1).toNat = b := by
 rw [h, Int.sub_neg, Int.sub_add_cancel]
 exact Int.toNat_natCast b
theorem nat_204 {a k m t b : Nat} (ha : a ≤ 200) (hk : k < m - 1) (hm : m = 2 ∨ m = 3) (e : a = t) : t + min k b ≤ 204 := by
 rw [← e]
 have h4 : k ≤ 4 := by
   rcases hm with rfl | rfl
   · exact Nat.le_trans (Nat.le_of_lt hk) (by decide)
   · exact Nat.le_trans (Nat.le_of_lt hk) (by decide)
 exact Nat.add_le_add ha (Nat.le_trans (Nat.min_le_left _ _) h4)
theorem nat_300 {a m : Nat} (ha : a ≤ 200) (hm : m = 2 ∨ m = 3) : a + (m - 1) * 1 ≤ 300 := by
 rcases hm with rfl | rfl
 · exact Nat.le_trans (Nat.add_le_add_right ha _) (by decide)
 · exact Nat.le_trans (Nat.add_le_add_right ha _) (by decide)
theorem nat_two {a m : Nat} (h : a = m) (hm : m = 2 ∨ m = 3) : ((a : Int) - 1).toNat ≤ 2 := by
 rw [nat_pred h]
 rcases hm with rfl | rfl <;> decide
theorem nat_ij {i j a b n : Nat} (hi : i < a) (hj : j < b) (h : n = a + b - 1) : i + j < n := by
 rw [h]
 refine Nat.lt_sub_of_add_lt ?_
 rw [Nat.add_right_comm]
 exact Nat.add_lt_add_of_le_of_lt hi hj
end L2
namespace HT
open PySem PyProof.Rows
open PySem.SeqAt
open PySem.AutoSeq1 (wpAny_loadPart')
open PySem.MeetsSeq PySem.MeetsSeq2 PySem.MeetsSeq3
section
variable {prog : Program} {w : World} {A : Around} {E : Value → Shared → Prop} {s : Shared}
theorem places_rev (n : Nat) : Builtin.Slice.slicePlaces ((n : Int) - 1) (-1) (-1) = n := by
 unfold Builtin.Slice.slicePlaces
 rw [if_neg (by decide)]
 split
 · rw [show -(-1 : Int) = 1 from rfl, Int.ediv_one]; lia
 · show (0 : Int).toNat = n
   lia
theorem pick_rev (xs : Array Value) : ((List.range xs.size).filterMap fun (m : Nat) => xs[(((xs.size : Int) - 1) + (m : Int) * (-1)).toNat]?).toArray = xs.toList.reverse.toArray := by
 rw [← PySem.W.krv_pick]
 show _ = ((sliceRange ((xs.size : Int) - 1) (-1) (-1)).filterMap (xs[·]?)).toArray
 unfold sliceRange
 rw [List.filterMap_map]
 have hc : (if (-1 : Int) > 0 then (if (xs.size : Int) - 1 < -1 then (-1 - ((xs.size : Int) - 1) + -1 - 1) / -1 else 0) else (if (xs.size : Int) - 1 > -1 then ((xs.size : Int) - 1 - -1 - -1 - 1) / (-(-1)) else 0)).toNat = xs.size := by
   rw [if_neg (by decide)]
   split
   · rw [show -(-1 : Int) = 1 from rfl, Int.ediv_one]; lia
   · show (0 : Int).toNat = _
     lia
 show _ = ((List.range (if (-1 : Int) > 0 then (if (xs.size : Int) - 1 < -1 then (-1 - ((xs.size : Int) - 1) + -1 - 1) / -1 else 0) else (if (xs.size : Int) - 1 > -1 then ((xs.size : Int) - 1 - -1 - -1 - 1) / (-(-1)) else 0)).toNat).filterMap _).toArray
 rw [hc]
 congr 2
 funext m
 show _ = xs[((xs.size : Int) - 1 + -1 * (m : Int)).toNat]?
 rw [Int.mul_comm]
theorem sliceApplied_rev {sl : Addr} {u : Tok} {n : Nat} {Q : Int × Int × Nat → Shared → Prop} (hs : s.heap.IsSliceOf sl .none .none (.int (-1) u)) (h : Q ((n : Int) - 1, -1, n) s) : wpAny (model prog w) A (Builtin.Slice.sliceApplied (.ref sl) (pure (n : Int))) Q E s := by
 obtain ⟨os, hos, hcs, hds⟩ := id hs
 unfold Builtin.Slice.sliceApplied Builtin.Slice.sliceFields
 refine wpAny_bind (wpAny_bind (wpAny_field hos hds (x := .none) rfl (wpAny_bind (wpAny_field hos hds (x := .none) rfl (wpAny_bind (wpAny_field hos hds (x := .int (-1) u) rfl (wpAny_pure ?_)))))))
 refine wpAny_bind (slicePart_int ?_)
 show wpAny _ _ (if ((-1 : Int) == 0) = true then _ else _) _ _ s
 rw [if_neg (by decide)]
 refine wpAny_bind (slicePart_none (wpAny_bind (slicePart_none (wpAny_bind (wpAny_pure ?_)))))
 show wpAny _ _ (pure ((n : Int) - 1, (-1 : Int), Builtin.Slice.slicePlaces ((n : Int) - 1) (-1) (-1))) _ _ s
 rw [places_rev]
 exact wpAny_pure h
theorem getItem_tuple_rev {t sl : Addr} {items : Array Value} {u : Tok} {Q : Value → Shared → Prop} (ht : IsTup s.heap t items) (hs : s.heap.IsSliceOf sl .none .none (.int (-1) u))
   (h : Q (.ref s.heap.objs.size) { s with heap := s.heap.push { cls := .type "tuple", data := .seq items.toList.reverse.toArray } })
   (hsz : items.size ≤ sizeLine) : wpAny (model prog w) A (getItem (.ref t) (.ref sl)) Q E s := by
 have htake : sizeOk (.seq items.toList.reverse.toArray) := by
   show items.toList.reverse.toArray.size ≤ sizeLine
   rw [List.size_toArray, List.length_reverse, Array.length_toList]
   exact hsz
 obtain ⟨os, hos, hcs, hds⟩ := id hs
 have hTs : s.TypeIs (.ref sl) "slice" := ⟨os, hos, hcs⟩
 unfold getItem
 try with_reducible refine wpAny_holding ?_
 first | refine wpAny_bind (wpAny_pure ?_) | skip
 refine wpAny_bind (wpAny_sequenceKey ht.typeIs (by decide) ?_)
 refine wpAny_bind (wpAny_callSpecial?_slot (name := Str.ofString "__getitem__") ht.typeIs PyProof.Rows.slot_tuple_getitem
   (wpAny_call_entry PyProof.Rows.slot_tuple_getitem ht.typeIs entry_tuple_getitem ?_ (args_tuple_getitem _ _)))
 show wpAny _ _ (Builtin.Tuple.tupleItemsOf (.ref t) >>= _) _ _ s
 refine wpAny_bind (tupleItemsOf_ ht ?_)
 refine wpAny_bind (wpAny_typeOf hTs ?_)
 rw [if_pos (by decide)]
 refine wpAny_bind (sliceApplied_rev hs ?_)
 have hno : ¬ ((((items.size : Int) - 1) == 0 && (-1 : Int) == 1 && items.size == items.size) = true) := by
   intro q
   rw [Bool.and_eq_true, Bool.and_eq_true] at q
   exact absurd q.1.2 (by decide)
 show wpAny _ _ (if (((items.size : Int) - 1) == 0 && (-1 : Int) == 1 && items.size == items.size) = true then _ else _) _ _ s
 rw [if_neg hno, pick_rev]
 first
   | exact wpAny_bind (m := Builtin.Tuple.tupleExact _) (wpAny_newObj_type (wpAny_pure ⟨_, rfl, wpAny_pure h⟩) htake)
   | exact wpAny_bind (m := Builtin.Tuple.tupleExact _) (wpAny_newObj_type (wpAny_bind (wpAny_pure (wpAny_pure ⟨_, rfl, wpAny_pure h⟩))) htake)
   | exact wpAny_bind (wpAny_bind (m := Builtin.Tuple.tupleExact _) (wpAny_newObj_type (wpAny_pure (wpAny_pure ⟨_, rfl, wpAny_pure h⟩)) htake))
   | exact wpAny_bind (wpAny_bind (m := Builtin.Tuple.tupleExact _) (wpAny_newObj_type (wpAny_pure ⟨_, rfl, wpAny_pure h⟩) htake))
end
end HT
namespace L2
open PySem PySem.Spec PyProof.Rows
section
variable {X : Cx} {e : Expr} {te : TE}
def tRevT (K : PySem.W.Frag) (te : TE) : TE := fun σ H Q => te σ H fun x H1 => ∃ a xs, x = .ref a ∧ SqT K H1 a xs ∧ ∀ p, H1 p = none → Q (.ref p) (upd H1 p (.tup xs.reverse))
theorem pe_revT (K : PySem.W.Frag) {j : Nat} {p2 p3 p4 pos : Pos} (he : PE X e te) (e0 : X.K = K := by rfl) : PE X (.Subscript e (.Slice none none (some (.UnaryOp .USub (.Constant (.int 1) j p3) p4)) p2) pos) (tRevT K te) := by
 subst e0
 intro pins s σ H Q I h
 refine Subscript_ (thn (he pins s σ H _ I h) fun v s1 ⟨x, H1, I1, r1, q1⟩ => ?_)
 obtain ⟨a, xs, rfl, hx, q⟩ := q1
 cases r1
 refine wpAny_Slice (thn (po_none pins s1 σ H1 (fun l H2 => l = none ∧ H2 = H1) I1 ⟨rfl, rfl⟩) fun vl s2 ⟨l, H2, I2, pl, el⟩ => thn (po_none pins s2 σ H2 (fun l H3 => l = none ∧ H3 = H2) I2 ⟨rfl, rfl⟩) fun vu s3 ⟨u, H3, I3, pu, eu⟩ => ?_)
 obtain ⟨rfl, rfl⟩ := el
 obtain ⟨rfl, rfl⟩ := eu
 refine thn (po_some (pe_un un_neg pe_int) pins s3 σ H3 (fun st H4 => st = some (-1) ∧ H4 = H3) I3 ⟨_, rfl, _, rfl, rfl, rfl⟩) fun vk s4 ⟨st, H4, I4, pk, ek⟩ => ?_
 obtain ⟨rfl, rfl⟩ := ek
 have I5 : Inv X pins σ H4 { s4 with heap := s4.heap.push { cls := .type "slice", data := .fields #[vl, vu, vk] } } := I4.kept (t' := s4.toks) fun b ob q => Heap.get?_push_of_some _ q
 obtain ⟨its, r, ht, hz⟩ := I5.tuple hx
 have hlen := r.length
 cases pl
 cases pu
 cases pk
 refine tail_any (ops := [.ref a, .ref s4.heap.objs.size]) ht.typeIs PyProof.Rows.slot_tuple_getitem.lookup ?_ (by with_unfolding_all rfl)
 refine HT.getItem_tuple_rev ht (Heap.IsSliceOf.new ..) ?_ (by rw [List.size_toArray] <;> lia)
 refine ⟨.ref _, _, I5.laid (t' := s4.toks) (o := .tup xs.reverse) (fun b ob q => Heap.get?_push_of_some _ q) (Nat.le_refl _) ?_, rfl, q _ (I5.hok.fresh (Nat.le_refl _))⟩
 exact ⟨by rw [List.length_reverse]; exact hz, _, vals_rev r, IsTup.new _ _⟩
end
end L2
namespace Pf
open PySem L2
def top (i : Nat) : Stmt := PySem.Challenge.pw_onecurve_k30_whole_changes_one_behind_an.main.body.getD i (.Pass ⟨0, 0, 0, 0⟩)
theorem exE1 {a1 : Type} {p : a1 → Prop} {G : Prop} (h : ∃ x1, p x1) (f : ∀ x1, p x1 → G) : G := Exists.elim h f
theorem exE2 {a1 a2 : Type} {p : a1 → a2 → Prop} {G : Prop} (h : ∃ x1 x2, p x1 x2) (f : ∀ x1 x2, p x1 x2 → G) : G := Exists.elim h fun x1 h => exE1 h (f x1)
theorem exE3 {a1 a2 a3 : Type} {p : a1 → a2 → a3 → Prop} {G : Prop} (h : ∃ x1 x2 x3, p x1 x2 x3) (f : ∀ x1 x2 x3, p x1 x2 x3 → G) : G := Exists.elim h fun x1 h => exE2 h (f x1)
theorem exE4 {a1 a2 a3 a4 : Type} {p : a1 → a2 → a3 → a4 → Prop} {G : Prop} (h : ∃ x1 x2 x3 x4, p x1 x2 x3 x4) (f : ∀ x1 x2 x3 x4, p x1 x2 x3 x4 → G) : G := Exists.elim h fun x1 h => exE3 h (f x1)
theorem anE2 {A1 A2 G : Prop} (h : A1 ∧ A2) (f : A1 → A2 → G) : G := f h.1 h.2
theorem anE3 {A1 A2 A3 G : Prop} (h : A1 ∧ A2 ∧ A3) (f : A1 → A2 → A3 → G) : G := anE2 h.2 (f h.1)
theorem anE4 {A1 A2 A3 A4 G : Prop} (h : A1 ∧ A2 ∧ A3 ∧ A4) (f : A1 → A2 → A3 → A4 → G) : G := anE3 h.2 (f h.1)
theorem anE5 {A1 A2 A3 A4 A5 G : Prop} (h : A1 ∧ A2 ∧ A3 ∧ A4 ∧ A5) (f : A1 → A2 → A3 → A4 → A5 → G) : G := anE4 h.2 (f h.1)
theorem anE6 {A1 A2 A3 A4 A5 A6 G : Prop} (h : A1 ∧ A2 ∧ A3 ∧ A4 ∧ A5 ∧ A6) (f : A1 → A2 → A3 → A4 → A5 → A6 → G) : G := anE5 h.2 (f h.1)
theorem anE7 {A1 A2 A3 A4 A5 A6 A7 G : Prop} (h : A1 ∧ A2 ∧ A3 ∧ A4 ∧ A5 ∧ A6 ∧ A7) (f : A1 → A2 → A3 → A4 → A5 → A6 → A7 → G) : G := anE6 h.2 (f h.1)
def topOf (B : Int) (q : Rat) : Int := q.num * B.fdiv q.den
theorem topOf_rat {B : Int} {q : Rat} (h : (q.den : Int) ∣ B) : ((topOf B q : Int) : Rat) = q * (B : Rat) := by
 obtain ⟨k, rfl⟩ := h
 have e : (((q.den : Int) * k).fdiv (q.den : Int)) = k := Int.mul_fdiv_cancel_left _ (Nm.den_ne q)
 unfold topOf
 rw [e, Rat.intCast_mul, Rat.intCast_mul, Nm.num_mul q]
 grind
inductive spBot (K : PySem.W.Frag) (vs : List V) (H : Hp) (Q : VK) (E_3 : XK) : Prop
 | mk (b : Bool) (r : Addr) (xs : List V) (qs : List Rat) (n : Nat) (h1 : vs = [.ref r]) (h2 : Sq b K H r xs) (h3 : Nums K H xs qs) (h4 : (∀ q ∈ qs, Bd n (q.den : Int))) (h5 : n * (qs.length + 2) ≤ 60000000) (h6 : ∀ B : Int, 0 < B → (∀ q ∈ qs, (q.den : Int) ∣ B) → Bd (n * qs.length + 1) B → Q (.int B) H) : spBot K vs H Q E_3
inductive spTops (K : PySem.W.Frag) (vs : List V) (H : Hp) (Q : VK) (E_3 : XK) : Prop
 | mk (b : Bool) (r : Addr) (xs : List V) (qs : List Rat) (B : Int) (m n : Nat) (h1 : vs = [.ref r, .int B]) (h2 : Sq b K H r xs) (h3 : Nums K H xs qs) (h4 : Bd m B) (h5 : (∀ q ∈ qs, Bd n q.num)) (h6 : m + n ≤ 134217728) (h7 : qs.length ≤ 1000) (h8 : ∀ p, H p = none → Q (.ref p) (upd H p (.lst ((qs.map (topOf B)).map V.int)))) : spTops K vs H Q E_3
inductive spCurveOf (K : PySem.W.Frag) (vs : List V) (H : Hp) (Q : VK) (E_3 : XK) : Prop
 | mk (r : Addr) (xs : List V) (qs : List Rat) (h1 : vs = [.ref r]) (h2 : SqL K H r xs) (h3 : Nums K H xs qs) (h4 : qs.length ≤ 1000) (h5 : ∀ p H', Same H H' → Crv K H' p (Cv.strip qs) → Q (.ref p) H') : spCurveOf K vs H Q E_3
theorem lcm_step {b d : Int} (hb : 0 < b) (hd : 0 < d) : 0 < b * d.fdiv (Int.gcd b d : Int) ∧ b ∣ b * d.fdiv (Int.gcd b d : Int) ∧ d ∣ b * d.fdiv (Int.gcd b d : Int) := by
 have g0 : (0 : Int) < (Int.gcd b d : Int) := by have := Nm.gcd_pos (a := b) (b := d) (by lia); lia
 obtain ⟨k, hk⟩ : (Int.gcd b d : Int) ∣ d := Int.gcd_dvd_right ..
 obtain ⟨j, hj⟩ : (Int.gcd b d : Int) ∣ b := Int.gcd_dvd_left ..
 generalize (Int.gcd b d : Int) = g at *
 subst hk
 subst hj
 have e : (g * k).fdiv g = k := Int.mul_fdiv_cancel_left _ (by lia)
 rw [e]
 have hk0 : 0 < k := by
   rcases Int.lt_trichotomy k 0 with z | z | z
   · have : g * k < 0 := Int.mul_neg_of_pos_of_neg g0 z
     lia
   · rw [z, Int.mul_zero] at hd; lia
   · exact z
 exact ⟨Int.mul_pos hb hk0, ⟨k, rfl⟩, ⟨j, by grind⟩⟩
inductive spProd (K : PySem.W.Frag) (vs : List V) (H : Hp) (Q : VK) (E_3 : XK) : Prop
 | mk (f g : Addr) (fs gs : List Int) (m n : Nat) (h1 : vs = [.ref f, .ref g]) (h2 : SqL K H f (fs.map V.int)) (h3 : SqL K H g (gs.map V.int)) (h4 : 1 ≤ gs.length) (h5 : fs.length ≤ 1000) (h6 : gs.length ≤ 1000) (h7 : (∀ t ∈ fs, Bd m t)) (h8 : (∀ t ∈ gs, Bd n t)) (h9 : m + n ≤ 60000000) (h10 : ∀ (p : Addr) (H' : Hp) (ps : List Int), Same H H' → H p = none → H' p = some (.lst (ps.map V.int)) → ps.length = fs.length + gs.length - 1 → (∀ x, Cv.evI ps x = Cv.evI fs x * Cv.evI gs x) → (∀ t ∈ ps, Bd (m + n + 20) t) → Q (.ref p) H') : spProd K vs H Q E_3
inductive spCurveOver (K : PySem.W.Frag) (vs : List V) (H : Hp) (Q : VK) (E_3 : XK) : Prop
 | mk (l : Addr) (ts : List Int) (b : Int) (h1 : vs = [.ref l, .int b]) (h2 : SqL K H l (ts.map V.int)) (h3 : b ≠ 0) (h4 : ts.length ≤ 1000) (h5 : ∀ p H', Same H H' → Crv K H' p (Cv.strip (ts.map fun t => Rat.divInt t b)) → Q (.ref p) H') : spCurveOver K vs H Q E_3
def slopeL (qs : List Rat) : List Rat := (List.range (qs.length - 1)).map fun j => qs.getD (j + 1) 0 * ((j + 1 : Nat) : Rat)
def newton : List Rat → List Rat → Rat → Rat
 | k :: ks, s :: ss, x => s + (x - k) * newton ks ss x
 | _, _, _ => 0
inductive spBySteps (K : PySem.W.Frag) (vs : List V) (H : Hp) (Q : VK) (E_3 : XK) : Prop
 | mk (rk rst : Addr) (xs ys : List V) (ks ss : List Rat) (n : Nat) (h1 : vs = [.ref rk, .ref rst]) (h2 : SqL K H rk xs) (h3 : Nums K H xs ks) (h4 : SqL K H rst ys) (h5 : Nums K H ys ss) (h6 : ks.length = ss.length) (h7 : ks.length ≤ 12) (h8 : (∀ q ∈ ks, RB n q)) (h9 : (∀ q ∈ ss, RB n q)) (h10 : n ≤ 2048000) (h11 : ∀ p H' cs, Same H H' → Crv K H' p cs → cs.length ≤ ks.length → Good cs → (∀ q ∈ cs, RB (2 * (n * ks.length) + 21 * ks.length + 2 * n + 30) q) → (∀ x, Cv.ev cs x = newton ks ss x) → Q (.ref p) H') : spBySteps K vs H Q E_3
theorem evI_line (c x : Rat) : Cv.evI [-c.num, (c.den : Int)] x = (x - c) * ((c.den : Int) : Rat) := by
 show ((-c.num : Int) : Rat) + x * (((c.den : Int) : Rat) + x * 0) = _
 rw [Rat.intCast_neg, Nm.num_mul c]
 grind
theorem over_eq (p q : Rat) (hq : q ≠ 0) : Rat.divInt (p.num * q.den) (p.den * q.num) = p / q := by
 have hn : q.num ≠ 0 := fun z => hq (Rat.num_eq_zero.mp z)
 apply Nm.div_eq (Int.mul_ne_zero (Nm.den_ne p) hn)
 rw [Rat.intCast_mul, Rat.intCast_mul, Nm.num_mul p, Nm.num_mul q]
 have e : p / q * q = p := Rat.div_mul_cancel hq
 have h : p / q * (((p.den : Int) : Rat) * (q * ((q.den : Int) : Rat))) = (p / q * q) * (((p.den : Int) : Rat) * ((q.den : Int) : Rat)) := by grind
 rw [h, e]
 grind
inductive spOver (K : PySem.W.Frag) (vs : List V) (H : Hp) (Q : VK) (E_3 : XK) : Prop
 | mk (x y : V) (p q : Rat) (m n : Nat) (h1 : vs = [x, y]) (h2 : NumV K H x p) (h3 : NumV K H y q) (h4 : q ≠ 0) (h5 : RB m p) (h6 : RB n q) (h7 : m + n ≤ 100000000) (h8 : ∀ r, H r = none → Q (.ref r) (upd H r (nT (p / q)))) : spOver K vs H Q E_3
theorem RB.over {m n : Nat} {p q : Rat} (h1 : RB m p) (h2 : RB n q) (hq : q ≠ 0) : RB (m + n) (p / q) := by
 have hn : q.num ≠ 0 := fun z => hq (Rat.num_eq_zero.mp z)
 rw [← over_eq p q hq]
 exact ⟨Bd.num (h1.1.mul h2.2), Bd.den (Int.mul_ne_zero (Nm.den_ne p) hn) (h1.2.mul h2.1)⟩
def tellP (ps : List Rat) : List Told := (List.range (ps.length - 1)).map fun k : Nat => (⟨ps.getD 0 0, (k : Int), ps.getD (k + 1) 0⟩ : Told)
def tell (pss : List (List Rat)) : List Told := (pss.map tellP).flatten
theorem tellP_length (ps : List Rat) : (tellP ps).length = ps.length - 1 := by unfold tellP; rw [List.length_map, List.length_range]
theorem tell_snoc (pss : List (List Rat)) (ps : List Rat) : tell (pss ++ [ps]) = tell pss ++ tellP ps := by
 unfold tell
 rw [List.map_append, List.flatten_append]
 simp
theorem tell_length_le : ∀ pss : List (List Rat), (∀ ps ∈ pss, ps.length ≤ 3) → (tell pss).length ≤ 2 * pss.length
 | [], _ => Nat.le_refl _
 | p :: r, h => by
   have ih := tell_length_le r fun ps hp => h ps (List.mem_cons_of_mem _ hp)
   have hp := h p List.mem_cons_self
   have e : tell (p :: r) = tellP p ++ tell r := rfl
   rw [e, List.length_append, tellP_length, List.length_cons]
   lia
def P23 (pss : List (List Rat)) : Prop := ∀ ps ∈ pss, ps.length = 2 ∨ ps.length = 3
theorem P23.take {pss : List (List Rat)} (h : P23 pss) (i : Nat) : ∀ ps ∈ pss.take i, ps.length ≤ 3 := fun ps hp => by
 have := h ps (List.mem_of_mem_take hp); lia
theorem getD_some {l : List Rat} {i : Nat} (h : i < l.length) : l[i]? = some (l.getD i 0) := by rw [List.getD_eq_getElem?_getD, List.getElem?_eq_getElem h]; rfl
def cnt (x : Rat) : List Rat → Nat
 | [] => 0
 | y :: r => (if x ≤ y then 1 else 0) + cnt x r
theorem cnt_le (x : Rat) : ∀ l, cnt x l ≤ l.length
 | [] => Nat.le_refl _
 | y :: r => by
   have := cnt_le x r
   show (if x ≤ y then 1 else 0) + cnt x r ≤ r.length + 1
   split <;> lia
theorem rat_up (x : Rat) : x ≤ x + 1 := by grind
theorem rat_no (x : Rat) : ¬ x + 1 ≤ x := by grind
theorem cnt_next (x : Rat) : ∀ l, cnt (x + 1) l ≤ cnt x l
 | [] => Nat.le_refl _
 | y :: r => by
   have := cnt_next x r
   show (if x + 1 ≤ y then 1 else 0) + cnt (x + 1) r ≤ (if x ≤ y then 1 else 0) + cnt x r
   by_cases h : x + 1 ≤ y
   · rw [if_pos h, if_pos (Rat.le_trans (rat_up x) h)]; lia
   · rw [if_neg h]; lia
theorem cnt_lt {x : Rat} : ∀ {l}, x ∈ l → cnt (x + 1) l < cnt x l
 | y :: r, h => by
   show (if x + 1 ≤ y then 1 else 0) + cnt (x + 1) r < (if x ≤ y then 1 else 0) + cnt x r
   rcases List.mem_cons.mp h with z | z
   · subst z
     have := cnt_next x r
     rw [if_neg (rat_no x), if_pos Rat.le_refl]; lia
   · have := cnt_lt z
     by_cases h : x + 1 ≤ y
     · rw [if_pos h, if_pos (Rat.le_trans (rat_up x) h)]; lia
     · rw [if_neg h]; lia
theorem rb_nat {j : Nat} (h : j ≤ 100) : RB 7 ((j : Nat) : Rat) := ⟨by rw [Rat.num_natCast]; unfold Bd; lia, by rw [Rat.den_natCast]; unfold Bd; decide⟩
inductive spPlacesT (K : PySem.W.Frag) (n : Nat) (vs : List V) (H : Hp) (Q : VK) (E_3 : XK) : Prop
 | mk (a : Addr) (m : Int) (h1 : vs = [.ref a, .int m]) (h2 : Pen H a) (h3 : 0 ≤ m) (h4 : m ≤ 100) (h5 : ∀ (l : Addr) (H' : Hp) (zs : List V) (qs : List Rat), Mv a H H' → Pen H' a → H l = none → H' l = some (.lst zs) → NumsT H' zs qs → (qs.length : Int) = m → qs.Nodup → (∀ q ∈ qs, RB (n + 8) q) → Q (.ref l) H') : spPlacesT K n vs H Q E_3
inductive spPointsT (K : PySem.W.Frag) (n : Nat) (vs : List V) (H : Hp) (Q : VK) (E_3 : XK) : Prop
 | mk (a : Addr) (most : Int) (h1 : vs = [.ref a, .int most]) (h2 : Pen H a) (h3 : 1 ≤ most) (h4 : most ≤ 100) (h5 : ∀ (r : Addr) (H' : Hp) (xs : List V) (pss : List (List Rat)), Mv a H H' → Pen H' a → SqT K H' r xs → PtsT K H' xs pss → P23 pss → (∀ ps ∈ pss, ∀ q ∈ ps, RB (n + 8) q) → 1 ≤ pss.length → (pss.length : Int) ≤ most → ((tell pss).length : Int) ≤ most → (pss.map fun ps => ps.getD 0 0).Nodup → Q (.ref r) H') : spPointsT K n vs H Q E_3
inductive spToldT (K : PySem.W.Frag) (vs : List V) (H : Hp) (Q : VK) (E_3 : XK) : Prop
 | mk (r : Addr) (xs : List V) (pss : List (List Rat)) (h1 : vs = [.ref r]) (h2 : SqT K H r xs) (h3 : PtsT K H xs pss) (h4 : P23 pss) (h5 : pss.length ≤ 100) (h6 : ∀ (p : Addr) (H' : Hp) (ys : List V), Same H H' → H p = none → H' p = some (.lst ys) → TlsT K H' ys (tell pss) → Q (.ref p) H') : spToldT K vs H Q E_3
inductive spKnotsT (K : PySem.W.Frag) (vs : List V) (H : Hp) (Q : VK) (E_3 : XK) : Prop
 | mk (r : Addr) (xs : List V) (pss : List (List Rat)) (h1 : vs = [.ref r]) (h2 : SqT K H r xs) (h3 : PtsT K H xs pss) (h4 : P23 pss) (h5 : pss.length ≤ 100) (h6 : ∀ (p : Addr) (H' : Hp) (ys : List V), Same H H' → H p = none → H' p = some (.lst ys) → NumsT H' ys ((tell pss).map Told.x) → Q (.ref p) H') : spKnotsT K vs H Q E_3
theorem nd_take {pss : List (List Rat)} {f : List Rat → Rat} {i : Nat} {ps : List Rat} (hnd : (pss.map f).Nodup) (h : pss[i]? = some ps) : ∀ ps' ∈ pss.take i, f ps' ≠ f ps := fun ps' hp e => by
 have h1 : ((pss.take (i + 1)).map f).Nodup := ((List.take_sublist _ _).map f).nodup hnd
 rw [List.take_add_one, h, List.map_append, List.nodup_append] at h1
 exact h1.2.2 _ (List.mem_map_of_mem hp) _ (by simp) e
def SlD (K : PySem.W.Frag) (H : Hp) (kvs : List (List Key × V)) (pss : List (List Rat)) : Prop := ∀ ps ∈ pss, ps.length = 3 → ∃ v, valV kvs (kQ (ps.getD 0 0)) = some v ∧ NumV K H v (ps.getD 2 0)
theorem SlD.same {K : PySem.W.Frag} {H H' : Hp} {kvs : List (List Key × V)} {pss : List (List Rat)} (h : SlD K H kvs pss) (e : Same H H') : SlD K H' kvs pss := fun ps hp h3 => let ⟨v, h1, h2⟩ := h ps hp h3; ⟨v, h1, h2.same e⟩
inductive spSlopes (K : PySem.W.Frag) (vs : List V) (H : Hp) (Q : VK) (E_3 : XK) : Prop
 | mk (r : Addr) (xs : List V) (pss : List (List Rat)) (h1 : vs = [.ref r]) (h2 : SqT K H r xs) (h3 : PtsT K H xs pss) (h4 : P23 pss) (h5 : pss.length ≤ 100) (h6 : (pss.map fun ps => ps.getD 0 0).Nodup) (h7 : ∀ (d : Addr) (H' : Hp) (kvs : List (List Key × V)), Same H H' → H d = none → H' d = some (.dT kvs) → SlD K H' kvs pss → Q (.ref d) H') : spSlopes K vs H Q E_3
def row0 (pss : List (List Rat)) : List Rat := (pss.map fun ps => List.replicate (ps.length - 1) (ps.getD 1 0)).flatten
theorem row0_snoc (pss : List (List Rat)) (ps : List Rat) : row0 (pss ++ [ps]) = row0 pss ++ List.replicate (ps.length - 1) (ps.getD 1 0) := by
 unfold row0
 rw [List.map_append, List.flatten_append]
 simp
theorem row0_length : ∀ pss, (row0 pss).length = (tell pss).length
 | [] => rfl
 | p :: r => by
   have e : tell (p :: r) = tellP p ++ tell r := rfl
   have e2 : row0 (p :: r) = List.replicate (p.length - 1) (p.getD 1 0) ++ row0 r := rfl
   rw [e, e2, List.length_append, List.length_append, List.length_replicate, tellP_length, row0_length r]
inductive spRow0 (K : PySem.W.Frag) (vs : List V) (H : Hp) (Q : VK) (E_3 : XK) : Prop
 | mk (r : Addr) (xs : List V) (pss : List (List Rat)) (h1 : vs = [.ref r]) (h2 : SqT K H r xs) (h3 : PtsT K H xs pss) (h4 : P23 pss) (h5 : pss.length ≤ 100) (h6 : ∀ (p : Addr) (H' : Hp) (ys : List V), Same H H' → H p = none → H' p = some (.lst ys) → Nums K H' ys (row0 pss) → Q (.ref p) H') : spRow0 K vs H Q E_3
def kn (pss : List (List Rat)) : List Rat := (tell pss).map Told.x
theorem kn_length (pss : List (List Rat)) : (kn pss).length = (tell pss).length := List.length_map _
def slOf (pss : List (List Rat)) (x : Rat) : Rat :=
 match pss.find? (fun ps => decide (ps.length = 3) && decide (ps.getD 0 0 = x)) with
 | some ps => ps.getD 2 0
 | none => 0
def nextR (A kn : List Rat) (sl : Rat → Rat) (k : Nat) : List Rat :=
 (List.range (kn.length - k)).map fun j => if kn.getD (j + k) 0 = kn.getD j 0 then sl (kn.getD j 0) else (A.getD (j + 1) 0 - A.getD j 0) / (kn.getD (j + k) 0 - kn.getD j 0)
theorem nextR_length (A kn : List Rat) (sl : Rat → Rat) (k : Nat) : (nextR A kn sl k).length = kn.length - k := by unfold nextR; rw [List.length_map, List.length_range]
theorem nextR_getD {A kn : List Rat} {sl : Rat → Rat} {k j : Nat} (h : j < kn.length - k) : (nextR A kn sl k).getD j 0 = if kn.getD (j + k) 0 = kn.getD j 0 then sl (kn.getD j 0) else (A.getD (j + 1) 0 - A.getD j 0) / (kn.getD (j + k) 0 - kn.getD j 0) := by
 unfold nextR
 rw [List.getD_eq_getElem?_getD, List.getElem?_map, List.getElem?_range h]; rfl
theorem getD_mem {l : List Rat} {i : Nat} (h : i < l.length) : l.getD i 0 ∈ l := List.mem_of_getElem? (getD_some h)
theorem nextR_rb {A kn : List Rat} {sl : Rat → Rat} {k m n : Nat} (hA : ∀ q ∈ A, RB m q) (hk : ∀ q ∈ kn, RB n q) (hs : ∀ x, RB (2 * m + 2 * n + 2) (sl x)) (h1 : 1 ≤ k) (hl : A.length + k = kn.length + 1) : ∀ q ∈ nextR A kn sl k, RB (2 * m + 2 * n + 2) q := fun q hq => by
 unfold nextR at hq
 obtain ⟨j, hj, rfl⟩ := List.mem_map.mp hq
 have hj := List.mem_range.mp hj
 split
 · exact hs _
 · next hne =>
   have a1 := hA _ (getD_mem (l := A) (i := j + 1) (by lia))
   have a0 := hA _ (getD_mem (l := A) (i := j) (by lia))
   have k1 := hk _ (getD_mem (l := kn) (i := j + k) (by lia))
   have k0 := hk _ (getD_mem (l := kn) (i := j) (by lia))
   exact (RB.over (a1.minus a0) (k1.minus k0) (fun z => hne (by grind))).mono (by lia)
def tab (pss : List (List Rat)) : Nat → List Rat
 | 0 => row0 pss
 | k + 1 => nextR (tab pss k) (kn pss) (slOf pss) (k + 1)
theorem tab_length (pss : List (List Rat)) : ∀ k, k ≤ (tell pss).length → (tab pss k).length = (tell pss).length - k
 | 0, _ => row0_length pss
 | k + 1, _ => by rw [tab, nextR_length, kn_length]
def bnd (h n : Nat) : Nat → Nat
 | 0 => h
 | k + 1 => 2 * bnd h n k + 2 * n + 2
theorem bnd_eq (h n : Nat) : ∀ k, bnd h n k + (2 * n + 2) = 2 ^ k * (h + 2 * n + 2)
 | 0 => by show h + (2 * n + 2) = 1 * _; lia
 | k + 1 => by
   have := bnd_eq h n k
   rw [Nat.pow_succ, Nat.mul_comm (2 ^ k) 2, Nat.mul_assoc, ← this]
   show 2 * bnd h n k + 2 * n + 2 + _ = _
   lia
theorem bnd_up {h n k m c : Nat} (hn : h + 2 * n + 2 ≤ c) (hk : k ≤ m) : bnd h n k ≤ 2 ^ m * c := by
 have h1 := bnd_eq h n k
 have h2 : 2 ^ k ≤ 2 ^ m := Nat.pow_le_pow_right (by decide) hk
 have h3 : 2 ^ k * (h + 2 * n + 2) ≤ 2 ^ m * c := Nat.mul_le_mul h2 hn
 lia
theorem bnd_ge (h n : Nat) : ∀ k, h ≤ bnd h n k
 | 0 => Nat.le_refl _
 | k + 1 => by have := bnd_ge h n k; show h ≤ 2 * bnd h n k + 2 * n + 2; lia
theorem bnd_next (h n k : Nat) : bnd h n k ≤ bnd h n (k + 1) := by show _ ≤ 2 * bnd h n k + 2 * n + 2; lia
theorem bnd_mono (h n : Nat) {j k : Nat} (hjk : j ≤ k) : bnd h n j ≤ bnd h n k := by
 induction hjk with
 | refl => exact Nat.le_refl _
 | step _ ih => exact Nat.le_trans ih (bnd_next h n _)
theorem tellP_x {ps : List Rat} : ∀ t ∈ tellP ps, t.x = ps.getD 0 0 := fun t ht => by
 unfold tellP at ht
 obtain ⟨k, _, rfl⟩ := List.mem_map.mp ht
 rfl
theorem kn_cons (p : List Rat) (r : List (List Rat)) : kn (p :: r) = List.replicate (p.length - 1) (p.getD 0 0) ++ kn r := by
 have e : tell (p :: r) = tellP p ++ tell r := rfl
 unfold kn
 rw [e, List.map_append]
 congr 1
 refine List.eq_replicate_iff.mpr ⟨by rw [List.length_map, tellP_length], fun x hx => ?_⟩
 obtain ⟨t, ht, rfl⟩ := List.mem_map.mp hx
 exact tellP_x t ht
theorem kn_mem : ∀ {pss : List (List Rat)} {x : Rat}, x ∈ kn pss → ∃ ps ∈ pss, ps.getD 0 0 = x
 | p :: r, x, h => by
   rw [kn_cons] at h
   rcases List.mem_append.mp h with z | z
   · exact ⟨p, List.mem_cons_self, (List.mem_replicate.mp z).2.symm⟩
   · obtain ⟨ps, h1, h2⟩ := kn_mem z
     exact ⟨ps, List.mem_cons_of_mem _ h1, h2⟩
theorem kn_rb {pss : List (List Rat)} {n : Nat} (hbk : ∀ ps ∈ pss, RB n (ps.getD 0 0)) : ∀ x ∈ kn pss, RB n x := fun x hx => by
 obtain ⟨ps, h1, rfl⟩ := kn_mem hx
 exact hbk ps h1
theorem row0_rb {pss : List (List Rat)} {n : Nat} (h23 : P23 pss) (hb : ∀ ps ∈ pss, ∀ q ∈ ps, RB n q) : ∀ x ∈ row0 pss, RB n x := fun x hx => by
 unfold row0 at hx
 obtain ⟨l, hl, hx⟩ := List.mem_flatten.mp hx
 obtain ⟨ps, h1, rfl⟩ := List.mem_map.mp hl
 rw [(List.mem_replicate.mp hx).2]
 exact hb ps h1 _ (getD_mem (by have := h23 ps h1; lia))
theorem slOf_rb {pss : List (List Rat)} {n : Nat} (h1 : 1 ≤ n) (hb : ∀ ps ∈ pss, ∀ q ∈ ps, RB n q) (x : Rat) : RB n (slOf pss x) := by
 unfold slOf
 split
 · next ps h =>
   have h2 := List.mem_of_find?_eq_some h
   have h3 := List.find?_some h
   rw [Bool.and_eq_true, decide_eq_true_eq, decide_eq_true_eq] at h3
   exact hb ps h2 _ (getD_mem (by lia))
 · exact RB.zero h1
theorem slOf_at : ∀ {pss : List (List Rat)} {ps : List Rat}, (pss.map fun ps => ps.getD 0 0).Nodup → ps ∈ pss → ps.length = 3 → slOf pss (ps.getD 0 0) = ps.getD 2 0
 | p :: r, ps, hnd, hm, h3 => by
   rw [List.map_cons, List.nodup_cons] at hnd
   unfold slOf
   rw [List.find?_cons]
   rcases List.mem_cons.mp hm with z | z
   · subst z
     rw [decide_eq_true h3, decide_eq_true rfl]; rfl
   · have hne : ¬ p.getD 0 0 = ps.getD 0 0 := fun e => hnd.1 (e ▸ List.mem_map_of_mem (f := fun ps : List Rat => ps.getD 0 0) z)
     rw [decide_eq_false hne, Bool.and_false]
     exact slOf_at hnd.2 z h3
theorem tab_rb {pss : List (List Rat)} {h n : Nat} (h23 : P23 pss) (hn : 1 ≤ h) (hb : ∀ ps ∈ pss, ∀ q ∈ ps, RB h q) (hbk : ∀ ps ∈ pss, RB n (ps.getD 0 0)) : ∀ k, k ≤ (tell pss).length → ∀ q ∈ tab pss k, RB (bnd h n k) q
 | 0, _ => row0_rb h23 hb
 | k + 1, hk => by
   rw [tab]
   exact nextR_rb (tab_rb h23 hn hb hbk k (by lia)) (kn_rb hbk) (fun x => (slOf_rb hn hb x).mono (Nat.le_trans (bnd_ge h n k) (by lia))) (by lia) (by rw [tab_length _ _ (by lia), kn_length]; lia)
theorem knots_eq : ∀ {pss : List (List Rat)}, P23 pss → (pss.map fun ps => ps.getD 0 0).Nodup → ∀ {j k : Nat}, 1 ≤ k → j + k < (tell pss).length → (kn pss).getD (j + k) 0 = (kn pss).getD j 0 →
   k = 1 ∧ ∃ ps ∈ pss, ps.length = 3 ∧ ps.getD 0 0 = (kn pss).getD j 0 ∧ ((tell pss).map Told.n).getD (j + 1) 0 = ps.getD 2 0 ∧ (row0 pss).getD (j + 1) 0 = (row0 pss).getD j 0
 | p :: r, h23, hnd, j, k, h1, hjk, he => by
   rw [List.map_cons, List.nodup_cons] at hnd
   have hout : ∀ i, i < (kn r).length → (kn r).getD i 0 ≠ p.getD 0 0 := fun i hi e => by
     obtain ⟨ps, h1, h2⟩ := kn_mem (getD_mem hi)
     exact hnd.1 (e ▸ h2 ▸ List.mem_map_of_mem (f := fun ps : List Rat => ps.getD 0 0) h1)
   have et : tell (p :: r) = tellP p ++ tell r := rfl
   have er : row0 (p :: r) = List.replicate (p.length - 1) (p.getD 1 0) ++ row0 r := rfl
   have ih := @knots_eq r (fun ps h => h23 ps (List.mem_cons_of_mem _ h)) hnd.2
   have hkl := kn_length r
   rw [kn_cons] at he ⊢
   rw [et, List.length_append, tellP_length] at hjk
   rcases h23 p List.mem_cons_self with hp | hp
   · have e1 : List.replicate (p.length - 1) (p.getD 0 0) = [p.getD 0 0] := by rw [hp]; rfl
     have e2 : tellP p = [⟨p.getD 0 0, 0, p.getD 1 0⟩] := by unfold tellP; rw [hp]; rfl
     have e3 : List.replicate (p.length - 1) (p.getD 1 0) = [p.getD 1 0] := by rw [hp]; rfl
     rw [e1] at he ⊢
     rw [et, er, e2, e3]
     match j with
     | 0 =>
       obtain ⟨k', rfl⟩ : ∃ k', k = k' + 1 := ⟨k - 1, by lia⟩
       rw [Nat.zero_add] at he
       exact absurd he (hout k' (by lia))
     | j' + 1 =>
       rw [show j' + 1 + k = (j' + k) + 1 by lia] at he
       obtain ⟨z1, ps, z2, z3, z4, z5, z6⟩ := ih (j := j') (k := k) h1 (by lia) he
       exact ⟨z1, ps, List.mem_cons_of_mem _ z2, z3, z4, z5, z6⟩
   · have e1 : List.replicate (p.length - 1) (p.getD 0 0) = [p.getD 0 0, p.getD 0 0] := by rw [hp]; rfl
     have e2 : tellP p = [⟨p.getD 0 0, 0, p.getD 1 0⟩, ⟨p.getD 0 0, 1, p.getD 2 0⟩] := by unfold tellP; rw [hp]; rfl
     have e3 : List.replicate (p.length - 1) (p.getD 1 0) = [p.getD 1 0, p.getD 1 0] := by rw [hp]; rfl
     rw [e1] at he ⊢
     rw [et, er, e2, e3]
     match j with
     | 0 =>
       match k, h1 with
       | 1, _ => exact ⟨rfl, p, List.mem_cons_self, hp, rfl, rfl, rfl⟩
       | k' + 2, _ =>
         rw [Nat.zero_add] at he
         exact absurd he (hout k' (by lia))
     | 1 =>
       obtain ⟨k', rfl⟩ : ∃ k', k = k' + 1 := ⟨k - 1, by lia⟩
       rw [show 1 + (k' + 1) = k' + 2 by lia] at he
       exact absurd he (hout k' (by lia))
     | j' + 2 =>
       rw [show j' + 2 + k = (j' + k) + 2 by lia] at he
       obtain ⟨z1, ps, z2, z3, z4, z5, z6⟩ := ih (j := j') (k := k) h1 (by lia) he
       exact ⟨z1, ps, List.mem_cons_of_mem _ z2, z3, z4, z5, z6⟩
inductive spNextRow (K : PySem.W.Frag) (vs : List V) (H : Hp) (Q : VK) (E_3 : XK) : Prop
 | mk (ra rk d : Addr) (as ks : List V) (A kn : List Rat) (kvs : List (List Key × V)) (sl : Rat → Rat) (k m n : Nat) (h1 : vs = [.ref ra, .ref rk, .ref d, .int (k : Int)]) (h2 : SqL K H ra as) (h3 : Nums K H as A) (h4 : SqL K H rk ks) (h5 : NumsT H ks kn) (h6 : H d = some (.dT kvs)) (h7 : (∀ j, j + k < kn.length → kn.getD (j + k) 0 = kn.getD j 0 → ∃ v, valV kvs (kQ (kn.getD j 0)) = some v ∧ NumV K H v (sl (kn.getD j 0)))) (h8 : 1 ≤ k) (h9 : k ≤ kn.length) (h10 : A.length + k = kn.length + 1) (h11 : kn.length ≤ 100) (h12 : (∀ q ∈ A, RB m q)) (h13 : (∀ q ∈ kn, RB n q)) (h14 : m ≤ 2000000) (h15 : n ≤ 1000) (h16 : ∀ (p : Addr) (H' : Hp) (zs : List V), Same H H' → H p = none → H' p = some (.lst zs) → Nums K H' zs (nextR A kn sl k) → Q (.ref p) H') : spNextRow K vs H Q E_3
def FR (K : PySem.W.Frag) (H : Hp) (p : Addr) (H' : Hp) (x : V) (rs : List Rat) : Prop := ∃ a zs, x = .ref a ∧ a ≠ p ∧ H a = none ∧ H' a = some (.lst zs) ∧ Nums K H' zs rs
theorem FR.same {K : PySem.W.Frag} {H H1 H2 : Hp} {p : Addr} {x : V} {rs : List Rat} (h : FR K H p H1 x rs) (e : Same H1 H2) : FR K H p H2 x rs := let ⟨a, zs, h1, h2, h3, h4, h5⟩ := h; ⟨a, zs, h1, h2, h3, e _ _ h4, Nums.same h5 e⟩
theorem FR.put {K : PySem.W.Frag} {H H1 : Hp} {p : Addr} {x : V} {rs : List Rat} {ys : List V} {o : HO} (h : FR K H p H1 x rs) (e : H1 p = some (.lst ys)) : FR K H p (upd H1 p o) x rs := let ⟨a, zs, h1, h2, h3, h4, h5⟩ := h; ⟨a, zs, h1, h2, h3, by rw [upd_ne h2]; exact h4, Nums.put h5 e⟩
theorem last_range {α : Type} (f : Nat → α) (i : Nat) : ((List.range (i + 1)).map f)[i]? = some (f i) := by
 rw [List.getElem?_map, List.getElem?_range (by lia)]; rfl
inductive spTable (K : PySem.W.Frag) (vs : List V) (H : Hp) (Q : VK) (E_3 : XK) : Prop
 | mk (r : Addr) (xs : List V) (pss : List (List Rat)) (hh n : Nat) (h1 : vs = [.ref r]) (h2 : SqT K H r xs) (h3 : PtsT K H xs pss) (h4 : P23 pss) (h5 : pss.length ≤ 100) (h6 : (pss.map fun ps => ps.getD 0 0).Nodup) (h7 : (tell pss).length ≤ 12) (h8 : (∀ ps ∈ pss, ∀ q ∈ ps, RB hh q)) (h9 : (∀ ps ∈ pss, RB n (ps.getD 0 0))) (h10 : 1 ≤ hh) (h11 : hh + 2 * n + 2 ≤ 1000) (h12 : ∀ (p : Addr) (H' : Hp) (ys : List V), Same H H' → H p = none → H' p = some (.lst ys) → Paired (FR K H p H') ys ((List.range (tell pss).length).map (tab pss)) → Q (.ref p) H') : spTable K vs H Q E_3
def stepsOf (pss : List (List Rat)) : List Rat := (List.range (tell pss).length).map fun k => (tab pss k).getD 0 0
theorem stepsOf_length (pss : List (List Rat)) : (stepsOf pss).length = (tell pss).length := by unfold stepsOf; rw [List.length_map, List.length_range]
inductive spSteps (K : PySem.W.Frag) (vs : List V) (H : Hp) (Q : VK) (E_3 : XK) : Prop
 | mk (r : Addr) (xs : List V) (pss : List (List Rat)) (hh n : Nat) (h1 : vs = [.ref r]) (h2 : SqT K H r xs) (h3 : PtsT K H xs pss) (h4 : P23 pss) (h5 : pss.length ≤ 100) (h6 : (pss.map fun ps => ps.getD 0 0).Nodup) (h7 : (tell pss).length ≤ 12) (h8 : (∀ ps ∈ pss, ∀ q ∈ ps, RB hh q)) (h9 : (∀ ps ∈ pss, RB n (ps.getD 0 0))) (h10 : 1 ≤ hh) (h11 : hh + 2 * n + 2 ≤ 1000) (h12 : ∀ (p : Addr) (H' : Hp) (zs : List V), Same H H' → H p = none → H' p = some (.lst zs) → Nums K H' zs (stepsOf pss) → Q (.ref p) H') : spSteps K vs H Q E_3
theorem tell_ge : ∀ {pss : List (List Rat)}, P23 pss → pss.length ≤ (tell pss).length
 | [], _ => Nat.le_refl _
 | p :: r, h => by
   have ih := tell_ge (pss := r) fun ps hp => h ps (List.mem_cons_of_mem _ hp)
   have hp := h p List.mem_cons_self
   have e : tell (p :: r) = tellP p ++ tell r := rfl
   rw [e, List.length_append, tellP_length, List.length_cons]
   lia
theorem newton_snoc (X k s : Rat) : ∀ (ks ss : List Rat), ks.length = ss.length → newton (ks ++ [k]) (ss ++ [s]) X = newton ks ss X + s * L2.prV X ks
 | [], [], _ => by show s + (X - k) * 0 = 0 + s * 1; grind
 | a :: ks, b :: ss, h => by
   have ih := newton_snoc X k s ks ss (by simpa using h)
   show b + (X - a) * newton (ks ++ [k]) (ss ++ [s]) X = (b + (X - a) * newton ks ss X) + s * ((X - a) * L2.prV X ks)
   rw [ih]; grind
theorem newton_nwT (T : Nat → Nat → Rat) (x : Nat → Rat) (X : Rat) : ∀ n, newton ((List.range n).map x) ((List.range n).map fun k => T k 0) X = Cv.ev (L2.nwT T x 0 n) X
 | 0 => rfl
 | n + 1 => by
   rw [List.range_succ, List.map_append, List.map_append, L2.nwT_ev, ← newton_nwT T x X n]
   show newton (_ ++ [x n]) (_ ++ [T n 0]) X = _
   rw [newton_snoc _ _ _ _ _ (by rw [List.length_map, List.length_map])]
   unfold L2.prF
   have e : (List.range n).map x = (List.range n).map fun i => x (0 + i) := List.map_congr_left fun i _ => by rw [Nat.zero_add]
   rw [e]
theorem list_range (l : List Rat) : l = (List.range l.length).map fun i => l.getD i 0 := by
 refine List.ext_getElem? fun i => ?_
 rw [List.getElem?_map]
 by_cases h : i < l.length
 · rw [List.getElem?_range h]; exact getD_some h
 · rw [List.getElem?_eq_none (by lia), List.getElem?_eq_none (by rw [List.length_range]; lia)]; rfl
def tT (pss : List (List Rat)) (k j : Nat) : Rat := (tab pss k).getD j 0
def xT (pss : List (List Rat)) (j : Nat) : Rat := (kn pss).getD j 0
theorem thru_ev (pss : List (List Rat)) (X : Rat) : newton (kn pss) (stepsOf pss) X = Cv.ev (L2.nwT (tT pss) (xT pss) 0 (tell pss).length) X := by
 rw [← newton_nwT]
 have e := list_range (kn pss)
 rw [kn_length] at e
 show newton (kn pss) _ X = newton ((List.range (tell pss).length).map fun i => (kn pss).getD i 0) _ X
 rw [← e]; rfl
theorem tab_ok {pss : List (List Rat)} (h23 : P23 pss) (hnd : (pss.map fun ps => ps.getD 0 0).Nodup) : L2.TabOk (tT pss) (xT pss) (tell pss).length := fun k j hj => by
 unfold tT xT
 rw [tab, nextR_getD (by rw [kn_length]; lia), show j + (k + 1) = j + k + 1 by lia]
 by_cases he : (kn pss).getD (j + k + 1) 0 = (kn pss).getD j 0
 · rw [if_pos he, he]
   obtain ⟨hk, ps, _, _, _, _, hr⟩ := knots_eq h23 hnd (j := j) (k := k + 1) (by lia) (by lia) he
   have hk0 : k = 0 := by lia
   subst hk0
   show _ = (row0 pss).getD (j + 1) 0 - (row0 pss).getD j 0
   rw [hr]; grind
 · rw [if_neg he]
   have hd : (kn pss).getD (j + k + 1) 0 - (kn pss).getD j 0 ≠ 0 := fun z => he (by grind)
   exact Rat.div_mul_cancel hd
theorem pt_idx : ∀ {pss : List (List Rat)} {ps : List Rat}, P23 pss → ps ∈ pss → ∃ i, i < (tell pss).length ∧ (kn pss).getD i 0 = ps.getD 0 0 ∧ (row0 pss).getD i 0 = ps.getD 1 0 ∧ (ps.length = 3 → i + 1 < (tell pss).length ∧ (kn pss).getD (i + 1) 0 = ps.getD 0 0)
 | p :: r, ps, h23, hm => by
   have et : tell (p :: r) = tellP p ++ tell r := rfl
   have er : row0 (p :: r) = List.replicate (p.length - 1) (p.getD 1 0) ++ row0 r := rfl
   have hp := h23 p List.mem_cons_self
   rw [et, er, kn_cons, List.length_append, tellP_length]
   rcases List.mem_cons.mp hm with z | z
   · subst z
     rcases hp with hp | hp
     · rw [hp]; exact ⟨0, by lia, rfl, rfl, fun z => by lia⟩
     · rw [hp]; exact ⟨0, by lia, rfl, rfl, fun _ => ⟨by lia, rfl⟩⟩
   · obtain ⟨i, h1, h2, h3, h4⟩ := pt_idx (pss := r) (fun q hq => h23 q (List.mem_cons_of_mem _ hq)) z
     rcases hp with hp | hp
     · rw [hp]; exact ⟨i + 1, by lia, h2, h3, fun z => ⟨by have := (h4 z).1; lia, (h4 z).2⟩⟩
     · rw [hp]; exact ⟨i + 2, by lia, h2, h3, fun z => ⟨by have := (h4 z).1; lia, (h4 z).2⟩⟩
def OnC (cs ps : List Rat) : Prop := Cv.ev cs (ps.getD 0 0) = ps.getD 1 0 ∧ (ps.length = 3 → Cv.ev (L2.dL cs) (ps.getD 0 0) = ps.getD 2 0)
theorem OnC.like {cs ds ps : List Rat} (h : OnC cs ps) (e : ∀ X, Cv.ev ds X = Cv.ev cs X) : OnC ds ps := ⟨by rw [e]; exact h.1, fun z => by rw [L2.slope_one e]; exact h.2 z⟩
theorem thru_on {pss : List (List Rat)} (h23 : P23 pss) (hnd : (pss.map fun ps => ps.getD 0 0).Nodup) {cs : List Rat} (h : ∀ X, Cv.ev cs X = newton (kn pss) (stepsOf pss) X) : ∀ ps ∈ pss, OnC cs ps := fun ps hm => by
 have hT := tab_ok h23 hnd
 refine OnC.like (cs := L2.nwT (tT pss) (xT pss) 0 (tell pss).length) ?_ (fun X => by rw [h, thru_ev])
 obtain ⟨i, h1, h2, h3, h4⟩ := pt_idx h23 hm
 refine ⟨?_, fun hl => ?_⟩
 · have e := L2.nwT_at hT (tell pss).length 0 i (by lia) h1
   rw [Nat.zero_add] at e
   rw [← h2, ← h3]; exact e
 · obtain ⟨h5, h6⟩ := h4 hl
   have e := L2.nwT_slope hT (tell pss).length 0 i (by lia) h5 (by rw [Nat.zero_add]; unfold xT; rw [h6, h2])
   rw [Nat.zero_add] at e
   rw [← h2]
   refine Eq.trans e ?_
   show (nextR (row0 pss) (kn pss) (slOf pss) 1).getD i 0 = _
   rw [nextR_getD (by rw [kn_length]; lia), if_pos (by rw [h6, h2]), h2]
   exact slOf_at hnd hm hl
theorem div_step {e : List Rat} {x : Rat} (h0 : Cv.ev e x = 0) : (∀ X, Cv.ev e X = (X - x) * Cv.ev (L2.quo x e) X) ∧ (∀ y, y ≠ x → Cv.ev e y = 0 → Cv.ev (L2.quo x e) y = 0 ∧ (Cv.ev (L2.dL e) y = 0 → Cv.ev (L2.dL (L2.quo x e)) y = 0)) ∧ Cv.ev (L2.dL e) x = Cv.ev (L2.quo x e) x := by
 have h1 : ∀ X, Cv.ev e X = (X - x) * Cv.ev (L2.quo x e) X := fun X => by rw [L2.quo_ev x X e, h0]; grind
 have h2 : ∀ X, Cv.ev e X = Cv.ev [-x, 1] X * Cv.ev (L2.quo x e) X := fun X => by
   rw [h1]
   show _ = (-x + X * (1 + X * 0)) * _
   grind
 have h3 : ∀ y, Cv.ev (L2.dL e) y = (y - x) * Cv.ev (L2.dL (L2.quo x e)) y + Cv.ev (L2.quo x e) y := fun y => by
   rw [L2.slope_mul h2 y, L2.slope_line]
   show (-x + y * (1 + y * 0)) * _ + 1 * _ = _
   grind
 refine ⟨h1, fun y hy hz => ?_, by rw [h3]; grind⟩
 have hd : y - x ≠ 0 := fun z => hy (by grind)
 rw [h1] at hz
 have q0 : Cv.ev (L2.quo x e) y = 0 := (Rat.mul_eq_zero.mp hz).resolve_left hd
 refine ⟨q0, fun hs => ?_⟩
 rw [h3, q0] at hs
 have hs : (y - x) * Cv.ev (L2.dL (L2.quo x e)) y = 0 := by grind
 exact (Rat.mul_eq_zero.mp hs).resolve_left hd
theorem nought_one : ∀ {pss : List (List Rat)}, P23 pss → (pss.map fun ps => ps.getD 0 0).Nodup → ∀ {e : List Rat}, e.length ≤ (tell pss).length → (∀ ps ∈ pss, Cv.ev e (ps.getD 0 0) = 0 ∧ (ps.length = 3 → Cv.ev (L2.dL e) (ps.getD 0 0) = 0)) → ∀ X, Cv.ev e X = 0
 | [], _, _, e, hl, _, X => by
   have : e = [] := List.eq_nil_of_length_eq_zero (Nat.le_zero.mp hl)
   rw [this]; rfl
 | p :: r, h23, hnd, e, hl, hz, X => by
   rw [List.map_cons, List.nodup_cons] at hnd
   have ih := @nought_one r (fun q hq => h23 q (List.mem_cons_of_mem _ hq)) hnd.2
   have et : tell (p :: r) = tellP p ++ tell r := rfl
   rw [et, List.length_append, tellP_length] at hl
   obtain ⟨z0, z1⟩ := hz p List.mem_cons_self
   obtain ⟨d1, d2, d3⟩ := div_step z0
   have hne : ∀ ps ∈ r, ps.getD 0 0 ≠ p.getD 0 0 := fun ps hm e => hnd.1 (e ▸ List.mem_map_of_mem (f := fun ps : List Rat => ps.getD 0 0) hm)
   have hq : ∀ ps ∈ r, Cv.ev (L2.quo (p.getD 0 0) e) (ps.getD 0 0) = 0 ∧ (ps.length = 3 → Cv.ev (L2.dL (L2.quo (p.getD 0 0) e)) (ps.getD 0 0) = 0) := fun ps hm => by
     obtain ⟨a1, a2⟩ := hz ps (List.mem_cons_of_mem _ hm)
     obtain ⟨b1, b2⟩ := d2 _ (hne ps hm) a1
     exact ⟨b1, fun h3 => b2 (a2 h3)⟩
   have hql := L2.quo_length (p.getD 0 0) e
   rcases h23 p List.mem_cons_self with hp | hp
   · rw [d1, ih (e := L2.quo (p.getD 0 0) e) (by lia) hq]; grind
   · have y0 : Cv.ev (L2.quo (p.getD 0 0) e) (p.getD 0 0) = 0 := by rw [← d3]; exact z1 hp
     obtain ⟨f1, f2, f3⟩ := div_step y0
     have hq2 : ∀ ps ∈ r, Cv.ev (L2.quo (p.getD 0 0) (L2.quo (p.getD 0 0) e)) (ps.getD 0 0) = 0 ∧ (ps.length = 3 → Cv.ev (L2.dL (L2.quo (p.getD 0 0) (L2.quo (p.getD 0 0) e))) (ps.getD 0 0) = 0) := fun ps hm => by
       obtain ⟨a1, a2⟩ := hq ps hm
       obtain ⟨b1, b2⟩ := f2 _ (hne ps hm) a1
       exact ⟨b1, fun h3 => b2 (a2 h3)⟩
     have hql2 := L2.quo_length (p.getD 0 0) (L2.quo (p.getD 0 0) e)
     rw [d1, f1, ih (e := L2.quo (p.getD 0 0) (L2.quo (p.getD 0 0) e)) (by lia) hq2]; grind
theorem one_curve {pss : List (List Rat)} (h23 : P23 pss) (hnd : (pss.map fun ps => ps.getD 0 0).Nodup) {c d : List Rat} (hc : c.length ≤ (tell pss).length) (hd : d.length ≤ (tell pss).length) (oc : ∀ ps ∈ pss, OnC c ps) (od : ∀ ps ∈ pss, OnC d ps) (X : Rat) : Cv.ev c X = Cv.ev d X := by
 have hev : ∀ X, Cv.ev (L2.addL c (L2.mulL [-1] d)) X = Cv.ev c X - Cv.ev d X := fun X => by
   rw [L2.ev_addL, L2.ev_mulL]
   show _ + (-1 + X * 0) * _ = _
   grind
 have hsl : ∀ X, Cv.ev (L2.dL (L2.addL c (L2.mulL [-1] d))) X = Cv.ev (L2.dL c) X - Cv.ev (L2.dL d) X := fun X => by
   have h1 : ∀ X, Cv.ev (L2.addL c (L2.mulL [-1] d)) X = Cv.ev c X + (-1) * Cv.ev d X := fun X => by rw [hev]; grind
   rw [L2.ev_slope_add h1]; grind
 have ed : (L2.mulL [-1] d).length ≤ max d.length 1 := by
   show (L2.addL (d.map (· * -1)) (0 :: L2.mulL [] d)).length ≤ _
   rw [L2.addL_length, List.length_map]
   exact Nat.le_refl _
 by_cases h0 : (tell pss).length = 0
 · have c0 : c = [] := List.eq_nil_of_length_eq_zero (by lia)
   have d0 : d = [] := List.eq_nil_of_length_eq_zero (by lia)
   rw [c0, d0]
 · have := nought_one h23 hnd (e := L2.addL c (L2.mulL [-1] d)) (by rw [L2.addL_length]; lia) (fun ps hm => ⟨by rw [hev, (oc ps hm).1, (od ps hm).1]; grind, fun h3 => by rw [hsl, (oc ps hm).2 h3, (od ps hm).2 h3]; grind⟩) X
   rw [hev] at this
   grind
inductive spAt2 (K : PySem.W.Frag) (vs : List V) (H : Hp) (Q : VK) (E_3 : XK) : Prop
 | mk (b : Bool) (r rx : Addr) (xs : List V) (qs : List Rat) (x : Rat) (c n : Nat) (h1 : vs = [.ref r, .ref rx]) (h2 : Sq b K H r xs) (h3 : Nums K H xs qs) (h4 : NumV K H (.ref rx) x) (h5 : (∀ q ∈ qs, RB c q)) (h6 : RB n x) (h7 : (c + n * qs.length + 4) * (qs.length + 2) ≤ 90000000) (h8 : ∀ p H', Same H H' → H' p = some (nT (Cv.ev qs x)) → RB ((c + n * qs.length + 4) * (qs.length + 1)) (Cv.ev qs x) → Q (.ref p) H') : spAt2 K vs H Q E_3
abbrev Ms := Rat × Int
def MsV (K : PySem.W.Frag) (H : Hp) (v : V) (t : Ms) : Prop := ∃ a rx, v = .ref a ∧ SqT K H a [rx, .int t.2] ∧ NumV K H rx t.1
abbrev Mss (K : PySem.W.Frag) (H : Hp) : List V → List Ms → Prop := Paired (MsV K H)
theorem msv_same {K : PySem.W.Frag} {H H' : Hp} {x : V} {t : Ms} (h : MsV K H x t) (e : Same H H') : MsV K H' x t := let ⟨a, rx, h1, h2, h3⟩ := h; ⟨a, rx, h1, h2.same e, h3.same e⟩
theorem msv_put {K : PySem.W.Frag} {H : Hp} {x : V} {t : Ms} {p : Addr} {ys : List V} {o : HO} (h : MsV K H x t) (hp : H p = some (.lst ys)) : MsV K (upd H p o) x t := let ⟨a, rx, h1, h2, h3⟩ := h; ⟨a, rx, h1, h2.put hp, h3.put hp⟩
theorem mss_same {K : PySem.W.Frag} {H H' : Hp} {xs : List V} {ts : List Ms} (h : Mss K H xs ts) (e : Same H H') : Mss K H' xs ts := Paired.mapP h fun _ _ z => msv_same z e
theorem mss_put {K : PySem.W.Frag} {H : Hp} {xs : List V} {ts : List Ms} {p : Addr} {ys : List V} {o : HO} (h : Mss K H xs ts) (hp : H p = some (.lst ys)) : Mss K (upd H p o) xs ts := Paired.mapP h fun _ _ z => msv_put z hp
def mD (t : Ms) : PyData := .tuple [nD t.1, .int t.2]
theorem msv_rds {K : PySem.W.Frag} {H : Hp} {v : V} {t : Ms} (h : MsV K H v t) : Rds K H v (mD t) := by
 obtain ⟨a, rx, rfl, h2, h3⟩ := h
 refine .tup h2 rfl fun i x d e1 e2 => ?_
 match i with
 | 0 => simp at e1 e2; subst e1; subst e2; exact h3.rds
 | 1 => simp at e1 e2; subst e1; subst e2; exact .int _
 | i + 2 => simp at e1
theorem mDs_eqv : ∀ ps : List Ms, PyData.eqvAll (ps.map mD) (ps.map mD) = true
 | [] => rfl
 | p :: ps => by
   show ((PyData.eqv (nD p.1) (nD p.1) && ((p.2 == p.2) && true)) && PyData.eqvAll (ps.map mD) (ps.map mD)) = true
   rw [nD_eqv, mDs_eqv ps, decide_eq_true rfl, beq_self_eq_true]; rfl
theorem mDs_lay : ∀ qs : List Ms, PyData.canLayAll0 (qs.map mD) = true
 | [] => rfl
 | q :: r => by
   show (PyData.canLay0 (mD q) && PyData.canLayAll0 (r.map mD)) = true
   rw [mDs_lay r]; rfl
theorem mDs_depth : ∀ qs : List Ms, PyData.depthAll (qs.map mD) ≤ 2
 | [] => Nat.zero_le _
 | q :: r => by
   have ih := mDs_depth r
   show max (PyData.depth (mD q)) (PyData.depthAll (r.map mD)) ≤ 2
   exact Nat.max_le.mpr ⟨Nat.le_refl _, ih⟩
theorem mDs_shL (qs : List Ms) : SeqAt.shaped (.list (qs.map mD)) = true := by
 show (PyData.canLayAll0 (qs.map mD) && decide (PyData.depthAll (qs.map mD) + 1 ≤ 64)) = true
 rw [mDs_lay, Bool.true_and]
 exact decide_eq_true (by have := mDs_depth qs; lia)
theorem eqMs {K : PySem.W.Frag} {H : Hp} {a b : Addr} {xs ys : List V} {ps : List Ms} {Q : VK} {neg : Bool} (s1 : SqL K H a xs) (n1 : Mss K H xs ps) (s2 : SqL K H b ys) (n2 : Mss K H ys ps) (h : Q (.bl (if neg then !true else true)) H) : rEqD K neg (.ref a) (.ref b) H Q := by
 have rd : ∀ {zs : List V}, Mss K H zs ps → ∀ (i : Nat) x d, zs[i]? = some x → (ps.map mD)[i]? = some d → Rds K H x d := fun hz i x d e1 e2 => by
   obtain ⟨q, hq, hn⟩ := Paired.get hz e1
   rw [List.getElem?_map, hq] at e2
   cases e2
   exact msv_rds hn
 refine eqD_of ⟨_, _, .lst s1 (by rw [n1.length, List.length_map]) (rd n1), .lst s2 (by rw [n2.length, List.length_map]) (rd n2), mDs_shL _, mDs_shL _, ?_⟩
 have e : PyData.eqv (.list (ps.map mD)) (.list (ps.map mD)) = true := mDs_eqv ps
 rw [e]; exact h
def hk (cs : List Rat) (t : Told) : Rat := if t.k = 1 then Cv.ev (slopeL cs) t.x else Cv.ev cs t.x
def msd (cs : List Rat) (ts : List Told) : List Ms := (ts.filter fun t => !decide (hk cs t = t.n)).map fun t => (t.x, t.k)
theorem msd_snoc (cs : List Rat) (ts : List Told) (t : Told) : msd cs (ts ++ [t]) = msd cs ts ++ (if hk cs t = t.n then [] else [(t.x, t.k)]) := by
 unfold msd
 rw [List.filter_append, List.map_append]
 congr 1
 by_cases h : hk cs t = t.n
 · rw [if_pos h, List.filter_cons, decide_eq_true h]; rfl
 · rw [if_neg h, List.filter_cons, decide_eq_false h]; rfl
theorem tell_k {pss : List (List Rat)} (h : P23 pss) : ∀ t ∈ tell pss, t.k = 0 ∨ t.k = 1 := fun t ht => by
 unfold tell at ht
 obtain ⟨l, hl, ht⟩ := List.mem_flatten.mp ht
 obtain ⟨ps, hps, rfl⟩ := List.mem_map.mp hl
 unfold tellP at ht
 obtain ⟨k, hk, rfl⟩ := List.mem_map.mp ht
 have := List.mem_range.mp hk
 have := h ps hps
 show (k : Int) = 0 ∨ (k : Int) = 1
 lia
theorem tell_rb {pss : List (List Rat)} {n : Nat} (hn : 1 ≤ n) (h : ∀ ps ∈ pss, ∀ q ∈ ps, RB n q) : ∀ t ∈ tell pss, RB n t.x ∧ RB n t.n := fun t ht => by
 unfold tell at ht
 obtain ⟨l, hl, ht⟩ := List.mem_flatten.mp ht
 obtain ⟨ps, hps, rfl⟩ := List.mem_map.mp hl
 have g : ∀ j, RB n (ps.getD j 0) := fun j => by
   rw [List.getD_eq_getElem?_getD]
   cases e : ps[j]? with
   | none => exact RB.zero hn
   | some t => exact h ps hps t (List.mem_of_getElem? e)
 unfold tellP at ht
 obtain ⟨k, hk, rfl⟩ := List.mem_map.mp ht
 exact ⟨g _, g _⟩
theorem rb_nat11 {k : Nat} (hk : k ≤ 1000) : RB 11 ((k : Nat) : Rat) := ⟨by rw [Rat.num_natCast]; unfold Bd; lia, by rw [Rat.den_natCast]; unfold Bd; decide⟩
theorem slope_rb {cs : List Rat} {n : Nat} (hl : cs.length ≤ 1000) (hn : 1 ≤ n) (h : ∀ q ∈ cs, RB n q) : ∀ q ∈ slopeL cs, RB (n + 11) q := fun q hq => by
 unfold slopeL at hq
 obtain ⟨j, hj, rfl⟩ := List.mem_map.mp hq
 have hj' := List.mem_range.mp hj
 have g : RB n (cs.getD (j + 1) 0) := by
   rw [List.getD_eq_getElem?_getD]
   cases e : cs[j + 1]? with
   | none => exact RB.zero hn
   | some t => exact h t (List.mem_of_getElem? e)
 exact g.times (rb_nat11 (by lia))
theorem slope_length (cs : List Rat) : (slopeL cs).length = cs.length - 1 := by unfold slopeL; rw [List.length_map, List.length_range]
theorem tell_length : ∀ (pss : List (List Rat)), (tell pss).length = (pss.map fun ps => ps.length - 1).sum
 | [] => rfl
 | p :: r => by
   have e : tell (p :: r) = tellP p ++ tell r := rfl
   rw [e, List.length_append, tellP_length, tell_length r]; rfl
theorem msd_on {pss : List (List Rat)} {cs : List Rat} (h23 : P23 pss) (h : ∀ ps ∈ pss, OnC cs ps) : msd cs (tell pss) = [] := by
 unfold msd
 have e : (tell pss).filter (fun t => !decide (hk cs t = t.n)) = [] := by
   rw [List.filter_eq_nil_iff]
   intro t ht
   unfold tell at ht
   obtain ⟨l, hl, ht⟩ := List.mem_flatten.mp ht
   obtain ⟨ps, hps, rfl⟩ := List.mem_map.mp hl
   unfold tellP at ht
   obtain ⟨k, hk', rfl⟩ := List.mem_map.mp ht
   have hk' := List.mem_range.mp hk'
   have hp := h23 ps hps
   obtain ⟨o1, o2⟩ := h ps hps
   have z : hk cs ⟨ps.getD 0 0, (k : Int), ps.getD (k + 1) 0⟩ = ps.getD (k + 1) 0 := by
     unfold hk
     match k, hk' with
     | 0, _ => exact o1
     | 1, hk' => exact (L2.slope_ev _ _).trans (o2 (by lia))
     | k + 2, hk' => lia
   rw [z, decide_eq_true rfl]; decide
 rw [e]; rfl
inductive spUnlike (K : PySem.W.Frag) (vs : List V) (H : Hp) (Q : VK) (E_3 : XK) : Prop
 | mk (l : Addr) (ys : List V) (qs : List Rat) (h1 : vs = [.ref l]) (h2 : SqL K H l ys) (h3 : NumsT H ys qs) (h4 : qs.Nodup) (h5 : qs.length ≤ 17) (h6 : ∀ H', Same H H' → Q (.bl true) H') : spUnlike K vs H Q E_3
inductive spIsPt (K : PySem.W.Frag) (vs : List V) (H : Hp) (Q : VK) (E_3 : XK) : Prop
 | mk (x : V) (ps : List Rat) (h1 : vs = [x]) (h2 : PtV K H x ps) (h3 : (ps.length = 2 ∨ ps.length = 3)) (h4 : ∀ H', Same H H' → Q (.bl true) H') : spIsPt K vs H Q E_3
inductive spPtsOf (K : PySem.W.Frag) (vs : List V) (H : Hp) (Q : VK) (E_3 : XK) : Prop
 | mk (b : Bool) (r : Addr) (xs : List V) (pss : List (List Rat)) (h1 : vs = [.ref r]) (h2 : Sq b K H r xs) (h3 : PtsT K H xs pss) (h4 : P23 pss) (h5 : 1 ≤ pss.length) (h6 : (pss.map fun ps => ps.getD 0 0).Nodup) (h7 : (tell pss).length ≤ 12) (h8 : ∀ (p : Addr) (H' : Hp), Same H H' → SqT K H' p xs → (b = false → p = r) → Q (.ref p) H') : spPtsOf K vs H Q E_3
theorem isn_gcd (q : Rat) : (Int.gcd q.num (q.den : Int) : Int) = 1 := by
 have h : Int.gcd q.num (q.den : Int) = 1 := q.reduced
 rw [h]; rfl
theorem Sq.len {b : Bool} {K : PySem.W.Frag} {H : Hp} {r : Addr} {xs : List V} (h : Sq b K H r xs) : SqL K H r xs ∨ SqT K H r xs := by
 cases b
 · exact .inr h
 · exact .inl h
theorem slice_to {K : PySem.W.Frag} {H : Hp} {r : Addr} {xs : List V} {v : Nat} {Q : VK} (hS : SqT K H r xs) (hv : v ≤ xs.length) (h : ∀ (p : Addr) (H' : Hp), Same H H' → SqT K H' p (xs.take v) → Q (.ref p) H') : rSlTA K (.ref r) none (some (v : Int)) H Q := by
 by_cases e : v = xs.length
 · refine .inr ⟨r, xs, rfl, hS, ⟨rfl, by rw [HT.sIx_nat]; lia⟩, h r H (Same.refl _) ?_⟩
   rw [List.take_of_length_le (by lia)]; exact hS
 · refine .inl ⟨r, xs, rfl, hS, by rw [HT.sIx_nat]; lia, fun p hp => ?_⟩
   rw [cut_to]
   exact h p _ (Same.new hp) (SqT.of upd_same)
theorem slice_from {K : PySem.W.Frag} {H : Hp} {r : Addr} {xs : List V} {v : Nat} {Q : VK} (hS : SqT K H r xs) (hv : v ≤ xs.length) (h : ∀ (p : Addr) (H' : Hp), Same H H' → SqT K H' p (xs.drop v) → Q (.ref p) H') : rSlTA K (.ref r) (some (v : Int)) none H Q := by
 by_cases e : v = 0
 · subst e
   refine .inr ⟨r, xs, rfl, hS, ⟨by rw [HT.sIx_nat]; lia, rfl⟩, h r H (Same.refl _) ?_⟩
   rw [List.drop_zero]; exact hS
 · by_cases e0 : xs.length = 0
   · lia
   · refine .inl ⟨r, xs, rfl, hS, by rw [HT.sIx_nat]; lia, fun p hp => ?_⟩
     rw [cut_from]
     exact h p _ (Same.new hp) (SqT.of upd_same)
theorem cat_pts {K : PySem.W.Frag} {H : Hp} {a b : Addr} {xs ys : List V} {Q : VK} (ha : SqT K H a xs) (hb : SqT K H b ys) (hl : xs.length + ys.length ≤ sizeLine) (h : ∀ (p : Addr) (H' : Hp), Same H H' → SqT K H' p (xs ++ ys) → Q (.ref p) H') : rCatTA K (.ref a) (.ref b) H Q := by
 by_cases ex : xs = []
 · subst ex
   exact .inr ⟨a, b, ys, rfl, rfl, ha, hb, h b H (Same.refl _) hb⟩
 · refine .inl ⟨a, b, xs, ys, rfl, rfl, ha, hb, ex, hl, fun ey => ?_, fun _ p hp => h p _ (Same.new hp) (SqT.of upd_same)⟩
   subst ey
   exact h a H (Same.refl _) (by rw [List.append_nil]; exact ha)
theorem paired_drop {α β : Type} {F : α → β → Prop} : ∀ {l₁ : List α} {l₂ : List β} (i : Nat), Paired F l₁ l₂ → Paired F (l₁.drop i) (l₂.drop i)
 | _, _, i, .nil => by rw [List.drop_nil, List.drop_nil]; exact .nil
 | _, _, 0, .cons h t => .cons h t
 | _, _, i + 1, .cons _ t => paired_drop i t
theorem p23_perm {pss qss : List (List Rat)} (h : qss.Perm pss) (h23 : P23 pss) : P23 qss := fun ps hp => h23 ps (h.mem_iff.mp hp)
theorem nd_perm {pss qss : List (List Rat)} (h : qss.Perm pss) (hnd : (pss.map fun ps => ps.getD 0 0).Nodup) : (qss.map fun ps => ps.getD 0 0).Nodup := (h.map _).nodup_iff.mpr hnd
theorem tell_perm {pss qss : List (List Rat)} (h : qss.Perm pss) : (tell qss).length = (tell pss).length := by
 rw [tell_length, tell_length]
 exact (h.map _).sum_nat
theorem prL_lead : ∀ os : List Rat, (L2.prL os).getD os.length 0 = 1
 | [] => rfl
 | o :: os => by
   have ih := prL_lead os
   have hl := L2.prL_length os
   show (L2.addL ((L2.prL os).map (· * -o)) (0 :: L2.addL ((L2.prL os).map (· * 1)) (0 :: []))).getD (os.length + 1) 0 = 1
   rw [L2.getD_addL, L2.getD_scale]
   show _ + (L2.addL ((L2.prL os).map (· * 1)) (0 :: [])).getD os.length 0 = 1
   rw [L2.getD_addL, L2.getD_scale, ih]
   have e : ([0] : List Rat).getD os.length 0 = 0 := by cases os.length with | zero => rfl | succ k => rfl
   have e2 : (L2.prL os).getD (os.length + 1) 0 = 0 := by rw [List.getD_eq_getElem?_getD, List.getElem?_eq_none (by lia)]; rfl
   rw [e, e2]; grind
theorem nwT_lead (T : Nat → Nat → Rat) (x : Nat → Rat) (n : Nat) : (L2.nwT T x 0 (n + 1)).getD n 0 = T n 0 := by
 show (L2.addL (L2.nwT T x 0 n) ((L2.prL ((List.range n).map fun i => x (0 + i))).map (· * T n 0))).getD n 0 = _
 have hl := L2.nwT_length T x 0 n
 have e : (L2.nwT T x 0 n).getD n 0 = 0 := by rw [List.getD_eq_getElem?_getD, List.getElem?_eq_none (by lia)]; rfl
 have e2 := prL_lead ((List.range n).map fun i => x (0 + i))
 rw [List.length_map, List.length_range] at e2
 rw [L2.getD_addL, L2.getD_scale, e, e2]; grind
theorem tell_app (A B : List (List Rat)) : tell (A ++ B) = tell A ++ tell B := by unfold tell; rw [List.map_append, List.flatten_append]
theorem kn_app (A B : List (List Rat)) : kn (A ++ B) = kn A ++ kn B := by unfold kn; rw [tell_app, List.map_append]
theorem row0_app (A B : List (List Rat)) : row0 (A ++ B) = row0 A ++ row0 B := by unfold row0; rw [List.map_append, List.flatten_append]
theorem getD_app {l m : List Rat} {i : Nat} (h : i < l.length) : (l ++ m).getD i 0 = l.getD i 0 := by
 rw [List.getD_eq_getElem?_getD, List.getD_eq_getElem?_getD, List.getElem?_append_left h]
theorem tab_prefix {A B : List (List Rat)} (h23 : P23 (A ++ B)) (hnd : ((A ++ B).map fun ps => ps.getD 0 0).Nodup) : ∀ k j, j + k < (tell A).length → (tab (A ++ B) k).getD j 0 = (tab A k).getD j 0
 | 0, j, h => by
   show (row0 (A ++ B)).getD j 0 = (row0 A).getD j 0
   rw [row0_app, getD_app (by rw [row0_length]; lia)]
 | k + 1, j, h => by
   have i1 := tab_prefix h23 hnd k (j + 1) (by lia)
   have i0 := tab_prefix h23 hnd k j (by lia)
   have kA := kn_length A
   have kl : (kn (A ++ B)).length = (kn A).length + (kn B).length := by rw [kn_app, List.length_append]
   show (nextR (tab (A ++ B) k) (kn (A ++ B)) (slOf (A ++ B)) (k + 1)).getD j 0 = (nextR (tab A k) (kn A) (slOf A) (k + 1)).getD j 0
   rw [nextR_getD (by lia), nextR_getD (by lia), i1, i0, kn_app, getD_app (l := kn A) (i := j + (k + 1)) (by lia), getD_app (l := kn A) (i := j) (by lia)]
   by_cases he : (kn A).getD (j + (k + 1)) 0 = (kn A).getD j 0
   · rw [if_pos he, if_pos he]
     have h23A : P23 A := fun ps hp => h23 ps (List.mem_append_left _ hp)
     have hndA : (A.map fun ps => ps.getD 0 0).Nodup := by
       rw [List.map_append] at hnd
       exact (List.nodup_append.mp hnd).1
     obtain ⟨_, ps, p1, p2, p3, _⟩ := knots_eq h23A hndA (by lia) (by lia) he
     rw [← p3, slOf_at hnd (List.mem_append_left _ p1) p2, slOf_at hndA p1 p2]
   · rw [if_neg he, if_neg he]
theorem steps_prefix {A B : List (List Rat)} (h23 : P23 (A ++ B)) (hnd : ((A ++ B).map fun ps => ps.getD 0 0).Nodup) : (stepsOf (A ++ B)).take (tell A).length = stepsOf A := by
 unfold stepsOf
 rw [tell_app, List.length_append, ← List.map_take, List.take_range, Nat.min_eq_left (by lia)]
 exact List.map_congr_left fun k hk => tab_prefix h23 hnd k 0 (by have := List.mem_range.mp hk; lia)
theorem lc_filtT {K : PySem.W.Frag} {a : Addr} {js : List Nat} {xs : List V} {tc : TT} {te : TE} {σ : St} {H : Hp} {Fin : List V → Hp → Prop} (Pv : Nat → List V → Hp → Prop) (h0 : Pv 0 [] H)
   (hl : ∀ i zs H, i ≤ xs.length → Pv i zs H → SqT K H a xs ∧ zs.length ≤ i) (hz : xs.length ≤ sizeLine)
   (hs : ∀ i x zs H, xs[i]? = some x → Pv i zs H → tc ((cS 1 js σ).set 0 (some x)) H fun b H3 => if b = true then te ((cS 1 js σ).set 0 (some x)) H3 fun y H4 => Pv (i + 1) (zs ++ [y]) H4 else Pv (i + 1) zs H3) (fin : ∀ zs H', Pv xs.length zs H' → Fin zs H') :
   ∃ (n' : Nat) (W : Nat → List V → Hp → Prop), W 0 [] H ∧ LcW (Itt K a) n' 1 js σ (gName 0) tc te Fin W := by
 refine ⟨xs.length, Pv, h0, ⟨?_, ?_, ?_⟩⟩
 · intro i zs H' hi p
   obtain ⟨h1, h2⟩ := hl i zs H' (Nat.le_of_lt hi) p
   exact ⟨⟨xs, xs[i], h1, by simp [hi]⟩, by lia⟩
 · rintro i zs H' x H1 hi p ⟨rfl, y⟩
   exact hs i x zs _ (y xs (hl i zs _ (Nat.le_of_lt hi) p).1) p
 · intro zs H' p
   obtain ⟨h1, h2⟩ := hl _ zs H' (Nat.le_refl _) p
   exact ⟨⟨xs, h1, Nat.le_refl _⟩, by lia, fin zs H' p⟩
theorem paired_set {α β : Type} {F : α → β → Prop} : ∀ {l₁ : List α} {l₂ : List β} (i : Nat) {x : α} {y : β}, Paired F l₁ l₂ → F x y → Paired F (l₁.set i x) (l₂.set i y)
 | _, _, _, _, _, .nil, _ => .nil
 | _, _, 0, _, _, .cons _ t, h => .cons h t
 | _, _, i + 1, _, _, .cons g t, h => .cons g (paired_set i t h)
theorem tell_set : ∀ (pss : List (List Rat)) (m : Nat) (ps : List Rat), ps.length ≤ 3 → (tell (pss.set m ps)).length ≤ (tell pss).length + 2
 | [], _, _, _ => by simp
 | p :: r, 0, ps, h => by
   have e : tell ((p :: r).set 0 ps) = tellP ps ++ tell r := rfl
   have e2 : tell (p :: r) = tellP p ++ tell r := rfl
   rw [e, e2, List.length_append, List.length_append, tellP_length, tellP_length]; lia
 | p :: r, m + 1, ps, h => by
   have ih := tell_set r m ps h
   have e : tell ((p :: r).set (m + 1) ps) = tellP p ++ tell (r.set m ps) := rfl
   have e2 : tell (p :: r) = tellP p ++ tell r := rfl
   rw [e, e2, List.length_append, List.length_append]; lia
theorem p23_set {pss : List (List Rat)} {m : Nat} {ps : List Rat} (h : P23 pss) (h2 : ps.length = 2 ∨ ps.length = 3) : P23 (pss.set m ps) := fun qs hq => by
 rcases List.mem_or_eq_of_mem_set hq with z | z
 · exact h qs z
 · subst z; exact h2
theorem nd_set {pss : List (List Rat)} {m : Nat} {ps qs : List Rat} (h : pss[m]? = some ps) (he : qs.getD 0 0 = ps.getD 0 0) (hnd : (pss.map fun ps => ps.getD 0 0).Nodup) : ((pss.set m qs).map fun ps => ps.getD 0 0).Nodup := by
 rw [List.map_set, he]
 have e : (pss.map fun ps => ps.getD 0 0)[m]? = some (ps.getD 0 0) := by rw [List.getElem?_map, h]; rfl
 obtain ⟨hm, e⟩ := List.getElem?_eq_some_iff.mp e
 rw [← e, List.set_getElem_self]
 exact hnd
theorem nd_inj {pss : List (List Rat)} {i j : Nat} {ps qs : List Rat} (hnd : (pss.map fun ps => ps.getD 0 0).Nodup) (h1 : pss[i]? = some ps) (h2 : pss[j]? = some qs) (he : ps.getD 0 0 = qs.getD 0 0) : i = j := by
 have g1 : (pss.map fun ps => ps.getD 0 0)[i]? = some (ps.getD 0 0) := by rw [List.getElem?_map, h1]; rfl
 have g2 : (pss.map fun ps => ps.getD 0 0)[j]? = some (ps.getD 0 0) := by rw [List.getElem?_map, h2, he]; rfl
 obtain ⟨b1, g1⟩ := List.getElem?_eq_some_iff.mp g1
 obtain ⟨b2, g2⟩ := List.getElem?_eq_some_iff.mp g2
 rcases Nat.lt_trichotomy i j with z | z | z
 · exact absurd (g1.trans g2.symm) (List.pairwise_iff_getElem.mp hnd i j b1 b2 z)
 · exact z
 · exact absurd (g2.trans g1.symm) (List.pairwise_iff_getElem.mp hnd j i b2 b1 z)
inductive spPutIn (K : PySem.W.Frag) (vs : List V) (H : Hp) (Q : VK) (E_3 : XK) : Prop
 | mk (r : Addr) (x : V) (xs : List V) (pss : List (List Rat)) (ps : List Rat) (h1 : vs = [.ref r, x]) (h2 : SqT K H r xs) (h3 : PtsT K H xs pss) (h4 : PtT K H x ps) (h5 : P23 (pss ++ [ps])) (h6 : ((pss ++ [ps]).map fun ps => ps.getD 0 0).Nodup) (h7 : (tell (pss ++ [ps])).length ≤ 12) (h8 : ∀ (p : Addr) (H' : Hp), Same H H' → SqT K H' p (xs ++ [x]) → Q (.ref p) H') : spPutIn K vs H Q E_3
inductive spPtAt (K : PySem.W.Frag) (vs : List V) (H : Hp) (Q : VK) (E_3 : XK) : Prop
 | mk (r : Addr) (x v : V) (xs : List V) (pss : List (List Rat)) (m : Nat) (ps : List Rat) (h1 : vs = [.ref r, x]) (h2 : SqT K H r xs) (h3 : PtsT K H xs pss) (h4 : (pss.map fun ps => ps.getD 0 0).Nodup) (h5 : pss[m]? = some ps) (h6 : xs[m]? = some v) (h7 : NumV K H x (ps.getD 0 0)) (h8 : Q v H) : spPtAt K vs H Q E_3
inductive spTaken (K : PySem.W.Frag) (vs : List V) (H : Hp) (Q : VK) (E_3 : XK) : Prop
 | mk (r : Addr) (x : V) (xs : List V) (pss : List (List Rat)) (m : Nat) (ps : List Rat) (h1 : vs = [.ref r, x]) (h2 : SqT K H r xs) (h3 : PtsT K H xs pss) (h4 : (pss.map fun ps => ps.getD 0 0).Nodup) (h5 : pss[m]? = some ps) (h6 : NumV K H x (ps.getD 0 0)) (h7 : 2 ≤ pss.length) (h8 : pss.length ≤ 100) (h9 : ∀ (p : Addr) (H' : Hp), Same H H' → SqT K H' p (xs.take m ++ xs.drop (m + 1)) → Q (.ref p) H') : spTaken K vs H Q E_3
inductive spReplaced (K : PySem.W.Frag) (vs : List V) (H : Hp) (Q : VK) (E_3 : XK) : Prop
 | mk (r : Addr) (v y : V) (xs : List V) (pss : List (List Rat)) (m : Nat) (ps qs : List Rat) (h1 : vs = [.ref r, v, y]) (h2 : SqT K H r xs) (h3 : PtsT K H xs pss) (h4 : (pss.map fun ps => ps.getD 0 0).Nodup) (h5 : P23 pss) (h6 : pss[m]? = some ps) (h7 : xs[m]? = some v) (h8 : PtT K H y qs) (h9 : qs.getD 0 0 = ps.getD 0 0) (h10 : (qs.length = 2 ∨ qs.length = 3)) (h11 : (tell pss).length ≤ 10) (h12 : ∀ (p : Addr) (H' : Hp), Same H H' → SqT K H' p (xs.set m y) → Q (.ref p) H') : spReplaced K vs H Q E_3
inductive spWithH (K : PySem.W.Frag) (vs : List V) (H : Hp) (Q : VK) (E_3 : XK) : Prop
 | mk (r px : Addr) (y : V) (xs : List V) (pss : List (List Rat)) (m : Nat) (ps : List Rat) (c : Rat) (h1 : vs = [.ref r, .ref px, y]) (h2 : SqT K H r xs) (h3 : PtsT K H xs pss) (h4 : (pss.map fun ps => ps.getD 0 0).Nodup) (h5 : P23 pss) (h6 : pss[m]? = some ps) (h7 : H px = some (nT (ps.getD 0 0))) (h8 : NumV K H y c) (h9 : (tell pss).length ≤ 10) (h10 : ∀ (p : Addr) (H' : Hp) (xs' : List V), Same H H' → SqT K H' p xs' → PtsT K H' xs' (pss.set m ([ps.getD 0 0, c] ++ ps.drop 2)) → Q (.ref p) H') : spWithH K vs H Q E_3
inductive spWithS (K : PySem.W.Frag) (vs : List V) (H : Hp) (Q : VK) (E_3 : XK) : Prop
 | mk (r : Addr) (x s : V) (xs : List V) (pss : List (List Rat)) (m : Nat) (ps qs : List Rat) (h1 : vs = [.ref r, x, s]) (h2 : SqT K H r xs) (h3 : PtsT K H xs pss) (h4 : (pss.map fun ps => ps.getD 0 0).Nodup) (h5 : P23 pss) (h6 : pss[m]? = some ps) (h7 : NumV K H x (ps.getD 0 0)) (h8 : (s = .non ∧ qs = ps.take 2 ∨ ∃ c, NumV K H s c ∧ qs = ps.take 2 ++ [c])) (h9 : (tell pss).length ≤ 10) (h10 : ∀ (p : Addr) (H' : Hp) (xs' : List V), Same H H' → SqT K H' p xs' → PtsT K H' xs' (pss.set m qs) → Q (.ref p) H') : spWithS K vs H Q E_3
theorem pt_cut {K : PySem.W.Frag} {H : Hp} {us : List V} {ps : List Rat} {t p : Addr} (n : Nat) (hS : SqT K H t (us.take (n + 1))) (hn : Nums K H us ps) (h0 : us[0]? = some (.ref p)) (hp : H p = some (nT (ps.getD 0 0))) : PtT K H (.ref t) (ps.take (n + 1)) := by
 refine ⟨t, _, p, rfl, hS, Paired.take _ hn, ?_, ?_⟩
 · rw [List.getElem?_take, if_pos (by lia)]; exact h0
 · cases ps with
   | nil => exact hp
   | cons a r => exact hp
inductive spToldS (K : PySem.W.Frag) (vs : List V) (H : Hp) (Q : VK) (E_3 : XK) : Prop
 | mk (b : Bool) (r : Addr) (xs : List V) (pss : List (List Rat)) (h1 : vs = [.ref r]) (h2 : Sq b K H r xs) (h3 : Pts K H xs pss) (h4 : P23 pss) (h5 : pss.length ≤ 100) (h6 : ∀ (p : Addr) (H' : Hp) (ys : List V), Same H H' → H p = none → H' p = some (.lst ys) → Tls K H' ys (tell pss) → Q (.ref p) H') : spToldS K vs H Q E_3
section
variable {X : Cx}
theorem ixSeq (K : PySem.W.Frag) (e : X.K = K := by rfl) : IxR X (rIx K) := by subst e; exact ix_seq
end
theorem ix_of {K : PySem.W.Frag} {b : Bool} {H : Hp} {p : Addr} {xs : List V} {i : Int} {v : V} {Q : VK} (h : Sq b K H p xs) (e : atI xs i = some v) (q : Q v H) : rIx K (.ref p) (.int i) H Q := by
 cases b
 · exact .inr (.inl ⟨p, xs, i, v, rfl, rfl, h, e, q⟩)
 · exact .inl ⟨p, xs, i, v, rfl, rfl, h, e, q⟩
theorem Sq.any {b : Bool} {K : PySem.W.Frag} {H : Hp} {r : Addr} {xs : List V} (h : Sq b K H r xs) : SqL K H r xs ∨ SqT K H r xs := by
 cases b
 · exact .inr h
 · exact .inl h
def CrS (b : Bool) (K : PySem.W.Frag) (H : Hp) (c : Addr) (cs : List Rat) : Prop := ∃ xs, Sq b K H c xs ∧ Nums K H xs cs
theorem CrS.same {b : Bool} {K : PySem.W.Frag} {H H' : Hp} {c : Addr} {cs : List Rat} (h : CrS b K H c cs) (s : Same H H') : CrS b K H' c cs := let ⟨xs, h1, h2⟩ := h; ⟨xs, Sq.same h1 s, Nums.same h2 s⟩
inductive spSlopeAt3 (K : PySem.W.Frag) (vs : List V) (H : Hp) (Q : VK) (E_3 : XK) : Prop
 | mk (b : Bool) (c rx : Addr) (cs : List Rat) (x : Rat) (m n : Nat) (h1 : vs = [.ref c, .ref rx]) (h2 : CrS b K H c cs) (h3 : NumV K H (.ref rx) x) (h4 : (∀ q ∈ cs, RB m q)) (h5 : RB n x) (h6 : cs.length ≤ 20) (h7 : 1 ≤ m) (h8 : (m + 11 + n * cs.length + 4) * (cs.length + 2) ≤ 90000000) (h9 : ∀ p H', Same H H' → H' p = some (nT (Cv.ev (slopeL cs) x)) → RB ((m + 11 + n * cs.length + 4) * (cs.length + 1)) (Cv.ev (slopeL cs) x) → Q (.ref p) H') : spSlopeAt3 K vs H Q E_3
inductive spMissed3 (K : PySem.W.Frag) (vs : List V) (H : Hp) (Q : VK) (E_3 : XK) : Prop
 | mk (d b : Bool) (r c : Addr) (xs : List V) (pss : List (List Rat)) (cs : List Rat) (m n : Nat) (h1 : vs = [.ref r, .ref c]) (h2 : Sq d K H r xs) (h3 : Pts K H xs pss) (h4 : P23 pss) (h5 : pss.length ≤ 20) (h6 : CrS b K H c cs) (h7 : cs.length ≤ 20) (h8 : (∀ ps ∈ pss, ∀ q ∈ ps, RB n q)) (h9 : (∀ q ∈ cs, RB m q)) (h10 : 1 ≤ m) (h11 : 1 ≤ n) (h12 : (m + 11 + n * cs.length + 4) * (cs.length + 2) ≤ 90000000) (h13 : ∀ (p : Addr) (H' : Hp) (ys : List V), Same H H' → H p = none → H' p = some (.lst ys) → Mss K H' ys (msd cs (tell pss)) → Q (.ref p) H') : spMissed3 K vs H Q E_3
inductive spThru3 (K : PySem.W.Frag) (vs : List V) (H : Hp) (Q : VK) (E_3 : XK) : Prop
 | mk (r : Addr) (xs : List V) (pss : List (List Rat)) (hh n m : Nat) (h1 : vs = [.ref r]) (h2 : SqT K H r xs) (h3 : PtsT K H xs pss) (h4 : P23 pss) (h5 : pss.length ≤ 100) (h6 : (pss.map fun ps => ps.getD 0 0).Nodup) (h7 : (tell pss).length ≤ 12) (h8 : (∀ ps ∈ pss, ∀ q ∈ ps, RB hh q)) (h9 : (∀ ps ∈ pss, RB n (ps.getD 0 0))) (h10 : 1 ≤ hh) (h11 : hh + 2 * n + 2 ≤ 1000) (h12 : (∀ q ∈ stepsOf pss, RB m q)) (h13 : n ≤ m) (h14 : m ≤ 2048000) (h15 : ∀ (p : Addr) (H' : Hp) (cs : List Rat), Same H H' → Crv K H' p cs → cs.length ≤ (tell pss).length → Good cs → (∀ q ∈ cs, RB (26 * m + 300) q) → (∀ x, Cv.ev cs x = newton (kn pss) (stepsOf pss) x) → Q (.ref p) H') : spThru3 K vs H Q E_3
theorem steps_rbN {pss : List (List Rat)} {hh n N : Nat} (h23 : P23 pss) (hb : ∀ ps ∈ pss, ∀ q ∈ ps, RB hh q) (hbk : ∀ ps ∈ pss, RB n (ps.getD 0 0)) (h1 : 1 ≤ hh) (hN : (tell pss).length ≤ N) : ∀ q ∈ stepsOf pss, RB (bnd hh n N) q := fun q hq => by
 unfold stepsOf at hq
 obtain ⟨k, hk, rfl⟩ := List.mem_map.mp hq
 have hk := List.mem_range.mp hk
 have hl := tab_length pss k (by lia)
 exact (tab_rb h23 h1 hb hbk k (by lia) _ (getD_mem (by lia))).mono (bnd_mono hh n (by lia))
theorem newton_app (X : Rat) (rk rs : List Rat) : ∀ (ks ss : List Rat), ks.length = ss.length → newton (ks ++ rk) (ss ++ rs) X = newton ks ss X + L2.prV X ks * newton rk rs X
 | [], [], _ => by show newton rk rs X = 0 + 1 * newton rk rs X; grind
 | k :: ks, s :: ss, h => by
   have ih := newton_app X rk rs ks ss (by simpa using h)
   show s + (X - k) * newton (ks ++ rk) (ss ++ rs) X = s + (X - k) * newton ks ss X + (X - k) * L2.prV X ks * newton rk rs X
   rw [ih]; grind
theorem newton_take {X k s : Rat} {ks ss : List Rat} {i : Nat} (hk : ks[i]? = some k) (hs : ss[i]? = some s) : newton (ks.take (i + 1)) (ss.take (i + 1)) X = newton (ks.take i) (ss.take i) X + s * L2.prV X (ks.take i) := by
 have h1 := (List.getElem?_eq_some_iff.mp hk).1
 have h2 := (List.getElem?_eq_some_iff.mp hs).1
 rw [List.take_add_one, List.take_add_one, hk, hs]
 exact newton_snoc X k s _ _ (by rw [List.length_take, List.length_take]; lia)
inductive spNewSteps (K : PySem.W.Frag) (vs : List V) (H : Hp) (Q : VK) (E_3 : XK) : Prop
 | mk (r : Addr) (x : V) (xs : List V) (pss : List (List Rat)) (ps : List Rat) (hh n : Nat) (h1 : vs = [.ref r, x]) (h2 : SqT K H r xs) (h3 : PtsT K H xs pss) (h4 : PtT K H x ps) (h5 : P23 (pss ++ [ps])) (h6 : ((pss ++ [ps]).map fun ps => ps.getD 0 0).Nodup) (h7 : (tell (pss ++ [ps])).length ≤ 12) (h8 : (∀ q ∈ pss ++ [ps], ∀ c ∈ q, RB hh c)) (h9 : (∀ q ∈ pss ++ [ps], RB n (q.getD 0 0))) (h10 : 1 ≤ hh) (h11 : hh + 2 * n + 2 ≤ 1000) (h12 : ∀ (l : Addr) (H' : Hp) (zs : List V), Same H H' → H l = none → H' l = some (.lst zs) → Nums K H' zs ((stepsOf (pss ++ [ps])).drop (tell pss).length) → Q (.ref l) H') : spNewSteps K vs H Q E_3
theorem out_perm {α : Type} {l : List α} {m : Nat} {a : α} (h : l[m]? = some a) : ((l.take m ++ l.drop (m + 1)) ++ [a]).Perm l := by
 obtain ⟨hm, e⟩ := List.getElem?_eq_some_iff.mp h
 rw [List.append_assoc]
 refine List.Perm.trans ((List.perm_append_comm).append_left (l.take m)) ?_
 show (l.take m ++ a :: l.drop (m + 1)).Perm l
 rw [← e, ← List.drop_eq_getElem_cons hm, List.take_append_drop]
theorem kn_one {ps : List Rat} : kn [ps] = List.replicate (ps.length - 1) (ps.getD 0 0) := by
 show ((tellP ps ++ tell []).map Told.x) = _
 rw [show tell [] = [] from rfl, List.append_nil]
 unfold tellP
 rw [List.map_map]
 apply List.ext_getElem?
 intro i
 rw [List.getElem?_map, List.getElem?_replicate]
 by_cases h : i < ps.length - 1
 · rw [List.getElem?_range h, if_pos h]; rfl
 · rw [List.getElem?_eq_none (by rw [List.length_range]; lia), if_neg h]; rfl
def leftOf (pss : List (List Rat)) (m : Nat) : List (List Rat) := pss.take m ++ pss.drop (m + 1)
inductive spLoss (K : PySem.W.Frag) (vs : List V) (H : Hp) (Q : VK) (E_3 : XK) : Prop
 | mk (r : Addr) (x : V) (xs : List V) (pss : List (List Rat)) (m : Nat) (ps : List Rat) (hh n M : Nat) (h1 : vs = [.ref r, x]) (h2 : SqT K H r xs) (h3 : PtsT K H xs pss) (h4 : P23 pss) (h5 : (pss.map fun ps => ps.getD 0 0).Nodup) (h6 : pss[m]? = some ps) (h7 : NumV K H x (ps.getD 0 0)) (h8 : 2 ≤ pss.length) (h9 : (tell pss).length ≤ 12) (h10 : (∀ ps ∈ pss, ∀ q ∈ ps, RB hh q)) (h11 : (∀ ps ∈ pss, RB n (ps.getD 0 0))) (h12 : 1 ≤ hh) (h13 : hh + 2 * n + 2 ≤ 1000) (h14 : (∀ q ∈ stepsOf (leftOf pss m ++ [ps]), RB M q)) (h15 : n ≤ M) (h16 : 1 ≤ M) (h17 : M ≤ 2048000) (h18 : ∀ (p : Addr) (H' : Hp) (cs : List Rat), Same H H' → Crv K H' p cs → cs.length ≤ (tell pss).length → Good cs → (∀ q ∈ cs, RB (26 * M + 300) q) → (∀ X, Cv.ev cs X = newton (kn (leftOf pss m ++ [ps])) (stepsOf (leftOf pss m ++ [ps])) X - newton (kn (leftOf pss m)) (stepsOf (leftOf pss m)) X) → Q (.ref p) H') : spLoss K vs H Q E_3
theorem leftOf_perm {pss : List (List Rat)} {m : Nat} {ps : List Rat} (h : pss[m]? = some ps) : (leftOf pss m ++ [ps]).Perm pss := out_perm h
theorem prV_snoc (x o : Rat) : ∀ l, L2.prV x (l ++ [o]) = L2.prV x l * (x - o)
 | [] => by show (x - o) * 1 = 1 * (x - o); grind
 | p :: l => by
   show (x - p) * L2.prV x (l ++ [o]) = (x - p) * L2.prV x l * (x - o)
   rw [prV_snoc x o l]; grind
theorem tuV_snoc (x o : Rat) : ∀ l, L2.tuV x (l ++ [o]) = L2.tuV x l + 1 / (x - o)
 | [] => by show 1 / (x - o) + 0 = 0 + 1 / (x - o); grind
 | p :: l => by
   show 1 / (x - p) + L2.tuV x (l ++ [o]) = 1 / (x - p) + L2.tuV x l + 1 / (x - o)
   rw [tuV_snoc x o l]; grind
inductive spWA (K : PySem.W.Frag) (vs : List V) (H : Hp) (Q : VK) (E_3 : XK) : Prop
 | mk (rx l : Addr) (x : Rat) (ys : List V) (os : List Rat) (n : Nat) (h1 : vs = [.ref rx, .ref l]) (h2 : NumV K H (.ref rx) x) (h3 : SqL K H l ys) (h4 : Nums K H ys os) (h5 : x ∉ os) (h6 : RB n x) (h7 : (∀ o ∈ os, RB n o)) (h8 : os.length ≤ 20) (h9 : n ≤ 1000) (h10 : ∀ p H', Same H H' → H' p = some (nT (1 / L2.prV x os)) → RB ((2 * n + 1) * os.length + 1) (1 / L2.prV x os) → Q (.ref p) H') : spWA K vs H Q E_3
inductive spST (K : PySem.W.Frag) (vs : List V) (H : Hp) (Q : VK) (E_3 : XK) : Prop
 | mk (rx l : Addr) (x : Rat) (ys : List V) (os : List Rat) (n : Nat) (h1 : vs = [.ref rx, .ref l]) (h2 : NumV K H (.ref rx) x) (h3 : SqL K H l ys) (h4 : Nums K H ys os) (h5 : x ∉ os) (h6 : RB n x) (h7 : (∀ o ∈ os, RB n o)) (h8 : os.length ≤ 20) (h9 : n ≤ 1000) (h10 : ∀ (v : V) H', Same H H' → NumV K H' v (L2.tuV x os) → RB ((2 * n + 3) * os.length + 1) (L2.tuV x os) → Q v H') : spST K vs H Q E_3
theorem newton_noughts (X : Rat) (rk rs : List Rat) : ∀ os : List Rat, newton (os ++ rk) (List.replicate os.length 0 ++ rs) X = L2.prV X os * newton rk rs X
 | [] => by show newton rk rs X = 1 * newton rk rs X; grind
 | o :: os => by
   show 0 + (X - o) * newton (os ++ rk) (List.replicate os.length 0 ++ rs) X = (X - o) * L2.prV X os * newton rk rs X
   rw [newton_noughts X rk rs os]; grind
def lastS (k : Int) (c : Nat) (w s : Rat) : List Rat := if k = 1 then [0, w] else if c = 2 then [w, s] else [w]
def lastL (k : Int) (c : Nat) (x w s : Rat) : List Rat := if k = 1 then [-(x * w), w] else if c = 2 then [w - x * s, s] else [w]
theorem last_is (k : Int) (c : Nat) (x w s X : Rat) : newton (List.replicate (lastS k c w s).length x) (lastS k c w s) X = Cv.ev (lastL k c x w s) X := by
 unfold lastS lastL
 by_cases h : k = 1
 · rw [if_pos h, if_pos h]
   show 0 + (X - x) * (w + (X - x) * 0) = -(x * w) + X * (w + X * 0)
   grind
 · rw [if_neg h, if_neg h]
   by_cases h2 : c = 2
   · rw [if_pos h2, if_pos h2]
     show w + (X - x) * (s + (X - x) * 0) = (w - x * s) + X * (s + X * 0)
     grind
   · rw [if_neg h2, if_neg h2]
     show w + (X - x) * 0 = w + X * 0
     grind
def oth (kn : List Rat) (x : Rat) : List Rat := kn.filter fun c => !decide (c = x)
theorem oth_out (kn : List Rat) (x : Rat) : x ∉ oth kn x := fun h => by
 have := (List.mem_filter.mp h).2
 simp at this
def wOf (kn : List Rat) (x : Rat) : Rat := 1 / L2.prV x (oth kn x)
def sOf (kn : List Rat) (x : Rat) : Rat := 0 - wOf kn x * L2.tuV x (oth kn x)
def knots (pss : List (List Rat)) : List Rat := (tell pss).map Told.x
def lastOf (kn : List Rat) (x : Rat) (k : Int) : List Rat := lastS k (kn.length - (oth kn x).length) (wOf kn x) (sOf kn x)
inductive spShare (K : PySem.W.Frag) (vs : List V) (H : Hp) (Q : VK) (E_3 : XK) : Prop
 | mk (r rx : Addr) (k : Int) (xs : List V) (pss : List (List Rat)) (x : Rat) (n : Nat) (h1 : vs = [.ref r, .ref rx, .int k]) (h2 : SqT K H r xs) (h3 : PtsT K H xs pss) (h4 : P23 pss) (h5 : pss.length ≤ 20) (h6 : (tell pss).length ≤ 8) (h7 : NumV K H (.ref rx) x) (h8 : RB n x) (h9 : (∀ c ∈ knots pss, RB n c)) (h10 : 1 ≤ n) (h11 : n ≤ 40) (h12 : ∀ p H' cs, Same H H' → Crv K H' p cs → cs.length ≤ (oth (knots pss) x).length + (lastOf (knots pss) x k).length → Good cs → (∀ q ∈ cs, RB 40000 q) → (∀ X, Cv.ev cs X = L2.prV X (oth (knots pss) x) * Cv.ev (lastL k ((knots pss).length - (oth (knots pss) x).length) x (wOf (knots pss) x) (sOf (knots pss) x)) X) → Q (.ref p) H') : spShare K vs H Q E_3
def shC (kn : List Rat) (x : Rat) (k : Int) : List Rat := Cv.strip (L2.mulL (L2.prL (oth kn x)) (lastL k (kn.length - (oth kn x).length) x (wOf kn x) (sOf kn x)))
theorem shC_ev (kn : List Rat) (x : Rat) (k : Int) (X : Rat) : Cv.ev (shC kn x k) X = L2.prV X (oth kn x) * Cv.ev (lastL k (kn.length - (oth kn x).length) x (wOf kn x) (sOf kn x)) X := by
 unfold shC
 rw [Cv.ev_strip, L2.ev_mulL, L2.prL_ev]
theorem knots_mem {l : List (List Rat)} {c : Rat} (h : c ∈ knots l) : c ∈ l.map fun ps => ps.getD 0 0 := by
 unfold knots at h
 obtain ⟨t, ht, rfl⟩ := List.mem_map.mp h
 unfold tell at ht
 obtain ⟨ts, hts, ht'⟩ := List.mem_flatten.mp ht
 obtain ⟨ps, hps, rfl⟩ := List.mem_map.mp hts
 unfold tellP at ht'
 obtain ⟨j, _, rfl⟩ := List.mem_map.mp ht'
 exact List.mem_map.mpr ⟨ps, hps, rfl⟩
theorem knots_cons (p : List Rat) (l : List (List Rat)) : knots (p :: l) = List.replicate (p.length - 1) (p.getD 0 0) ++ knots l := by
 show (tellP p ++ tell l).map Told.x = _
 rw [List.map_append]
 congr 1
 unfold tellP
 rw [List.map_map]
 apply List.ext_getElem?
 intro i
 rw [List.getElem?_map]
 by_cases h : i < p.length - 1
 · rw [List.getElem?_range h, List.getElem?_replicate, if_pos h]; rfl
 · rw [List.getElem?_eq_none (by rw [List.length_range]; lia), List.getElem?_replicate, if_neg h]; rfl
theorem tell_mem_x {l : List (List Rat)} {t : Told} (h : t ∈ tell l) : t.x ∈ knots l := List.mem_map.mpr ⟨t, h, rfl⟩
theorem cnt_two : ∀ {l : List (List Rat)}, P23 l → (l.map fun ps => ps.getD 0 0).Nodup → ∀ t ∈ tell l, t.k = 1 → (knots l).count t.x = 2
 | [], _, _, t, ht, _ => nomatch ht
 | p :: l, h23, hn, t, ht, hk => by
   have hp := h23 p List.mem_cons_self
   have h23' : P23 l := fun a ha => h23 a (List.mem_cons_of_mem _ ha)
   rw [List.map_cons, List.nodup_cons] at hn
   rw [knots_cons, List.count_append]
   have ht' : t ∈ tellP p ++ tell l := ht
   rcases List.mem_append.mp ht' with z | z
   · unfold tellP at z
     obtain ⟨j, hj, rfl⟩ := List.mem_map.mp z
     have hj' := List.mem_range.mp hj
     have hk : ((j : Nat) : Int) = 1 := hk
     have e0 : (knots l).count (p.getD 0 0) = 0 := List.count_eq_zero.mpr fun w => hn.1 (knots_mem w)
     show (List.replicate (p.length - 1) (p.getD 0 0)).count (p.getD 0 0) + (knots l).count (p.getD 0 0) = 2
     rw [List.count_replicate_self, e0]; lia
   · have hx := knots_mem (tell_mem_x z)
     have ne : t.x ≠ p.getD 0 0 := fun w => hn.1 (by rw [← w]; exact hx)
     rw [cnt_two h23' hn.2 t z hk, List.count_eq_zero.mpr fun w => ne (List.mem_replicate.mp w).2]
theorem oth_len (kn : List Rat) (x : Rat) : kn.length - (oth kn x).length = kn.count x := by
 induction kn with
 | nil => rfl
 | cons c r ih =>
   unfold oth at *
   have hle := List.length_filter_le (fun c => !decide (c = x)) r
   by_cases e : c = x
   · rw [List.filter_cons_of_neg (by simp [e]), e, List.count_cons_self, List.length_cons]; lia
   · rw [List.filter_cons_of_pos (by simp [e]), List.count_cons_of_ne e, List.length_cons, List.length_cons]; lia
theorem oth_count (kn : List Rat) {x y : Rat} (h : y ≠ x) : (oth kn x).count y = kn.count y := by
 unfold oth
 rw [List.count_filter (by simp [h])]
theorem oth_in {kn : List Rat} {x y : Rat} (h : y ≠ x) (hy : y ∈ kn) : y ∈ oth kn x := List.mem_filter.mpr ⟨hy, by simp [h]⟩
theorem share_told {l : List (List Rat)} (h23 : P23 l) (hn : (l.map fun ps => ps.getD 0 0).Nodup) {t u : Told} (ht : t ∈ tell l) (hu : u ∈ tell l) : hk (shC (knots l) t.x t.k) u = if u.x = t.x ∧ u.k = t.k then 1 else 0 := by
 have k1 := tell_k h23 t ht
 have k2 := tell_k h23 u hu
 have hev := shC_ev (knots l) t.x t.k
 have hsl : ∀ y, Cv.ev (slopeL (shC (knots l) t.x t.k)) y = Cv.ev (L2.dL (shC (knots l) t.x t.k)) y := fun y => L2.slope_ev y _
 have huk := tell_mem_x hu
 unfold hk
 by_cases hx : u.x = t.x
 · have hp0 := L2.prV_ne (oth_out (knots l) t.x)
   have hpw : L2.prV t.x (oth (knots l) t.x) * wOf (knots l) t.x = 1 := by
     unfold wOf
     rw [Rat.mul_comm]; exact Rat.div_mul_cancel hp0
   rcases k1 with a | a
   · rcases k2 with b | b
     · rw [if_neg (by lia), if_pos ⟨hx, by lia⟩, hx, hev]
       have e : Cv.ev (lastL t.k ((knots l).length - (oth (knots l) t.x).length) t.x (wOf (knots l) t.x) (sOf (knots l) t.x)) t.x = wOf (knots l) t.x := by
         unfold lastL
         rw [if_neg (by lia)]
         split
         · show (wOf (knots l) t.x - t.x * sOf (knots l) t.x) + t.x * (sOf (knots l) t.x + t.x * 0) = _; grind
         · show wOf (knots l) t.x + t.x * 0 = _; grind
       rw [e]; exact hpw
     · rw [if_pos b, if_neg (by lia), hx, hsl, L2.share_slope hev, L2.prL_slope_out (oth_out (knots l) t.x)]
       have c2 : (knots l).length - (oth (knots l) t.x).length = 2 := by rw [oth_len, ← hx]; exact cnt_two h23 hn u hu b
       have e : lastL t.k ((knots l).length - (oth (knots l) t.x).length) t.x (wOf (knots l) t.x) (sOf (knots l) t.x) = [wOf (knots l) t.x - t.x * sOf (knots l) t.x, sOf (knots l) t.x] := by
         unfold lastL; rw [if_neg (by lia), if_pos c2]
       rw [e, L2.slope_line]
       show _ * sOf (knots l) t.x + _ * ((wOf (knots l) t.x - t.x * sOf (knots l) t.x) + t.x * (sOf (knots l) t.x + t.x * 0)) = 0
       have es : sOf (knots l) t.x = 0 - wOf (knots l) t.x * L2.tuV t.x (oth (knots l) t.x) := rfl
       rw [show (wOf (knots l) t.x - t.x * sOf (knots l) t.x) + t.x * (sOf (knots l) t.x + t.x * 0) = wOf (knots l) t.x by grind, es]
       grind
   · have e : lastL t.k ((knots l).length - (oth (knots l) t.x).length) t.x (wOf (knots l) t.x) (sOf (knots l) t.x) = [-(t.x * wOf (knots l) t.x), wOf (knots l) t.x] := by
       unfold lastL; rw [if_pos a]
     have e0 : Cv.ev [-(t.x * wOf (knots l) t.x), wOf (knots l) t.x] t.x = 0 := by
       show -(t.x * wOf (knots l) t.x) + t.x * (wOf (knots l) t.x + t.x * 0) = 0; grind
     rcases k2 with b | b
     · rw [if_neg (by lia), if_neg (by lia), hx, hev, e, e0]; grind
     · rw [if_pos b, if_pos ⟨hx, by lia⟩, hx, hsl, L2.share_slope hev, e, L2.slope_line, e0, hpw]; grind
 · rw [if_neg (c := u.x = t.x ∧ u.k = t.k) (fun z => hx z.1)]
   by_cases b : u.k = 1
   · rw [if_pos b, hsl]
     exact L2.share_slope_in hev (by rw [oth_count _ hx, cnt_two h23 hn u hu b]; exact Nat.le_refl _)
   · rw [if_neg b]
     exact L2.share_in hev (oth_in hx huk)
theorem share_len {l : List (List Rat)} (h23 : P23 l) (hn : (l.map fun ps => ps.getD 0 0).Nodup) {t : Told} (ht : t ∈ tell l) : (oth (knots l) t.x).length + (lastOf (knots l) t.x t.k).length ≤ (tell l).length := by
 have e := oth_len (knots l) t.x
 have hle : (oth (knots l) t.x).length ≤ (knots l).length := List.length_filter_le _ _
 have hc : 1 ≤ (knots l).count t.x := List.count_pos_iff.mpr (tell_mem_x ht)
 have hk : (knots l).length = (tell l).length := by unfold knots; rw [List.length_map]
 have h2 := cnt_two h23 hn t ht
 unfold lastOf lastS
 by_cases a : t.k = 1
 · rw [if_pos a]
   have := h2 a
   show _ + 2 ≤ _
   lia
 · rw [if_neg a]
   by_cases b : (knots l).length - (oth (knots l) t.x).length = 2
   · rw [if_pos b]; show _ + 2 ≤ _; lia
   · rw [if_neg b]; show _ + 1 ≤ _; lia
theorem mD_eqv (a b : Ms) : PyData.eqv (mD a) (mD b) = decide (a = b) := by
 show (PyData.eqv (nD a.1) (nD b.1) && ((a.2 == b.2) && true)) = _
 rw [nD_eqv, Bool.and_true, Bool.eq_iff_iff]
 simp [Prod.ext_iff]
theorem any_mD (q : Ms) : ∀ qs : List Ms, ((qs.map mD).any fun y => PyData.eqv y (mD q)) = decide (q ∈ qs)
 | [] => by simp
 | c :: r => by
   rw [List.map_cons, List.any_cons, mD_eqv, any_mD q r, Bool.eq_iff_iff]
   simp only [Bool.or_eq_true, decide_eq_true_eq, List.mem_cons]
   constructor
   · rintro (h | h)
     · exact .inl h.symm
     · exact .inr h
   · rintro (h | h)
     · exact .inl h.symm
     · exact .inr h
theorem mD_shaped (q : Ms) : SeqAt.shaped (mD q) = true := rfl
theorem inM {K : PySem.W.Frag} {H : Hp} {x : V} {a : Addr} {xs : List V} {q : Ms} {qs : List Ms} {Q : VK} {neg : Bool} (h1 : MsV K H x q) (s2 : SqL K H a xs) (n2 : Mss K H xs qs) (h : Q (.bl (if neg then !decide (q ∈ qs) else decide (q ∈ qs))) H) : rInD K neg x (.ref a) H Q := by
 have rd : ∀ (i : Nat) x d, xs[i]? = some x → (qs.map mD)[i]? = some d → Rds K H x d := fun i x d e1 e2 => by
   obtain ⟨q, hq, hn⟩ := Paired.get n2 e1
   rw [List.getElem?_map, hq] at e2
   cases e2
   exact msv_rds hn
 exact inD_of ⟨a, _, _, rfl, .lst s2 (by rw [n2.length, List.length_map]) rd, msv_rds h1, mDs_shL _, mD_shaped _, by rw [any_mD]; exact h⟩
inductive spScaled (K : PySem.W.Frag) (vs : List V) (H : Hp) (Q : VK) (E_3 : XK) : Prop
 | mk (r u : Addr) (qs : List Rat) (y : Rat) (m n : Nat) (h1 : vs = [.ref r, .ref u]) (h2 : Crv K H r qs) (h3 : NumV K H (.ref u) y) (h4 : (∀ q ∈ qs, RB m q)) (h5 : RB n y) (h6 : m + n ≤ 1000000) (h7 : qs.length ≤ 1000) (h8 : ∀ p H', Same H H' → Crv K H' p (Cv.strip (qs.map (· * y))) → Q (.ref p) H') : spScaled K vs H Q E_3
inductive spGain (K : PySem.W.Frag) (vs : List V) (H : Hp) (Q : VK) (E_3 : XK) : Prop
 | mk (r rx u : Addr) (xs : List V) (pss : List (List Rat)) (t : Told) (y : Rat) (n : Nat) (h1 : vs = [.ref r, .ref rx, .int t.k, .ref u]) (h2 : SqT K H r xs) (h3 : PtsT K H xs pss) (h4 : P23 pss) (h5 : pss.length ≤ 20) (h6 : (tell pss).length ≤ 8) (h7 : (pss.map fun ps => ps.getD 0 0).Nodup) (h8 : t ∈ tell pss) (h9 : NumV K H (.ref rx) t.x) (h10 : (∀ c ∈ knots pss, RB n c)) (h11 : 1 ≤ n) (h12 : n ≤ 40) (h13 : NumV K H (.ref u) y) (h14 : RB n y) (h15 : ∀ (p : Addr) (H' : Hp) (cs : List Rat), Same H H' → Crv K H' p cs → cs.length ≤ (tell pss).length → Good cs → (∀ q ∈ cs, RB 40040 q) → (∀ X, Cv.ev cs X = Cv.ev [] X + y * Cv.ev (shC (knots pss) t.x t.k) X) → Q (.ref p) H') : spGain K vs H Q E_3
def movP (x : Rat) (k : Nat) (y : Rat) (ps : List Rat) : List Rat := if ps.getD 0 0 = x then ps.set (1 + k) (ps.getD (1 + k) 0 + y) else ps
theorem movP_length (x : Rat) (k : Nat) (y : Rat) (ps : List Rat) : (movP x k y ps).length = ps.length := by
 unfold movP; split
 · rw [List.length_set]
 · rfl
theorem two_of {ps : List Rat} (h : ps.length = 2) : ∃ a b, ps = [a, b] := by
 match ps, h with
 | [a, b], _ => exact ⟨a, b, rfl⟩
theorem three_of {ps : List Rat} (h : ps.length = 3) : ∃ a b c, ps = [a, b, c] := by
 match ps, h with
 | [a, b, c], _ => exact ⟨a, b, c, rfl⟩
theorem on_mov {cs G sm ps : List Rat} {x y : Rat} {k : Nat} (h23 : ps.length = 2 ∨ ps.length = 3) (hon : OnC cs ps) (hsm : ∀ X, Cv.ev sm X = Cv.ev cs X + Cv.ev G X) (hG0 : Cv.ev G (ps.getD 0 0) = if ps.getD 0 0 = x ∧ k = 0 then y else 0)
   (hG1 : ps.length = 3 → Cv.ev (L2.dL G) (ps.getD 0 0) = if ps.getD 0 0 = x ∧ k = 1 then y else 0) (hk : k ≤ 1) (hl : ps.getD 0 0 = x → k + 1 < ps.length) : OnC sm (movP x k y ps) := by
 have e2 := L2.slope_add hsm
 rcases h23 with h | h
 · obtain ⟨a, b, rfl⟩ := two_of h
   have h1 : Cv.ev cs a = b := hon.1
   have hG0 : Cv.ev G a = if a = x ∧ k = 0 then y else 0 := hG0
   unfold movP
   show OnC sm (if a = x then _ else _)
   by_cases hx : a = x
   · have hk0 : k = 0 := by have := hl hx; simp at this; lia
     subst hk0
     rw [if_pos hx]
     rw [if_pos ⟨hx, rfl⟩] at hG0
     refine ⟨?_, fun z => absurd z (by simp)⟩
     show Cv.ev sm a = b + y
     rw [hsm, h1, hG0]
   · rw [if_neg hx]
     rw [if_neg (fun z => hx z.1)] at hG0
     refine ⟨?_, fun z => absurd z (by simp)⟩
     show Cv.ev sm a = b
     rw [hsm, h1, hG0]; grind
 · obtain ⟨a, b, c, rfl⟩ := three_of h
   have h1 : Cv.ev cs a = b := hon.1
   have h2 : Cv.ev (L2.dL cs) a = c := hon.2 rfl
   have hG0 : Cv.ev G a = if a = x ∧ k = 0 then y else 0 := hG0
   have hG1 : Cv.ev (L2.dL G) a = if a = x ∧ k = 1 then y else 0 := hG1 rfl
   unfold movP
   show OnC sm (if a = x then _ else _)
   by_cases hx : a = x
   · rw [if_pos hx]
     rcases (show k = 0 ∨ k = 1 by lia) with rfl | rfl
     · rw [if_pos ⟨hx, rfl⟩] at hG0
       rw [if_neg (fun z => absurd z.2 (by decide))] at hG1
       refine ⟨?_, fun _ => ?_⟩
       · show Cv.ev sm a = b + y
         rw [hsm, h1, hG0]
       · show Cv.ev (L2.dL sm) a = c
         rw [e2, h2, hG1]; grind
     · rw [if_neg (fun z => absurd z.2 (by decide))] at hG0
       rw [if_pos ⟨hx, rfl⟩] at hG1
       refine ⟨?_, fun _ => ?_⟩
       · show Cv.ev sm a = b
         rw [hsm, h1, hG0]; grind
       · show Cv.ev (L2.dL sm) a = c + y
         rw [e2, h2, hG1]
   · rw [if_neg hx]
     rw [if_neg (fun z => hx z.1)] at hG0 hG1
     refine ⟨?_, fun _ => ?_⟩
     · show Cv.ev sm a = b
       rw [hsm, h1, hG0]; grind
     · show Cv.ev (L2.dL sm) a = c
       rw [e2, h2, hG1]; grind
theorem tell_of {pss : List (List Rat)} {ps : List Rat} (hps : ps ∈ pss) {k : Nat} (hk : k + 1 < ps.length) : (⟨ps.getD 0 0, (k : Int), ps.getD (k + 1) 0⟩ : Told) ∈ tell pss :=
 List.mem_flatten.mpr ⟨tellP ps, List.mem_map_of_mem hps, by unfold tellP; exact List.mem_map.mpr ⟨k, List.mem_range.mpr (by lia), rfl⟩⟩
theorem gain_at {pss : List (List Rat)} {t : Told} {y : Rat} {G : List Rat} (h23 : P23 pss) (hnd : (pss.map fun ps => ps.getD 0 0).Nodup) (ht : t ∈ tell pss) (hev : ∀ X, Cv.ev G X = Cv.ev [] X + y * Cv.ev (shC (knots pss) t.x t.k) X) {k : Nat} (hk' : t.k = (k : Int)) {ps : List Rat} (hps : ps ∈ pss) :
   (Cv.ev G (ps.getD 0 0) = if ps.getD 0 0 = t.x ∧ k = 0 then y else 0) ∧ (ps.length = 3 → Cv.ev (L2.dL G) (ps.getD 0 0) = if ps.getD 0 0 = t.x ∧ k = 1 then y else 0) := by
 have hpl := h23 ps hps
 have z0 : ∀ X : Rat, Cv.ev [] X = 0 := fun X => rfl
 have zd : ∀ X : Rat, Cv.ev (L2.dL []) X = 0 := fun X => rfl
 refine ⟨?_, fun h3 => ?_⟩
 · have e := share_told h23 hnd ht (tell_of hps (k := 0) (by lia))
   have e : Cv.ev (shC (knots pss) t.x t.k) (ps.getD 0 0) = if ps.getD 0 0 = t.x ∧ ((0 : Nat) : Int) = t.k then 1 else 0 := e
   rw [hev, z0, e]
   by_cases c : ps.getD 0 0 = t.x ∧ k = 0
   · rw [if_pos c, if_pos ⟨c.1, by rw [hk', c.2]⟩]; grind
   · rw [if_neg c, if_neg (fun z => c ⟨z.1, by have := z.2; lia⟩)]; grind
 · have e := share_told h23 hnd ht (tell_of hps (k := 1) (by lia))
   have e : Cv.ev (slopeL (shC (knots pss) t.x t.k)) (ps.getD 0 0) = if ps.getD 0 0 = t.x ∧ ((1 : Nat) : Int) = t.k then 1 else 0 := e
   have es : Cv.ev (slopeL (shC (knots pss) t.x t.k)) (ps.getD 0 0) = Cv.ev (L2.dL (shC (knots pss) t.x t.k)) (ps.getD 0 0) := L2.slope_ev _ _
   rw [L2.ev_slope_add hev, zd, ← es, e]
   by_cases c : ps.getD 0 0 = t.x ∧ k = 1
   · rw [if_pos c, if_pos ⟨c.1, by rw [hk', c.2]⟩]; grind
   · rw [if_neg c, if_neg (fun z => c ⟨z.1, by have := z.2; lia⟩)]; grind
theorem last_no {pss : List (List Rat)} {cs : List Rat} {m : Nat} (hm : (tell pss).length = m + 1) (h : ∀ X, Cv.ev cs X = newton (kn pss) (stepsOf pss) X) : cs.getD m 0 = (tab pss m).getD 0 0 := by
 have e := L2.coef_one (l := cs) (m := L2.nwT (tT pss) (xT pss) 0 (m + 1)) (fun k => by rw [h, thru_ev, hm]) m
 rw [e, nwT_lead]; rfl
inductive spFresh (K : PySem.W.Frag) (vs : List V) (H : Hp) (Q : VK) (E_3 : XK) : Prop
 | mk (p r : Addr) (xs : List V) (pss : List (List Rat)) (h1 : vs = [.ref p, .ref r]) (h2 : Pen H p) (h3 : SqT K H r xs) (h4 : PtsT K H xs pss) (h5 : pss.length ≤ 7) (h6 : ∀ (t : Addr) (H' : Hp) (ps : List Rat), Mv p H H' → Pen H' p → PtT K H' (.ref t) ps → (ps.length = 2 ∨ ps.length = 3) → (∀ q ∈ ps, RB 16 q) → ps.getD 0 0 ∉ (pss.map fun ps => ps.getD 0 0) → Q (.ref t) H') : spFresh K vs H Q E_3
inductive spStepped (K : PySem.W.Frag) (vs : List V) (H : Hp) (Q : VK) (E_3 : XK) : Prop
 | mk (r nw rx : Addr) (xs : List V) (pss : List (List Rat)) (ps : List Rat) (x : Rat) (h1 : vs = [.ref r, .ref nw, .ref rx]) (h2 : SqT K H r xs) (h3 : PtsT K H xs pss) (h4 : PtT K H (.ref nw) ps) (h5 : P23 (pss ++ [ps])) (h6 : ((pss ++ [ps]).map fun ps => ps.getD 0 0).Nodup) (h7 : (tell (pss ++ [ps])).length ≤ 7) (h8 : (∀ q ∈ pss ++ [ps], ∀ c ∈ q, RB 16 c)) (h9 : NumV K H (.ref rx) x) (h10 : RB 16 x) (h11 : ∀ (v : V) (H' : Hp), Same H H' → NumV K H' v (newton (kn (pss ++ [ps])) (stepsOf (pss ++ [ps])) x - newton (kn pss) (stepsOf pss) x) → RB 1000000 (newton (kn (pss ++ [ps])) (stepsOf (pss ++ [ps])) x - newton (kn pss) (stepsOf pss) x) → Q v H') : spStepped K vs H Q E_3
theorem nT_nat30 (k : Nat) : nT ((k : Nat) : Rat) = .tup [.int (k : Int), .int 1] := rfl
theorem paired_rev30 {α β : Type} {R : α → β → Prop} : ∀ {xs : List α} {ys : List β}, Paired R xs ys → Paired R xs.reverse ys.reverse
 | _, _, .nil => .nil
 | x :: xs, y :: ys, .cons r t => by
   rw [List.reverse_cons, List.reverse_cons]
   exact Paired.snoc (paired_rev30 t) r
theorem steps_last30 {pss : List (List Rat)} {cs : List Rat} {N : Nat} (hN : (tell pss).length = N + 1) (h : ∀ X, Cv.ev cs X = newton (kn pss) (stepsOf pss) X) : (stepsOf pss).getD N 0 = cs.getD N 0 := by
 rw [last_no hN h]
 unfold stepsOf
 rw [List.getD_eq_getElem?_getD, List.getElem?_map, List.getElem?_range (by lia)]; rfl
def nwP (pss : List (List Rat)) (X : Rat) : Rat := newton (kn pss) (stepsOf pss) X
theorem nwP_curve (pss : List (List Rat)) : ∃ cs : List Rat, cs.length ≤ (tell pss).length ∧ ∀ X, Cv.ev cs X = nwP pss X :=
 ⟨L2.nwT (tT pss) (xT pss) 0 (tell pss).length, L2.nwT_length _ _ _ _, fun X => (thru_ev pss X).symm⟩
theorem tell_len_eq : ∀ {a b : List (List Rat)}, a.map List.length = b.map List.length → (tell a).length = (tell b).length
 | [], [], _ => rfl
 | [], _ :: _, h => nomatch h
 | _ :: _, [], h => nomatch h
 | p :: a, q :: b, h => by
   injection h with h1 h2
   have ih := tell_len_eq h2
   show (tellP p ++ tell a).length = (tellP q ++ tell b).length
   rw [List.length_append, List.length_append, tellP_length, tellP_length, ih, h1]
theorem mov_map_len (x : Rat) (k : Nat) (y : Rat) (pss : List (List Rat)) : (tell (pss.map (movP x k y))).length = (tell pss).length :=
 tell_len_eq (by rw [List.map_map]; exact List.map_congr_left fun ps _ => movP_length x k y ps)
theorem movP_first (x : Rat) (k : Nat) (y : Rat) (ps : List Rat) : (movP x k y ps).getD 0 0 = ps.getD 0 0 := by
 unfold movP; split
 · rw [List.getD_eq_getElem?_getD, List.getElem?_set_ne (by lia), ← List.getD_eq_getElem?_getD]
 · rfl
theorem mov_first (x : Rat) (k : Nat) (y : Rat) (pss : List (List Rat)) : (pss.map (movP x k y)).map (fun ps => ps.getD 0 0) = pss.map fun ps => ps.getD 0 0 := by
 rw [List.map_map]; exact List.map_congr_left fun ps _ => movP_first x k y ps
theorem mov_23 {pss : List (List Rat)} (h : P23 pss) (x : Rat) (k : Nat) (y : Rat) : P23 (pss.map (movP x k y)) := fun q hq => by
 obtain ⟨q', hq', rfl⟩ := List.mem_map.mp hq
 rw [movP_length]; exact h q' hq'
theorem set_movP {pss : List (List Rat)} {m k : Nat} {ps : List Rat} {y : Rat} (hnd : (pss.map fun ps => ps.getD 0 0).Nodup) (hm : pss[m]? = some ps) : pss.set m (movP (ps.getD 0 0) k y ps) = pss.map (movP (ps.getD 0 0) k y) := by
 refine List.ext_getElem? fun i => ?_
 rw [List.getElem?_map]
 by_cases e : m = i
 · subst e
   rw [List.getElem?_set_self (List.getElem?_eq_some_iff.mp hm).1, hm]; rfl
 · rw [List.getElem?_set_ne e]
   match h : pss[i]? with
   | none => rfl
   | some u =>
     have hu : u.getD 0 0 ≠ ps.getD 0 0 := fun z => e (nd_inj hnd hm h z.symm)
     show some u = some (movP _ _ _ u)
     unfold movP
     rw [if_neg hu]
theorem same_first {pss : List (List Rat)} (hnd : (pss.map fun ps => ps.getD 0 0).Nodup) {a b : List Rat} (ha : a ∈ pss) (hb : b ∈ pss) (e : a.getD 0 0 = b.getD 0 0) : a = b := by
 obtain ⟨i, hi⟩ := List.getElem?_of_mem ha
 obtain ⟨j, hj⟩ := List.getElem?_of_mem hb
 have := nd_inj hnd hi hj e
 subst this
 rw [hi] at hj
 exact Option.some.inj hj
theorem mov_nw {pss : List (List Rat)} {ps G : List Rat} {k : Nat} {y : Rat} (h23 : P23 pss) (hnd : (pss.map fun ps => ps.getD 0 0).Nodup) (hps : ps ∈ pss) (hk : k ≤ 1) (hkl : k + 1 < ps.length) (hGl : G.length ≤ (tell pss).length)
   (hev : ∀ X, Cv.ev G X = Cv.ev [] X + y * Cv.ev (shC (knots pss) (ps.getD 0 0) (k : Int)) X) (X : Rat) : nwP (pss.map (movP (ps.getD 0 0) k y)) X - nwP pss X = Cv.ev G X := by
 obtain ⟨cs, hcl, hcs⟩ := nwP_curve pss
 obtain ⟨ds, hdl, hds⟩ := nwP_curve (pss.map (movP (ps.getD 0 0) k y))
 have h23' := mov_23 h23 (ps.getD 0 0) k y
 have hnd' : ((pss.map (movP (ps.getD 0 0) k y)).map fun ps => ps.getD 0 0).Nodup := by rw [mov_first]; exact hnd
 have ht := mov_map_len (ps.getD 0 0) k y pss
 have on := thru_on h23 hnd hcs
 have on' := thru_on h23' hnd' hds
 have hsm : ∀ X, Cv.ev (L2.addL cs G) X = Cv.ev cs X + Cv.ev G X := fun X => L2.ev_addL _ _ _
 have e := one_curve h23' hnd' (c := ds) (d := L2.addL cs G) hdl (by rw [L2.addL_length, ht]; lia) on' (fun q hq => by
   obtain ⟨q', hq', rfl⟩ := List.mem_map.mp hq
   obtain ⟨g0, g1⟩ := gain_at (t := ⟨ps.getD 0 0, (k : Int), ps.getD (k + 1) 0⟩) h23 hnd (tell_of hps hkl) hev rfl hq'
   refine on_mov (h23 q' hq') (on q' hq') hsm g0 g1 hk (fun z => ?_)
   rw [same_first hnd hq' hps z]; exact hkl) X
 rw [← hds, e, hsm, hcs]; grind
theorem movP_h {ps : List Rat} {c : Rat} (h : ps.length = 2 ∨ ps.length = 3) : movP (ps.getD 0 0) 0 (c - ps.getD 1 0) ps = [ps.getD 0 0, c] ++ ps.drop 2 := by
 unfold movP
 rw [if_pos rfl]
 rcases h with h | h
 · obtain ⟨a, b, rfl⟩ := two_of h
   show [a, b + (c - b)] = [a, c]
   congr 2; grind
 · obtain ⟨a, b, d, rfl⟩ := three_of h
   show [a, b + (c - b), d] = [a, c, d]
   congr 2; grind
theorem movP_s {ps : List Rat} {c : Rat} (h : ps.length = 3) : movP (ps.getD 0 0) 1 (c - ps.getD 2 0) ps = ps.take 2 ++ [c] := by
 unfold movP
 rw [if_pos rfl]
 obtain ⟨a, b, d, rfl⟩ := three_of h
 show [a, b, d + (c - d)] = [a, b, c]
 congr 3; grind
theorem perm_nw {a b : List (List Rat)} (h : a.Perm b) (h23 : P23 b) (hnd : (b.map fun ps => ps.getD 0 0).Nodup) (X : Rat) : nwP a X = nwP b X := by
 obtain ⟨cs, hcl, hcs⟩ := nwP_curve a
 obtain ⟨ds, hdl, hds⟩ := nwP_curve b
 have on := thru_on (p23_perm h h23) (nd_perm h hnd) hcs
 have on' := thru_on h23 hnd hds
 rw [← hcs, ← hds]
 exact one_curve h23 hnd (by rw [← tell_perm h]; exact hcl) hdl (fun q hq => on q (h.mem_iff.mpr hq)) on' X
theorem if_and {t u : TT} {A B : TS} {D : Ends} {σ : St} {H : Hp} {b d : Bool} (ht : ∀ Q : Bool → Hp → Prop, Q b H → t σ H Q) (hu : b = true → ∀ Q : Bool → Hp → Prop, (∀ H', Same H H' → Q d H') → u σ H Q) (hA : b = true → d = true → ∀ H', Same H H' → A D σ H') (hB : ¬ (b = true ∧ d = true) → ∀ H', Same H H' → B D σ H') : tIfS (tAnd t u) A B D σ H := by
 refine ht _ ?_
 show if b = true then _ else _
 by_cases hb : b = true
 · rw [if_pos hb]
   refine hu hb _ fun H' s => ?_
   by_cases hd : d = true
   · rw [if_pos hd]; exact hA hb hd H' s
   · rw [if_neg hd]; exact hB (fun z => hd z.2) H' s
 · rw [if_neg hb]
   show if false = true then _ else _
   rw [if_neg (by decide)]
   exact hB (fun z => hb z.1) H (Same.refl _)
theorem if_andG {K : PySem.W.Frag} {n : Nat} {v : V} {t u : PySem.W.Frag → TT} {A B C : PySem.W.Frag → TS} {D D' : Ends} {σ : St} {H : Hp} {b d : Bool} (ht : ∀ Q : Bool → Hp → Prop, Q b H → t K (σ.set n (some v)) H Q) (hu : b = true → ∀ Q : Bool → Hp → Prop, (∀ H', Same H H' → Q d H') → u K (σ.set n (some v)) H Q) (hA : b = true → d = true → ∀ H', Same H H' → A K (D.to (C K D)) (σ.set n (some v)) H') (hB : ¬ (b = true ∧ d = true) → ∀ H', Same H H' → B K (D.to (C K D)) (σ.set n (some v)) H') :
   gName n v σ H (D'.to (Cl (fun {K} => tSeq (tIfS (tAnd (t K) (u K)) (A K) (B K)) (C K)) K D)).nx := if_and ht hu hA hB
theorem if_andN {K : PySem.W.Frag} {t u : PySem.W.Frag → TT} {A B C : PySem.W.Frag → TS} {D D' : Ends} {σ : St} {H : Hp} {b d : Bool} (ht : ∀ Q : Bool → Hp → Prop, Q b H → t K σ H Q) (hu : b = true → ∀ Q : Bool → Hp → Prop, (∀ H', Same H H' → Q d H') → u K σ H Q) (hA : b = true → d = true → ∀ H', Same H H' → A K (D.to (C K D)) σ H') (hB : ¬ (b = true ∧ d = true) → ∀ H', Same H H' → B K (D.to (C K D)) σ H') :
   Cl (fun {_} => tNext) K (D'.to (Cl (fun {K} => tSeq (tIfS (tAnd (t K) (u K)) (A K) (B K)) (C K)) K D)) σ H := if_and ht hu hA hB
inductive spChange (K : PySem.W.Frag) (vs : List V) (H : Hp) (Q : VK) (E_3 : XK) : Prop
 | mk (p r s : Addr) (xs zs : List V) (pss : List (List Rat)) (qs : List Rat) (h1 : vs = [.ref p, .ref r, .ref s]) (h2 : Pen H p) (h3 : SqT K H r xs) (h4 : PtsT K H xs pss) (h5 : P23 pss) (h6 : 1 ≤ pss.length) (h7 : (tell pss).length ≤ 6) (h8 : (pss.map fun ps => ps.getD 0 0).Nodup) (h9 : (∀ ps ∈ pss, ∀ q ∈ ps, RB 16 q)) (h10 : H s = some (.lst zs)) (h11 : NumsT H zs qs) (h12 : 1 ≤ qs.length) (h13 : qs.length ≤ 10) (h14 : (∀ q ∈ qs, RB 16 q)) (h15 : ∀ (o a b l : Addr) (H' : Hp) (xs1 xs2 ys : List V) (pss' : List (List Rat)), Mv p H H' → Pen H' p → SqT K H' o [.ref a, .ref b, .ref l] → SqT K H' a xs1 → PtsT K H' xs1 pss' → SqT K H' b xs2 → PtsT K H' xs2 pss' → P23 pss' → 1 ≤ pss'.length → (tell pss').length ≤ 6 → (pss'.map fun ps => ps.getD 0 0).Nodup → (∀ ps ∈ pss', ∀ q ∈ ps, RB 16 q) → SqL K H' l ys → Nums K H' ys (qs.map fun x => nwP pss' x - nwP pss x) → (∀ x ∈ qs, RB 4000000 (nwP pss' x - nwP pss x)) → Q (.ref o) H') : spChange K vs H Q E_3
section
variable {P : Program} {w : World} {K : PySem.W.Frag} {mg : Str → Option Value} {base : Heap}
theorem sc__law_pen : FnScope ["_law_script", "_law_k", "_law_cell"] ["_law_script", "_law_k"] (defScope (top 54)) := ⟨rfl, rfl, rfl, by decide +kernel, rfl, by decide +kernel, by decide +kernel⟩
set_option maxHeartbeats 4000000 in
theorem ok__law_pen {f : Addr} {fd : FuncData} (F : Fun K "_law_pen" "_law_pen" (top 54) f fd) (b_len : mg "len" = none) (hT : P.given.tree = none) :
   FnOk P w K mg base CX0 33 f fd ["_law_script", "_law_k"] (spPen K) := by
 refine F.ok sc__law_pen (fun vs H Q E h => ?_) (fun cdv A outer s H vs Q E hr h => ?_)
 · obtain ⟨_, _, _, rfl, _⟩ := h; rfl
 refine ⟨_, (pss_consC (K := K) (ps_set (i := 2) sc__law_pen.nd rfl (Or.inl rfl) (pe_op op_add (pe_op op_mulC pe_int (pv 1)) pe_int))
   (pss_consC (K := K) (ps_ifC (K := K) (pt_cmpR op_lt (pv 1) (pe_callB (lenK K) rfl b_len bt_len (pa_cons (pv 0) pa_nil)) (nomark _)) (pss_one (ps_set (i := 2) sc__law_pen.nd rfl (Or.inl rfl) (pe_ix (ixL K) (pv 0) (pv 1) (fun u v => rfl)))) (pss_one (ps_ifC (K := K) (pt_cmpR op_gt (pe_callB (lenK K) rfl b_len bt_len (pa_cons (pv 0) pa_nil)) pe_int (nomark _)) (pss_one (ps_set (i := 2) sc__law_pen.nd rfl (Or.inl rfl) (pe_op op_add (pe_ix (ixL K) (pv 0) (pe_op op_mod (pv 1) (pe_callB (lenK K) rfl b_len bt_len (pa_cons (pv 0) pa_nil))) (fun u v => rfl)) (pe_op op_mulC pe_int (pv 1))))) pss_nil (by rfl) (by rfl))) (by rfl) (by rfl))
   (pss_consC (K := K) (ps_ifC (K := K) (pt_cmpR op_ge (pv 2) (pe_op op_pow pe_int pe_int) (nomark _)) (pss_one (ps_ret (pe_lst (pa_cons (pe_op op_sub (pv 2) (pe_op op_pow pe_int pe_int)) (pa_cons (pe_op op_mod (pv 2) pe_int) (pa_cons pe_int pa_nil)))))) pss_nil (by rfl) (by rfl))
   (pss_one (ps_ret (pe_lst (pa_cons pe_int (pa_cons (pe_op op_add (pe_op op_mod (pv 2) pe_int) (pe_op op_mulC pe_int (pv 1))) (pa_cons pe_int pa_nil)))))) (by rfl)) (by rfl)) (by rfl)), ?_⟩
 obtain ⟨a, ns, k, rfl, hS, h63, h0, h62, q⟩ := h
 have hl : (ns.map V.int).length = ns.length := List.length_map _
 have P3 : 3 ≤ sizeLine := by decide
 have C1 : CPow 10 18 := by unfold CPow; decide
 refine ⟨_, rfl, _, _, rfl, rfl, .inl ⟨by decide, by decide⟩, _, _, rfl, rfl, ?_⟩
 refine ⟨_, rfl, _, rfl, a, _, rfl, .inl hS, _, _, rfl, rfl, _, rfl, ?_⟩
 rw [hl]
 have hk1 : k < (ns.length : Int) → ∃ v : Int, atI (ns.map V.int) k = some (.int v) := fun c => at_ints h0 c
 have hk2 : 0 < (ns.length : Int) → ∃ v : Int, atI (ns.map V.int) (k % (ns.length : Int)) = some (.int v) := fun c => at_ints (Int.emod_nonneg _ (by lia)) (Int.emod_lt_of_pos _ c)
 refine ite2 (fun c => ?_) (fun c => ?_)
 · obtain ⟨v, hv⟩ := (hk1 (of_decide_eq_true c))
   refine ⟨_, rfl, _, rfl, a, _, _, _, rfl, rfl, hS, hv, ?_⟩
   refine ⟨_, rfl, _, _, rfl, rfl, C1, _, _, rfl, rfl, _, rfl, ?_⟩
   refine ite2 (fun c => ?_) (fun c => ?_)
   · exact ⟨_, rfl, _, _, rfl, rfl, C1, _, _, rfl, rfl, _, rfl, _, _, rfl, rfl, (by first | decide | (dsimp only; decide)), P3, fun p hp => q p _ _ hp⟩
   · exact ⟨_, rfl, _, _, rfl, rfl, (by first | decide | (dsimp only; decide)), _, rfl, _, _, rfl, rfl, .inl ⟨by decide, by decide⟩, _, _, rfl, rfl, P3, fun p hp => q p _ _ hp⟩
 · refine ⟨_, rfl, a, _, rfl, .inl hS, _, _, rfl, rfl, _, rfl, ?_⟩
   rw [hl]
   refine ite2 (fun c => ?_) (fun c => ?_)
   · obtain ⟨v, hv⟩ := (hk2 (of_decide_eq_true c))
     have c' : 0 < (((ns.map V.int).length : Nat) : Int) := by rw [hl]; exact of_decide_eq_true c
     rw [← hl] at hv
     refine ⟨_, rfl, _, rfl, _, rfl, a, _, rfl, .inl hS, _, _, rfl, rfl, c', a, _, _, _, rfl, rfl, hS, hv, _, rfl, _, _, rfl, rfl, .inl ⟨by decide, by decide⟩, _, _, rfl, rfl, ?_⟩
     refine ⟨_, rfl, _, _, rfl, rfl, C1, _, _, rfl, rfl, _, rfl, ?_⟩
     refine ite2 (fun c => ?_) (fun c => ?_)
     · exact ⟨_, rfl, _, _, rfl, rfl, C1, _, _, rfl, rfl, _, rfl, _, _, rfl, rfl, (by first | decide | (dsimp only; decide)), P3, fun p hp => q p _ _ hp⟩
     · exact ⟨_, rfl, _, _, rfl, rfl, (by first | decide | (dsimp only; decide)), _, rfl, _, _, rfl, rfl, .inl ⟨by decide, by decide⟩, _, _, rfl, rfl, P3, fun p hp => q p _ _ hp⟩
   · refine ⟨_, rfl, _, _, rfl, rfl, C1, _, _, rfl, rfl, _, rfl, ?_⟩
     refine ite2 (fun c => ?_) (fun c => ?_)
     · exact ⟨_, rfl, _, _, rfl, rfl, C1, _, _, rfl, rfl, _, rfl, _, _, rfl, rfl, (by first | decide | (dsimp only; decide)), P3, fun p hp => q p _ _ hp⟩
     · exact ⟨_, rfl, _, _, rfl, rfl, (by first | decide | (dsimp only; decide)), _, rfl, _, _, rfl, rfl, .inl ⟨by decide, by decide⟩, _, _, rfl, rfl, P3, fun p hp => q p _ _ hp⟩
theorem sc__law_lowest : FnScope ["_law_top", "_law_bottom", "_law_one", "_law_other"] ["_law_top", "_law_bottom"] (defScope (top 56)) := ⟨rfl, rfl, rfl, by decide +kernel, rfl, by decide +kernel, by decide +kernel⟩
set_option maxHeartbeats 4000000 in
theorem ok__law_lowest {f : Addr} {fd : FuncData} (F : Fun K "_law_lowest" "_law_lowest" (top 56) f fd) (b_abs : mg "abs" = none) (hT : P.given.tree = none) :
   FnOk P w K mg base CX0 33 f fd ["_law_top", "_law_bottom"] (spLow) := by
 refine F.ok sc__law_lowest (fun vs H Q E h => ?_) (fun cdv A outer s H vs Q E hr h => ?_)
 · obtain ⟨_, _, rfl, _⟩ := h; rfl
 refine ⟨_, (pss_consC (K := K) (ps_set (i := 2) sc__law_lowest.nd rfl (Or.inl rfl) (pe_callB call_abs rfl b_abs bt_abs (pa_cons (pv 0) pa_nil)))
   (pss_consC (K := K) (ps_set (i := 3) sc__law_lowest.nd rfl (Or.inl rfl) (pe_callB call_abs rfl b_abs bt_abs (pa_cons (pv 1) pa_nil)))
   (pss_consC (K := K) (ps_while PassesOwn.never (pt_cmpR op_gt (pv 3) pe_int (nomark _)) (pss_one (ps_par (i := 2) (j := 3) rfl sc__law_lowest.nd rfl rfl (by decide) rfl rfl (pa_cons (pv 3) (pa_cons (pe_op op_mod (pv 2) (pv 3)) pa_nil)) (by with_unfolding_all rfl))))
   (pss_consC (K := K) (ps_ifC (K := K) (pt_cmpR op_lt (pv 1) pe_int (nomark _)) (pss_one (ps_set (i := 2) sc__law_lowest.nd rfl (Or.inl rfl) (pe_op op_sub pe_int (pv 2)))) pss_nil (by rfl) (by rfl))
   (pss_one (ps_ret (pe_tup (pa_cons (pe_op (op_fdivX hr hT) (pv 0) (pv 2)) (pa_cons (pe_op (op_fdivX hr hT) (pv 1) (pv 2)) pa_nil))))) (by rfl)) (by rfl)) (by rfl)) (by rfl)), ?_⟩
 obtain ⟨a, b, rfl, hb, q⟩ := h
 refine ⟨_, rfl, a, rfl, ?_⟩
 refine ⟨_, rfl, b, rfl, ?_⟩
 refine while_by (L3 H a b fun H a b σ H' => H' = H ∧ ∃ (x y : Int), σ = [some (.int a), some (.int b), some (.int x), some (.int y)] ∧ 0 ≤ x ∧ 0 ≤ y ∧ Int.gcd x y = Int.gcd a b) (fun σ _ => mu 3 σ)
   ⟨rfl, _, _, rfl, ?_, ?_, ?_⟩ ?_ ?_
 · rw [Nm.abs_if]; exact Int.natCast_nonneg _
 · rw [Nm.abs_if]; exact Int.natCast_nonneg _
 · rw [Nm.abs_if, Nm.abs_if]; rfl
 · rintro σ H' hR1
   refine anE2 hR1 fun hq1 hz3 => ?_
   refine exE2 hz3 fun x y hz3' => ?_
   clear hz3
   refine anE4 hz3' fun hq2 hx hy hg => ?_
   clear hz3'
   obtain rfl := hq1
   obtain rfl := hq2
   try clear hR1
   refine ⟨_, rfl, _, _, rfl, rfl, _, rfl, ?_⟩
   by_cases hy0 : y = 0
   · subst hy0
     refine iteF ?_
     have e : (Int.gcd a b : Int) = x := by rw [← hg, Int.gcd_zero]; lia
     subst e
     refine ⟨_, rfl, _, _, rfl, rfl, _, rfl, ?_⟩
     have hd : Nm.msr a b ≠ 0 := Nm.msr_ne hb
     have fin : ∀ p, H' p = none → Q (.ref p) (upd H' p (.tup [.int (a.fdiv (Nm.msr a b)), .int (b.fdiv (Nm.msr a b))])) := fun p hp => by
       rw [Nm.top_msr hb, Nm.bottom_msr hb]; exact q p hp
     by_cases hb0 : b < 0
     · have hd' : Nm.msr a b = 0 - (Int.gcd a b : Int) := by unfold Nm.msr; rw [if_pos hb0]; lia
       rw [hd'] at hd fin
       refine iteTc (by rw [decide_eq_true hb0] <;> rfl) ⟨_, rfl, _, _, rfl, rfl, ?_⟩
       exact ⟨_, rfl, _, rfl, _, _, rfl, rfl, hd, _, rfl, _, rfl, _, _, rfl, rfl, hd, (by decide : 2 ≤ sizeLine), fin⟩
     · have hd' : Nm.msr a b = (Int.gcd a b : Int) := by unfold Nm.msr; rw [if_neg hb0]
       rw [hd'] at hd fin
       refine iteFc (by rw [decide_eq_false hb0] <;> rfl) ?_
       exact ⟨_, rfl, _, rfl, _, _, rfl, rfl, hd, _, rfl, _, rfl, _, _, rfl, rfl, hd, (by decide : 2 ≤ sizeLine), fin⟩
   · have hyp : 0 < y := by lia
     refine iteTc (by rw [decide_eq_true hyp] <;> rfl) ?_
     refine ⟨_, rfl, _, rfl, _, rfl, _, _, rfl, rfl, hyp, _, _, rfl, ⟨rfl, y, x % y, rfl, hy, Int.emod_nonneg _ hy0, ?_⟩, ?_⟩
     · rw [Nm.gcd_turn]; exact hg
     · show (x % y).toNat < y.toNat
       have := Int.emod_lt_of_pos x hyp
       lia
 · rintro σ H' Q1 Q2 hm hR2
   obtain ⟨v, e, i, j, e1, e2, k, ek, q1⟩ := hR2
   try clear hR2
   exact ⟨v, e, i, j, e1, e2, k, ek, hm _ _ q1⟩
theorem sc__law_draw : FnScope ["_law_pen_here", "_law_many", "_law_drawn", "_law_number_here"] ["_law_pen_here", "_law_many"] (defScope (top 55)) := ⟨rfl, rfl, rfl, by decide +kernel, rfl, by decide +kernel, by decide +kernel⟩
set_option maxHeartbeats 4000000 in
theorem ok__law_draw {f : Addr} {fd : FuncData} (F : Fun K "_law_draw" "_law_draw" (top 55) f fd) (hT : P.given.tree = none) :
   FnOk P w K mg base CX0 33 f fd ["_law_pen_here", "_law_many"] (spDraw) := by
 refine F.ok sc__law_draw (fun vs H Q E h => ?_) (fun cdv A outer s H vs Q E hr h => ?_)
 · obtain ⟨_, _, rfl, _⟩ := h; rfl
 refine ⟨_, (pss_consC (K := K) (ps_asg (pe_op op_add (pe_ix (ixL K) (pv 0) pe_int (fun u v => rfl)) pe_int) (pg_sub (pv 0) pe_int set_list))
   (pss_consC (K := K) (ps_ifC (K := K) (pt_cmpR op_gt (pe_ix (ixL K) (pv 0) pe_int (fun u v => rfl)) pe_int (nomark _)) (pss_consC (K := K) (ps_set (i := 2) sc__law_draw.nd rfl (Or.inl rfl) (pe_op op_mod (pe_ix (ixL K) (pv 0) pe_int (fun u v => rfl)) (pv 1)))
   (pss_consC (K := K) (ps_asg (pe_op (op_fdivX hr hT) (pe_ix (ixL K) (pv 0) pe_int (fun u v => rfl)) (pv 1)) (pg_sub (pv 0) pe_int set_list))
   (pss_one (ps_ret (pv 2))) (by rfl)) (by rfl)) pss_nil (by rfl) (by rfl))
   (pss_consC (K := K) (ps_set (i := 3) sc__law_draw.nd rfl (Or.inl rfl) (pe_op op_mod (pe_op op_mulC (pe_op op_add (pe_op op_add (pe_ix (ixL K) (pv 0) pe_int (fun u v => rfl)) (pe_op op_mulC pe_int (pe_ix (ixL K) (pv 0) pe_int (fun u v => rfl)))) pe_int) pe_int) pe_int))
   (pss_consC (K := K) (ps_set (i := 3) sc__law_draw.nd rfl (Or.inl rfl) (pe_op op_mod (pe_op op_mulC (pv 3) (pe_op op_add (pe_op op_add (pe_op op_mod (pv 3) pe_int) (pe_ix (ixL K) (pv 0) pe_int (fun u v => rfl))) pe_int)) pe_int))
   (pss_one (ps_ret (pe_op op_mod (pe_op (op_fdivX hr hT) (pe_op op_mod (pe_op op_mulC (pv 3) (pe_op op_add (pe_op op_mod (pv 3) pe_int) pe_int)) pe_int) pe_int) (pv 1)))) (by rfl)) (by rfl)) (by rfl)) (by rfl)), ?_⟩
 obtain ⟨a, m, rfl, ⟨c0, c1, c2, hp⟩, h1, h2, q0⟩ := h
 have q : ∀ d c0' c2' : Int, 0 ≤ d → d < m → Q (.int d) (upd H a (.lst [.int c0', .int c1, .int c2'])) := fun d _ _ h3 h4 => q0 d _ h3 h4 .put .put
 have hm : m ≠ 0 := by lia
 have q' : ∀ (o : HO) (d c0' c2' : Int), 0 ≤ d → d < m → Q (.int d) (upd (upd H a o) a (.lst [.int c0', .int c1, .int c2'])) := fun o d c0' c2' h3 h4 => by rw [upd_upd]; exact q d c0' c2' h3 h4
 refine ⟨_, rfl, a, _, _, _, rfl, rfl, SqL.of hp, rfl, _, _, rfl, rfl, _, rfl, a, _, _, _, rfl, rfl, hp, rfl, ?_⟩
 refine ⟨_, rfl, a, _, _, _, rfl, rfl, SqL.of upd_same, rfl, _, _, rfl, rfl, _, rfl, ?_⟩
 refine ite2 (fun c => ?_) (fun c => ?_)
 · refine ⟨_, rfl, a, _, _, _, rfl, rfl, SqL.of upd_same, rfl, _, rfl, _, _, rfl, rfl, (by lia : 0 < m), ?_⟩
   refine ⟨_, rfl, a, _, _, _, rfl, rfl, SqL.of upd_same, rfl, _, rfl, _, _, rfl, rfl, hm, _, rfl, a, _, _, _, rfl, rfl, upd_same, rfl, ?_⟩
   refine ⟨_, rfl, ?_⟩
   exact q' _ _ _ _ (Int.emod_nonneg _ (by lia)) (Int.emod_lt_of_pos _ (by lia))
 · have cl : ∀ z : Int, 0 < z → (0 : Int) < z := fun _ h => h
   refine ⟨_, rfl, a, _, _, _, rfl, rfl, SqL.of upd_same, rfl, _, rfl, a, _, _, _, rfl, rfl, SqL.of upd_same, rfl, _, _, rfl, rfl, .inl ⟨by decide, by decide⟩, _, _, rfl, rfl, _, _, rfl, rfl, _, _, rfl, rfl, .inr (.inl ⟨by decide, by decide⟩), _, _, rfl, rfl, (by first | decide | (dsimp only; decide)), ?_⟩
   have n1 := Int.emod_nonneg ((c1 + 40503 * (c2 + 1) + 1) * 48271) (show (2147483647 : Int) ≠ 0 by decide)
   have n2 := Int.emod_lt_of_pos ((c1 + 40503 * (c2 + 1) + 1) * 48271) (show (0 : Int) < 2147483647 by decide)
   generalize hN : (c1 + 40503 * (c2 + 1) + 1) * 48271 % 2147483647 = N at n1 n2
   refine ⟨_, rfl, _, rfl, _, _, rfl, rfl, (by first | decide | (dsimp only; decide)), _, rfl, a, _, _, _, rfl, rfl, SqL.of upd_same, rfl, _, _, rfl, rfl, _, _, rfl, rfl, _, _, rfl, rfl, .inl ?_, _, _, rfl, rfl, (by first | decide | (dsimp only; decide)), ?_⟩
   · (try rw [hN]); lia
   try rw [hN]
   have n3 := Int.emod_nonneg (N * (N % 65521 + (c2 + 1) + 3)) (show (2147483629 : Int) ≠ 0 by decide)
   have n4 := Int.emod_lt_of_pos (N * (N % 65521 + (c2 + 1) + 3)) (show (0 : Int) < 2147483629 by decide)
   generalize N * (N % 65521 + (c2 + 1) + 3) % 2147483629 = M at n3 n4
   refine ⟨_, rfl, _, rfl, _, _, rfl, rfl, (by first | decide | (dsimp only; decide)), _, _, rfl, rfl, _, _, rfl, rfl, .inl ⟨by lia, by lia⟩, _, _, rfl, rfl, (by first | decide | (dsimp only; decide)), _, _, rfl, rfl, (by first | decide | (dsimp only; decide)), _, rfl, _, _, rfl, rfl, (by lia : 0 < m), ?_⟩
   exact q _ _ _ (Int.emod_nonneg _ (by lia)) (Int.emod_lt_of_pos _ (by lia))
theorem sc__law_number : FnScope ["_law_pen_here"] ["_law_pen_here"] (defScope (top 60)) := ⟨rfl, rfl, rfl, by decide +kernel, rfl, by decide +kernel, by decide +kernel⟩
set_option maxHeartbeats 4000000 in
theorem ok__law_number {f : Addr} {fd : FuncData} (F : Fun K "_law_number" "_law_number" (top 60) f fd) (F__law_lowest : Fd P w K mg base 33 "_law_lowest" ["_law_top", "_law_bottom"] (spLow)) (F__law_draw : Fd P w K mg base 33 "_law_draw" ["_law_pen_here", "_law_many"] (spDraw)) (hT : P.given.tree = none) :
   FnOk P w K mg base CX0 34 f fd ["_law_pen_here"] (spNum 8) := by
 refine F.ok sc__law_number (fun vs H Q E h => ?_) (fun cdv A outer s H vs Q E hr h => ?_)
 · obtain ⟨_, rfl, _⟩ := h; rfl
 refine ⟨_, (pss_consC (K := K) (ps_ifC (K := K) (pt_cmpR op_gt (pe_fn F__law_draw hr rfl (pa_cons (pv 0) (pa_cons pe_int pa_nil))) pe_int (nomark _)) (pss_one (ps_ret (pe_fn F__law_lowest hr rfl (pa_cons (pe_op op_sub (pe_fn F__law_draw hr rfl (pa_cons (pv 0) (pa_cons pe_int pa_nil))) pe_int) (pa_cons (pe_op op_add pe_int (pe_fn F__law_draw hr rfl (pa_cons (pv 0) (pa_cons (pe_ix (ixL K) (pe_lst (pa_cons pe_int (pa_cons pe_int pa_nil))) (pe_fn F__law_draw hr rfl (pa_cons (pv 0) (pa_cons pe_int pa_nil))) (fun u v => rfl)) pa_nil)))) pa_nil))))) pss_nil (by rfl) (by rfl))
   (pss_one (ps_ret (pe_fn F__law_lowest hr rfl (pa_cons (pe_op op_sub (pe_fn F__law_draw hr rfl (pa_cons (pv 0) (pa_cons pe_int pa_nil))) pe_int) (pa_cons (pe_op op_add pe_int (pe_fn F__law_draw hr rfl (pa_cons (pv 0) (pa_cons pe_int pa_nil)))) pa_nil))))) (by rfl)), ?_⟩
 obtain ⟨a, rfl, pn, q⟩ := h
 have b8 : ∀ x : Int, -200 < x → x < 200 → Bd 8 x := fun x h1 h2 => by unfold Bd; lia
 refine ⟨_, rfl, a, 6, rfl, pn, by decide, by decide, fun w H1 w0 w1 o1 p1 => ⟨_, _, rfl, rfl, _, rfl, ?_⟩⟩
 refine ite2 (fun c => ?_) (fun c => ?_)
 · refine ⟨_, rfl, a, 19, rfl, p1, by decide, by decide, fun d H2 d0 d1 o2 p2 => ⟨_, _, rfl, rfl, ?_⟩⟩
   refine ⟨_, rfl, (by decide : 2 ≤ sizeLine), fun l hl => ?_⟩
   refine ⟨_, rfl, a, 2, rfl, p2.same hl, by decide, by decide, fun e H3 e0 e1 o3 p3 => ?_⟩
   obtain ⟨v, hv, hm⟩ := (at_menu (xs := [1, 4]) (i := e) e0 e1)
   have hv1 : 1 ≤ v ∧ v ≤ 4 := by simp at hm; lia
   have hl3 : H3 l = some (.lst [.int 1, .int 4]) := by
     refine exE3 p2 fun x0 x1 x2 ex => ?_
     rw [o3 l (ne_of_none ex hl).symm]; exact upd_same
   refine ⟨l, _, _, _, rfl, rfl, SqL.of hl3, hv, a, v, rfl, p3, by lia, by lia, fun g H4 g0 g1 o4 p4 => ⟨_, _, rfl, rfl, _, _, rfl, by lia, fun r hr => ?_⟩⟩
   exact q _ r _ (o1.mv.trans (o2.mv.trans ((Mv.new hl).trans (o3.mv.trans (o4.mv.trans (Mv.new hr)))))) (p4.same hr) upd_same (Bd.num (b8 _ (by lia) (by lia))) (Bd.den (by lia) (b8 _ (by lia) (by lia)))
 · refine ⟨_, rfl, a, 199, rfl, p1, by decide, by decide, fun d H2 d0 d1 o2 p2 => ⟨_, _, rfl, rfl, ?_⟩⟩
   refine ⟨_, rfl, a, 9, rfl, p2, by decide, by decide, fun e H3 e0 e1 o3 p3 => ⟨_, _, rfl, rfl, _, _, rfl, by lia, fun r hr => ?_⟩⟩
   exact q _ r _ (o1.mv.trans (o2.mv.trans (o3.mv.trans (Mv.new hr)))) (p3.same hr) upd_same (Bd.num (b8 _ (by lia) (by lia))) (Bd.den (by lia) (b8 _ (by lia) (by lia)))
theorem sc__law_plus : FnScope ["_law_a", "_law_b"] ["_law_a", "_law_b"] (defScope (top 57)) := ⟨rfl, rfl, rfl, by decide +kernel, rfl, by decide +kernel, by decide +kernel⟩
set_option maxHeartbeats 4000000 in
theorem ok__law_plus {f : Addr} {fd : FuncData} (F : Fun K "_law_plus" "_law_plus" (top 57) f fd) (F__law_lowest : Fd P w K mg base 33 "_law_lowest" ["_law_top", "_law_bottom"] (spLow)) (hT : P.given.tree = none) :
   FnOk P w K mg base CX0 34 f fd ["_law_a", "_law_b"] (spBin K (· + ·)) := by
 refine F.ok sc__law_plus (fun vs H Q E h => ?_) (fun cdv A outer s H vs Q E hr h => ?_)
 · obtain ⟨_, _, _, _, _, _, rfl, _⟩ := h; rfl
 refine ⟨_, (pss_one (ps_ret (pe_fn F__law_lowest hr rfl (pa_cons (pe_op op_add (pe_op op_mulC (pe_ix (ixT K) (pv 0) pe_int (fun u v => rfl)) (pe_ix (ixT K) (pv 1) pe_int (fun u v => rfl))) (pe_op op_mulC (pe_ix (ixT K) (pv 1) pe_int (fun u v => rfl)) (pe_ix (ixT K) (pv 0) pe_int (fun u v => rfl)))) (pa_cons (pe_op op_mulC (pe_ix (ixT K) (pv 0) pe_int (fun u v => rfl)) (pe_ix (ixT K) (pv 1) pe_int (fun u v => rfl))) pa_nil))))), ?_⟩
 obtain ⟨x, y, p, q, m, n, rfl, ⟨r, rfl, hr⟩, ⟨u, rfl, hu⟩, hp, hq, hmn, k⟩ := h
 refine ⟨_, rfl, r, _, _, _, rfl, rfl, hr, rfl, _, rfl, u, _, _, _, rfl, rfl, hu, rfl, _, _, rfl, rfl, MulC.bd hp.1 hq.2, _, rfl, u, _, _, _, rfl, rfl, hu, rfl, _, rfl, r, _, _, _, rfl, rfl, hr, rfl, _, _, rfl, rfl, MulC.bd hq.1 hp.2, _, _, rfl, rfl, ?_⟩
 refine ⟨_, rfl, r, _, _, _, rfl, rfl, hr, rfl, _, rfl, u, _, _, _, rfl, rfl, hu, rfl, _, _, rfl, rfl, MulC.bd hp.2 hq.2, ?_⟩
 refine ⟨_, _, rfl, Int.mul_ne_zero (Nm.den_ne p) (Nm.den_ne q), fun z hz => ?_⟩
 have e := k z hz
 try dsimp only at e
 rw [← Nm.plus_eq] at e
 exact e
theorem sc__law_places : FnScope ["_law_pen_here", "_law_many", "_law_found", "_law_k", "_law_x"] ["_law_pen_here", "_law_many"] (defScope (top 63)) := ⟨rfl, rfl, rfl, by decide +kernel, rfl, by decide +kernel, by decide +kernel⟩
set_option maxHeartbeats 4000000 in
theorem ok__law_places {f : Addr} {fd : FuncData} (F : Fun K "_law_places" "_law_places" (top 63) f fd) (F__law_number : Fd P w K mg base 34 "_law_number" ["_law_pen_here"] (spNum 8)) (F__law_plus : Fd P w K mg base 34 "_law_plus" ["_law_a", "_law_b"] (spBin K (· + ·))) (b_range : mg "range" = none) (hT : P.given.tree = none) :
   FnOk P w K mg base CX0 35 f fd ["_law_pen_here", "_law_many"] (spPlacesT K 8) := by
 refine F.ok sc__law_places (fun vs H Q E h => ?_) (fun cdv A outer s H vs Q E hr h => ?_)
 · obtain ⟨_, _, rfl, _⟩ := h; rfl
 refine ⟨_, (pss_consC (K := K) (ps_set (i := 2) sc__law_places.nd rfl (Or.inl rfl) (pe_lst pa_nil))
   (pss_consC (K := K) (ps_forC (K := K) PassesOwn.never rfl (pi_range1 rfl b_range (pa_cons (pv 1) pa_nil)) (pg_name (i := 3) sc__law_places.nd rfl (Or.inl rfl)) (pss_consC (K := K) (ps_set (i := 4) sc__law_places.nd rfl (Or.inl rfl) (pe_fn F__law_number hr rfl (pa_cons (pv 0) pa_nil)))
   (pss_consC (K := K) (ps_while PassesOwn.never (pt_cmpR (inD K hr) (pv 4) (pv 2) (by with_unfolding_all rfl)) (pss_one (ps_set (i := 4) sc__law_places.nd rfl (Or.inl rfl) (pe_fn F__law_plus hr rfl (pa_cons (pv 4) (pa_cons (pe_tup (pa_cons pe_int (pa_cons pe_int pa_nil))) pa_nil))))))
   (pss_one (ps_expr (pe_bmK K PySem.F.plainAttrs_list PySem.F.slot_list_append PySem.F.type_list_append mt_append (pv 2) (pa_cons (pv 4) pa_nil)))) (by rfl)) (by rfl)) (by rfl))
   (pss_one (ps_ret (pv 2))) (by rfl)) (by rfl)), ?_⟩
 obtain ⟨a, m, rfl, pn, h0, h100, q⟩ := h
 have P0 : 0 ≤ sizeLine := by decide
 have P2 : 2 ≤ sizeLine := by decide
 refine ⟨P0, fun l hl => ?_⟩
 have la : l ≠ a := pn.ne' hl
 obtain ⟨M, hM⟩ : ∃ M : Nat, (M : Int) = m := ⟨m.toNat, by lia⟩
 subst hM
 refine ⟨_, rfl, (M : Int), rfl, by lia, by lia, ?_⟩
 rw [Int.toNat_natCast]
 refine for_range (n := M) (L4 a H M l fun a H M l i σ H' => Mv a H H' ∧ Pen H' a ∧ ∃ zs qs z3 z4, σ = [some (.ref a), some (.int (M : Int)), some (.ref l), z3, z4] ∧ H' l = some (.lst zs) ∧ NumsT H' zs qs ∧ qs.length = i ∧ qs.Nodup ∧ ∀ q ∈ qs, RB (8 + 8) q) ⟨Mv.new hl, pn.same hl, [], [], none, none, rfl, upd_same, .nil, rfl, List.nodup_nil, (fun _ h => nomatch h)⟩ ?_ ?_
 · rintro i σ H' hi hR1
   refine anE3 hR1 fun mv pn' hz7 => ?_
   refine exE4 hz7 fun zs qs z3 z4 hz7' => ?_
   clear hz7
   refine anE6 hz7' fun hq6 el hz hql hnd hb => ?_
   clear hz7'
   obtain rfl := hq6
   try clear hR1
   refine ⟨_, rfl, a, rfl, pn', fun x0 r H3 m3 p3 hr bn bd => ?_⟩
   have el3 := m3 _ _ la el
   have hz3 := NumsT.mv hz pn' m3
   have hzl := hz.length
   refine ⟨fun μ σ H4 => Same H3 H4 ∧ ∃ (r : Addr) (x : Rat) (j : Nat), σ = [some (.ref a), some (.int (M : Int)), some (.ref l), some (.int (0 + (i : Int))), some (.ref r)] ∧ H4 r = some (nT x) ∧ x = x0 + (j : Rat) ∧ μ = cnt x qs ∧ j + cnt x qs ≤ qs.length,
     ⟨_, Same.refl _, r, x0, 0, rfl, hr, (by have z : ((0 : Nat) : Rat) = 0 := rfl; rw [z]; grind), rfl, by have := cnt_le x0 qs; lia⟩, ?_⟩
   rintro μ σ H4 hR2
   refine anE2 hR2 fun s4 hz10 => ?_
   refine exE3 hz10 fun r' x j hz10' => ?_
   clear hz10
   refine anE5 hz10' fun hq8 hr' hx hq9 hj => ?_
   clear hz10'
   obtain rfl := hq8
   obtain rfl := hq9
   try clear hR2
   have hxb : RB (8 + 8) x := by
     rw [hx]
     exact (RB.plus ⟨bn, bd⟩ (rb_nat (j := j) (by lia))).mono (by lia)
   refine ⟨_, rfl, _, rfl, ?_⟩
   refine inN (NumV.of hr') (SqL.of (s4 _ _ el3)) (NumsT.same hz3 s4).nums ?_
   refine ⟨_, rfl, ?_⟩
   by_cases hin : x ∈ qs
   · refine iteTc (by rw [decide_eq_true hin] <;> rfl) ⟨_, fun _ _ h => h, ?_⟩
     refine ⟨_, rfl, P2, fun t ht => ⟨_, _, _, _, 8 + 8, 1, rfl, NumV.of ((Same.new ht) _ _ hr'), NumV.of (upd_same (o := nT 1)), hxb, RB.one (by decide), by lia, fun u hu => ?_⟩⟩
     refine ⟨_, cnt_lt hin, (s4.trans (Same.new ht)).trans (Same.new hu), u, x + 1, j + 1, rfl, upd_same, ?_, rfl, by have := cnt_lt hin; lia⟩
     rw [hx, Rat.natCast_add]
     have z : ((1 : Nat) : Rat) = 1 := rfl
     rw [z]; grind
   · refine iteFc (by rw [decide_eq_false hin] <;> rfl) ?_
     have el4 := s4 _ _ el3
     refine ⟨_, rfl, .inl ⟨rfl, _, SqL.of el4⟩, _, rfl, l, zs, .ref r', rfl, rfl, el4, Nat.lt_of_lt_of_le (show zs.length < 300 by lia) (by decide), ?_⟩
     refine ⟨Mv.put' ((mv.trans m3).trans s4.mv) hl, (p3.sm s4).put' la, zs ++ [.ref r'], qs ++ [x], _, _, rfl, upd_same, Paired.snoc (NumsT.put (NumsT.same hz3 s4) el4) (NumT.put ⟨_, rfl, hr'⟩ el4), by simp [hql], ?_, fun c hc => ?_⟩
     · rw [List.nodup_append]
       exact ⟨hnd, by simp, fun b hb c hc => by rw [List.mem_singleton.mp hc]; exact fun z => hin (z ▸ hb)⟩
     · rcases List.mem_append.mp hc with z | z
       · exact hb c z
       · rw [List.mem_singleton.mp z]; exact hxb
 · rintro σ H' hR3
   refine anE3 hR3 fun mv pn' hz12 => ?_
   refine exE4 hz12 fun zs qs z3 z4 hz12' => ?_
   clear hz12
   refine anE6 hz12' fun hq11 el hz hql hnd hb => ?_
   clear hz12'
   obtain rfl := hq11
   try clear hR3
   exact ⟨_, rfl, q l H' zs qs mv pn' hl el hz (by rw [hql]) hnd hb⟩
theorem sc__law_points : FnScope ["_law_pen_here", "_law_most", "_law_room", "_law_found", "_law_x"] ["_law_pen_here", "_law_most"] (defScope (top 64)) := ⟨rfl, rfl, rfl, by decide +kernel, rfl, by decide +kernel, by decide +kernel⟩
set_option maxHeartbeats 4000000 in
theorem ok__law_points {f : Addr} {fd : FuncData} (F : Fun K "_law_points" "_law_points" (top 64) f fd) (F__law_places : Fd P w K mg base 35 "_law_places" ["_law_pen_here", "_law_many"] (spPlacesT K 8)) (F__law_draw : Fd P w K mg base 33 "_law_draw" ["_law_pen_here", "_law_many"] (spDraw)) (F__law_number : Fd P w K mg base 34 "_law_number" ["_law_pen_here"] (spNum 8)) (b_tuple : mg "tuple" = none) (hT : P.given.tree = none) :
   FnOk P w K mg base CX0 36 f fd ["_law_pen_here", "_law_most"] (spPointsT K 8) := by
 refine F.ok sc__law_points (fun vs H Q E h => ?_) (fun cdv A outer s H vs Q E hr h => ?_)
 · obtain ⟨_, _, rfl, _⟩ := h; rfl
 refine ⟨_, (pss_consC (K := K) (ps_set (i := 2) sc__law_points.nd rfl (Or.inl rfl) (pe_op op_add pe_int (pe_fn F__law_draw hr rfl (pa_cons (pv 0) (pa_cons (pv 1) pa_nil)))))
   (pss_consC (K := K) (ps_set (i := 3) sc__law_points.nd rfl (Or.inl rfl) (pe_lst pa_nil))
   (pss_consC (K := K) (ps_forC (K := K) PassesOwn.never rfl (piL K (pe_fn F__law_places hr rfl (pa_cons (pv 0) (pa_cons (pv 2) pa_nil)))) (pg_name (i := 4) sc__law_points.nd rfl (Or.inl rfl)) (pss_one (ps_ifC (K := K) (PW.pt (pw_and (pt_cmpR op_gt (pv 2) pe_int (nomark _)) (pw_and1 (pt_cmpR op_eq (pe_fn F__law_draw hr rfl (pa_cons (pv 0) (pa_cons pe_int pa_nil))) pe_int (nomark _))))) (pss_consC (K := K) (ps_expr (pe_bmK K PySem.F.plainAttrs_list PySem.F.slot_list_append PySem.F.type_list_append mt_append (pv 3) (pa_cons (pe_tup (pa_cons (pv 4) (pa_cons (pe_fn F__law_number hr rfl (pa_cons (pv 0) pa_nil)) (pa_cons (pe_fn F__law_number hr rfl (pa_cons (pv 0) pa_nil)) pa_nil)))) pa_nil)))
   (pss_one (ps_set (i := 2) sc__law_points.nd rfl (Or.inl rfl) (pe_op op_sub (pv 2) pe_int))) (by rfl)) (pss_one (ps_ifC (K := K) (pt_cmpR op_gt (pv 2) pe_int (nomark _)) (pss_consC (K := K) (ps_expr (pe_bmK K PySem.F.plainAttrs_list PySem.F.slot_list_append PySem.F.type_list_append mt_append (pv 3) (pa_cons (pe_tup (pa_cons (pv 4) (pa_cons (pe_fn F__law_number hr rfl (pa_cons (pv 0) pa_nil)) pa_nil))) pa_nil)))
   (pss_one (ps_set (i := 2) sc__law_points.nd rfl (Or.inl rfl) (pe_op op_sub (pv 2) pe_int))) (by rfl)) pss_nil (by rfl) (by rfl))) (by rfl) (by rfl))) (by rfl))
   (pss_one (ps_ret (pe_callTy (tupleK K) rfl b_tuple bt_tuple (pa_cons (pv 3) pa_nil)))) (by rfl)) (by rfl)) (by rfl)), ?_⟩
 obtain ⟨a, most, rfl, pn, h1, h100, q⟩ := h
 have P0 : 0 ≤ sizeLine := by decide
 have P2 : 2 ≤ sizeLine := by decide
 have P3 : 3 ≤ sizeLine := by decide
 refine ⟨_, rfl, _, rfl, a, most, rfl, pn, h1, by lia, fun d H1 d0 d1 o1 p1 => ⟨_, _, rfl, rfl, ?_⟩⟩
 refine ⟨P0, fun l hl1 => ?_⟩
 have la : l ≠ a := p1.ne' hl1
 have hl : H l = none := Mv.free o1.mv la hl1
 obtain ⟨R, hR⟩ : ∃ R : Nat, (R : Int) = 1 + d := ⟨(1 + d).toNat, by lia⟩
 refine ⟨_, rfl, _, rfl, a, 1 + d, rfl, p1.same hl1, by lia, by lia, fun w Hw ws qs mw pw hw ew hq hql hnd hb => ⟨w, rfl, ⟨_, SqL.of ew⟩, ?_⟩⟩
 have hwl := hq.length
 have wa : w ≠ a := (p1.same (o := .lst []) hl1).ne' hw
 have wl : w ≠ l := (ne_of_none (upd_same (H := H1) (a := l) (o := .lst [])) hw).symm
 refine for_list (xs := ws) (L9 a H w ws qs most l K d fun a H w ws qs most l K d i σ H' => Mv a H H' ∧ Pen H' a ∧ H' w = some (.lst ws) ∧ NumsT H' ws qs ∧ ∃ (room : Int) (ys : List V) (pss : List (List Rat)) (z4 : Option V), σ = [some (.ref a), some (.int most), some (.int room), some (.ref l), z4] ∧ H' l = some (.lst ys) ∧ PtsT K H' ys pss ∧ P23 pss ∧ (∀ ps ∈ pss, ∀ q ∈ ps, RB (8 + 8) q) ∧ (pss.map fun ps => ps.getD 0 0) = qs.take pss.length ∧ pss.length ≤ i ∧ ((tell pss).length : Int) + room = 1 + d ∧ 0 ≤ room ∧ (room = 0 ∨ pss.length = i))
   ⟨Mv.put' o1.mv hl |>.trans mw, pw, ew, hq, 1 + d, [], [], none, rfl, mw _ _ la upd_same, .nil, (fun _ h => nomatch h), (fun _ h => nomatch h), rfl, Nat.le_refl _, by simp [tell], by lia, .inr rfl⟩ (fun i σ H' _ h => SqL.of h.2.2.1) ?_ ?_
 · rintro i v σ H' hv hR1
   obtain ⟨mv, pn', ew', hq', room, ys, pss, z4, rfl, el, hps, h23, hrb, hplc, hpi, hrm, hr0, hdone⟩ := hR1
   try clear hR1
   obtain ⟨x, hx, vx, rfl, hvx⟩ := (Paired.get hq' hv)
   have hxn : NumT H' (.ref vx) x := ⟨_, rfl, hvx⟩
   have hxb := hb x (List.mem_of_getElem? hx)
   have hiq : i < qs.length := (List.getElem?_eq_some_iff.mp hx).1
   have hyl := hps.length
   have add : ∀ (ps : List Rat), ps.getD 0 0 = x → pss.length = i → ((pss ++ [ps]).map fun ps => ps.getD 0 0) = qs.take (pss ++ [ps]).length := fun ps h0 hlen => by
     rw [List.map_append, hplc, List.length_append, List.length_singleton, hlen, List.take_add_one, hx]
     show qs.take i ++ [ps.getD 0 0] = qs.take i ++ [x]
     rw [h0]
   refine ⟨_, rfl, _, _, rfl, rfl, _, rfl, ?_⟩
   by_cases h2 : (1 : Int) < room
   · refine iteTc (by rw [decide_eq_true h2] <;> rfl) ?_
     have hlen : pss.length = i := by lia
     refine ⟨_, rfl, a, 4, rfl, pn', by decide, by decide, fun e H2 e0 e1 o2 p2 => ⟨rfl, _, rfl, ?_⟩⟩
     have el2 := o2.mv _ _ la el
     refine ite2 (fun c => ?_) (fun c => ?_)
     · refine ⟨_, rfl, .inl ⟨rfl, _, SqL.of el2⟩, _, rfl, _, rfl, a, rfl, p2, fun y1 r1 H3 m3 p3 hr1 bn1 bd1 => ⟨_, rfl, a, rfl, p3, fun y2 r2 H4 m4 p4 hr2 bn2 bd2 => ⟨P3, fun t ht => ?_⟩⟩⟩
       have M4 := (o2.mv.trans m3).trans m4
       have s5 : Same H4 (upd H4 t (.tup [.ref vx, .ref r1, .ref r2])) := Same.new ht
       have et : (upd H4 t (.tup [.ref vx, .ref r1, .ref r2])) t = some (.tup [.ref vx, .ref r1, .ref r2]) := upd_same
       have hr1' : H4 r1 = some (nT y1) := m4 r1 _ (p3.ne hr1 (nT_ne y1)) hr1
       have el5 := s5 _ _ (M4 _ _ la el)
       have tn : Nums K (upd H4 t (.tup [.ref vx, .ref r1, .ref r2])) [.ref vx, .ref r1, .ref r2] [x, y1, y2] := .cons (((hxn.mv pn' M4).same s5).num) (.cons (NumV.of (s5 _ _ hr1')) (.cons (NumV.of (s5 _ _ hr2)) .nil))
       have Mt := M4.trans s5.mv
       have hv5 := Mt vx _ (pn'.ne hvx (nT_ne x)) hvx
       have pt := p4.sm s5
       generalize upd H4 t (.tup [.ref vx, .ref r1, .ref r2]) = H5 at s5 et el5 tn Mt pt hv5 ⊢
       have pt5 : PtsT K H5 ys pss := PtsT.mv hps pn' Mt
       have nt5 : PtT K H5 (.ref t) [x, y1, y2] := ⟨t, _, vx, rfl, SqT.of et, tn, rfl, hv5⟩
       refine ⟨l, ys, .ref t, rfl, rfl, el5, Nat.lt_of_lt_of_le (show ys.length < 300 by lia) (by decide), ?_⟩
       refine ⟨_, rfl, _, _, rfl, rfl, ?_⟩
       refine ⟨Mv.put' (mv.trans Mt) hl, pt.put' la, by rw [upd_ne wl]; exact Mt _ _ wa ew', NumsT.put (NumsT.mv hq' pn' Mt) el5, room - 2, ys ++ [.ref t], pss ++ [[x, y1, y2]], some (.ref vx), ?_, upd_same, Paired.snoc (PtsT.put pt5 el5) (nt5.put el5), ?_, ?_, add _ rfl hlen, by rw [List.length_append, List.length_singleton]; lia, ?_, by lia, .inr (by rw [List.length_append, List.length_singleton]; lia)⟩
       · rfl
       · intro ps hp
         rcases List.mem_append.mp hp with z | z
         · exact h23 ps z
         · rw [List.mem_singleton.mp z]; exact .inr rfl
       · intro ps hp c hc
         rcases List.mem_append.mp hp with z | z
         · exact hrb ps z c hc
         · rw [List.mem_singleton.mp z] at hc
           rcases List.mem_cons.mp hc with z | hc
           · rw [z]; exact hxb
           · rcases List.mem_cons.mp hc with z | hc
             · rw [z]; exact RB.mono ⟨bn1, bd1⟩ (by lia)
             · rw [List.mem_singleton.mp hc]; exact RB.mono ⟨bn2, bd2⟩ (by lia)
       · rw [tell_snoc, List.length_append, tellP_length]
         show (((tell pss).length + 2 : Nat) : Int) + (room - 2) = 1 + d
         lia
     · refine ⟨_, rfl, _, _, rfl, rfl, _, rfl, ?_⟩
       refine iteTc (by rw [decide_eq_true (show (0 : Int) < room by lia)] <;> rfl) ?_
       refine ⟨_, rfl, .inl ⟨rfl, _, SqL.of el2⟩, _, rfl, _, rfl, a, rfl, p2, fun y1 r1 H3 m3 p3 hr1 bn1 bd1 => ⟨P2, fun t ht => ?_⟩⟩
       have M4 : Mv a H' H3 := o2.mv.trans m3
       have s5 : Same H3 (upd H3 t (.tup [.ref vx, .ref r1])) := Same.new ht
       have et : (upd H3 t (.tup [.ref vx, .ref r1])) t = some (.tup [.ref vx, .ref r1]) := upd_same
       have el5 := s5 _ _ (M4 _ _ la el)
       have tn : Nums K (upd H3 t (.tup [.ref vx, .ref r1])) [.ref vx, .ref r1] [x, y1] := .cons (((hxn.mv pn' M4).same s5).num) (.cons (NumV.of (s5 _ _ hr1)) .nil)
       have Mt := M4.trans s5.mv
       have hv5 := Mt vx _ (pn'.ne hvx (nT_ne x)) hvx
       have pt := p3.sm s5
       generalize upd H3 t (.tup [.ref vx, .ref r1]) = H5 at s5 et el5 tn Mt pt hv5 ⊢
       have pt5 : PtsT K H5 ys pss := PtsT.mv hps pn' Mt
       have nt5 : PtT K H5 (.ref t) [x, y1] := ⟨t, _, vx, rfl, SqT.of et, tn, rfl, hv5⟩
       refine ⟨l, ys, .ref t, rfl, rfl, el5, Nat.lt_of_lt_of_le (show ys.length < 300 by lia) (by decide), ?_⟩
       refine ⟨_, rfl, _, _, rfl, rfl, ?_⟩
       refine ⟨Mv.put' (mv.trans Mt) hl, pt.put' la, by rw [upd_ne wl]; exact Mt _ _ wa ew', NumsT.put (NumsT.mv hq' pn' Mt) el5, room - 1, ys ++ [.ref t], pss ++ [[x, y1]], some (.ref vx), ?_, upd_same, Paired.snoc (PtsT.put pt5 el5) (nt5.put el5), ?_, ?_, add _ rfl hlen, by rw [List.length_append, List.length_singleton]; lia, ?_, by lia, .inr (by rw [List.length_append, List.length_singleton]; lia)⟩
       · rfl
       · intro ps hp
         rcases List.mem_append.mp hp with z | z
         · exact h23 ps z
         · rw [List.mem_singleton.mp z]; exact .inl rfl
       · intro ps hp c hc
         rcases List.mem_append.mp hp with z | z
         · exact hrb ps z c hc
         · rw [List.mem_singleton.mp z] at hc
           rcases List.mem_cons.mp hc with z | hc
           · rw [z]; exact hxb
           · rw [List.mem_singleton.mp hc]; exact RB.mono ⟨bn1, bd1⟩ (by lia)
       · rw [tell_snoc, List.length_append, tellP_length]
         show (((tell pss).length + 1 : Nat) : Int) + (room - 1) = 1 + d
         lia
   · refine iteFc (by rw [decide_eq_false h2] <;> rfl) (iteF ?_)
     refine ⟨_, rfl, _, _, rfl, rfl, _, rfl, ?_⟩
     by_cases h0 : (0 : Int) < room
     · refine iteTc (by rw [decide_eq_true h0] <;> rfl) ?_
       have hlen : pss.length = i := by lia
       refine ⟨_, rfl, .inl ⟨rfl, _, SqL.of el⟩, _, rfl, _, rfl, a, rfl, pn', fun y1 r1 H3 m3 p3 hr1 bn1 bd1 => ⟨P2, fun t ht => ?_⟩⟩
       have M4 : Mv a H' H3 := m3
       have s5 : Same H3 (upd H3 t (.tup [.ref vx, .ref r1])) := Same.new ht
       have et : (upd H3 t (.tup [.ref vx, .ref r1])) t = some (.tup [.ref vx, .ref r1]) := upd_same
       have el5 := s5 _ _ (M4 _ _ la el)
       have tn : Nums K (upd H3 t (.tup [.ref vx, .ref r1])) [.ref vx, .ref r1] [x, y1] := .cons (((hxn.mv pn' M4).same s5).num) (.cons (NumV.of (s5 _ _ hr1)) .nil)
       have Mt := M4.trans s5.mv
       have hv5 := Mt vx _ (pn'.ne hvx (nT_ne x)) hvx
       have pt := p3.sm s5
       generalize upd H3 t (.tup [.ref vx, .ref r1]) = H5 at s5 et el5 tn Mt pt hv5 ⊢
       have pt5 : PtsT K H5 ys pss := PtsT.mv hps pn' Mt
       have nt5 : PtT K H5 (.ref t) [x, y1] := ⟨t, _, vx, rfl, SqT.of et, tn, rfl, hv5⟩
       refine ⟨l, ys, .ref t, rfl, rfl, el5, Nat.lt_of_lt_of_le (show ys.length < 300 by lia) (by decide), ?_⟩
       refine ⟨_, rfl, _, _, rfl, rfl, ?_⟩
       refine ⟨Mv.put' (mv.trans Mt) hl, pt.put' la, by rw [upd_ne wl]; exact Mt _ _ wa ew', NumsT.put (NumsT.mv hq' pn' Mt) el5, room - 1, ys ++ [.ref t], pss ++ [[x, y1]], some (.ref vx), ?_, upd_same, Paired.snoc (PtsT.put pt5 el5) (nt5.put el5), ?_, ?_, add _ rfl hlen, by rw [List.length_append, List.length_singleton]; lia, ?_, by lia, .inr (by rw [List.length_append, List.length_singleton]; lia)⟩
       · rfl
       · intro ps hp
         rcases List.mem_append.mp hp with z | z
         · exact h23 ps z
         · rw [List.mem_singleton.mp z]; exact .inl rfl
       · intro ps hp c hc
         rcases List.mem_append.mp hp with z | z
         · exact hrb ps z c hc
         · rw [List.mem_singleton.mp z] at hc
           rcases List.mem_cons.mp hc with z | hc
           · rw [z]; exact hxb
           · rw [List.mem_singleton.mp hc]; exact RB.mono ⟨bn1, bd1⟩ (by lia)
       · rw [tell_snoc, List.length_append, tellP_length]
         show (((tell pss).length + 1 : Nat) : Int) + (room - 1) = 1 + d
         lia
     · exact iteFc (by rw [decide_eq_false h0] <;> rfl) ⟨mv, pn', ew', hq', room, ys, pss, _, rfl, el, hps, h23, hrb, hplc, by lia, hrm, hr0, .inl (by lia)⟩
 · rintro σ H' hR2
   obtain ⟨mv, pn', ew', hq', room, ys, pss, z4, rfl, el, hps, h23, hrb, hplc, hpi, hrm, hr0, hdone⟩ := hR2
   try clear hR2
   have hpl : 1 ≤ pss.length := by
     have h2 := tell_length_le pss fun ps hp => by have := h23 ps hp; lia
     lia
   have la' : H' l = some (.lst ys) := el
   refine ⟨_, rfl, l, ys, rfl, .inl ⟨SqL.of el, fun r hr => ?_⟩⟩
   have sr : Same H' (upd H' r (.tup ys)) := Same.new hr
   refine q r _ ys pss (mv.trans sr.mv) (pn'.sm sr) (SqT.of upd_same) (PtsT.same hps sr) h23 hrb hpl (by lia) (by lia) ?_
   rw [hplc]
   exact (List.take_sublist _ _).nodup hnd
theorem sc_common_measure : FnScope ["one", "other", "great", "small", "rest"] ["one", "other"] (defScope (top 8)) := ⟨rfl, rfl, rfl, by decide +kernel, rfl, by decide +kernel, by decide +kernel⟩
set_option maxHeartbeats 4000000 in
theorem ok_common_measure {f : Addr} {fd : FuncData} (F : Fun K "common_measure" "common_measure" (top 8) f fd) (b_abs : mg "abs" = none) (hT : P.given.tree = none) :
   FnOk P w K mg base CX0 33 f fd ["one", "other"] (spGcd) := by
 refine F.ok sc_common_measure (fun vs H Q E h => ?_) (fun cdv A outer s H vs Q E hr h => ?_)
 · obtain ⟨_, _, rfl, _⟩ := h; rfl
 refine ⟨_, (pss_consC (K := K) (ps_set (i := 2) sc_common_measure.nd rfl (Or.inl rfl) (pe_callB call_abs rfl b_abs bt_abs (pa_cons (pv 0) pa_nil)))
   (pss_consC (K := K) (ps_set (i := 3) sc_common_measure.nd rfl (Or.inl rfl) (pe_callB call_abs rfl b_abs bt_abs (pa_cons (pv 1) pa_nil)))
   (pss_consC (K := K) (ps_while PassesOwn.never (pt_cmpR op_ne (pv 3) pe_int (nomark _)) (pss_consC (K := K) (ps_set (i := 4) sc_common_measure.nd rfl (Or.inl rfl) (pe_op op_mod (pv 2) (pv 3)))
   (pss_consC (K := K) (ps_set (i := 2) sc_common_measure.nd rfl (Or.inl rfl) (pv 3))
   (pss_one (ps_set (i := 3) sc_common_measure.nd rfl (Or.inl rfl) (pv 4))) (by rfl)) (by rfl)))
   (pss_one (ps_ret (pv 2))) (by rfl)) (by rfl)) (by rfl)), ?_⟩
 obtain ⟨a, b, rfl, q⟩ := h
 refine ⟨_, rfl, a, rfl, ?_⟩
 refine ⟨_, rfl, b, rfl, ?_⟩
 refine while_by (L3 H a b fun H a b σ H' => H' = H ∧ ∃ (x y : Int) (r : Option V), σ = [some (.int a), some (.int b), some (.int x), some (.int y), r] ∧ 0 ≤ x ∧ 0 ≤ y ∧ Int.gcd x y = Int.gcd a b) (fun σ _ => mu 3 σ)
   ⟨rfl, _, _, none, rfl, ?_, ?_, ?_⟩ ?_ ?_
 · rw [Nm.abs_if]; exact Int.natCast_nonneg _
 · rw [Nm.abs_if]; exact Int.natCast_nonneg _
 · rw [Nm.abs_if, Nm.abs_if]; rfl
 · rintro σ H' hR1
   refine anE2 hR1 fun hq19 hz21 => ?_
   refine exE3 hz21 fun x y r hz21' => ?_
   clear hz21
   refine anE4 hz21' fun hq20 hx hy hg => ?_
   clear hz21'
   obtain rfl := hq19
   obtain rfl := hq20
   try clear hR1
   refine ⟨_, rfl, rfl, _, rfl, ?_⟩
   by_cases hy0 : y = 0
   · subst hy0
     refine iteFc (by rw [decide_eq_true rfl] <;> rfl) ⟨_, rfl, ?_⟩
     have e : (Int.gcd a b : Int) = x := by rw [← hg, Int.gcd_zero]; lia
     rw [e] at q
     exact q
   · refine iteTc (by rw [decide_eq_false (fun z => hy0 (V.int.inj z))] <;> rfl) ?_
     have hyp : 0 < y := by lia
     refine ⟨_, rfl, _, rfl, _, _, rfl, rfl, hyp, ?_⟩
     refine ⟨_, rfl, _, rfl, ⟨rfl, y, x % y, _, rfl, hy, Int.emod_nonneg _ hy0, ?_⟩, ?_⟩
     · rw [Nm.gcd_turn]; exact hg
     · show (x % y).toNat < y.toNat
       have := Int.emod_lt_of_pos x hyp
       lia
 · rintro σ H' Q1 Q2 hm hR2
   obtain ⟨v, e, s1, k, ek, q1⟩ := hR2
   try clear hR2
   exact ⟨v, e, s1, k, ek, hm _ _ q1⟩
theorem sc_bottom_of : FnScope ["numbers", "bottom", "number"] ["numbers"] (defScope (top 18)) := ⟨rfl, rfl, rfl, by decide +kernel, rfl, by decide +kernel, by decide +kernel⟩
set_option maxHeartbeats 4000000 in
theorem ok_bottom_of {f : Addr} {fd : FuncData} (F : Fun K "bottom_of" "bottom_of" (top 18) f fd) (F_common_measure : Fd P w K mg base 33 "common_measure" ["one", "other"] (spGcd)) (hT : P.given.tree = none) :
   FnOk P w K mg base CX0 34 f fd ["numbers"] (spBot K) := by
 refine F.ok sc_bottom_of (fun vs H Q E h => ?_) (fun cdv A outer s H vs Q E hr h => ?_)
 · obtain ⟨_, _, _, _, _, rfl, _⟩ := h; rfl
 refine ⟨_, (pss_consC (K := K) (ps_set (i := 1) sc_bottom_of.nd rfl (Or.inl rfl) pe_int)
   (pss_consC (K := K) (ps_forC (K := K) PassesOwn.never rfl (piS K (pv 0)) (pg_name (i := 2) sc_bottom_of.nd rfl (Or.inl rfl)) (pss_one (ps_set (i := 1) sc_bottom_of.nd rfl (Or.inl rfl) (pe_op op_mulC (pv 1) (pe_op (op_fdivX hr hT) (pe_ix (ixT K) (pv 2) pe_int (fun u v => rfl)) (pe_fn F_common_measure hr rfl (pa_cons (pv 1) (pa_cons (pe_ix (ixT K) (pv 2) pe_int (fun u v => rfl)) pa_nil))))))) (by rfl))
   (pss_one (ps_ret (pv 1))) (by rfl)) (by rfl)), ?_⟩
 obtain ⟨b, r, xs, qs, n, rfl, hS, hn, hB, hz, q⟩ := h
 have hl := hn.length
 refine for_seq (b := b) (a := r) (xs := xs) rfl (L4 H r qs n fun H r qs n i σ H' => H' = H ∧ ∃ (B : Int) (z : Option V), σ = [some (.ref r), some (.int B), z] ∧ 0 < B ∧ (∀ q ∈ qs.take i, (q.den : Int) ∣ B) ∧ Bd (n * i + 1) B) ⟨rfl, 1, none, rfl, by decide, fun q hq => by simp at hq, by unfold Bd; rw [Nat.mul_zero]; decide⟩ (fun i σ H' _ p => by rw [p.1]; exact hS) ?_ ?_
 · rintro i x σ H' hx hR1
   refine anE2 hR1 fun hq23 hz25 => ?_
   refine exE2 hz25 fun B z hz25' => ?_
   clear hz25
   refine anE4 hz25' fun hq24 hB0 hdv hbd => ?_
   clear hz25'
   obtain rfl := hq23
   obtain rfl := hq24
   try clear hR1
   obtain ⟨c, hc, r', rfl, hr⟩ := (Paired.get hn hx)
   have hi : i < qs.length := (List.getElem?_eq_some_iff.mp hc).1
   have hcm : c ∈ qs := List.mem_of_getElem? hc
   have hd0 : 0 < (c.den : Int) := by have := c.den_pos; lia
   obtain ⟨l1, l2, l3⟩ := (lcm_step hB0 hd0)
   have g0 : (Int.gcd B c.den : Int) ≠ 0 := by have := Nm.gcd_pos (a := B) (b := c.den) (by lia); lia
   have bd2 : Bd n (Int.fdiv c.den (Int.gcd B c.den : Int)) := (hB c hcm).fdiv
   have hni : n * i ≤ n * qs.length := Nat.mul_le_mul_left n (by lia)
   have hnm : n * (qs.length + 2) = n * qs.length + 2 * n := by rw [Nat.mul_add]; lia
   refine ⟨_, rfl, _, rfl, r', _, _, _, rfl, rfl, hr, rfl, _, rfl, _, rfl, r', _, _, _, rfl, rfl, hr, rfl, _, _, rfl, _, _, rfl, rfl, g0, _, _, rfl, rfl, MulC.bd hbd bd2 (by lia), ?_⟩
   refine ⟨rfl, _, _, rfl, l1, fun q' hq' => ?_, ?_⟩
   · rw [List.take_add_one, hc] at hq'
     rcases List.mem_append.mp hq' with z | z
     · exact Int.dvd_trans (hdv q' z) l2
     · have : q' = c := by simpa using z
       subst this; exact l3
   · have := hbd.mul bd2
     rw [Nat.mul_add, Nat.mul_one, show n * i + n + 1 = n * i + 1 + n by lia]
     exact this
 · rintro σ H' hR2
   refine anE2 hR2 fun hq28 hz30 => ?_
   refine exE2 hz30 fun B z hz30' => ?_
   clear hz30
   refine anE4 hz30' fun hq29 hB0 hdv hbd => ?_
   clear hz30'
   obtain rfl := hq28
   obtain rfl := hq29
   try clear hR2
   rw [hl, List.take_length] at hdv
   rw [hl] at hbd
   exact ⟨_, rfl, q B hB0 hdv hbd⟩
theorem sc_tops_over : FnScope ["numbers", "bottom"] ["numbers", "bottom"] (defScope (top 19)) := ⟨rfl, rfl, rfl, by decide +kernel, rfl, by decide +kernel, by decide +kernel⟩
set_option maxHeartbeats 4000000 in
theorem ok_tops_over {f : Addr} {fd : FuncData} (F : Fun K "tops_over" "tops_over" (top 19) f fd) (hT : P.given.tree = none) :
   FnOk P w K mg base CX0 33 f fd ["numbers", "bottom"] (spTops K) := by
 refine F.ok sc_tops_over (fun vs H Q E h => ?_) (fun cdv A outer s H vs Q E hr h => ?_)
 · obtain ⟨_, _, _, _, _, _, _, rfl, _⟩ := h; rfl
 refine ⟨_, (pss_one (ps_ret (pe_lc rfl (N := ["number", "bottom"]) (nt := 1) (js := [1]) (CompOk.look (NX := ["numbers", "bottom"]) (sc := defScope (top 19)) rfl rfl (by decide +kernel)) (piS K (pv 0)) (fun u1 u2 u3 u4 u5 => (pg_name (i := 0) (show List.Nodup (["number", "bottom"] : List Str) from by decide +kernel) rfl (Or.inl rfl))) (stays_name (by decide)) (fun u1 u2 u3 u4 u5 => pts_nil) (fun u1 u2 u3 u4 u5 => (pe_op op_mulC (pe_ix (ixT K) (pv 0) pe_int (fun u v => rfl)) (pe_op (op_fdivX hr hT) (pv 1) (pe_ix (ixT K) (pv 0) pe_int (fun u v => rfl)))))))), ?_⟩
 obtain ⟨b, r, xs, qs, B, m, n, rfl, hS, hn, hbB, hbn, hmn, hz, q⟩ := h
 have hl := hn.length
 refine lc_seq (b := b) (a := r) (xs := xs) rfl (fun i zs H' => H' = H ∧ zs = ((qs.take i).map (topOf B)).map V.int) ⟨rfl, rfl⟩ (fun i zs H' hi p => ⟨by rw [p.1]; exact hS, by rw [p.2, List.length_map, List.length_map, List.length_take]; lia⟩) (by rw [hl]; exact Nat.le_of_lt (small1000 hz)) ?_ ?_
 · rintro i x zs H' hx ⟨rfl, rfl⟩
   obtain ⟨c, hc, r', rfl, hr⟩ := (Paired.get hn hx)
   have hcm : c ∈ qs := List.mem_of_getElem? hc
   have hd0 : (c.den : Int) ≠ 0 := by have := c.den_pos; lia
   refine ⟨_, rfl, r', _, _, _, rfl, rfl, hr, rfl, _, rfl, _, rfl, r', _, _, _, rfl, rfl, hr, rfl, _, _, rfl, rfl, hd0, _, _, rfl, rfl, MulC.bd (hbn c hcm) (hbB.fdiv (y := c.den)) (by lia), rfl, ?_⟩
   rw [List.take_add_one, hc, List.map_append, List.map_append]
   rfl
 · rintro zs H' ⟨rfl, rfl⟩ p hp
   rw [hl, List.take_length]
   exact q p hp
theorem sc_curve_of : FnScope ["numbers", "width"] ["numbers"] (defScope (top 17)) := ⟨rfl, rfl, rfl, by decide +kernel, rfl, by decide +kernel, by decide +kernel⟩
set_option maxHeartbeats 4000000 in
theorem ok_curve_of {f : Addr} {fd : FuncData} (F : Fun K "curve_of" "curve_of" (top 17) f fd) (b_len : mg "len" = none) (b_tuple : mg "tuple" = none) {a_NOUGHT : Addr} (c_NOUGHT : mg "NOUGHT" = some (.ref a_NOUGHT)) (n_NOUGHT : ∀ H : Hp, NumV K H (.ref a_NOUGHT) (0)) (hT : P.given.tree = none) :
   FnOk P w K mg base CX0 33 f fd ["numbers"] (spCurveOf K) := by
 refine F.ok sc_curve_of (fun vs H Q E h => ?_) (fun cdv A outer s H vs Q E hr h => ?_)
 · obtain ⟨_, _, _, rfl, _⟩ := h; rfl
 refine ⟨_, (pss_consC (K := K) (ps_set (i := 1) sc_curve_of.nd rfl (Or.inl rfl) (pe_callB (lenK K) rfl b_len bt_len (pa_cons (pv 0) pa_nil)))
   (pss_consC (K := K) (ps_while PassesOwn.never (PW.pt (pw_and (pt_cmpR op_gt (pv 1) pe_int (nomark _)) (pw_and1 (pt_cmpR (eqD K hr.units) (pe_ix (ixL K) (pv 0) (pe_op op_sub (pv 1) pe_int) (fun u v => rfl)) (pe_glob (v := .ref a_NOUGHT) rfl c_NOUGHT rfl) (nomark _))))) (pss_one (ps_set (i := 1) sc_curve_of.nd rfl (Or.inl rfl) (pe_op op_sub (pv 1) pe_int))))
   (pss_one (ps_ret (pe_callTy (tupleK K) rfl b_tuple bt_tuple (pa_cons (pe_slice (slL K) (pv 0) po_none (po_some (pv 1))) pa_nil)))) (by rfl)) (by rfl)), ?_⟩
 obtain ⟨r, xs, qs, rfl, hS, hn, hz, q⟩ := h
 have hl := hn.length
 refine ⟨_, rfl, r, xs, rfl, .inl hS, ?_⟩
 refine wh_by (L3 H r qs fun H r qs σ H' => H' = H ∧ ∃ (v : Nat), σ = [some (.ref r), some (.int (v : Int))] ∧ v ≤ qs.length ∧ ∀ j q, v ≤ j → qs[j]? = some q → q = 0) (fun σ _ => mu 1 σ) ⟨rfl, qs.length, by rw [← hl]; rfl, Nat.le_refl _, fun j q hj e => absurd (List.getElem?_eq_some_iff.mp e).1 (by lia)⟩ ?_
 rintro σ H' hR1
 refine anE2 hR1 fun hq33 hz35 => ?_
 refine exE1 hz35 fun v hz35' => ?_
 clear hz35
 refine anE3 hz35' fun hq34 hv hall => ?_
 clear hz35'
 obtain rfl := hq33
 obtain rfl := hq34
 try clear hR1
 have fin : (v = 0 ∨ ∃ q, qs[v - 1]? = some q ∧ q ≠ 0) → ∀ p, H' p = none → ∀ p', upd H' p (.lst (cutV xs none (some (v : Int)))) p' = none → Q (.ref p') (upd (upd H' p (.lst (cutV xs none (some (v : Int))))) p' (.tup (cutV xs none (some (v : Int))))) := fun hc p hp p' hp' => by
   have e : cutV xs none (some (v : Int)) = xs.take v := by
     unfold cutV
     have e1 : HT.sIx xs.length 0 none = 0 := rfl
     have e2 : HT.sIx xs.length xs.length (some (v : Int)) = min v xs.length := HT.sIx_nat _ _ v
     rw [e1, e2, List.drop_zero, Nat.sub_zero]
     apply List.ext_getElem?
     intro i
     rw [List.getElem?_take, List.getElem?_take]
     split <;> split <;> first | rfl | lia | (rename_i h1 h2; exact (List.getElem?_eq_none (by lia)).symm) | (rename_i h1 h2; exact List.getElem?_eq_none (by lia))
   have sm : Same H' (upd (upd H' p (.lst (cutV xs none (some (v : Int))))) p' (.tup (cutV xs none (some (v : Int))))) := (Same.new hp).trans (Same.new hp')
   refine q p' _ sm ⟨xs.take v, SqT.of (by rw [e]; exact upd_same), ?_⟩
   rw [← Cv.take_strip qs v hall hc]
   exact Paired.take v (Nums.same hn sm)
 refine ⟨_, rfl, _, _, rfl, rfl, _, rfl, ?_⟩
 by_cases hv0 : v = 0
 · subst hv0
   refine iteF (iteF ?_)
   exact ⟨_, rfl, _, rfl, _, rfl, r, xs, rfl, hS, fun p hp => ⟨p, _, rfl, .inl ⟨SqL.of upd_same, fun p' hp' => fin (.inl rfl) p hp p' hp'⟩⟩⟩
 · refine iteTc (by rw [decide_eq_true (show (0 : Int) < (v : Int) by lia)] <;> rfl) ?_
   have hvi : v - 1 < qs.length := by lia
   have hq : qs[v - 1]? = some qs[v - 1] := List.getElem?_eq_getElem hvi
   obtain ⟨x, hx, hxn⟩ := (Paired.get' hn hq)
   have hat : atI xs ((v : Int) - 1) = some x := by
     rw [show (v : Int) - 1 = ((v - 1 : Nat) : Int) by lia]
     exact atI_nat hx
   refine ⟨_, rfl, _, rfl, _, _, rfl, rfl, r, xs, _, x, rfl, rfl, hS, hat, ?_⟩
   refine eqN hxn (n_NOUGHT _) ?_
   refine ⟨_, rfl, ?_⟩
   by_cases hq0 : qs[v - 1] = 0
   · refine iteTc (by rw [decide_eq_true hq0] <;> rfl) (wh_go ?_)
     refine ⟨_, rfl, _, _, rfl, rfl, ⟨rfl, v - 1, ?_, by lia, fun j q' hj e => ?_⟩, ?_⟩
     · show [some (V.ref r), some (V.int ((v : Int) - 1))] = [some (V.ref r), some (V.int ((v - 1 : Nat) : Int))]
       rw [show (v : Int) - 1 = ((v - 1 : Nat) : Int) by lia]
     · by_cases hjv : v ≤ j
       · exact hall j q' hjv e
       · have : j = v - 1 := by lia
         subst this
         rw [hq] at e
         cases e
         exact hq0
     · show ((v : Int) - 1).toNat < (v : Int).toNat
       lia
   · refine iteFc (by rw [decide_eq_false hq0] <;> rfl) ?_
     exact ⟨_, rfl, _, rfl, _, rfl, r, xs, rfl, hS, fun p hp => ⟨p, _, rfl, .inl ⟨SqL.of upd_same, fun p' hp' => fin (.inr ⟨_, hq, hq0⟩) p hp p' hp'⟩⟩⟩
theorem sc_number_of : FnScope ["top", "bottom", "measure"] ["top", "bottom"] (defScope (top 10)) := ⟨rfl, rfl, rfl, by decide +kernel, rfl, by decide +kernel, by decide +kernel⟩
set_option maxHeartbeats 4000000 in
theorem ok_number_of {f : Addr} {fd : FuncData} (F : Fun K "number_of" "number_of" (top 10) f fd) (F_common_measure : Fd P w K mg base 33 "common_measure" ["one", "other"] (spGcd)) (hT : P.given.tree = none) :
   FnOk P w K mg base CX0 34 f fd ["top", "bottom"] (spLow) := by
 refine F.ok sc_number_of (fun vs H Q E h => ?_) (fun cdv A outer s H vs Q E hr h => ?_)
 · obtain ⟨_, _, rfl, _⟩ := h; rfl
 refine ⟨_, (pss_consC (K := K) (ps_ifC (K := K) (pt_cmpR op_eq (pv 1) pe_int (nomark _)) (pss_one ps_never) pss_nil (by rfl) (by rfl))
   (pss_consC (K := K) (ps_set (i := 2) sc_number_of.nd rfl (Or.inl rfl) (pe_fn F_common_measure hr rfl (pa_cons (pv 0) (pa_cons (pv 1) pa_nil))))
   (pss_consC (K := K) (ps_ifC (K := K) (pt_cmpR op_lt (pv 1) pe_int (nomark _)) (pss_one (ps_set (i := 2) sc_number_of.nd rfl (Or.inl rfl) (pe_un un_neg (pv 2)))) pss_nil (by rfl) (by rfl))
   (pss_one (ps_ret (pe_tup (pa_cons (pe_op (op_fdivX hr hT) (pv 0) (pv 2)) (pa_cons (pe_op (op_fdivX hr hT) (pv 1) (pv 2)) pa_nil))))) (by rfl)) (by rfl)) (by rfl)), ?_⟩
 obtain ⟨a, b, rfl, hb, q⟩ := h
 refine ⟨_, rfl, rfl, _, rfl, ?_⟩
 refine iteFc (by rw [decide_eq_false (fun z => hb (V.int.inj z))] <;> rfl) ?_
 refine ⟨_, rfl, _, rfl, a, b, rfl, ?_⟩
 refine ⟨_, rfl, _, _, rfl, rfl, _, rfl, ?_⟩
 have hd : Nm.msr a b ≠ 0 := Nm.msr_ne hb
 have fin : ∀ p, H p = none → Q (.ref p) (upd H p (.tup [.int (a.fdiv (Nm.msr a b)), .int (b.fdiv (Nm.msr a b))])) := fun p hp => by
   rw [Nm.top_msr hb, Nm.bottom_msr hb]; exact q p hp
 by_cases hb0 : b < 0
 · have hd' : Nm.msr a b = -(Int.gcd a b : Int) := by unfold Nm.msr; rw [if_pos hb0]
   rw [hd'] at hd fin
   refine iteTc (by rw [decide_eq_true hb0] <;> rfl) ⟨_, rfl, _, rfl, ?_⟩
   exact ⟨_, rfl, _, rfl, _, _, rfl, rfl, hd, _, rfl, _, rfl, _, _, rfl, rfl, hd, (by decide : 2 ≤ sizeLine), fin⟩
 · have hd' : Nm.msr a b = (Int.gcd a b : Int) := by unfold Nm.msr; rw [if_neg hb0]
   rw [hd'] at hd fin
   refine iteFc (by rw [decide_eq_false hb0] <;> rfl) ?_
   exact ⟨_, rfl, _, rfl, _, _, rfl, rfl, hd, _, rfl, _, rfl, _, _, rfl, rfl, hd, (by decide : 2 ≤ sizeLine), fin⟩
theorem sc_curve_over : FnScope ["tops", "bottom"] ["tops", "bottom"] (defScope (top 20)) := ⟨rfl, rfl, rfl, by decide +kernel, rfl, by decide +kernel, by decide +kernel⟩
set_option maxHeartbeats 4000000 in
theorem ok_curve_over {f : Addr} {fd : FuncData} (F : Fun K "curve_over" "curve_over" (top 20) f fd) (F_curve_of : Fd P w K mg base 33 "curve_of" ["numbers"] (spCurveOf K)) (F_number_of : Fd P w K mg base 34 "number_of" ["top", "bottom"] (spLow)) (hT : P.given.tree = none) :
   FnOk P w K mg base CX0 35 f fd ["tops", "bottom"] (spCurveOver K) := by
 refine F.ok sc_curve_over (fun vs H Q E h => ?_) (fun cdv A outer s H vs Q E hr h => ?_)
 · obtain ⟨_, _, _, rfl, _⟩ := h; rfl
 refine ⟨_, (pss_one (ps_ret (pe_fn F_curve_of hr rfl (pa_cons (pe_lc rfl (N := ["top", "bottom"]) (nt := 1) (js := [1]) (CompOk.look (NX := ["tops", "bottom"]) (sc := defScope (top 20)) rfl rfl (by decide +kernel)) (piS K (pv 0)) (fun u1 u2 u3 u4 u5 => (pg_name (i := 0) (show List.Nodup (["top", "bottom"] : List Str) from by decide +kernel) rfl (Or.inl rfl))) (stays_name (by decide)) (fun u1 u2 u3 u4 u5 => pts_nil) (fun u1 u2 u3 u4 u5 => (pe_fn F_number_of hr rfl (pa_cons (pv 0) (pa_cons (pv 1) pa_nil))))) pa_nil)))), ?_⟩
 obtain ⟨l, ts, b, rfl, hS, hb, hz, q⟩ := h
 have ll : (ts.map V.int).length = ts.length := List.length_map _
 refine lc_seq (b := true) (a := l) (xs := ts.map V.int) rfl (L4 H K ts b fun H K ts b i zs H' => Same H H' ∧ zs.length = i ∧ Nums K H' zs ((ts.take i).map fun t => Rat.divInt t b)) ⟨Same.refl _, rfl, .nil⟩ (fun i zs H' _ p => ⟨Same.seq p.1 hS, p.2.1⟩) (by rw [ll]; exact Nat.le_of_lt (small1000 hz)) ?_ ?_
 · rintro i x zs H' hx ⟨sm, hl, hn⟩
   rw [List.getElem?_map] at hx
   cases et : ts[i]? with
   | none => rw [et] at hx; cases hx
   | some t =>
     rw [et] at hx
     cases hx
     refine ⟨_, rfl, _, rfl, t, b, rfl, hb, fun p hp => ⟨sm.trans (Same.new hp), by simp [hl], ?_⟩⟩
     rw [List.take_add_one, et, List.map_append]
     exact Paired.snoc (Nums.same hn (Same.new hp)) (NumV.of upd_same)
 · rintro zs H' ⟨sm, hl, hn⟩ p hp
   rw [ll, List.take_length] at hn
   refine ⟨p, zs, _, rfl, SqL.of upd_same, Nums.same hn (Same.new hp), by rw [List.length_map]; exact hz, fun r H2 s2 c => q r H2 ((sm.trans (Same.new hp)).trans s2) c⟩
theorem sc_whole_product : FnScope ["first", "second", "product", "k", "j"] ["first", "second"] (defScope (top 21)) := ⟨rfl, rfl, rfl, by decide +kernel, rfl, by decide +kernel, by decide +kernel⟩
set_option maxHeartbeats 4000000 in
theorem ok_whole_product {f : Addr} {fd : FuncData} (F : Fun K "whole_product" "whole_product" (top 21) f fd) (b_range : mg "range" = none) (b_len : mg "len" = none) (hT : P.given.tree = none) :
   FnOk P w K mg base CX0 33 f fd ["first", "second"] (spProd K) := by
 refine F.ok sc_whole_product (fun vs H Q E h => ?_) (fun cdv A outer s H vs Q E hr h => ?_)
 · obtain ⟨_, _, _, _, _, _, rfl, _⟩ := h; rfl
 refine ⟨_, (pss_consC (K := K) (ps_set (i := 2) sc_whole_product.nd rfl (Or.inl rfl) (pe_op op_rep (pe_lst (pa_cons pe_int pa_nil)) (pe_op op_sub (pe_op op_add (pe_callB (lenK K) rfl b_len bt_len (pa_cons (pv 0) pa_nil)) (pe_callB (lenK K) rfl b_len bt_len (pa_cons (pv 1) pa_nil))) pe_int)))
   (pss_consC (K := K) (ps_forC (K := K) PassesOwn.never rfl (pi_range1 rfl b_range (pa_cons (pe_callB (lenK K) rfl b_len bt_len (pa_cons (pv 0) pa_nil)) pa_nil)) (pg_name (i := 3) sc_whole_product.nd rfl (Or.inl rfl)) (pss_one (ps_forC (K := K) PassesOwn.never rfl (pi_range1 rfl b_range (pa_cons (pe_callB (lenK K) rfl b_len bt_len (pa_cons (pv 1) pa_nil)) pa_nil)) (pg_name (i := 4) sc_whole_product.nd rfl (Or.inl rfl)) (pss_one (ps_asg (pe_op op_add (pe_ix (ixL K) (pv 2) (pe_op op_add (pv 3) (pv 4)) (fun u v => rfl)) (pe_op op_mulC (pe_ix (ixL K) (pv 0) (pv 3) (fun u v => rfl)) (pe_ix (ixL K) (pv 1) (pv 4) (fun u v => rfl)))) (pg_sub (pv 2) (pe_op op_add (pv 3) (pv 4)) set_list))) (by rfl))) (by rfl))
   (pss_one (ps_ret (pv 2))) (by rfl)) (by rfl)), ?_⟩
 obtain ⟨f, g, fs, gs, m, n, rfl, hf, hg, hg1, hf1000, hg1000, hbf, hbg, hmn, q⟩ := h
 have lf : (fs.map V.int).length = fs.length := List.length_map _
 have lg : (gs.map V.int).length = gs.length := List.length_map _
 have P1 : 1 ≤ sizeLine := by decide
 have hfg : fs.length * gs.length ≤ 1000 * 1000 := Nat.mul_le_mul hf1000 hg1000
 refine ⟨P1, fun o ho => ?_⟩
 have hf0 : SqL K (upd H o (.lst [.int 0])) f (fs.map V.int) := sq_new hf ho
 have hg0 : SqL K (upd H o (.lst [.int 0])) g (gs.map V.int) := sq_new hg ho
 refine ⟨_, rfl, f, _, rfl, .inl hf0, _, rfl, g, _, rfl, .inl hg0, _, _, rfl, rfl, _, _, rfl, rfl, o, _, _, rfl, rfl, upd_same, ?_, ?_, ?_, fun p hp => ?_⟩
 · rw [lf, lg]; lia
 · rw [lf, lg]; lia
 · show 1 * (((fs.map V.int).length : Int) + ((gs.map V.int).length : Int) - 1).toNat ≤ sizeLine
   rw [lf, lg, Nat.one_mul]
   exact Nat.le_trans (nat_sumle hf1000 hg1000) (by decide : 2 * 1000 ≤ sizeLine)
 have hpH : H p = none := by
   cases z : H p with
   | none => rfl
   | some u => rw [(Same.new ho) p u z] at hp; cases hp
 have eL : (((fs.map V.int).length : Int) + ((gs.map V.int).length : Int) - 1).toNat = fs.length + gs.length - 1 := by rw [lf, lg]; exact nat_sum1 hg1
 rw [eL]
 have s0 : Same H (upd (upd H o (.lst [.int 0])) p (.lst (List.replicate (fs.length + gs.length - 1) [V.int 0]).flatten)) := (Same.new ho).trans (Same.new hp)
 have e0 : (List.replicate (fs.length + gs.length - 1) [V.int 0]).flatten = (List.replicate (fs.length + gs.length - 1) (0 : Int)).map V.int := by rw [List.flatten_replicate_singleton, List.map_replicate]
 rw [e0] at s0 ⊢
 refine ⟨_, rfl, f, _, rfl, .inl (Same.seq s0 hf), _, rfl, by rw [lf]; lia, by rw [lf]; lia, ?_⟩
 rw [lf, Int.toNat_natCast]
 refine for_range (n := fs.length) (L8 H f g p fs gs m n fun H f g p fs gs m n i σ H' => Same H H' ∧ ∃ (ps : List Int) (z3 z4 : Option V), σ = [some (.ref f), some (.ref g), some (.ref p), z3, z4] ∧ H' p = some (.lst (ps.map V.int)) ∧ ps.length = fs.length + gs.length - 1 ∧ (∀ x, Cv.evI ps x = Cv.evI (fs.take i) x * Cv.evI gs x) ∧ ∀ t ∈ ps, Up (i * gs.length) (m + n) t)
   ⟨s0, _, none, none, rfl, upd_same, List.length_replicate, fun x => ?_, fun t ht => ?_⟩ ?_ ?_
 · rw [Cv.evI_zeros, List.take_zero]
   show (0 : Rat) = 0 * _
   grind
 · rw [(List.mem_replicate.mp ht).2]; exact Nat.zero_le _
 · rintro i σ H' hi hR1
   refine anE2 hR1 fun sm hz37 => ?_
   refine exE3 hz37 fun ps z3 z4 hz37' => ?_
   clear hz37
   refine anE5 hz37' fun hq36 ep hpl hev hup => ?_
   clear hz37'
   obtain rfl := hq36
   try clear hR1
   have hfi : fs[i]? = some fs[i] := List.getElem?_eq_getElem hi
   refine ⟨_, rfl, g, _, rfl, .inl (Same.seq sm hg), _, rfl, by rw [lg]; lia, by rw [lg]; lia, ?_⟩
   rw [lg, Int.toNat_natCast]
   refine for_range (n := gs.length) (fun j σ H' => Same H H' ∧ ∃ (ps : List Int) (z4 : Option V), σ = [some (.ref f), some (.ref g), some (.ref p), some (.int (0 + (i : Int))), z4] ∧ H' p = some (.lst (ps.map V.int)) ∧ ps.length = fs.length + gs.length - 1 ∧ (∀ x, Cv.evI ps x = Cv.evI (fs.take i) x * Cv.evI gs x + (fs[i] : Rat) * x ^ i * Cv.evI (gs.take j) x) ∧ ∀ t ∈ ps, Up (i * gs.length + j) (m + n) t)
     ⟨sm, ps, z4, rfl, ep, hpl, fun x => ?_, hup⟩ ?_ ?_
   · rw [hev x, List.take_zero]
     show _ = _ + _ * (0 : Rat)
     grind
   · rintro j σ H2 hj hR2
     refine anE2 hR2 fun sm2 hz39 => ?_
     refine exE2 hz39 fun ps2 z4' hz39' => ?_
     clear hz39
     refine anE5 hz39' fun hq38 ep2 hpl2 hev2 hup2 => ?_
     clear hz39'
     obtain rfl := hq38
     try clear hR2
     have hgj : gs[j]? = some gs[j] := List.getElem?_eq_getElem hj
     have hij : i + j < ps2.length := nat_ij hi hj hpl2
     have hpj : ps2[i + j]? = some ps2[i + j] := List.getElem?_eq_getElem hij
     have bm : MulC fs[i] gs[j] := MulC.bd (hbf _ (List.getElem_mem hi)) (hbg _ (List.getElem_mem hj)) (by lia)
     refine ⟨_, rfl, _, rfl, _, rfl, _, _, rfl, rfl, p, _, _, _, rfl, rfl, SqL.of ep2, at_plus hpj (by lia), _, rfl, _, rfl, f, _, _, _, rfl, rfl, Same.seq sm2 hf, at_plus hfi (by lia), _, rfl, _, rfl, g, _, _, _, rfl, rfl, Same.seq sm2 hg, at_plus hgj (by lia), _, _, rfl, rfl, bm, _, _, rfl, rfl, ?_⟩
     refine ⟨_, rfl, _, rfl, _, rfl, _, _, rfl, rfl, p, _, _, i + j, rfl, rfl, ep2, ixN_plus (by rw [List.length_map]; exact hij) (by lia), ?_⟩
     refine ⟨sm2.put hpH, ps2.set (i + j) (ps2[i + j] + fs[i] * gs[j]), _, rfl, ?_, by rw [List.length_set]; exact hpl2, fun x => ?_, fun t ht => ?_⟩
     · rw [upd_same, List.map_set]
     · rw [Cv.evI_set x ps2 (i + j) _ _ hpj, hev2 x, Cv.evI_take_succ x gs j _ hgj, Rat.intCast_mul, Nm.pow_add]
       grind
     · rcases List.mem_or_eq_of_mem_set ht with z | z
       · exact (hup2 t z).mono (by lia)
       · subst z
         exact (hup2 _ (List.getElem_mem hij)).add ((hbf _ (List.getElem_mem hi)).mul (hbg _ (List.getElem_mem hj)))
   · rintro σ H2 hR3
     refine anE2 hR3 fun sm2 hz41 => ?_
     refine exE2 hz41 fun ps2 z4' hz41' => ?_
     clear hz41
     refine anE5 hz41' fun hq40 ep2 hpl2 hev2 hup2 => ?_
     clear hz41'
     obtain rfl := hq40
     try clear hR3
     refine ⟨sm2, ps2, _, _, rfl, ep2, hpl2, fun x => ?_, fun t ht => ?_⟩
     · rw [hev2 x, List.take_length, Cv.evI_take_succ x fs i _ hfi]
       grind
     · have := hup2 t ht
       rw [Nat.add_mul, Nat.one_mul]
       exact this
 · rintro σ H' hR4
   refine anE2 hR4 fun sm hz43 => ?_
   refine exE3 hz43 fun ps z3 z4 hz43' => ?_
   clear hz43
   refine anE5 hz43' fun hq42 ep hpl hev hup => ?_
   clear hz43'
   obtain rfl := hq42
   try clear hR4
   refine ⟨_, rfl, q p H' ps sm hpH ep hpl (fun x => ?_) (fun t ht => ?_)⟩
   · rw [hev x, List.take_length]
   · exact (hup t ht).bd (k := 20) (by lia)
theorem sc_by_steps : FnScope ["knots", "steps", "bottom", "step_tops", "tops", "scale", "k"] ["knots", "steps"] (defScope (top 36)) := ⟨rfl, rfl, rfl, by decide +kernel, rfl, by decide +kernel, by decide +kernel⟩
set_option maxHeartbeats 4000000 in
theorem ok_by_steps {f : Addr} {fd : FuncData} (F : Fun K "by_steps" "by_steps" (top 36) f fd) (F_bottom_of : Fd P w K mg base 34 "bottom_of" ["numbers"] (spBot K)) (F_tops_over : Fd P w K mg base 33 "tops_over" ["numbers", "bottom"] (spTops K)) (F_curve_over : Fd P w K mg base 35 "curve_over" ["tops", "bottom"] (spCurveOver K)) (F_whole_product : Fd P w K mg base 33 "whole_product" ["first", "second"] (spProd K)) (b_range : mg "range" = none) (b_len : mg "len" = none) (hT : P.given.tree = none) :
   FnOk P w K mg base CX0 36 f fd ["knots", "steps"] (spBySteps K) := by
 refine F.ok sc_by_steps (fun vs H Q E h => ?_) (fun cdv A outer s H vs Q E hr h => ?_)
 · obtain ⟨_, _, _, _, _, _, _, rfl, _⟩ := h; rfl
 refine ⟨_, (pss_consC (K := K) (ps_set (i := 2) sc_by_steps.nd rfl (Or.inl rfl) (pe_fn F_bottom_of hr rfl (pa_cons (pv 1) pa_nil)))
   (pss_consC (K := K) (ps_set (i := 3) sc_by_steps.nd rfl (Or.inl rfl) (pe_fn F_tops_over hr rfl (pa_cons (pv 1) (pa_cons (pv 2) pa_nil))))
   (pss_consC (K := K) (ps_set (i := 4) sc_by_steps.nd rfl (Or.inl rfl) (pe_lst pa_nil))
   (pss_consC (K := K) (ps_set (i := 5) sc_by_steps.nd rfl (Or.inl rfl) pe_int)
   (pss_consC (K := K) (ps_forC (K := K) PassesOwn.never rfl (pi_down rfl b_range (pa_cons (pe_op op_sub (pe_callB (lenK K) rfl b_len bt_len (pa_cons (pv 0) pa_nil)) pe_int) (pa_cons (pe_un un_neg pe_int) (pa_cons (pe_un un_neg pe_int) pa_nil)))) (pg_name (i := 6) sc_by_steps.nd rfl (Or.inl rfl)) (pss_consC (K := K) (ps_set (i := 4) sc_by_steps.nd rfl (Or.inl rfl) (pe_fn F_whole_product hr rfl (pa_cons (pv 4) (pa_cons (pe_lst (pa_cons (pe_un un_neg (pe_ix (ixT K) (pe_ix (ixL K) (pv 0) (pv 6) (fun u v => rfl)) pe_int (fun u v => rfl))) (pa_cons (pe_ix (ixT K) (pe_ix (ixL K) (pv 0) (pv 6) (fun u v => rfl)) pe_int (fun u v => rfl)) pa_nil))) pa_nil))))
   (pss_consC (K := K) (ps_set (i := 5) sc_by_steps.nd rfl (Or.inl rfl) (pe_op op_mulC (pv 5) (pe_ix (ixT K) (pe_ix (ixL K) (pv 0) (pv 6) (fun u v => rfl)) pe_int (fun u v => rfl))))
   (pss_one (ps_asg (pe_op op_add (pe_ix (ixL K) (pv 4) pe_int (fun u v => rfl)) (pe_op op_mulC (pe_ix (ixL K) (pv 3) (pv 6) (fun u v => rfl)) (pv 5))) (pg_sub (pv 4) pe_int set_list))) (by rfl)) (by rfl)) (by rfl))
   (pss_one (ps_ret (pe_fn F_curve_over hr rfl (pa_cons (pv 4) (pa_cons (pe_op op_mulC (pv 2) (pv 5)) pa_nil))))) (by rfl)) (by rfl)) (by rfl)) (by rfl)) (by rfl)), ?_⟩
 obtain ⟨rk, rst, xs, ys, ks, ss, n, rfl, hk, hnk, hs, hns, hlen, h30, hbk, hbs, hn4, q⟩ := h
 have hlk := hnk.length
 have hls := hns.length
 have P0 : 0 ≤ sizeLine := by decide
 have P2 : 2 ≤ sizeLine := by decide
 have hnq : n * ks.length ≤ 2048000 * 12 := Nat.mul_le_mul hn4 h30
 have hnq' : n * ss.length = n * ks.length := by rw [hlen]
 refine ⟨_, rfl, true, rst, ys, ss, n, rfl, hs, hns, (fun c hc => (hbs c hc).2), by rw [Nat.mul_add]; lia, fun B hB0 hdv hbB => ?_⟩
 refine ⟨_, rfl, _, rfl, true, rst, ys, ss, B, n * ss.length + 1, n, rfl, hs, hns, hbB, (fun c hc => (hbs c hc).1), by lia, by lia, fun st h1 => ?_⟩
 refine ⟨P0, fun tp h2 => ?_⟩
 have s2 : Same H (upd (upd H st (.lst ((ss.map (topOf B)).map V.int))) tp (.lst [])) := (Same.new h1).trans (Same.new h2)
 have est : (upd (upd H st (.lst ((ss.map (topOf B)).map V.int))) tp (.lst [])) st = some (.lst ((ss.map (topOf B)).map V.int)) := (Same.new h2) _ _ upd_same
 have etp : (upd (upd H st (.lst ((ss.map (topOf B)).map V.int))) tp (.lst [])) tp = some (.lst (([] : List Int).map V.int)) := upd_same
 generalize upd (upd H st (.lst ((ss.map (topOf B)).map V.int))) tp (.lst []) = H2 at s2 est etp ⊢
 refine ⟨_, rfl, rk, xs, rfl, .inl (Same.seq s2 hk), _, _, rfl, rfl, _, rfl, _, rfl, _, _, rfl, ⟨by lia, by lia, by decide, by decide⟩, ?_⟩
 have eT : ((xs.length : Int) - 1 - -1).toNat = ks.length := nat_all hlk
 rw [eT]
 refine for_down (n := ks.length) (L8 H2 rk rst B st ks ss n fun H2 rk rst B st ks ss n i σ H' => Same H2 H' ∧ ∃ (tp : Addr) (ts : List Int) (s : Int) (z : Option V), σ = [some (.ref rk), some (.ref rst), some (.int B), some (.ref st), some (.ref tp), some (.int s), z] ∧ H' tp = some (.lst (ts.map V.int)) ∧ ts.length = i ∧ s ≠ 0 ∧
   (∀ x, Cv.evI ts x = newton (ks.drop (ks.length - i)) (ss.drop (ks.length - i)) x * ((B : Rat) * (s : Rat))) ∧ (∀ t ∈ ts, Bd (n * ks.length + n * i + 21 * i + 2 * n + 30) t) ∧ Bd (n * i + 1) s)
   ⟨Same.refl _, tp, [], 1, none, rfl, etp, rfl, by decide, fun x => ?_, (fun _ h => nomatch h), ?_⟩ ?_ ?_
 · rw [Nat.sub_zero, List.drop_eq_nil_of_le (Nat.le_refl _)]
   show (0 : Rat) = 0 * _
   grind
 · exact (show Bd 1 1 by unfold Bd; decide).mono (by lia)
 · rintro i σ H' hi hR1
   refine anE2 hR1 fun sm hz45 => ?_
   refine exE4 hz45 fun tp' ts s z hz45' => ?_
   clear hz45
   refine anE7 hz45' fun hq44 etp' htl hs0 he hbt hbsc => ?_
   clear hz45'
   obtain rfl := hq44
   try clear hR1
   have hj : ks.length - 1 - i < ks.length := nat_lt hi
   have hj2 : ks.length - 1 - i < ss.length := by lia
   have hkq : ks[ks.length - 1 - i]? = some ks[ks.length - 1 - i] := List.getElem?_eq_getElem hj
   have hsq : ss[ks.length - 1 - i]? = some ss[ks.length - 1 - i] := List.getElem?_eq_getElem hj2
   have hcm : ks[ks.length - 1 - i] ∈ ks := List.getElem_mem hj
   have hsm : ss[ks.length - 1 - i] ∈ ss := List.getElem_mem hj2
   generalize ks[ks.length - 1 - i] = c at hkq hcm
   generalize ss[ks.length - 1 - i] = d at hsq hsm
   obtain ⟨xk, hxk, rk', rfl, hrk⟩ := (Paired.get' hnk hkq)
   have ei : (xs.length : Int) - 1 - (i : Int) = ((ks.length - 1 - i : Nat) : Int) := nat_back hlk hi
   have hat : atI xs ((xs.length : Int) - 1 - (i : Int)) = some (.ref rk') := by rw [ei]; exact atI_nat hxk
   have hat2 : atI ((ss.map (topOf B)).map V.int) ((xs.length : Int) - 1 - (i : Int)) = some (.int (topOf B d)) := at_plus (by rw [List.getElem?_map, hsq]; rfl) ei
   have hni : n * i ≤ n * ks.length := Nat.mul_le_mul_left n (by lia)
   have hni1 : n * (i + 1) = n * i + n := by rw [Nat.mul_add, Nat.mul_one]
   have bt : Bd (n * ks.length + n + 1) (topOf B d) := ((hbs d hsm).1.mul (hbB.fdiv (y := d.den))).mono (by lia)
   have sH := s2.trans sm
   have hrk1 := hrk.same sH
   refine ⟨_, rfl, _, rfl, _, rfl, rk, xs, _, _, rfl, rfl, Same.seq sH hk, hat, rk', _, _, _, rfl, rfl, hrk1, rfl, _, rfl, _, rfl, _, rfl, rk, xs, _, _, rfl, rfl, Same.seq sH hk, hat, rk', _, _, _, rfl, rfl, hrk1, rfl, P2, fun g hg => ?_⟩
   have sg : Same H' (upd H' g (.lst [.int (-c.num), .int (c.den : Int)])) := Same.new hg
   have eg : (upd H' g (.lst [.int (-c.num), .int (c.den : Int)])) g = some (.lst ([-c.num, (c.den : Int)].map V.int)) := upd_same
   generalize upd H' g (.lst [.int (-c.num), .int (c.den : Int)]) = Hg at sg eg ⊢
   have blin : ∀ t ∈ [-c.num, (c.den : Int)], Bd n t := fun t ht => by
     rcases List.mem_cons.mp ht with z | z
     · subst z; exact (hbk c hcm).1.neg
     · rw [List.mem_singleton.mp z]; exact (hbk c hcm).2
   refine ⟨tp', g, ts, [-c.num, (c.den : Int)], n * ks.length + n * i + 21 * i + 2 * n + 30, n, rfl, SqL.of (sg _ _ etp'), SqL.of eg, (show 1 ≤ 2 by decide), by lia, (show 2 ≤ 1000 by decide), hbt, blin, by lia, fun pr H6 ps s6 hpr epr hpl hpe hpb => ?_⟩
   have hpl' : ps.length = i + 1 := by rw [hpl, htl]; rfl
   have hp0 : 0 < ps.length := by rw [hpl']; exact Nat.succ_pos i
   have h0 : ps[0]? = some ps[0] := List.getElem?_eq_getElem hp0
   have sg6 := sg.trans s6
   have s06 := sH.trans sg6
   have ms : MulC s (c.den : Int) := MulC.bd hbsc (hbk c hcm).2 (by lia)
   have bs' : Bd (n * (i + 1) + 1) (s * (c.den : Int)) := (hbsc.mul (hbk c hcm).2).mono (by lia)
   refine ⟨_, rfl, _, rfl, _, rfl, rk, xs, _, _, rfl, rfl, Same.seq s06 hk, hat, rk', _, _, _, rfl, rfl, hrk.same s06, rfl, _, _, rfl, rfl, ms, ?_⟩
   refine ⟨_, rfl, pr, _, _, _, rfl, rfl, SqL.of epr, at_plus h0 rfl, _, rfl, _, rfl, st, _, _, _, rfl, rfl, SqL.of (sg6 _ _ (sm _ _ est)), hat2, _, rfl, _, _, rfl, rfl, MulC.bd bt bs' (by lia), _, _, rfl, rfl, ?_⟩
   refine ⟨_, rfl, pr, _, _, 0, rfl, rfl, epr, ixN_plus (by rw [List.length_map]; lia) rfl, ?_⟩
   have sm2 : Same H2 (upd H6 pr (.lst ((ps.map V.int).set 0 (.int (ps[0] + topOf B d * (s * (c.den : Int))))))) := fun bb u zz => by
     have z1 := sg _ _ (sm bb u zz)
     rw [upd_ne (ne_of_none z1 hpr)]
     exact s6 bb u z1
   refine ⟨sm2, pr, ps.set 0 (ps[0] + topOf B d * (s * (c.den : Int))), s * (c.den : Int), _, rfl, ?_, by rw [List.length_set]; exact hpl', Int.mul_ne_zero hs0 (Nm.den_ne c), fun x => ?_, fun t ht => ?_, bs'⟩
   · rw [upd_same, List.map_set]
   · rw [Cv.evI_set x ps 0 _ _ h0, hpe x, evI_line, he x, Rat.pow_zero, drop_at rfl hi hkq, drop_at hlen.symm hi hsq]
     show _ = (d + (x - c) * newton _ _ x) * _
     rw [Rat.intCast_mul, Rat.intCast_mul, topOf_rat (hdv d hsm)]
     grind
   · rcases List.mem_or_eq_of_mem_set ht with zz | zz
     · exact (hpb t zz).mono (by lia)
     · subst zz
       have b1 := (hpb _ (List.getElem_mem hp0)).mono (n := n * ks.length + n * i + 21 * i + 2 * n + 30 + n + 20) (by lia)
       have b2 := (bt.mul bs').mono (n := n * ks.length + n * i + 21 * i + 2 * n + 30 + n + 20) (by lia)
       exact (Bd.add b1 b2).mono (by lia)
 · rintro σ H' hR2
   refine anE2 hR2 fun sm hz49 => ?_
   refine exE4 hz49 fun tp' ts s z hz49' => ?_
   clear hz49
   refine anE7 hz49' fun hq48 etp' htl hs0 he hbt hbsc => ?_
   clear hz49'
   obtain rfl := hq48
   try clear hR2
   have hb0 : B * s ≠ 0 := Int.mul_ne_zero (by lia) hs0
   refine ⟨_, rfl, _, rfl, _, rfl, _, _, rfl, rfl, MulC.bd hbB hbsc (by lia), tp', ts, B * s, rfl, SqL.of etp', hb0, by lia, fun p H6 s6 c6 => ?_⟩
   refine q p H6 _ ((s2.trans sm).trans s6) c6 (by have := Cv.strip_length (ts.map fun t => Rat.divInt t (B * s)); rw [List.length_map] at this; lia) (good_strip _) (fun c hc => ?_) fun x => ?_
   · have hc' := Cv.strip_mem _ c hc
     obtain ⟨t, ht, rfl⟩ := (List.mem_map.mp hc')
     exact RB.div (m := 0) ((hbt t ht).mono (by lia)) ((hbB.mul hbsc).mono (by lia)) hb0
   rw [Cv.ev_strip]
   have h7 := ev_over hb0 x ts
   rw [he x, Nat.sub_self, List.drop_zero, List.drop_zero, ← Rat.intCast_mul] at h7
   exact rcancel (Nm.cast_ne hb0) h7
theorem sc_told_in : FnScope ["points", "told", "point", "k"] ["points"] (defScope (top 28)) := ⟨rfl, rfl, rfl, by decide +kernel, rfl, by decide +kernel, by decide +kernel⟩
set_option maxHeartbeats 4000000 in
theorem ok_told_in {f : Addr} {fd : FuncData} (F : Fun K "told_in" "told_in" (top 28) f fd) (b_range : mg "range" = none) (b_len : mg "len" = none) (hT : P.given.tree = none) :
   FnOk P w K mg base CX0 33 f fd ["points"] (spToldT K) := by
 refine F.ok sc_told_in (fun vs H Q E h => ?_) (fun cdv A outer s H vs Q E hr h => ?_)
 · obtain ⟨_, _, _, rfl, _⟩ := h; rfl
 refine ⟨_, (pss_consC (K := K) (ps_set (i := 1) sc_told_in.nd rfl (Or.inl rfl) (pe_lst pa_nil))
   (pss_consC (K := K) (ps_forC (K := K) PassesOwn.never rfl (piT K (pv 0)) (pg_name (i := 2) sc_told_in.nd rfl (Or.inl rfl)) (pss_one (ps_forC (K := K) PassesOwn.never rfl (pi_range1 rfl b_range (pa_cons (pe_op op_sub (pe_callB (lenK K) rfl b_len bt_len (pa_cons (pv 2) pa_nil)) pe_int) pa_nil)) (pg_name (i := 3) sc_told_in.nd rfl (Or.inl rfl)) (pss_one (ps_expr (pe_bmK K PySem.F.plainAttrs_list PySem.F.slot_list_append PySem.F.type_list_append mt_append (pv 1) (pa_cons (pe_tup (pa_cons (pe_ix (ixT K) (pv 2) pe_int (fun u v => rfl)) (pa_cons (pv 3) (pa_cons (pe_ix (ixT K) (pv 2) (pe_op op_add (pv 3) pe_int) (fun u v => rfl)) pa_nil)))) pa_nil)))) (by rfl))) (by rfl))
   (pss_one (ps_ret (pv 1))) (by rfl)) (by rfl)), ?_⟩
 obtain ⟨r, xs, pss, rfl, hS, hp, h23, h100, q⟩ := h
 have P0 : 0 ≤ sizeLine := by decide
 have P3 : 3 ≤ sizeLine := by decide
 have hxl := hp.length
 refine ⟨P0, fun p hp0 => ?_⟩
 refine ⟨_, rfl, r, rfl, ⟨_, SqT.same hS (Same.new hp0)⟩, for_tup (xs := xs) (L5 H r p K pss fun H r p K pss i σ H' => Same H H' ∧ ∃ ys z2 z3, σ = [some (.ref r), some (.ref p), z2, z3] ∧ H' p = some (.lst ys) ∧ TlsT K H' ys (tell (pss.take i))) ⟨Same.new hp0, [], none, none, rfl, upd_same, .nil⟩ (fun i σ H' _ h => hS.same h.1) ?_ ?_⟩
 · rintro i v σ H' hv hR1
   refine anE2 hR1 fun sm hz51 => ?_
   refine exE3 hz51 fun ys z2 z3 hz51' => ?_
   clear hz51
   refine anE3 hz51' fun hq50 ep hys => ?_
   clear hz51'
   obtain rfl := hq50
   try clear hR1
   obtain ⟨ps, hps, a, zs, pp, rfl, hzs, hzn, hz0, hpp⟩ := (Paired.get hp hv)
   have hpl := h23 ps (List.mem_of_getElem? hps)
   have hzl := hzn.length
   have hyl : ys.length ≤ 200 := by
     have h1 := tell_length_le (pss.take i) (h23.take i)
     rw [List.length_take] at h1
     rw [hys.length]; lia
   refine ⟨_, rfl, a, zs, rfl, .inr (hzs.same sm), _, _, rfl, rfl, _, rfl, by lia, by lia, ?_⟩
   rw [show (((zs.length : Nat) : Int) - 1).toNat = ps.length - 1 from nat_pred hzl]
   refine for_range (n := ps.length - 1) (L8 H r p a K pss i ps fun H r p a K pss i ps k σ H2 => Same H H2 ∧ ∃ ys2 z3, σ = [some (.ref r), some (.ref p), some (.ref a), z3] ∧ H2 p = some (.lst ys2) ∧ TlsT K H2 ys2 (tell (pss.take i) ++ (tellP ps).take k)) ⟨sm, ys, z3, rfl, ep, by rw [List.take_zero, List.append_nil]; exact hys⟩ ?_ ?_
   · rintro k σ H2 hk hR2
     refine anE2 hR2 fun sm2 hz55 => ?_
     refine exE2 hz55 fun ys2 z3' hz55' => ?_
     clear hz55
     refine anE3 hz55' fun hq54 ep2 hys2 => ?_
     clear hz55'
     obtain rfl := hq54
     try clear hR2
     have g0 := getD_some (l := ps) (i := 0) (by lia)
     have gk := getD_some (l := ps) (i := k + 1) (by lia)
     obtain ⟨xk, hxk, hnk⟩ := (Paired.get' hzn gk)
     have ak : atI zs (0 + (k : Int) + 1) = some xk := by rw [show 0 + (k : Int) + 1 = ((k + 1 : Nat) : Int) by lia]; exact atI_nat hxk
     have hyl2 : ys2.length ≤ 204 := by
       have h1 := hys.length
       have h2 := tellP_length ps
       rw [hys2.length, List.length_append, List.length_take]; exact nat_204 hyl hk hpl h1
     refine ⟨_, rfl, .inl ⟨rfl, _, SqL.of ep2⟩, _, rfl, a, zs, _, .ref pp, rfl, rfl, hzs.same sm2, atI_nat (j := 0) hz0, _, rfl, _, rfl, _, rfl, _, _, rfl, rfl, a, zs, _, xk, rfl, rfl, hzs.same sm2, ak, P3, fun t ht => ?_⟩
     have s3 : Same H2 (upd H2 t (.tup [.ref pp, .int (0 + (k : Int)), xk])) := Same.new ht
     have tp : t ≠ p := (ne_of_none ep2 ht).symm
     have hp3 : (upd (upd H2 t (.tup [.ref pp, .int (0 + (k : Int)), xk])) p (.lst (ys2 ++ [.ref t]))) pp = some (nT (ps.getD 0 0)) := by
       have z := s3 _ _ (sm2 _ _ hpp)
       rw [upd_ne (ne_of z (s3 _ _ ep2) (fun z => by cases z))]; exact z
     refine ⟨p, ys2, .ref t, rfl, rfl, s3 _ _ ep2, Nat.lt_of_lt_of_le (show ys2.length < 300 by lia) (by decide), (sm2.trans s3).put hp0, ys2 ++ [.ref t], _, rfl, upd_same, ?_⟩
     have gt : (tellP ps)[k]? = some ⟨ps.getD 0 0, (k : Int), ps.getD (k + 1) 0⟩ := by
       unfold tellP
       rw [List.getElem?_map, List.getElem?_range hk]; rfl
     rw [List.take_add_one, gt, ← List.append_assoc]
     refine Paired.snoc (TlsT.put (TlsT.same hys2 s3) (s3 _ _ ep2)) ⟨t, pp, xk, rfl, SqT.of ?_, hp3, ((hnk.same sm2).same s3).put (s3 _ _ ep2)⟩
     rw [upd_ne tp, upd_same, Int.zero_add]
   · rintro σ H2 hR3
     refine anE2 hR3 fun sm2 hz57 => ?_
     refine exE2 hz57 fun ys2 z3' hz57' => ?_
     clear hz57
     refine anE3 hz57' fun hq56 ep2 hys2 => ?_
     clear hz57'
     obtain rfl := hq56
     try clear hR3
     refine ⟨sm2, ys2, _, _, rfl, ep2, ?_⟩
     have e : pss.take (i + 1) = pss.take i ++ [ps] := by rw [List.take_add_one, hps]; rfl
     rw [e, tell_snoc]
     have et : (tellP ps).take (ps.length - 1) = tellP ps := List.take_of_length_le (by rw [tellP_length]; exact Nat.le_refl _)
     rw [et] at hys2
     exact hys2
 · rintro σ H' hR4
   refine anE2 hR4 fun sm hz59 => ?_
   refine exE3 hz59 fun ys z2 z3 hz59' => ?_
   clear hz59
   refine anE3 hz59' fun hq58 ep hys => ?_
   clear hz59'
   obtain rfl := hq58
   try clear hR4
   rw [hxl, List.take_length] at hys
   exact ⟨_, rfl, q p H' ys sm hp0 ep hys⟩
theorem sc_knots_of : FnScope ["points"] ["points"] (defScope (top 29)) := ⟨rfl, rfl, rfl, by decide +kernel, rfl, by decide +kernel, by decide +kernel⟩
set_option maxHeartbeats 4000000 in
theorem ok_knots_of {f : Addr} {fd : FuncData} (F : Fun K "knots_of" "knots_of" (top 29) f fd) (F_told_in : Fd P w K mg base 33 "told_in" ["points"] (spToldT K)) (hT : P.given.tree = none) :
   FnOk P w K mg base CX0 34 f fd ["points"] (spKnotsT K) := by
 refine F.ok sc_knots_of (fun vs H Q E h => ?_) (fun cdv A outer s H vs Q E hr h => ?_)
 · obtain ⟨_, _, _, rfl, _⟩ := h; rfl
 refine ⟨_, (pss_one (ps_ret (pe_lc rfl (N := ["told"]) (nt := 1) (js := []) (CompOk.look (NX := ["points"]) (sc := defScope (top 29)) rfl rfl (by decide +kernel)) (piL K (pe_fn F_told_in hr rfl (pa_cons (pv 0) pa_nil))) (fun u1 u2 u3 u4 u5 => (pg_name (i := 0) (show List.Nodup (["told"] : List Str) from by decide +kernel) rfl (Or.inl rfl))) (stays_name (by decide)) (fun u1 u2 u3 u4 u5 => pts_nil) (fun u1 u2 u3 u4 u5 => (pe_ix (ixT K) (pv 0) pe_int (fun u v => rfl)))))), ?_⟩
 obtain ⟨r, xs, pss, rfl, hS, hp, h23, h100, q⟩ := h
 refine lc_of ⟨_, rfl, r, xs, pss, rfl, hS, hp, h23, h100, fun w Hw ws sw hw ew htw => ⟨w, rfl, ⟨_, SqL.of ew⟩, ?_⟩⟩
 have hwl : ws.length ≤ 200 := by
   have h1 := tell_length_le pss fun ps hp => by have := h23 ps hp; lia
   rw [htw.length]; lia
 refine lc_lst (xs := ws) (L2 Hw pss fun Hw pss i zs H' => H' = Hw ∧ zs.length = i ∧ NumsT Hw zs (((tell pss).take i).map Told.x)) ⟨rfl, rfl, .nil⟩ (fun i zs H' _ h => ⟨by rw [h.1]; exact SqL.of ew, h.2.1⟩) (Nat.le_of_lt (small1000 (by lia))) ?_ ?_
 · rintro i v zs H' hv ⟨rfl, hzl, hzn⟩
   obtain ⟨t, ht, a, rx, rn, rfl, ha, hx, _⟩ := (Paired.get htw hv)
   have hx : NumT H' (.ref rx) t.x := ⟨_, rfl, hx⟩
   refine ⟨_, rfl, a, _, _, _, rfl, rfl, ha, rfl, rfl, by simp [hzl], ?_⟩
   rw [List.take_add_one, ht, List.map_append]
   exact Paired.snoc hzn hx
 rintro zs H' ⟨rfl, hzl, hzn⟩ p hp0
 rw [htw.length, List.take_length] at hzn
 exact q p _ zs (sw.trans (Same.new hp0)) (sw.free hp0) upd_same (NumsT.same hzn (Same.new hp0))
theorem sc_slopes_in : FnScope ["points", "slopes", "point"] ["points"] (defScope (top 32)) := ⟨rfl, rfl, rfl, by decide +kernel, rfl, by decide +kernel, by decide +kernel⟩
set_option maxHeartbeats 4000000 in
theorem ok_slopes_in {f : Addr} {fd : FuncData} (F : Fun K "slopes_in" "slopes_in" (top 32) f fd) (b_len : mg "len" = none) (hT : P.given.tree = none) :
   FnOk P w K mg base CX0 33 f fd ["points"] (spSlopes K) := by
 refine F.ok sc_slopes_in (fun vs H Q E h => ?_) (fun cdv A outer s H vs Q E hr h => ?_)
 · obtain ⟨_, _, _, rfl, _⟩ := h; rfl
 refine ⟨_, (pss_consC (K := K) (ps_set (i := 1) sc_slopes_in.nd rfl (Or.inl rfl) pe_dnewT)
   (pss_consC (K := K) (ps_forC (K := K) PassesOwn.never rfl (piT K (pv 0)) (pg_name (i := 2) sc_slopes_in.nd rfl (Or.inl rfl)) (pss_one (ps_ifC (K := K) (pt_cmpR op_eq (pe_callB (lenK K) rfl b_len bt_len (pa_cons (pv 2) pa_nil)) pe_int (nomark _)) (pss_one (ps_dput hr.units1 (pv 1) (pe_ix (ixT K) (pv 2) pe_int (fun u v => rfl)) (pe_ix (ixT K) (pv 2) pe_int (fun u v => rfl)) rfl)) pss_nil (by rfl) (by rfl))) (by rfl))
   (pss_one (ps_ret (pv 1))) (by rfl)) (by rfl)), ?_⟩
 obtain ⟨r, xs, pss, rfl, hS, hp, h23, h100, hnd, q⟩ := h
 have hxl := hp.length
 refine fun d hd => ?_
 refine ⟨_, rfl, r, rfl, ⟨_, SqT.same hS (Same.new hd)⟩, for_tup (xs := xs) (L5 H r d K pss fun H r d K pss i σ H' => Same H H' ∧ ∃ kvs z2, σ = [some (.ref r), some (.ref d), z2] ∧ H' d = some (.dT kvs) ∧ kvs.length ≤ i ∧ SlD K H kvs (pss.take i)) ⟨Same.new hd, [], none, rfl, upd_same, Nat.le_refl _, (fun _ h => nomatch h)⟩ (fun i σ H' _ h => hS.same h.1) ?_ ?_⟩
 · rintro i v σ H' hv hR1
   refine anE2 hR1 fun sm hz63 => ?_
   refine exE2 hz63 fun kvs z2 hz63' => ?_
   clear hz63
   refine anE4 hz63' fun hq62 ed hkl hall => ?_
   clear hz63'
   obtain rfl := hq62
   try clear hR1
   have hi : i < xs.length := (List.getElem?_eq_some_iff.mp hv).1
   obtain ⟨ps, hps, a, us, p, rfl, hus, hun, hu0, hp0⟩ := (Paired.get hp hv)
   have hpl := h23 ps (List.mem_of_getElem? hps)
   have hul := hun.length
   have e : pss.take (i + 1) = pss.take i ++ [ps] := by rw [List.take_add_one, hps]; rfl
   refine ⟨_, rfl, a, us, rfl, .inr (hus.same sm), rfl, _, rfl, ?_⟩
   by_cases h3 : ps.length = 3
   · refine iteTc (by rw [decide_eq_true (show V.int (us.length : Int) = V.int 3 by rw [hul, h3]; rfl)] <;> rfl) ?_
     have g2 := getD_some (l := ps) (i := 2) (by lia)
     obtain ⟨x2, hx2, hn2⟩ := (Paired.get' hun g2)
     refine ⟨_, rfl, a, us, _, x2, rfl, rfl, hus.same sm, atI_nat (j := 2) hx2, _, rfl, _, rfl, a, us, _, .ref p, rfl, rfl, hus.same sm, atI_nat (j := 0) hu0, d, _, rfl, DPut.t (k := kQ (ps.getD 0 0)) ed (sm _ _ hp0) (Nat.lt_of_lt_of_le (show kvs.length < 300 by lia) (by decide)), ?_⟩
     refine ⟨sm.put hd, putK kvs (kQ (ps.getD 0 0)) x2, _, rfl, upd_same, Nat.le_trans (length_putK _ _ _) (by lia), ?_⟩
     rw [e]
     intro ps' hp' h3'
     rw [valV_put]
     rcases List.mem_append.mp hp' with z | z
     · have hne := nd_take hnd hps ps' z
       rw [if_neg (fun z => hne (kQ_inj z))]
       exact hall ps' z h3'
     · rw [List.mem_singleton.mp z, if_pos rfl]
       exact ⟨x2, rfl, hn2⟩
   · refine iteFc (by rw [decide_eq_false (show ¬ V.int (us.length : Int) = V.int 3 from fun z => h3 (by have := V.int.inj z; lia))] <;> rfl) ⟨sm, kvs, _, rfl, ed, by lia, ?_⟩
     rw [e]
     intro ps' hp' h3'
     rcases List.mem_append.mp hp' with z | z
     · exact hall ps' z h3'
     · rw [List.mem_singleton.mp z] at h3'; exact absurd h3' h3
 · rintro σ H' hR2
   refine anE2 hR2 fun sm hz67 => ?_
   refine exE2 hz67 fun kvs z2 hz67' => ?_
   clear hz67
   refine anE4 hz67' fun hq66 ed hkl hall => ?_
   clear hz67'
   obtain rfl := hq66
   try clear hR2
   rw [hxl, List.take_length] at hall
   exact ⟨_, rfl, q d H' kvs sm hd ed (hall.same sm)⟩
theorem sc_first_row : FnScope ["points", "row", "point"] ["points"] (defScope (top 31)) := ⟨rfl, rfl, rfl, by decide +kernel, rfl, by decide +kernel, by decide +kernel⟩
set_option maxHeartbeats 4000000 in
theorem ok_first_row {f : Addr} {fd : FuncData} (F : Fun K "first_row" "first_row" (top 31) f fd) (b_len : mg "len" = none) (hT : P.given.tree = none) :
   FnOk P w K mg base CX0 33 f fd ["points"] (spRow0 K) := by
 refine F.ok sc_first_row (fun vs H Q E h => ?_) (fun cdv A outer s H vs Q E hr h => ?_)
 · obtain ⟨_, _, _, rfl, _⟩ := h; rfl
 refine ⟨_, (pss_consC (K := K) (ps_set (i := 1) sc_first_row.nd rfl (Or.inl rfl) (pe_lst pa_nil))
   (pss_consC (K := K) (ps_forC (K := K) PassesOwn.never rfl (piT K (pv 0)) (pg_name (i := 2) sc_first_row.nd rfl (Or.inl rfl)) (pss_one (ps_expr (pe_bmK K PySem.F.plainAttrs_list PySem.F.slot_list_extend PySem.F.type_list_extend mt_extend (pv 1) (pa_cons (pe_op op_rep (pe_lst (pa_cons (pe_ix (ixT K) (pv 2) pe_int (fun u v => rfl)) pa_nil)) (pe_op op_sub (pe_callB (lenK K) rfl b_len bt_len (pa_cons (pv 2) pa_nil)) pe_int)) pa_nil)))) (by rfl))
   (pss_one (ps_ret (pv 1))) (by rfl)) (by rfl)), ?_⟩
 obtain ⟨r, xs, pss, rfl, hS, hp, h23, h100, q⟩ := h
 have P0 : 0 ≤ sizeLine := by decide
 have P1 : 1 ≤ sizeLine := by decide
 have hxl := hp.length
 refine ⟨P0, fun p hp0 => ?_⟩
 refine ⟨_, rfl, r, rfl, ⟨_, SqT.same hS (Same.new hp0)⟩, for_tup (xs := xs) (L5 H r p K pss fun H r p K pss i σ H' => Same H H' ∧ ∃ ys z2, σ = [some (.ref r), some (.ref p), z2] ∧ H' p = some (.lst ys) ∧ Nums K H' ys (row0 (pss.take i))) ⟨Same.new hp0, [], none, rfl, upd_same, .nil⟩ (fun i σ H' _ h => hS.same h.1) ?_ ?_⟩
 · rintro i v σ H' hv hR1
   refine anE2 hR1 fun sm hz69 => ?_
   refine exE2 hz69 fun ys z2 hz69' => ?_
   clear hz69
   refine anE3 hz69' fun hq68 ep hys => ?_
   clear hz69'
   obtain rfl := hq68
   try clear hR1
   obtain ⟨ps, hps, a, us, pp, rfl, hus, hun, hu0, hpp⟩ := (Paired.get hp hv)
   have hpl := h23 ps (List.mem_of_getElem? hps)
   have hul := hun.length
   have e : pss.take (i + 1) = pss.take i ++ [ps] := by rw [List.take_add_one, hps]; rfl
   have g1 := getD_some (l := ps) (i := 1) (by lia)
   obtain ⟨x1, hx1, hn1⟩ := (Paired.get' hun g1)
   have hyl : ys.length ≤ 200 := by
     have h1 := tell_length_le (pss.take i) (h23.take i)
     rw [List.length_take] at h1
     rw [hys.length, row0_length]; lia
   refine ⟨_, rfl, .inl ⟨rfl, _, SqL.of ep⟩, _, rfl, a, us, _, x1, rfl, rfl, hus.same sm, atI_nat (j := 1) hx1, P1, fun l hl => ?_⟩
   have s1 : Same H' (upd H' l (.lst [x1])) := Same.new hl
   refine ⟨_, rfl, a, us, rfl, .inr ((hus.same sm).same s1), _, _, rfl, rfl, l, _, [x1], rfl, rfl, upd_same, by lia, by lia, ?_, fun m hm => ?_⟩
   · have z : (((us.length : Nat) : Int) - 1).toNat ≤ 2 := nat_two hul hpl
     exact Nat.le_trans (Nat.mul_le_mul (Nat.le_refl _) z) (by show 2 ≤ sizeLine; decide)
   have s2 := s1.trans (Same.new (o := .lst (List.replicate (((us.length : Nat) : Int) - 1).toNat [x1]).flatten) hm)
   have en : (((us.length : Nat) : Int) - 1).toNat = ps.length - 1 := nat_pred hul
   have ep2 := s2 _ _ ep
   refine ⟨p, m, ys, _, rfl, rfl, ep2, upd_same, ?_, ?_⟩
   · rw [len_rep, en]
     exact Nat.le_trans (show ys.length + (ps.length - 1) * 1 ≤ 300 from nat_300 hyl hpl) (by decide)
   refine ⟨(sm.trans s2).put hp0, _, _, rfl, upd_same, ?_⟩
   rw [e, row0_snoc, en]
   have hr : Nums K (upd (upd H' l (.lst [x1])) m (.lst (List.replicate (((us.length : Nat) : Int) - 1).toNat [x1]).flatten)) (List.replicate (ps.length - 1) [x1]).flatten (List.replicate (ps.length - 1) (ps.getD 1 0)) := rep_nums ((hn1.same sm).same s2) _
   rw [en] at hr ep2 s2
   exact Paired.append (Nums.put (Nums.same hys s2) ep2) (Nums.put hr ep2)
 · rintro σ H' hR2
   refine anE2 hR2 fun sm hz73 => ?_
   refine exE2 hz73 fun ys z2 hz73' => ?_
   clear hz73
   refine anE3 hz73' fun hq72 ep hys => ?_
   clear hz73'
   obtain rfl := hq72
   try clear hR2
   rw [hxl, List.take_length] at hys
   exact ⟨_, rfl, q p H' ys sm hp0 ep hys⟩
theorem sc_over : FnScope ["a", "b"] ["a", "b"] (defScope (top 14)) := ⟨rfl, rfl, rfl, by decide +kernel, rfl, by decide +kernel, by decide +kernel⟩
set_option maxHeartbeats 4000000 in
theorem ok_over {f : Addr} {fd : FuncData} (F : Fun K "over" "over" (top 14) f fd) (F_number_of : Fd P w K mg base 34 "number_of" ["top", "bottom"] (spLow)) (hT : P.given.tree = none) :
   FnOk P w K mg base CX0 35 f fd ["a", "b"] (spOver K) := by
 refine F.ok sc_over (fun vs H Q E h => ?_) (fun cdv A outer s H vs Q E hr h => ?_)
 · obtain ⟨_, _, _, _, _, _, rfl, _⟩ := h; rfl
 refine ⟨_, (pss_one (ps_ret (pe_fn F_number_of hr rfl (pa_cons (pe_op op_mulC (pe_ix (ixT K) (pv 0) pe_int (fun u v => rfl)) (pe_ix (ixT K) (pv 1) pe_int (fun u v => rfl))) (pa_cons (pe_op op_mulC (pe_ix (ixT K) (pv 0) pe_int (fun u v => rfl)) (pe_ix (ixT K) (pv 1) pe_int (fun u v => rfl))) pa_nil))))), ?_⟩
 obtain ⟨x, y, p, q, m, n, rfl, ⟨r, rfl, hr'⟩, ⟨u, rfl, hu⟩, q0, hp, hq, hmn, k⟩ := h
 have hn : q.num ≠ 0 := fun z => q0 (Rat.num_eq_zero.mp z)
 refine ⟨_, rfl, r, _, _, _, rfl, rfl, hr', rfl, _, rfl, u, _, _, _, rfl, rfl, hu, rfl, _, _, rfl, rfl, MulC.bd hp.1 hq.2, ?_⟩
 refine ⟨_, rfl, r, _, _, _, rfl, rfl, hr', rfl, _, rfl, u, _, _, _, rfl, rfl, hu, rfl, _, _, rfl, rfl, MulC.bd hp.2 hq.1, ?_⟩
 refine ⟨_, _, rfl, Int.mul_ne_zero (Nm.den_ne p) hn, fun z hz => ?_⟩
 have e := k z hz
 rw [← over_eq p q q0] at e
 exact e
theorem sc_minus : FnScope ["a", "b"] ["a", "b"] (defScope (top 12)) := ⟨rfl, rfl, rfl, by decide +kernel, rfl, by decide +kernel, by decide +kernel⟩
set_option maxHeartbeats 4000000 in
theorem ok_minus {f : Addr} {fd : FuncData} (F : Fun K "minus" "minus" (top 12) f fd) (F_number_of : Fd P w K mg base 34 "number_of" ["top", "bottom"] (spLow)) (hT : P.given.tree = none) :
   FnOk P w K mg base CX0 35 f fd ["a", "b"] (spBin K (· - ·)) := by
 refine F.ok sc_minus (fun vs H Q E h => ?_) (fun cdv A outer s H vs Q E hr h => ?_)
 · obtain ⟨_, _, _, _, _, _, rfl, _⟩ := h; rfl
 refine ⟨_, (pss_one (ps_ret (pe_fn F_number_of hr rfl (pa_cons (pe_op op_sub (pe_op op_mulC (pe_ix (ixT K) (pv 0) pe_int (fun u v => rfl)) (pe_ix (ixT K) (pv 1) pe_int (fun u v => rfl))) (pe_op op_mulC (pe_ix (ixT K) (pv 1) pe_int (fun u v => rfl)) (pe_ix (ixT K) (pv 0) pe_int (fun u v => rfl)))) (pa_cons (pe_op op_mulC (pe_ix (ixT K) (pv 0) pe_int (fun u v => rfl)) (pe_ix (ixT K) (pv 1) pe_int (fun u v => rfl))) pa_nil))))), ?_⟩
 obtain ⟨x, y, p, q, m, n, rfl, ⟨r, rfl, hr⟩, ⟨u, rfl, hu⟩, hp, hq, hmn, k⟩ := h
 refine ⟨_, rfl, r, _, _, _, rfl, rfl, hr, rfl, _, rfl, u, _, _, _, rfl, rfl, hu, rfl, _, _, rfl, rfl, MulC.bd hp.1 hq.2, _, rfl, u, _, _, _, rfl, rfl, hu, rfl, _, rfl, r, _, _, _, rfl, rfl, hr, rfl, _, _, rfl, rfl, MulC.bd hq.1 hp.2, _, _, rfl, rfl, ?_⟩
 refine ⟨_, rfl, r, _, _, _, rfl, rfl, hr, rfl, _, rfl, u, _, _, _, rfl, rfl, hu, rfl, _, _, rfl, rfl, MulC.bd hp.2 hq.2, ?_⟩
 refine ⟨_, _, rfl, Int.mul_ne_zero (Nm.den_ne p) (Nm.den_ne q), fun z hz => ?_⟩
 have e := k z hz
 try dsimp only at e
 rw [← Nm.minus_eq] at e
 exact e
theorem sc_next_row : FnScope ["ahead", "knots", "slopes", "k", "row", "j"] ["ahead", "knots", "slopes", "k"] (defScope (top 33)) := ⟨rfl, rfl, rfl, by decide +kernel, rfl, by decide +kernel, by decide +kernel⟩
set_option maxHeartbeats 4000000 in
theorem ok_next_row {f : Addr} {fd : FuncData} (F : Fun K "next_row" "next_row" (top 33) f fd) (F_over : Fd P w K mg base 35 "over" ["a", "b"] (spOver K)) (F_minus : Fd P w K mg base 35 "minus" ["a", "b"] (spBin K (· - ·))) (b_range : mg "range" = none) (b_len : mg "len" = none) (hT : P.given.tree = none) :
   FnOk P w K mg base CX0 36 f fd ["ahead", "knots", "slopes", "k"] (spNextRow K) := by
 refine F.ok sc_next_row (fun vs H Q E h => ?_) (fun cdv A outer s H vs Q E hr h => ?_)
 · obtain ⟨_, _, _, _, _, _, _, _, _, _, _, _, rfl, _⟩ := h; rfl
 refine ⟨_, (pss_consC (K := K) (ps_set (i := 4) sc_next_row.nd rfl (Or.inl rfl) (pe_lst pa_nil))
   (pss_consC (K := K) (ps_forC (K := K) PassesOwn.never rfl (pi_range1 rfl b_range (pa_cons (pe_op op_sub (pe_callB (lenK K) rfl b_len bt_len (pa_cons (pv 1) pa_nil)) (pv 3)) pa_nil)) (pg_name (i := 5) sc_next_row.nd rfl (Or.inl rfl)) (pss_one (ps_ifC (K := K) (pt_cmpR (eqD K hr.units) (pe_ix (ixL K) (pv 1) (pe_op op_add (pv 5) (pv 3)) (fun u v => rfl)) (pe_ix (ixL K) (pv 1) (pv 5) (fun u v => rfl)) (nomark _)) (pss_one (ps_expr (pe_bmK K PySem.F.plainAttrs_list PySem.F.slot_list_append PySem.F.type_list_append mt_append (pv 4) (pa_cons (pe_dget hr.units1 (pv 2) (pe_ix (ixL K) (pv 1) (pv 5) (fun u v => rfl)) (fun u v => rfl)) pa_nil)))) (pss_one (ps_expr (pe_bmK K PySem.F.plainAttrs_list PySem.F.slot_list_append PySem.F.type_list_append mt_append (pv 4) (pa_cons (pe_fn F_over hr rfl (pa_cons (pe_fn F_minus hr rfl (pa_cons (pe_ix (ixL K) (pv 0) (pe_op op_add (pv 5) pe_int) (fun u v => rfl)) (pa_cons (pe_ix (ixL K) (pv 0) (pv 5) (fun u v => rfl)) pa_nil))) (pa_cons (pe_fn F_minus hr rfl (pa_cons (pe_ix (ixL K) (pv 1) (pe_op op_add (pv 5) (pv 3)) (fun u v => rfl)) (pa_cons (pe_ix (ixL K) (pv 1) (pv 5) (fun u v => rfl)) pa_nil))) pa_nil))) pa_nil)))) (by rfl) (by rfl))) (by rfl))
   (pss_one (ps_ret (pv 4))) (by rfl)) (by rfl)), ?_⟩
 obtain ⟨ra, rk, d, as, ks, A, kn, kvs, sl, k, m, n, rfl, hA, hAn, hK, hKn, hd, hsl, h1, hkl, hlen, h100, hbA, hbK, hm, hn, q⟩ := h
 have P0 : 0 ≤ sizeLine := by decide
 have hal := hAn.length
 have hkl' := hKn.length
 refine ⟨P0, fun p hp0 => ?_⟩
 have s0 : Same H (upd H p (.lst [])) := Same.new hp0
 refine ⟨_, rfl, rk, ks, rfl, .inl (Same.seq s0 hK), _, rfl, _, _, rfl, rfl, _, rfl, by lia, by lia, ?_⟩
 rw [show (((ks.length : Nat) : Int) - (k : Int)).toNat = kn.length - k by lia]
 refine for_range (n := kn.length - k) (L10 H ra rk d k p K A kn sl fun H ra rk d k p K A kn sl i σ H' => Same H H' ∧ ∃ zs z5, σ = [some (.ref ra), some (.ref rk), some (.ref d), some (.int (k : Int)), some (.ref p), z5] ∧ H' p = some (.lst zs) ∧ zs.length = i ∧ Nums K H' zs ((nextR A kn sl k).take i)) ⟨s0, [], none, rfl, upd_same, rfl, .nil⟩ ?_ ?_
 · rintro j σ H' hj hR1
   refine anE2 hR1 fun sm hz75 => ?_
   refine exE2 hz75 fun zs z5 hz75' => ?_
   clear hz75
   refine anE4 hz75' fun hq74 ep hzl hzs => ?_
   clear hz75'
   obtain rfl := hq74
   try clear hR1
   have gk := getD_some (l := kn) (i := j + k) (by lia)
   have g0 := getD_some (l := kn) (i := j) (by lia)
   have ga := getD_some (l := A) (i := j + 1) (by lia)
   have gb := getD_some (l := A) (i := j) (by lia)
   obtain ⟨xk, hxk, ak, rfl, hak⟩ := (Paired.get' hKn gk)
   obtain ⟨x0, hx0, a0, rfl, ha0⟩ := (Paired.get' hKn g0)
   obtain ⟨xa, hxa, hna⟩ := (Paired.get' hAn ga)
   obtain ⟨xb, hxb, hnb⟩ := (Paired.get' hAn gb)
   have ek : atI ks (0 + (j : Int) + (k : Int)) = some (.ref ak) := by rw [show 0 + (j : Int) + (k : Int) = ((j + k : Nat) : Int) by lia]; exact atI_nat hxk
   have e0 : atI ks (0 + (j : Int)) = some (.ref a0) := by rw [show 0 + (j : Int) = ((j : Nat) : Int) by lia]; exact atI_nat hx0
   have ea : atI as (0 + (j : Int) + 1) = some xa := by rw [show 0 + (j : Int) + 1 = ((j + 1 : Nat) : Int) by lia]; exact atI_nat hxa
   have eb : atI as (0 + (j : Int)) = some xb := by rw [show 0 + (j : Int) = ((j : Nat) : Int) by lia]; exact atI_nat hxb
   have hK' := Same.seq sm hK
   have hA' := Same.seq sm hA
   have nk : NumV K H' (.ref ak) (kn.getD (j + k) 0) := NumV.of (sm _ _ hak)
   have n0 : NumV K H' (.ref a0) (kn.getD j 0) := NumV.of (sm _ _ ha0)
   have hj2 : j < (nextR A kn sl k).length := by rw [nextR_length]; exact hj
   have et : (nextR A kn sl k).take (j + 1) = (nextR A kn sl k).take j ++ [(nextR A kn sl k).getD j 0] := by rw [List.take_add_one, getD_some hj2]; rfl
   have zlt : zs.length < sizeLine := Nat.lt_of_lt_of_le (show zs.length < 300 by lia) (by decide)
   refine ⟨_, rfl, _, rfl, _, rfl, _, _, rfl, rfl, rk, ks, _, _, rfl, rfl, hK', ek, _, rfl, _, rfl, rk, ks, _, _, rfl, rfl, hK', e0, ?_⟩
   refine eqN nk n0 ?_
   refine ⟨_, rfl, ?_⟩
   by_cases he : kn.getD (j + k) 0 = kn.getD j 0
   · refine iteTc (by rw [decide_eq_true he] <;> rfl) ?_
     obtain ⟨v, hv, hnv⟩ := (hsl j (by lia) he)
     refine ⟨_, rfl, .inl ⟨rfl, _, SqL.of ep⟩, _, rfl, _, rfl, _, rfl, rk, ks, _, _, rfl, rfl, hK', e0, d, v, rfl, ?_, ?_⟩
     · rw [← hv]; exact DGet.t (k := kQ (kn.getD j 0)) (sm _ _ hd) (sm _ _ ha0)
     refine ⟨p, zs, v, rfl, rfl, ep, zlt, sm.put hp0, _, _, rfl, upd_same, by simp [hzl], ?_⟩
     rw [et, nextR_getD hj, if_pos he]
     exact Paired.snoc (Nums.put hzs ep) ((hnv.same sm).put ep)
   · refine iteFc (by rw [decide_eq_false he] <;> rfl) ?_
     have ba := hbA _ (getD_mem (l := A) (i := j + 1) (by lia))
     have bb := hbA _ (getD_mem (l := A) (i := j) (by lia))
     have bk := hbK _ (getD_mem (l := kn) (i := j + k) (by lia))
     have b0 := hbK _ (getD_mem (l := kn) (i := j) (by lia))
     refine ⟨_, rfl, .inl ⟨rfl, _, SqL.of ep⟩, _, rfl, _, rfl, _, _, rfl, rfl, ra, as, _, _, rfl, rfl, hA', ea, _, rfl, _, rfl, ra, as, _, _, rfl, rfl, hA', eb, _, _, _, _, m, m, rfl, hna.same sm, hnb.same sm, ba, bb, by lia, fun t ht => ?_⟩
     have s1 : Same H' (upd H' t (nT (A.getD (j + 1) 0 - A.getD j 0))) := Same.new ht
     refine ⟨_, rfl, _, rfl, _, rfl, _, _, rfl, rfl, rk, ks, _, _, rfl, rfl, Same.seq s1 hK', ek, _, rfl, _, rfl, rk, ks, _, _, rfl, rfl, Same.seq s1 hK', e0, _, _, _, _, n, n, rfl, nk.same s1, n0.same s1, bk, b0, by lia, fun u hu => ?_⟩
     have s2 := s1.trans (Same.new (o := nT (kn.getD (j + k) 0 - kn.getD j 0)) hu)
     refine ⟨_, _, _, _, m + m + 1, n + n + 1, rfl, NumV.of ((Same.new hu) _ _ upd_same), NumV.of upd_same, (fun z => he (by grind)), ba.minus bb, bk.minus b0, by lia, fun r hr' => ?_⟩
     have s3 := s2.trans (Same.new (o := nT ((A.getD (j + 1) 0 - A.getD j 0) / (kn.getD (j + k) 0 - kn.getD j 0))) hr')
     have ep3 := s3 _ _ ep
     refine ⟨p, zs, .ref r, rfl, rfl, ep3, zlt, (sm.trans s3).put hp0, _, _, rfl, upd_same, by simp [hzl], ?_⟩
     rw [et, nextR_getD hj, if_neg he]
     exact Paired.snoc (Nums.put (Nums.same hzs s3) ep3) ((NumV.of upd_same).put ep3)
 · rintro σ H' hR2
   refine anE2 hR2 fun sm hz81 => ?_
   refine exE2 hz81 fun zs z5 hz81' => ?_
   clear hz81
   refine anE4 hz81' fun hq80 ep hzl hzs => ?_
   clear hz81'
   obtain rfl := hq80
   try clear hR2
   rw [List.take_of_length_le (by rw [nextR_length]; exact Nat.le_refl _)] at hzs
   exact ⟨_, rfl, q p H' zs sm hp0 ep hzs⟩
theorem sc_table_of : FnScope ["points", "knots", "slopes", "table", "k"] ["points"] (defScope (top 34)) := ⟨rfl, rfl, rfl, by decide +kernel, rfl, by decide +kernel, by decide +kernel⟩
set_option maxHeartbeats 4000000 in
theorem ok_table_of {f : Addr} {fd : FuncData} (F : Fun K "table_of" "table_of" (top 34) f fd) (F_knots_of : Fd P w K mg base 34 "knots_of" ["points"] (spKnotsT K)) (F_slopes_in : Fd P w K mg base 33 "slopes_in" ["points"] (spSlopes K)) (F_first_row : Fd P w K mg base 33 "first_row" ["points"] (spRow0 K)) (F_next_row : Fd P w K mg base 36 "next_row" ["ahead", "knots", "slopes", "k"] (spNextRow K)) (b_range : mg "range" = none) (b_len : mg "len" = none) (hT : P.given.tree = none) :
   FnOk P w K mg base CX0 37 f fd ["points"] (spTable K) := by
 refine F.ok sc_table_of (fun vs H Q E h => ?_) (fun cdv A outer s H vs Q E hr h => ?_)
 · obtain ⟨_, _, _, _, _, rfl, _⟩ := h; rfl
 refine ⟨_, (pss_consC (K := K) (ps_set (i := 1) sc_table_of.nd rfl (Or.inl rfl) (pe_fn F_knots_of hr rfl (pa_cons (pv 0) pa_nil)))
   (pss_consC (K := K) (ps_set (i := 2) sc_table_of.nd rfl (Or.inl rfl) (pe_fn F_slopes_in hr rfl (pa_cons (pv 0) pa_nil)))
   (pss_consC (K := K) (ps_set (i := 3) sc_table_of.nd rfl (Or.inl rfl) (pe_lst pa_nil))
   (pss_consC (K := K) (ps_forC (K := K) PassesOwn.never rfl (pi_range1 rfl b_range (pa_cons (pe_callB (lenK K) rfl b_len bt_len (pa_cons (pv 1) pa_nil)) pa_nil)) (pg_name (i := 4) sc_table_of.nd rfl (Or.inl rfl)) (pss_one (ps_expr (pe_bmK K PySem.F.plainAttrs_list PySem.F.slot_list_append PySem.F.type_list_append mt_append (pv 3) (pa_cons (pe_ifExp (pt_cmpR op_eq (pv 4) pe_int (nomark _)) (pe_fn F_first_row hr rfl (pa_cons (pv 0) pa_nil)) (pe_fn F_next_row hr rfl (pa_cons (pe_ix (ixL K) (pv 3) (pe_op op_sub (pv 4) pe_int) (fun u v => rfl)) (pa_cons (pv 1) (pa_cons (pv 2) (pa_cons (pv 4) pa_nil)))))) pa_nil)))) (by rfl))
   (pss_one (ps_ret (pv 3))) (by rfl)) (by rfl)) (by rfl)) (by rfl)), ?_⟩
 obtain ⟨r, xs, pss, hh, n, rfl, hS, hp, h23, h100, hnd, h12, hb, hbk, hn1, hn40, q⟩ := h
 have P0 : 0 ≤ sizeLine := by decide
 refine ⟨_, rfl, r, xs, pss, rfl, hS, hp, h23, h100, fun w Hw ws sw hw ew hws => ?_⟩
 refine ⟨_, rfl, r, xs, pss, rfl, hS.same sw, PtsT.same hp sw, h23, h100, hnd, fun d Hd kvs sd hd ed hsl => ?_⟩
 refine ⟨P0, fun p hp0 => ?_⟩
 have s0 : Same Hd (upd Hd p (.lst [])) := Same.new hp0
 have sH : Same H Hd := sw.trans sd
 have hpH : H p = none := sH.free hp0
 have hwl : ws.length = (tell pss).length := by rw [hws.length, List.length_map]
 have ewd := sd _ _ ew
 have hwd : NumsT Hd ws (kn pss) := NumsT.same hws sd
 refine ⟨_, rfl, w, ws, rfl, .inl (SqL.of (s0 _ _ ewd)), _, rfl, by lia, by lia, ?_⟩
 rw [show ((ws.length : Nat) : Int).toNat = (tell pss).length by lia]
 refine for_range (n := (tell pss).length) (L8 Hd r w d p K H pss fun Hd r w d p K H pss i σ H' => Same Hd H' ∧ ∃ ys z, σ = [some (.ref r), some (.ref w), some (.ref d), some (.ref p), z] ∧ H' p = some (.lst ys) ∧ Paired (FR K H p H') ys ((List.range i).map (tab pss))) ⟨s0, [], none, rfl, upd_same, .nil⟩ ?_ ?_
 · rintro i σ H' hi hR1
   refine anE2 hR1 fun sm hz83 => ?_
   refine exE2 hz83 fun ys z hz83' => ?_
   clear hz83
   refine anE3 hz83' fun hq82 ep hys => ?_
   clear hz83'
   obtain rfl := hq82
   try clear hR1
   have hyl : ys.length = i := by rw [hys.length, List.length_map, List.length_range]
   have sHH := sH.trans sm
   have zlt : ys.length < sizeLine := Nat.lt_of_lt_of_le (show ys.length < 300 by lia) (by decide)
   have er : (List.range (i + 1)).map (tab pss) = (List.range i).map (tab pss) ++ [tab pss i] := by rw [List.range_succ, List.map_append]; rfl
   have fin : ∀ (l : Addr) (H3 : Hp) (zs : List V), Same H' H3 → H' l = none → H3 l = some (.lst zs) → Nums K H3 zs (tab pss i) → Same Hd (upd H3 p (.lst (ys ++ [.ref l]))) ∧ ∃ ys' z, [some (V.ref r), some (.ref w), some (.ref d), some (.ref p), some (.int (0 + (i : Int)))] = [some (.ref r), some (.ref w), some (.ref d), some (.ref p), z] ∧ (upd H3 p (.lst (ys ++ [.ref l]))) p = some (.lst ys') ∧ Paired (FR K H p (upd H3 p (.lst (ys ++ [.ref l])))) ys' ((List.range (i + 1)).map (tab pss)) := fun l H3 zs s3 hl el hn => by
     have ep3 := s3 _ _ ep
     have lp : l ≠ p := (ne_of_none ep hl).symm
     refine ⟨(sm.trans s3).put hp0, _, _, rfl, upd_same, ?_⟩
     rw [er]
     exact Paired.snoc (Paired.mapP hys fun _ _ z => (z.same s3).put ep3) (FR.put ⟨l, zs, rfl, lp, sHH.free hl, el, hn⟩ ep3)
   refine ⟨_, rfl, .inl ⟨rfl, _, SqL.of ep⟩, _, rfl, rfl, _, rfl, ?_⟩
   match i, hi, fin, hys, hyl with
   | 0, hi, fin, hys, hyl =>
     refine iteT ?_
     refine ⟨_, rfl, r, xs, pss, rfl, hS.same sHH, PtsT.same hp sHH, h23, h100, fun l H3 zs s3 hl el hn => ?_⟩
     exact ⟨p, ys, .ref l, rfl, rfl, s3 _ _ ep, zlt, fin l H3 zs s3 hl el hn⟩
   | i + 1, hi, fin, hys, hyl =>
     refine iteFc (by rw [decide_eq_false (show ¬ V.int (0 + ((i + 1 : Nat) : Int)) = V.int 0 from fun z => by have := V.int.inj z; lia)] <;> rfl) ?_
     obtain ⟨xv, hxv, a, zs, rfl, hap, haH, ha, hzs⟩ := (Paired.get' hys (last_range (tab pss) i))
     have ea : atI ys (0 + ((i + 1 : Nat) : Int) - 1) = some (.ref a) := by rw [show 0 + ((i + 1 : Nat) : Int) - 1 = ((i : Nat) : Int) by lia]; exact atI_nat hxv
     have hbl := bnd_up hn40 (show i ≤ 10 by lia)
     refine ⟨_, rfl, _, rfl, _, _, rfl, rfl, p, ys, _, _, rfl, rfl, SqL.of ep, ea, _, rfl, _, rfl, _, rfl, a, w, d, zs, ws, tab pss i, kn pss, kvs, slOf pss, i + 1, bnd hh n i, n, by rw [Int.zero_add]; rfl, SqL.of ha, hzs, SqL.of (sm _ _ ewd), NumsT.same hwd sm, sm _ _ ed, ?_, by lia, by rw [kn_length]; lia, by rw [tab_length _ _ (by lia), kn_length]; lia, by rw [kn_length]; lia, tab_rb h23 hn1 hb hbk i (by lia), kn_rb hbk, by lia, by lia, fun l H3 zs' s3 hl el hn => ?_⟩
     · intro j hj he
       rw [kn_length] at hj
       refine anE2 (knots_eq h23 hnd (by lia) hj he) fun _ hz86 => ?_
       refine exE1 hz86 fun ps hz86' => ?_
       clear hz86
       refine anE4 hz86' fun h1 h2 h3 _ => ?_
       clear hz86'
       obtain ⟨v, hv, hnv⟩ := (hsl ps h1 h2)
       have e4 := slOf_at hnd h1 h2
       rw [h3] at hv e4
       rw [e4]
       exact ⟨v, hv, hnv.same sm⟩
     · exact ⟨p, ys, .ref l, rfl, rfl, s3 _ _ ep, zlt, fin l H3 zs' s3 hl el hn⟩
 · rintro σ H' hR2
   refine anE2 hR2 fun sm hz88 => ?_
   refine exE2 hz88 fun ys z hz88' => ?_
   clear hz88
   refine anE3 hz88' fun hq87 ep hys => ?_
   clear hz88'
   obtain rfl := hq87
   try clear hR2
   exact ⟨_, rfl, q p H' ys (sH.trans sm) hpH ep hys⟩
theorem sc_steps_of : FnScope ["points"] ["points"] (defScope (top 35)) := ⟨rfl, rfl, rfl, by decide +kernel, rfl, by decide +kernel, by decide +kernel⟩
set_option maxHeartbeats 4000000 in
theorem ok_steps_of {f : Addr} {fd : FuncData} (F : Fun K "steps_of" "steps_of" (top 35) f fd) (F_table_of : Fd P w K mg base 37 "table_of" ["points"] (spTable K)) (hT : P.given.tree = none) :
   FnOk P w K mg base CX0 38 f fd ["points"] (spSteps K) := by
 refine F.ok sc_steps_of (fun vs H Q E h => ?_) (fun cdv A outer s H vs Q E hr h => ?_)
 · obtain ⟨_, _, _, _, _, rfl, _⟩ := h; rfl
 refine ⟨_, (pss_one (ps_ret (pe_lc rfl (N := ["row"]) (nt := 1) (js := []) (CompOk.look (NX := ["points"]) (sc := defScope (top 35)) rfl rfl (by decide +kernel)) (piL K (pe_fn F_table_of hr rfl (pa_cons (pv 0) pa_nil))) (fun u1 u2 u3 u4 u5 => (pg_name (i := 0) (show List.Nodup (["row"] : List Str) from by decide +kernel) rfl (Or.inl rfl))) (stays_name (by decide)) (fun u1 u2 u3 u4 u5 => pts_nil) (fun u1 u2 u3 u4 u5 => (pe_ix (ixL K) (pv 0) pe_int (fun u v => rfl)))))), ?_⟩
 obtain ⟨r, xs, pss, hh, n, rfl, hS, hp, h23, h100, hnd, h12, hb, hbk, hn1, hn40, q⟩ := h
 refine lc_of ⟨_, rfl, r, xs, pss, hh, n, rfl, hS, hp, h23, h100, hnd, h12, hb, hbk, hn1, hn40, fun w Hw ws sw hw ew hws => ⟨w, rfl, ⟨_, SqL.of ew⟩, ?_⟩⟩
 have hwl : ws.length = (tell pss).length := by rw [hws.length, List.length_map, List.length_range]
 refine lc_lst (xs := ws) (L3 Hw K pss fun Hw K pss i zs H' => H' = Hw ∧ zs.length = i ∧ Nums K Hw zs ((stepsOf pss).take i)) ⟨rfl, rfl, .nil⟩ (fun i zs H' _ h => ⟨by rw [h.1]; exact SqL.of ew, h.2.1⟩) (Nat.le_of_lt (small1000 (by lia))) ?_ ?_
 · rintro i v zs H' hv ⟨rfl, hzl, hzn⟩
   have hi : i < ws.length := (List.getElem?_eq_some_iff.mp hv).1
   obtain ⟨rs, hrs, a, us, rfl, hap, haH, ha, hus⟩ := (Paired.get hws hv)
   have ers : rs = tab pss i := by
     rw [List.getElem?_map, List.getElem?_range (by lia)] at hrs
     exact (Option.some.inj hrs).symm
   subst ers
   have hl := tab_length pss i (by lia)
   obtain ⟨x0, hx0, hn0⟩ := (Paired.get' hus (getD_some (l := tab pss i) (i := 0) (by lia)))
   refine ⟨_, rfl, a, us, _, x0, rfl, rfl, SqL.of ha, atI_nat (j := 0) hx0, rfl, by simp [hzl], ?_⟩
   have e : (stepsOf pss).take (i + 1) = (stepsOf pss).take i ++ [(tab pss i).getD 0 0] := by
     rw [List.take_add_one]
     congr 1
     unfold stepsOf
     rw [List.getElem?_map, List.getElem?_range (by lia)]; rfl
   rw [e]
   exact Paired.snoc hzn hn0
 rintro zs H' ⟨rfl, hzl, hzn⟩ p hp0
 rw [hwl, ← stepsOf_length, List.take_length] at hzn
 exact q p _ zs (sw.trans (Same.new hp0)) (sw.free hp0) upd_same (Nums.same hzn (Same.new hp0))
theorem sc_curve_through : FnScope ["points"] ["points"] (defScope (top 37)) := ⟨rfl, rfl, rfl, by decide +kernel, rfl, by decide +kernel, by decide +kernel⟩
set_option maxHeartbeats 4000000 in
theorem ok_curve_through {f : Addr} {fd : FuncData} (F : Fun K "curve_through" "curve_through" (top 37) f fd) (F_by_steps : Fd P w K mg base 36 "by_steps" ["knots", "steps"] (spBySteps K)) (F_knots_of : Fd P w K mg base 34 "knots_of" ["points"] (spKnotsT K)) (F_steps_of : Fd P w K mg base 38 "steps_of" ["points"] (spSteps K)) (hT : P.given.tree = none) :
   FnOk P w K mg base CX0 39 f fd ["points"] (spThru3 K) := by
 refine F.ok sc_curve_through (fun vs H Q E h => ?_) (fun cdv A outer s H vs Q E hr h => ?_)
 · obtain ⟨_, _, _, _, _, _, rfl, _⟩ := h; rfl
 refine ⟨_, (pss_one (ps_ret (pe_fn F_by_steps hr rfl (pa_cons (pe_fn F_knots_of hr rfl (pa_cons (pv 0) pa_nil)) (pa_cons (pe_fn F_steps_of hr rfl (pa_cons (pv 0) pa_nil)) pa_nil))))), ?_⟩
 obtain ⟨r, xs, pss, hh, n, m, rfl, hS, hp, h23, h100, hnd, h12, hb, hbk, hn1, hn40, hsm, hnm, hm, q⟩ := h
 refine ⟨_, rfl, r, xs, pss, rfl, hS, hp, h23, h100, fun w Hw ws sw hw ew hws => ?_⟩
 refine ⟨_, rfl, r, xs, pss, hh, n, rfl, hS.same sw, PtsT.same hp sw, h23, h100, hnd, h12, hb, hbk, hn1, hn40, fun t Ht zs st ht et hzs => ?_⟩
 have hkl := kn_length pss
 refine ⟨w, t, ws, zs, kn pss, stepsOf pss, m, rfl, SqL.of (st _ _ ew), (NumsT.same hws st).nums, SqL.of et, hzs, by rw [stepsOf_length]; exact hkl, by lia, fun c hc => (kn_rb hbk c hc).mono hnm, hsm, by lia, fun p Hp cs sp' hc hcl hg hcb hev => ?_⟩
 have hm' : m * (kn pss).length ≤ m * 12 := Nat.mul_le_mul_left _ (by lia)
 exact q p Hp cs ((sw.trans st).trans sp') hc (by lia) hg (fun c hc => (hcb c hc).mono (by lia)) hev
theorem sc__law_fresh : FnScope ["_law_pen_here", "_law_points_here", "_law_x"] ["_law_pen_here", "_law_points_here"] (defScope (top 67)) := ⟨rfl, rfl, rfl, by decide +kernel, rfl, by decide +kernel, by decide +kernel⟩
set_option maxHeartbeats 4000000 in
theorem ok__law_fresh {f : Addr} {fd : FuncData} (F : Fun K "_law_fresh" "_law_fresh" (top 67) f fd) (F__law_number : Fd P w K mg base 34 "_law_number" ["_law_pen_here"] (spNum 8)) (F__law_plus : Fd P w K mg base 34 "_law_plus" ["_law_a", "_law_b"] (spBin K (· + ·))) (F__law_draw : Fd P w K mg base 33 "_law_draw" ["_law_pen_here", "_law_many"] (spDraw)) (hT : P.given.tree = none) :
   FnOk P w K mg base CX0 35 f fd ["_law_pen_here", "_law_points_here"] (spFresh K) := by
 refine F.ok sc__law_fresh (fun vs H Q E h => ?_) (fun cdv A outer s H vs Q E hr h => ?_)
 · obtain ⟨_, _, _, _, rfl, _⟩ := h; rfl
 refine ⟨_, (pss_consC (K := K) (ps_set (i := 2) sc__law_fresh.nd rfl (Or.inl rfl) (pe_fn F__law_number hr rfl (pa_cons (pv 0) pa_nil)))
   (pss_consC (K := K) (ps_while PassesOwn.never (pt_cmpR (inD K hr) (pv 2) (pe_lc rfl (N := ["_law_point"]) (nt := 1) (js := []) (CompOk.look (NX := ["_law_pen_here", "_law_points_here", "_law_x"]) (sc := defScope (top 67)) rfl rfl (by decide +kernel)) (piT K (pv 1)) (fun u1 u2 u3 u4 u5 => (pg_name (i := 0) (show List.Nodup (["_law_point"] : List Str) from by decide +kernel) rfl (Or.inl rfl))) (stays_name (by decide)) (fun u1 u2 u3 u4 u5 => pts_nil) (fun u1 u2 u3 u4 u5 => (pe_ix (ixT K) (pv 0) pe_int (fun u v => rfl)))) (by with_unfolding_all rfl)) (pss_one (ps_set (i := 2) sc__law_fresh.nd rfl (Or.inl rfl) (pe_fn F__law_plus hr rfl (pa_cons (pv 2) (pa_cons (pe_tup (pa_cons pe_int (pa_cons pe_int pa_nil))) pa_nil))))))
   (pss_one (ps_ret (pe_slice (slTA K) (pe_tup (pa_cons (pv 2) (pa_cons (pe_fn F__law_number hr rfl (pa_cons (pv 0) pa_nil)) (pa_cons (pe_fn F__law_number hr rfl (pa_cons (pv 0) pa_nil)) pa_nil)))) po_none (po_some (pe_op op_add pe_int (pe_fn F__law_draw hr rfl (pa_cons (pv 0) (pa_cons pe_int pa_nil)))))))) (by rfl)) (by rfl)), ?_⟩
 obtain ⟨p, r, xs, pss, rfl, pn, hS, hp, h7, q⟩ := h
 have P2 : 2 ≤ sizeLine := by decide
 have P3 : 3 ≤ sizeLine := by decide
 have hxl := hp.length
 refine ⟨_, rfl, p, rfl, pn, fun x0 rx H5 m5 p5 hrx bn bd => ?_⟩
 have hS5 := hS.mv pn m5
 have hp5 := PtsT.mv hp pn m5
 clear hS hp
 refine ⟨fun μ σ H6 => Same H5 H6 ∧ ∃ (rx : Addr) (x : Rat) (j : Nat), σ = [some (.ref p), some (.ref r), some (.ref rx)] ∧ H6 rx = some (nT x) ∧ x = x0 + (j : Rat) ∧ μ = cnt x (pss.map fun ps => ps.getD 0 0) ∧ j + cnt x (pss.map fun ps => ps.getD 0 0) ≤ pss.length,
     ⟨_, Same.refl _, rx, x0, 0, rfl, hrx, (by have z : ((0 : Nat) : Rat) = 0 := rfl; rw [z]; grind), rfl, by have := cnt_le x0 (pss.map fun ps => ps.getD 0 0); rw [List.length_map] at this; lia⟩, ?_⟩
 rintro μ σ H6 hR1
 refine anE2 hR1 fun s6 hz93 => ?_
 refine exE3 hz93 fun rx x j hz93' => ?_
 clear hz93
 refine anE5 hz93' fun hq91 hrx hx hq92 hj => ?_
 clear hz93'
 obtain rfl := hq91
 obtain rfl := hq92
 try clear hR1
 have hxb : RB (8 + 8) x := by
   rw [hx]
   exact (RB.plus ⟨bn, bd⟩ (rb_nat (j := j) (by lia))).mono (by lia)
 have hS6 := hS5.same s6
 have hp6 := PtsT.same hp5 s6
 refine ⟨_, rfl, ?_⟩
 refine lc_of ⟨_, rfl, r, rfl, ⟨_, hS6⟩, ?_⟩
 refine lc_tup (xs := xs) (L2 H6 pss fun H6 pss i ys H' => H' = H6 ∧ NumsT H6 ys ((pss.take i).map fun ps => ps.getD 0 0)) ⟨rfl, .nil⟩ (fun i ys H' hi h => ⟨by rw [h.1]; exact hS6, by rw [h.2.length, List.length_map, List.length_take]; lia⟩) (Nat.le_of_lt (small1000 (by lia))) ?_ ?_
 · rintro i u ys H' hu ⟨rfl, hys⟩
   obtain ⟨ps, hps, b, us, pp, rfl, hus, hun, hu0, hpp⟩ := (Paired.get hp6 hu)
   refine ⟨_, rfl, b, us, _, _, rfl, rfl, hus, atI_nat (j := 0) hu0, rfl, ?_⟩
   rw [List.take_add_one, hps, List.map_append]
   exact Paired.snoc hys ⟨pp, rfl, hpp⟩
 rintro ys Hq ⟨hq, hys⟩ l hl
 obtain rfl : H6 = Hq := hq.symm
 rw [hxl, List.take_length] at hys
 have s7 : Same H6 (upd H6 l (.lst ys)) := Same.new hl
 refine inN (NumV.of (s7 _ _ hrx)) (SqL.of upd_same) (NumsT.same hys s7).nums ?_
 have s57 := s6.trans s7
 have hrx7 := s7 _ _ hrx
 generalize upd H6 l (.lst ys) = H7 at s57 s7 hrx7 ⊢
 refine ⟨_, rfl, ?_⟩
 by_cases hin : x ∈ pss.map fun ps => ps.getD 0 0
 · refine iteTc (by rw [decide_eq_true hin] <;> rfl) ⟨_, fun _ _ h => h, ?_⟩
   refine ⟨_, rfl, P2, fun t ht => ⟨_, _, _, _, 8 + 8, 1, rfl, NumV.of ((Same.new ht) _ _ hrx7), NumV.of (upd_same (o := nT 1)), hxb, RB.one (by decide), by lia, fun u hu => ?_⟩⟩
   refine ⟨_, cnt_lt hin, (s57.trans (Same.new ht)).trans (Same.new hu), u, x + 1, j + 1, rfl, upd_same, ?_, rfl, by have := cnt_lt hin; lia⟩
   rw [hx, Rat.natCast_add]
   have z : ((1 : Nat) : Rat) = 1 := rfl
   rw [z]; grind
 refine iteFc (by rw [decide_eq_false hin] <;> rfl) ?_
 have p7 := p5.sm s57
 refine ⟨_, rfl, _, rfl, p, rfl, p7, fun y1 r1 H8 m8 p8 hr1 bn1 bd1 => ?_⟩
 refine ⟨_, rfl, p, rfl, p8, fun y2 r2 H9 m9 p9 hr2 bn2 bd2 => ?_⟩
 have m79 := m8.trans m9
 have hrx9 := (show NumT H7 (.ref rx) x from ⟨_, rfl, hrx7⟩).mv p7 m79
 have hr19 := (show NumT H8 (.ref r1) y1 from ⟨_, rfl, hr1⟩).mv p8 m9
 have hr29 : NumT H9 (.ref r2) y2 := ⟨_, rfl, hr2⟩
 refine ⟨P3, fun t ht => ?_⟩
 have s10 : Same H9 (upd H9 t (.tup [.ref rx, .ref r1, .ref r2])) := Same.new ht
 have et : (upd H9 t (.tup [.ref rx, .ref r1, .ref r2])) t = some (.tup [.ref rx, .ref r1, .ref r2]) := upd_same
 have p10 := p9.sm s10
 have n10 : Nums K (upd H9 t (.tup [.ref rx, .ref r1, .ref r2])) [.ref rx, .ref r1, .ref r2] [x, y1, y2] := .cons ((hrx9.same s10).num) (.cons ((hr19.same s10).num) (.cons ((hr29.same s10).num) .nil))
 generalize upd H9 t (.tup [.ref rx, .ref r1, .ref r2]) = H10 at s10 et p10 n10 ⊢
 refine ⟨_, rfl, p, 2, rfl, p10, by decide, by decide, fun d H11 d0 d1 o11 p11 => ⟨_, _, rfl, rfl, ?_⟩⟩
 obtain ⟨D, hD⟩ : ∃ D : Nat, 2 + d = (D : Int) := ⟨(2 + d).toNat, by lia⟩
 refine ⟨(D : Int), by show V.int (2 + d) = _; rw [hD], slice_to (xs := [.ref rx, .ref r1, .ref r2]) (SqT.of (o11.mv _ _ (p10.ne et (fun _ _ _ z => by cases z)) et)) (by show D ≤ 3; lia) fun nw H12 s12 hnw => ?_⟩
 have m12 : Mv p H7 H12 := ((m79.trans s10.mv).trans o11.mv).trans s12.mv
 have n12 : Nums K H12 [.ref rx, .ref r1, .ref r2] [x, y1, y2] := (n10.mv p10 o11.mv).same s12
 have hrx12 : H12 rx = some (nT x) := m12 _ _ (p7.ne hrx7 (nT_ne x)) hrx7
 have b16 : ∀ c ∈ [x, y1, y2], RB 16 c := fun c hc => by
   rcases List.mem_cons.mp hc with z | hc
   · rw [z]; exact hxb
   · rcases List.mem_cons.mp hc with z | hc
     · rw [z]; exact RB.mono (n := 16) ⟨bn1, bd1⟩ (by decide)
     · rw [List.mem_singleton.mp hc]; exact RB.mono (n := 16) ⟨bn2, bd2⟩ (by decide)
 have mA : Mv p H H12 := (m5.trans s57.mv).trans m12
 have pA := p11.sm s12
 obtain rfl | rfl : D = 2 ∨ D = 3 := by lia
 · exact q nw H12 [x, y1] mA pA (pt_cut (ps := [x, y1, y2]) 1 hnw n12 rfl hrx12) (.inl rfl) (fun c hc => b16 c (List.mem_of_mem_take (i := 2) (l := [x, y1, y2]) hc)) hin
 · exact q nw H12 [x, y1, y2] mA pA (pt_cut (ps := [x, y1, y2]) 2 hnw n12 rfl hrx12) (.inr rfl) b16 hin
theorem sc_times : FnScope ["a", "b"] ["a", "b"] (defScope (top 13)) := ⟨rfl, rfl, rfl, by decide +kernel, rfl, by decide +kernel, by decide +kernel⟩
set_option maxHeartbeats 4000000 in
theorem ok_times {f : Addr} {fd : FuncData} (F : Fun K "times" "times" (top 13) f fd) (F_number_of : Fd P w K mg base 34 "number_of" ["top", "bottom"] (spLow)) (hT : P.given.tree = none) :
   FnOk P w K mg base CX0 35 f fd ["a", "b"] (spBin K (· * ·)) := by
 refine F.ok sc_times (fun vs H Q E h => ?_) (fun cdv A outer s H vs Q E hr h => ?_)
 · obtain ⟨_, _, _, _, _, _, rfl, _⟩ := h; rfl
 refine ⟨_, (pss_one (ps_ret (pe_fn F_number_of hr rfl (pa_cons (pe_op op_mulC (pe_ix (ixT K) (pv 0) pe_int (fun u v => rfl)) (pe_ix (ixT K) (pv 1) pe_int (fun u v => rfl))) (pa_cons (pe_op op_mulC (pe_ix (ixT K) (pv 0) pe_int (fun u v => rfl)) (pe_ix (ixT K) (pv 1) pe_int (fun u v => rfl))) pa_nil))))), ?_⟩
 obtain ⟨x, y, p, q, m, n, rfl, ⟨r, rfl, hr⟩, ⟨u, rfl, hu⟩, hp, hq, hmn, k⟩ := h
 refine ⟨_, rfl, r, _, _, _, rfl, rfl, hr, rfl, _, rfl, u, _, _, _, rfl, rfl, hu, rfl, _, _, rfl, rfl, MulC.bd hp.1 hq.1, ?_⟩
 refine ⟨_, rfl, r, _, _, _, rfl, rfl, hr, rfl, _, rfl, u, _, _, _, rfl, rfl, hu, rfl, _, _, rfl, rfl, MulC.bd hp.2 hq.2, ?_⟩
 refine ⟨_, _, rfl, Int.mul_ne_zero (Nm.den_ne p) (Nm.den_ne q), fun z hz => ?_⟩
 have e := k z hz
 try dsimp only at e
 rw [← Nm.times_eq] at e
 exact e
theorem sc_scaled : FnScope ["curve", "number"] ["curve", "number"] (defScope (top 22)) := ⟨rfl, rfl, rfl, by decide +kernel, rfl, by decide +kernel, by decide +kernel⟩
set_option maxHeartbeats 4000000 in
theorem ok_scaled {f : Addr} {fd : FuncData} (F : Fun K "scaled" "scaled" (top 22) f fd) (F_curve_of : Fd P w K mg base 33 "curve_of" ["numbers"] (spCurveOf K)) (F_times : Fd P w K mg base 35 "times" ["a", "b"] (spBin K (· * ·))) (hT : P.given.tree = none) :
   FnOk P w K mg base CX0 36 f fd ["curve", "number"] (spScaled K) := by
 refine F.ok sc_scaled (fun vs H Q E h => ?_) (fun cdv A outer s H vs Q E hr h => ?_)
 · obtain ⟨_, _, _, _, _, _, rfl, _⟩ := h; rfl
 refine ⟨_, (pss_one (ps_ret (pe_fn F_curve_of hr rfl (pa_cons (pe_lc rfl (N := ["each", "number"]) (nt := 1) (js := [1]) (CompOk.look (NX := ["curve", "number"]) (sc := defScope (top 22)) rfl rfl (by decide +kernel)) (piT K (pv 0)) (fun u1 u2 u3 u4 u5 => (pg_name (i := 0) (show List.Nodup (["each", "number"] : List Str) from by decide +kernel) rfl (Or.inl rfl))) (stays_name (by decide)) (fun u1 u2 u3 u4 u5 => pts_nil) (fun u1 u2 u3 u4 u5 => (pe_fn F_times hr rfl (pa_cons (pv 0) (pa_cons (pv 1) pa_nil))))) pa_nil)))), ?_⟩
 obtain ⟨r, u, qs, y, m, n, rfl, ⟨xs, hS, hn⟩, hy, hB, hb, hmn, hz, q⟩ := h
 have hl := hn.length
 refine lc_of ⟨_, rfl, r, rfl, ⟨_, hS⟩, ?_⟩
 refine lc_tup (xs := xs) (L4 H K qs y fun H K qs y i zs H' => Same H H' ∧ zs.length = i ∧ Nums K H' zs ((qs.take i).map (· * y))) ⟨Same.refl _, rfl, .nil⟩ (fun i zs H' _ p => ⟨hS.same p.1, p.2.1⟩) (by rw [hl]; exact Nat.le_of_lt (small1000 hz)) ?_ ?_
 · rintro i x zs H' hx ⟨sm, hzl, hzn⟩
   obtain ⟨c, hc, hxn⟩ := (Paired.get hn hx)
   refine ⟨_, rfl, _, rfl, _, _, c, y, m, n, rfl, hxn.same sm, hy.same sm, hB c (List.mem_of_getElem? hc), hb, by lia, fun p hp => ⟨sm.trans (Same.new hp), by simp [hzl], ?_⟩⟩
   rw [List.take_add_one, hc, List.map_append]
   exact Paired.snoc (Nums.same hzn (Same.new hp)) (NumV.of upd_same)
 · rintro zs H' ⟨sm, hzl, hzn⟩ p hp
   rw [hl, List.take_length] at hzn
   exact ⟨p, zs, _, rfl, SqL.of upd_same, Nums.same hzn (Same.new hp), by rw [List.length_map]; exact hz, fun r H2 s2 c => q r H2 ((sm.trans (Same.new hp)).trans s2) c⟩
theorem sc_weight_among : FnScope ["x", "others", "top", "bottom", "other", "difference"] ["x", "others"] (defScope (top 40)) := ⟨rfl, rfl, rfl, by decide +kernel, rfl, by decide +kernel, by decide +kernel⟩
set_option maxHeartbeats 4000000 in
theorem ok_weight_among {f : Addr} {fd : FuncData} (F : Fun K "weight_among" "weight_among" (top 40) f fd) (F_number_of : Fd P w K mg base 34 "number_of" ["top", "bottom"] (spLow)) (F_minus : Fd P w K mg base 35 "minus" ["a", "b"] (spBin K (· - ·))) (hT : P.given.tree = none) :
   FnOk P w K mg base CX0 36 f fd ["x", "others"] (spWA K) := by
 refine F.ok sc_weight_among (fun vs H Q E h => ?_) (fun cdv A outer s H vs Q E hr h => ?_)
 · obtain ⟨_, _, _, _, _, _, rfl, _⟩ := h; rfl
 refine ⟨_, (pss_consC (K := K) (ps_set (i := 2) sc_weight_among.nd rfl (Or.inl rfl) pe_int)
   (pss_consC (K := K) (ps_set (i := 3) sc_weight_among.nd rfl (Or.inl rfl) pe_int)
   (pss_consC (K := K) (ps_forC (K := K) PassesOwn.never rfl (piL K (pv 1)) (pg_name (i := 4) sc_weight_among.nd rfl (Or.inl rfl)) (pss_consC (K := K) (ps_set (i := 5) sc_weight_among.nd rfl (Or.inl rfl) (pe_fn F_minus hr rfl (pa_cons (pv 0) (pa_cons (pv 4) pa_nil))))
   (pss_consC (K := K) (ps_set (i := 2) sc_weight_among.nd rfl (Or.inl rfl) (pe_op op_mulC (pv 2) (pe_ix (ixT K) (pv 5) pe_int (fun u v => rfl))))
   (pss_one (ps_set (i := 3) sc_weight_among.nd rfl (Or.inl rfl) (pe_op op_mulC (pv 3) (pe_ix (ixT K) (pv 5) pe_int (fun u v => rfl))))) (by rfl)) (by rfl)) (by rfl))
   (pss_one (ps_ret (pe_fn F_number_of hr rfl (pa_cons (pv 2) (pa_cons (pv 3) pa_nil))))) (by rfl)) (by rfl)) (by rfl)), ?_⟩
 obtain ⟨rx, l, x, ys, os, n, rfl, hx, hS, hn, hxo, hbx, hbo, h20, hn3, q⟩ := h
 have hl := hn.length
 refine ⟨_, rfl, l, rfl, ⟨_, hS⟩, ?_⟩
 refine for_list (xs := ys) (L6 H rx l x os n fun H rx l x os n i σ H' => Same H H' ∧ ∃ (t b : Int) (z4 z5 : Option V), σ = [some (.ref rx), some (.ref l), some (.int t), some (.int b), z4, z5] ∧ t ≠ 0 ∧ b ≠ 0 ∧ (b : Rat) = L2.prV x (os.take i) * (t : Rat) ∧ Bd ((2 * n + 1) * i + 1) t ∧ Bd ((2 * n + 1) * i + 1) b)
   ⟨Same.refl _, 1, 1, none, none, rfl, by decide, by decide, ?_, (show Bd 1 1 by unfold Bd; decide).mono (by lia), (show Bd 1 1 by unfold Bd; decide).mono (by lia)⟩ (fun i σ H' _ h => Same.seq h.1 hS) ?_ ?_
 · show ((1 : Int) : Rat) = 1 * ((1 : Int) : Rat); grind
 · rintro i v σ H' hv hR1
   refine anE2 hR1 fun sm hz97 => ?_
   refine exE4 hz97 fun t b z4 z5 hz97' => ?_
   clear hz97
   refine anE6 hz97' fun hq96 t0 b0 hb bt bb => ?_
   clear hz97'
   obtain rfl := hq96
   try clear hR1
   obtain ⟨o, ho, hvn⟩ := (Paired.get hn hv)
   have hi : i < os.length := (List.getElem?_eq_some_iff.mp ho).1
   have hom := List.mem_of_getElem? ho
   have hd : x - o ≠ 0 := fun z => hxo (by rw [show x = o by grind]; exact hom)
   have bd := (hbx.minus (hbo o hom)).mono (n := 2 * n + 1) (by lia)
   refine ⟨_, rfl, _, rfl, _, _, x, o, n, n, rfl, hx.same sm, hvn.same sm, hbx, hbo o hom, by lia, fun d hd' => ?_⟩
   have sd : Same H' (upd H' d (nT (x - o))) := Same.new hd'
   have ed : (upd H' d (nT (x - o))) d = some (nT (x - o)) := upd_same
   try dsimp only
   generalize upd H' d (nT (x - o)) = Hd at sd ed ⊢
   have hm : (2 * n + 1) * i ≤ (2 * n + 1) * 20 := Nat.mul_le_mul_left _ (by lia)
   have hm1 : (2 * n + 1) * (i + 1) = (2 * n + 1) * i + (2 * n + 1) := by rw [Nat.mul_add, Nat.mul_one]
   refine ⟨_, rfl, _, rfl, d, _, _, _, rfl, rfl, SqT.of ed, rfl, _, _, rfl, rfl, MulC.bd bt bd.2 (by lia), ?_⟩
   refine ⟨_, rfl, _, rfl, d, _, _, _, rfl, rfl, SqT.of ed, rfl, _, _, rfl, rfl, MulC.bd bb bd.1 (by lia), ?_⟩
   have hdn : (x - o).num ≠ 0 := fun z => hd (Rat.num_eq_zero.mp z)
   refine ⟨sm.trans sd, t * ((x - o).den : Int), b * (x - o).num, _, _, rfl, Int.mul_ne_zero t0 (Nm.den_ne _), Int.mul_ne_zero b0 hdn, ?_, (bt.mul bd.2).mono (by lia), (bb.mul bd.1).mono (by lia)⟩
   rw [List.take_add_one, ho, Rat.intCast_mul, Rat.intCast_mul, hb, Nm.num_mul (x - o)]
   show _ = L2.prV x (os.take i ++ [o]) * _
   rw [prV_snoc]; grind
 · rintro σ H' hR2
   refine anE2 hR2 fun sm hz99 => ?_
   refine exE4 hz99 fun t b z4 z5 hz99' => ?_
   clear hz99
   refine anE6 hz99' fun hq98 t0 b0 hb bt bb => ?_
   clear hz99'
   obtain rfl := hq98
   try clear hR2
   rw [hl, List.take_length] at hb
   rw [hl] at bt bb
   refine ⟨_, rfl, _, rfl, t, b, rfl, b0, fun p hp => ?_⟩
   have hp0 : L2.prV x os ≠ 0 := L2.prV_ne hxo
   have e : Rat.divInt t b = 1 / L2.prV x os := by
     apply Nm.div_eq b0
     rw [hb, ← Rat.mul_assoc, Rat.div_mul_cancel hp0, Rat.one_mul]
   rw [e]
   refine q p _ (sm.trans (Same.new hp)) upd_same ?_
   rw [← e]
   exact RB.div (m := 0) bt bb b0
theorem sc_plus : FnScope ["a", "b"] ["a", "b"] (defScope (top 11)) := ⟨rfl, rfl, rfl, by decide +kernel, rfl, by decide +kernel, by decide +kernel⟩
set_option maxHeartbeats 4000000 in
theorem ok_plus {f : Addr} {fd : FuncData} (F : Fun K "plus" "plus" (top 11) f fd) (F_number_of : Fd P w K mg base 34 "number_of" ["top", "bottom"] (spLow)) (hT : P.given.tree = none) :
   FnOk P w K mg base CX0 35 f fd ["a", "b"] (spBin K (· + ·)) := by
 refine F.ok sc_plus (fun vs H Q E h => ?_) (fun cdv A outer s H vs Q E hr h => ?_)
 · obtain ⟨_, _, _, _, _, _, rfl, _⟩ := h; rfl
 refine ⟨_, (pss_one (ps_ret (pe_fn F_number_of hr rfl (pa_cons (pe_op op_add (pe_op op_mulC (pe_ix (ixT K) (pv 0) pe_int (fun u v => rfl)) (pe_ix (ixT K) (pv 1) pe_int (fun u v => rfl))) (pe_op op_mulC (pe_ix (ixT K) (pv 1) pe_int (fun u v => rfl)) (pe_ix (ixT K) (pv 0) pe_int (fun u v => rfl)))) (pa_cons (pe_op op_mulC (pe_ix (ixT K) (pv 0) pe_int (fun u v => rfl)) (pe_ix (ixT K) (pv 1) pe_int (fun u v => rfl))) pa_nil))))), ?_⟩
 obtain ⟨x, y, p, q, m, n, rfl, ⟨r, rfl, hr⟩, ⟨u, rfl, hu⟩, hp, hq, hmn, k⟩ := h
 refine ⟨_, rfl, r, _, _, _, rfl, rfl, hr, rfl, _, rfl, u, _, _, _, rfl, rfl, hu, rfl, _, _, rfl, rfl, MulC.bd hp.1 hq.2, _, rfl, u, _, _, _, rfl, rfl, hu, rfl, _, rfl, r, _, _, _, rfl, rfl, hr, rfl, _, _, rfl, rfl, MulC.bd hq.1 hp.2, _, _, rfl, rfl, ?_⟩
 refine ⟨_, rfl, r, _, _, _, rfl, rfl, hr, rfl, _, rfl, u, _, _, _, rfl, rfl, hu, rfl, _, _, rfl, rfl, MulC.bd hp.2 hq.2, ?_⟩
 refine ⟨_, _, rfl, Int.mul_ne_zero (Nm.den_ne p) (Nm.den_ne q), fun z hz => ?_⟩
 have e := k z hz
 try dsimp only at e
 rw [← Nm.plus_eq] at e
 exact e
theorem sc_sum_of_turned : FnScope ["x", "others", "total", "other"] ["x", "others"] (defScope (top 41)) := ⟨rfl, rfl, rfl, by decide +kernel, rfl, by decide +kernel, by decide +kernel⟩
set_option maxHeartbeats 4000000 in
theorem ok_sum_of_turned {f : Addr} {fd : FuncData} (F : Fun K "sum_of_turned" "sum_of_turned" (top 41) f fd) (F_plus : Fd P w K mg base 35 "plus" ["a", "b"] (spBin K (· + ·))) (F_over : Fd P w K mg base 35 "over" ["a", "b"] (spOver K)) (F_minus : Fd P w K mg base 35 "minus" ["a", "b"] (spBin K (· - ·))) {a_NOUGHT : Addr} (c_NOUGHT : mg "NOUGHT" = some (.ref a_NOUGHT)) (n_NOUGHT : ∀ H : Hp, NumV K H (.ref a_NOUGHT) (0)) {a_ONE : Addr} (c_ONE : mg "ONE" = some (.ref a_ONE)) (n_ONE : ∀ H : Hp, NumV K H (.ref a_ONE) (1)) (hT : P.given.tree = none) :
   FnOk P w K mg base CX0 36 f fd ["x", "others"] (spST K) := by
 refine F.ok sc_sum_of_turned (fun vs H Q E h => ?_) (fun cdv A outer s H vs Q E hr h => ?_)
 · obtain ⟨_, _, _, _, _, _, rfl, _⟩ := h; rfl
 refine ⟨_, (pss_consC (K := K) (ps_set (i := 2) sc_sum_of_turned.nd rfl (Or.inl rfl) (pe_glob (v := .ref a_NOUGHT) rfl c_NOUGHT rfl))
   (pss_consC (K := K) (ps_forC (K := K) PassesOwn.never rfl (piL K (pv 1)) (pg_name (i := 3) sc_sum_of_turned.nd rfl (Or.inl rfl)) (pss_one (ps_set (i := 2) sc_sum_of_turned.nd rfl (Or.inl rfl) (pe_fn F_plus hr rfl (pa_cons (pv 2) (pa_cons (pe_fn F_over hr rfl (pa_cons (pe_glob (v := .ref a_ONE) rfl c_ONE rfl) (pa_cons (pe_fn F_minus hr rfl (pa_cons (pv 0) (pa_cons (pv 3) pa_nil))) pa_nil))) pa_nil))))) (by rfl))
   (pss_one (ps_ret (pv 2))) (by rfl)) (by rfl)), ?_⟩
 obtain ⟨rx, l, x, ys, os, n, rfl, hx, hS, hn, hxo, hbx, hbo, h20, hn3, q⟩ := h
 have hl := hn.length
 refine ⟨_, rfl, l, rfl, ⟨_, hS⟩, ?_⟩
 refine for_list (xs := ys) (L7 H rx l K x os n fun H rx l K x os n i σ H' => Same H H' ∧ ∃ (v : V) (z3 : Option V), σ = [some (.ref rx), some (.ref l), some v, z3] ∧ NumV K H' v (L2.tuV x (os.take i)) ∧ RB ((2 * n + 3) * i + 1) (L2.tuV x (os.take i)))
   ⟨Same.refl _, .ref a_NOUGHT, none, rfl, n_NOUGHT _, RB.zero (by lia)⟩ (fun i σ H' _ h => Same.seq h.1 hS) ?_ ?_
 · rintro i v σ H' hv hR1
   refine anE2 hR1 fun sm hz101 => ?_
   refine exE2 hz101 fun w z3 hz101' => ?_
   clear hz101
   refine anE3 hz101' fun hq100 hw bw => ?_
   clear hz101'
   obtain rfl := hq100
   try clear hR1
   obtain ⟨o, ho, hvn⟩ := (Paired.get hn hv)
   have hi : i < os.length := (List.getElem?_eq_some_iff.mp ho).1
   have hom := List.mem_of_getElem? ho
   have hd : x - o ≠ 0 := fun z => hxo (by rw [show x = o by grind]; exact hom)
   have bd := (hbx.minus (hbo o hom)).mono (n := 2 * n + 1) (by lia)
   have hm : (2 * n + 3) * i ≤ (2 * n + 3) * 20 := Nat.mul_le_mul_left _ (by lia)
   have hm1 : (2 * n + 3) * (i + 1) = (2 * n + 3) * i + (2 * n + 3) := by rw [Nat.mul_add, Nat.mul_one]
   refine ⟨_, rfl, _, rfl, _, rfl, _, _, x, o, n, n, rfl, hx.same sm, hvn.same sm, hbx, hbo o hom, by lia, fun d hd' => ?_⟩
   have sd : Same H' (upd H' d (nT (x - o))) := Same.new hd'
   refine ⟨_, _, 1, x - o, 1, 2 * n + 1, rfl, n_ONE _, NumV.of upd_same, hd, RB.one (by decide), bd, by lia, fun u hu => ?_⟩
   have su := sd.trans (Same.new (o := nT (1 / (x - o))) hu)
   have b1 := RB.over (RB.one (n := 1) (by decide)) bd hd
   refine ⟨_, _, L2.tuV x (os.take i), 1 / (x - o), (2 * n + 3) * i + 1, 1 + (2 * n + 1), rfl, hw.same su, NumV.of upd_same, bw, b1, by lia, fun y hy => ?_⟩
   refine ⟨(sm.trans su).trans (Same.new hy), .ref y, _, rfl, ?_, ?_⟩
   · rw [List.take_add_one, ho]
     show NumV K _ (.ref y) (L2.tuV x (os.take i ++ [o]))
     rw [tuV_snoc]
     exact NumV.of upd_same
   · rw [List.take_add_one, ho]
     show RB _ (L2.tuV x (os.take i ++ [o]))
     rw [tuV_snoc]
     exact (bw.plus b1).mono (by lia)
 · rintro σ H' hR2
   refine anE2 hR2 fun sm hz103 => ?_
   refine exE2 hz103 fun w z3 hz103' => ?_
   clear hz103
   refine anE3 hz103' fun hq102 hw bw => ?_
   clear hz103'
   obtain rfl := hq102
   try clear hR2
   rw [hl, List.take_length] at hw bw
   exact ⟨_, rfl, q w H' sm hw bw⟩
theorem sc_share_of : FnScope ["points", "x", "k", "knots", "others", "weight", "last"] ["points", "x", "k"] (defScope (top 42)) := ⟨rfl, rfl, rfl, by decide +kernel, rfl, by decide +kernel, by decide +kernel⟩
set_option maxHeartbeats 4000000 in
theorem ok_share_of {f : Addr} {fd : FuncData} (F : Fun K "share_of" "share_of" (top 42) f fd) (F_knots_of : Fd P w K mg base 34 "knots_of" ["points"] (spKnotsT K)) (F_weight_among : Fd P w K mg base 36 "weight_among" ["x", "others"] (spWA K)) (F_by_steps : Fd P w K mg base 36 "by_steps" ["knots", "steps"] (spBySteps K)) (F_minus : Fd P w K mg base 35 "minus" ["a", "b"] (spBin K (· - ·))) (F_times : Fd P w K mg base 35 "times" ["a", "b"] (spBin K (· * ·))) (F_sum_of_turned : Fd P w K mg base 36 "sum_of_turned" ["x", "others"] (spST K)) (b_len : mg "len" = none) {a_NOUGHT : Addr} (c_NOUGHT : mg "NOUGHT" = some (.ref a_NOUGHT)) (n_NOUGHT : ∀ H : Hp, NumV K H (.ref a_NOUGHT) (0)) (hT : P.given.tree = none) :
   FnOk P w K mg base CX0 37 f fd ["points", "x", "k"] (spShare K) := by
 refine F.ok sc_share_of (fun vs H Q E h => ?_) (fun cdv A outer s H vs Q E hr h => ?_)
 · obtain ⟨_, _, _, _, _, _, _, rfl, _⟩ := h; rfl
 refine ⟨_, (pss_consC (K := K) (ps_set (i := 3) sc_share_of.nd rfl (Or.inl rfl) (pe_fn F_knots_of hr rfl (pa_cons (pv 0) pa_nil)))
   (pss_consC (K := K) (ps_lc (i := 4) rfl sc_share_of.nd rfl rfl (N := ["knot", "x"]) (nt := 1) (js := [1]) (CompOk.look (NX := ["points", "x", "k", "knots", "others", "weight", "last"]) (sc := defScope (top 42)) rfl rfl (by decide +kernel)) (piL K (pv 3)) (fun u1 u2 u3 u4 u5 => (pg_name (i := 0) (show List.Nodup (["knot", "x"] : List Str) from by decide +kernel) rfl (Or.inl rfl))) (stays_name (by decide)) (fun u1 u2 u3 u4 u5 => pts_one (pt_cmpR (neD K hr.units) (pv 0) (pv 1) (nomark _))) (fun u1 u2 u3 u4 u5 => (pv 0)) rfl)
   (pss_consC (K := K) (ps_set (i := 5) sc_share_of.nd rfl (Or.inl rfl) (pe_fn F_weight_among hr rfl (pa_cons (pv 1) (pa_cons (pv 4) pa_nil))))
   (pss_consC (K := K) (ps_ifC (K := K) (pt_cmpR op_eq (pv 2) pe_int (nomark _)) (pss_one (ps_set (i := 6) sc_share_of.nd rfl (Or.inl rfl) (pe_lst (pa_cons (pe_glob (v := .ref a_NOUGHT) rfl c_NOUGHT rfl) (pa_cons (pv 5) pa_nil))))) (pss_one (ps_ifC (K := K) (pt_cmpR op_eq (pe_op op_sub (pe_callB (lenK K) rfl b_len bt_len (pa_cons (pv 3) pa_nil)) (pe_callB (lenK K) rfl b_len bt_len (pa_cons (pv 4) pa_nil))) pe_int (nomark _)) (pss_one (ps_set (i := 6) sc_share_of.nd rfl (Or.inl rfl) (pe_lst (pa_cons (pv 5) (pa_cons (pe_fn F_minus hr rfl (pa_cons (pe_glob (v := .ref a_NOUGHT) rfl c_NOUGHT rfl) (pa_cons (pe_fn F_times hr rfl (pa_cons (pv 5) (pa_cons (pe_fn F_sum_of_turned hr rfl (pa_cons (pv 1) (pa_cons (pv 4) pa_nil))) pa_nil))) pa_nil))) pa_nil))))) (pss_one (ps_set (i := 6) sc_share_of.nd rfl (Or.inl rfl) (pe_lst (pa_cons (pv 5) pa_nil)))) (by rfl) (by rfl))) (by rfl) (by rfl))
   (pss_one (ps_ret (pe_fn F_by_steps hr rfl (pa_cons (pe_op op_cat (pv 4) (pe_op op_rep (pe_lst (pa_cons (pv 1) pa_nil)) (pe_callB (lenK K) rfl b_len bt_len (pa_cons (pv 6) pa_nil)))) (pa_cons (pe_op op_cat (pe_op op_rep (pe_lst (pa_cons (pe_glob (v := .ref a_NOUGHT) rfl c_NOUGHT rfl) pa_nil)) (pe_callB (lenK K) rfl b_len bt_len (pa_cons (pv 4) pa_nil))) (pv 6)) pa_nil))))) (by rfl)) (by rfl)) (by rfl)) (by rfl)), ?_⟩
 obtain ⟨r, rx, k, xs, pss, x, n, rfl, hS, hp, h23, hp20, ht8, hx, hbx, hbt, hn1, hn40, q⟩ := h
 have P1 : 1 ≤ sizeLine := by decide
 have P2 : 2 ≤ sizeLine := by decide
 have S20 : ∀ m : Nat, m ≤ 1000 → m ≤ sizeLine := fun m hm => Nat.le_of_lt (small1000 hm)
 refine ⟨_, rfl, r, xs, pss, rfl, hS, hp, h23, by lia, fun kl H1 ys s1 hkl ekl hys => ?_⟩
 replace hys : Nums K H1 ys (knots pss) := NumsT.nums hys
 have knl : (knots pss).length ≤ 8 := by unfold knots; rw [List.length_map]; exact ht8
 generalize knots pss = kn at hys hbt q knl
 have hyl := hys.length
 refine lc_of ⟨_, rfl, kl, rfl, ⟨_, SqL.of ekl⟩, ?_⟩
 refine lc_filt (xs := ys) (fun i zs H' => H' = H1 ∧ zs.length ≤ i ∧ Nums K H1 zs (oth (kn.take i) x)) ⟨rfl, Nat.le_refl _, .nil⟩ (fun i zs H' _ h => ⟨by rw [h.1]; exact SqL.of ekl, h.2.1⟩) (S20 _ (by lia)) ?_ ?_
 · rintro i v zs H' hv ⟨rfl, hzl, hzn⟩
   obtain ⟨c, hc, hvn⟩ := (Paired.get hys hv)
   have eo : oth (kn.take (i + 1)) x = oth (kn.take i) x ++ oth [c] x := by
     unfold oth
     rw [List.take_add_one, hc, List.filter_append]; rfl
   refine ⟨_, rfl, _, rfl, ?_⟩
   refine eqN hvn (hx.same s1) ?_
   refine ⟨_, rfl, ?_⟩
   by_cases e : c = x
   · refine iteFc (by rw [decide_eq_true e] <;> rfl) ⟨rfl, by lia, ?_⟩
     rw [eo, show oth [c] x = [] by unfold oth; simp [e], List.append_nil]
     exact hzn
   · refine iteTc (by rw [decide_eq_false e] <;> rfl) ⟨_, rfl, rfl, by rw [List.length_append, List.length_singleton]; lia, ?_⟩
     rw [eo, show oth [c] x = [c] by unfold oth; simp [e]]
     exact Paired.snoc hzn hvn
 rintro zs H' ⟨rfl, hzl, hzn⟩ ol hol
 rw [hyl, List.take_length] at hzn
 rw [hyl] at hzl
 have hxo := oth_out kn x
 have hbo : ∀ o ∈ oth kn x, RB n o := fun o ho => hbt o (List.mem_filter.mp ho).1
 have ozl := hzn.length
 have e_w : wOf kn x = 1 / L2.prV x (oth kn x) := rfl
 have e_s : sOf kn x = 0 - wOf kn x * L2.tuV x (oth kn x) := rfl
 have e_l : lastOf kn x k = lastS k (kn.length - (oth kn x).length) (wOf kn x) (sOf kn x) := rfl
 generalize oth kn x = os at hzn hxo hbo ozl e_w e_s e_l q
 have s2 : Same H' (upd H' ol (.lst zs)) := Same.new hol
 have eol : (upd H' ol (.lst zs)) ol = some (.lst zs) := upd_same
 generalize upd H' ol (.lst zs) = H2 at s2 eol ⊢
 have s02 := s1.trans s2
 have m1 : (2 * n + 1) * os.length ≤ 81 * 8 := Nat.mul_le_mul (by lia) (by lia)
 have m2 : (2 * n + 3) * os.length ≤ 83 * 8 := Nat.mul_le_mul (by lia) (by lia)
 refine ⟨_, rfl, _, rfl, rx, ol, x, zs, os, n, rfl, hx.same s02, SqL.of eol, Nums.same hzn s2, hxo, hbx, hbo, by lia, by lia, fun w H3 s3 ew bw => ?_⟩
 rw [← e_w] at ew bw
 have bw' : RB 700 (wOf kn x) := bw.mono (by lia)
 have s03 := s02.trans s3
 have ekl3 := s3 _ _ (s2 _ _ ekl)
 have eol3 := s3 _ _ eol
 have hzn3 := Nums.same (Nums.same hzn s2) s3
 try dsimp only
 refine seq_joinN (L10 H3 K kn x k r rx kl ol w fun H3 K kn x k r rx kl ol w σ' Hj => Same H3 Hj ∧ ∃ (la : Addr) (zl : List V), Hj la = some (.lst zl) ∧ Nums K Hj zl (lastOf kn x k) ∧ (∀ q ∈ lastOf kn x k, RB 1400 q) ∧ σ' = [some (.ref r), some (.ref rx), some (.int k), some (.ref kl), some (.ref ol), some (.ref w), some (.ref la)]) (fun nx hnx => ?_) ?_
 · refine ⟨_, rfl, rfl, _, rfl, ?_⟩
   by_cases hk : k = 1
   · rw [decide_eq_true (show V.int k = V.int 1 by rw [hk])]
     have el : lastOf kn x k = [0, wOf kn x] := by rw [e_l]; unfold lastS; rw [if_pos hk]
     refine iteT ⟨_, rfl, P2, fun la hla => hnx _ _ ⟨Same.new hla, la, _, upd_same, ?_, ?_, rfl⟩⟩
     · rw [el]; exact .cons (n_NOUGHT _) (.cons (NumV.of ((Same.new hla) _ _ ew)) .nil)
     · rw [el]
       intro c hc
       rcases List.mem_cons.mp hc with z | z
       · rw [z]; exact RB.zero (by decide)
       · rw [List.mem_singleton.mp z]; exact bw'.mono (by decide)
   refine iteFc (by rw [decide_eq_false (show ¬ V.int k = V.int 1 from fun z => hk (V.int.inj z))] <;> rfl) ⟨_, rfl, kl, ys, rfl, .inl (SqL.of ekl3), _, rfl, ol, zs, rfl, .inl (SqL.of eol3), _, _, rfl, rfl, rfl, _, rfl, ?_⟩
   by_cases h2 : kn.length - os.length = 2
   · rw [decide_eq_true (show V.int ((ys.length : Int) - (zs.length : Int)) = V.int 2 by congr 1; lia)]
     have el : lastOf kn x k = [wOf kn x, sOf kn x] := by rw [e_l]; unfold lastS; rw [if_neg hk, if_pos h2]
     refine iteT ⟨_, rfl, _, rfl, _, rfl, _, rfl, rx, ol, x, zs, os, n, rfl, hx.same s03, SqL.of eol3, hzn3, hxo, hbx, hbo, by lia, by lia, fun v H4 s4 hv bv => ?_⟩
     have bv' : RB 700 (L2.tuV x os) := bv.mono (by lia)
     refine ⟨_, _, wOf kn x, L2.tuV x os, 700, 700, rfl, NumV.of (s4 _ _ ew), hv, bw', bv', by decide, fun u hu => ?_⟩
     have su := s4.trans (Same.new (o := nT (wOf kn x * L2.tuV x os)) hu)
     refine ⟨_, _, 0, wOf kn x * L2.tuV x os, 1, 1400, rfl, n_NOUGHT _, NumV.of upd_same, RB.zero (by decide), bw'.times bv', by decide, fun y hy => ⟨P2, fun la hla => ?_⟩⟩
     have sy := su.trans (Same.new (o := nT (0 - wOf kn x * L2.tuV x os)) hy)
     have sl := sy.trans (Same.new (o := .lst [.ref w, .ref y]) hla)
     refine hnx _ _ ⟨sl, la, _, upd_same, ?_, ?_, rfl⟩
     · rw [el]
       refine .cons (NumV.of (sl _ _ ew)) (.cons (NumV.of ?_) .nil)
       rw [e_s]
       exact (Same.new hla) _ _ upd_same
     · rw [el]
       intro c hc
       rcases List.mem_cons.mp hc with z | z
       · rw [z]; exact bw'.mono (by decide)
       · rw [List.mem_singleton.mp z, e_s]
         have e0 : (0 : Rat) - wOf kn x * L2.tuV x os = -(wOf kn x * L2.tuV x os) := by grind
         rw [e0]
         have bt := bw'.times bv'
         exact ⟨by rw [Rat.neg_num]; exact Bd.neg bt.1, by rw [Rat.neg_den]; exact bt.2⟩
   · rw [decide_eq_false (show ¬ V.int ((ys.length : Int) - (zs.length : Int)) = V.int 2 from fun z => h2 (by have := V.int.inj z; lia))]
     have el : lastOf kn x k = [wOf kn x] := by rw [e_l]; unfold lastS; rw [if_neg hk, if_neg h2]
     refine iteF ⟨_, rfl, P1, fun la hla => hnx _ _ ⟨Same.new hla, la, _, upd_same, ?_, ?_, rfl⟩⟩
     · rw [el]; exact .cons (NumV.of ((Same.new hla) _ _ ew)) .nil
     · rw [el]
       intro c hc
       rw [List.mem_singleton.mp hc]; exact bw'.mono (by decide)
 rintro σ' H4 hR1
 refine anE2 hR1 fun s4 hz105 => ?_
 refine exE2 hz105 fun la zl hz105' => ?_
 clear hz105
 refine anE4 hz105' fun ela hzl4 bls hq104 => ?_
 clear hz105'
 obtain rfl := hq104
 try clear hR1
 have lsl : (lastOf kn x k).length ≤ 2 := by
   rw [e_l]; unfold lastS
   split
   · exact Nat.le_refl 2
   · split
     · exact Nat.le_refl 2
     · exact Nat.le_succ 1
 have zll := hzl4.length
 have s04 := s03.trans s4
 have eol4 := s4 _ _ eol3
 have hzn4 := Nums.same hzn3 s4
 refine ⟨_, rfl, _, rfl, P1, fun l1 hl1 => ?_⟩
 have s5 : Same H4 (upd H4 l1 (.lst [.ref rx])) := Same.new hl1
 have e5 : (upd H4 l1 (.lst [.ref rx])) l1 = some (.lst [.ref rx]) := upd_same
 generalize upd H4 l1 (.lst [.ref rx]) = H5 at s5 e5 ⊢
 refine ⟨_, rfl, la, zl, rfl, .inl (SqL.of (s5 _ _ ela)), l1, _, _, rfl, rfl, e5, by lia, by lia, S20 _ (by show 1 * _ ≤ _; lia), fun l2 hl2 => ?_⟩
 have e2 : (List.replicate ((zl.length : Nat) : Int).toNat [V.ref rx]).flatten = List.replicate zl.length (V.ref rx) := by rw [Int.toNat_natCast, List.flatten_replicate_singleton]
 rw [e2]
 have s6 : Same H5 (upd H5 l2 (.lst (List.replicate zl.length (V.ref rx)))) := Same.new hl2
 have e6 : (upd H5 l2 (.lst (List.replicate zl.length (V.ref rx)))) l2 = some (.lst (List.replicate zl.length (V.ref rx))) := upd_same
 generalize upd H5 l2 (.lst (List.replicate zl.length (V.ref rx))) = H6 at s6 e6 ⊢
 have s46 := s5.trans s6
 refine ⟨ol, l2, _, _, rfl, rfl, s46 _ _ eol4, e6, S20 _ (by rw [List.length_replicate]; lia), fun l3 hl3 => ?_⟩
 have s7 : Same H6 (upd H6 l3 (.lst (zs ++ List.replicate zl.length (V.ref rx)))) := Same.new hl3
 have e7 : (upd H6 l3 (.lst (zs ++ List.replicate zl.length (V.ref rx)))) l3 = some (.lst (zs ++ List.replicate zl.length (V.ref rx))) := upd_same
 generalize upd H6 l3 (.lst (zs ++ List.replicate zl.length (V.ref rx))) = H7 at s7 e7 ⊢
 have s47 := s46.trans s7
 refine ⟨P1, fun l4 hl4 => ⟨_, rfl, ol, zs, rfl, .inl (SqL.of ((Same.new hl4) _ _ (s47 _ _ eol4))), l4, _, _, rfl, rfl, upd_same, by lia, by lia, S20 _ (by show 1 * _ ≤ _; lia), fun l5 hl5 => ?_⟩⟩
 have e8 : (List.replicate ((zs.length : Nat) : Int).toNat [V.ref a_NOUGHT]).flatten = List.replicate zs.length (V.ref a_NOUGHT) := by rw [Int.toNat_natCast, List.flatten_replicate_singleton]
 rw [e8] at *
 have s8 : Same H7 (upd (upd H7 l4 (.lst [.ref a_NOUGHT])) l5 (.lst (List.replicate zs.length (V.ref a_NOUGHT)))) := (Same.new hl4).trans (Same.new hl5)
 have e9 : (upd (upd H7 l4 (.lst [.ref a_NOUGHT])) l5 (.lst (List.replicate zs.length (V.ref a_NOUGHT)))) l5 = some (.lst (List.replicate zs.length (V.ref a_NOUGHT))) := upd_same
 generalize upd (upd H7 l4 (.lst [.ref a_NOUGHT])) l5 (.lst (List.replicate zs.length (V.ref a_NOUGHT))) = H8 at s8 e9 ⊢
 have s48 := s47.trans s8
 refine ⟨_, rfl, l5, la, _, _, rfl, rfl, e9, s48 _ _ ela, S20 _ (by rw [List.length_replicate]; lia), fun l6 hl6 => ?_⟩
 have s9 : Same H8 (upd H8 l6 (.lst (List.replicate zs.length (V.ref a_NOUGHT) ++ zl))) := Same.new hl6
 have e10 : (upd H8 l6 (.lst (List.replicate zs.length (V.ref a_NOUGHT) ++ zl))) l6 = some (.lst (List.replicate zs.length (V.ref a_NOUGHT) ++ zl)) := upd_same
 generalize upd H8 l6 (.lst (List.replicate zs.length (V.ref a_NOUGHT) ++ zl)) = H9 at s9 e10 ⊢
 have s49 := s48.trans s9
 have s09 := s04.trans s49
 have rep : ∀ (H : Hp) (v : V) (c : Rat) (m : Nat), NumV K H v c → Nums K H (List.replicate m v) (List.replicate m c) := fun H v c m h => by
   induction m with
   | zero => exact .nil
   | succ m ih => exact .cons h ih
 have nk : Nums K H9 (zs ++ List.replicate zl.length (V.ref rx)) (os ++ List.replicate (lastOf kn x k).length x) := by
   rw [← zll]
   exact Paired.append (Nums.same hzn4 s49) (rep _ _ _ _ (hx.same s09))
 have nst : Nums K H9 (List.replicate zs.length (V.ref a_NOUGHT) ++ zl) (List.replicate os.length 0 ++ lastOf kn x k) := by
   rw [← ozl]
   exact Paired.append (rep _ _ _ _ (n_NOUGHT _)) (Nums.same hzl4 s49)
 refine ⟨l3, l6, _, _, os ++ List.replicate (lastOf kn x k).length x, List.replicate os.length 0 ++ lastOf kn x k, 1400, rfl, SqL.of (s9 _ _ (s8 _ _ e7)), nk, SqL.of e10, nst, by rw [List.length_append, List.length_append, List.length_replicate, List.length_replicate], by rw [List.length_append, List.length_replicate]; lia, (fun c hc => ?_), (fun c hc => ?_), by decide, fun p Hp cs sp cp hcl gc hcb hce => ?_⟩
 · rcases List.mem_append.mp hc with z | z
   · exact (hbo c z).mono (by lia)
   · rw [(List.mem_replicate.mp z).2]; exact hbx.mono (by lia)
 · rcases List.mem_append.mp hc with z | z
   · rw [(List.mem_replicate.mp z).2]; exact RB.zero (by decide)
   · exact bls c z
 rw [List.length_append, List.length_replicate] at hcl hcb
 have nb : 1400 * (os.length + (lastOf kn x k).length) ≤ 1400 * 10 := Nat.mul_le_mul_left _ (by lia)
 refine q p Hp cs (s09.trans sp) cp hcl gc (fun c hc => (hcb c hc).mono (by lia)) fun X => ?_
 rw [hce X, newton_noughts, e_l, last_is]
theorem sc_gain : FnScope ["points", "x", "k", "number"] ["points", "x", "k", "number"] (defScope (top 51)) := ⟨rfl, rfl, rfl, by decide +kernel, rfl, by decide +kernel, by decide +kernel⟩
set_option maxHeartbeats 4000000 in
theorem ok_gain {f : Addr} {fd : FuncData} (F : Fun K "gain" "gain" (top 51) f fd) (F_scaled : Fd P w K mg base 36 "scaled" ["curve", "number"] (spScaled K)) (F_share_of : Fd P w K mg base 37 "share_of" ["points", "x", "k"] (spShare K)) (F_told_in : Fd P w K mg base 33 "told_in" ["points"] (spToldT K)) (hT : P.given.tree = none) :
   FnOk P w K mg base CX0 38 f fd ["points", "x", "k", "number"] (spGain K) := by
 refine F.ok sc_gain (fun vs H Q E h => ?_) (fun cdv A outer s H vs Q E hr h => ?_)
 · obtain ⟨_, _, _, _, _, _, _, _, rfl, _⟩ := h; rfl
 refine ⟨_, (pss_consC (K := K) (ps_ifC (K := K) (pt_cmpR (notInD K hr) (pe_tup (pa_cons (pv 1) (pa_cons (pv 2) pa_nil))) (pe_lc rfl (N := ["told"]) (nt := 1) (js := []) (CompOk.look (NX := ["points", "x", "k", "number"]) (sc := defScope (top 51)) rfl rfl (by decide +kernel)) (piL K (pe_fn F_told_in hr rfl (pa_cons (pv 0) pa_nil))) (fun u1 u2 u3 u4 u5 => (pg_name (i := 0) (show List.Nodup (["told"] : List Str) from by decide +kernel) rfl (Or.inl rfl))) (stays_name (by decide)) (fun u1 u2 u3 u4 u5 => pts_nil) (fun u1 u2 u3 u4 u5 => (pe_slice (slTA K) (pv 0) po_none (po_some pe_int)))) (by with_unfolding_all rfl)) (pss_one ps_never) pss_nil (by rfl) (by rfl))
   (pss_one (ps_ret (pe_fn F_scaled hr rfl (pa_cons (pe_fn F_share_of hr rfl (pa_cons (pv 0) (pa_cons (pv 1) (pa_cons (pv 2) pa_nil)))) (pa_cons (pv 3) pa_nil))))) (by rfl)), ?_⟩
 obtain ⟨r, rx, u, xs, pss, t, y, n, rfl, hS, hp, h23, h20, ht8, hnd, htm, hx, hbk, hn1, hn40, hu, hby, q⟩ := h
 have P2 : 2 ≤ sizeLine := by decide
 refine ⟨_, rfl, _, rfl, P2, fun tt htt => ?_⟩
 have s1 : Same H (upd H tt (.tup [.ref rx, .int t.k])) := Same.new htt
 have ett : (upd H tt (.tup [.ref rx, .int t.k])) tt = some (.tup [.ref rx, .int t.k]) := upd_same
 generalize upd H tt (.tup [.ref rx, .int t.k]) = H1 at s1 ett ⊢
 refine lc_of ⟨_, rfl, r, xs, pss, rfl, hS.same s1, PtsT.same hp s1, h23, by lia, fun w Hw ws sw hw ew htw => ⟨w, rfl, ⟨_, SqL.of ew⟩, ?_⟩⟩
 have hwl := htw.length
 refine lc_lst (xs := ws) (L3 Hw K pss fun Hw K pss i zs H' => Same Hw H' ∧ Mss K H' zs (((tell pss).take i).map fun t => (t.x, t.k))) ⟨Same.refl _, .nil⟩ (fun i zs H' hi h => ⟨SqL.of (h.1 _ _ ew), by rw [h.2.length, List.length_map, List.length_take]; lia⟩) (Nat.le_of_lt (small1000 (by lia))) ?_ ?_
 · rintro i v zs H' hv ⟨sm, hz⟩
   obtain ⟨t', ht', a, p, rn, rfl, ha, hxp, _⟩ := (Paired.get htw hv)
   refine ⟨_, rfl, 2, rfl, slice_to (v := 2) (ha.same sm) (show 2 ≤ 3 by decide) fun q2 H2 s2 hq2 => ⟨sm.trans s2, ?_⟩⟩
   rw [List.take_add_one, ht', List.map_append]
   exact Paired.snoc (mss_same hz s2) ⟨q2, _, rfl, hq2, NumV.of (s2 _ _ (sm _ _ hxp))⟩
 rintro zs H2 ⟨s2, hz⟩ l hl
 rw [hwl, List.take_length] at hz
 have s3 : Same H2 (upd H2 l (.lst zs)) := Same.new hl
 have s13 := (sw.trans s2).trans s3
 refine inM (q := (t.x, t.k)) ⟨tt, _, rfl, SqT.of (s13 _ _ ett), (hx.same s1).same s13⟩ (SqL.of upd_same) (mss_same hz s3) ?_
 refine ⟨_, rfl, iteFc (by rw [decide_eq_true (List.mem_map.mpr ⟨t, htm, rfl⟩)] <;> rfl) ?_⟩
 have s03 := s1.trans s13
 generalize upd H2 l (.lst zs) = H3 at s03 s13 s3 ⊢
 refine ⟨_, rfl, _, rfl, _, rfl, r, rx, t.k, xs, pss, t.x, n, rfl, hS.same s03, PtsT.same hp s03, h23, h20, ht8, hx.same s03, hbk t.x (tell_mem_x htm), hbk, hn1, hn40, fun sp H4 cs s4 hc hcl hg hcb hev => ?_⟩
 refine ⟨_, rfl, sp, u, cs, y, 40000, n, rfl, hc, (hu.same s03).same s4, hcb, hby, by lia, ?_, fun p H5 s5 c5 => ?_⟩
 · have := share_len h23 hnd htm
   lia
 have hsl := Cv.strip_length (cs.map (· * y))
 rw [List.length_map] at hsl
 refine q p H5 _ ((s03.trans s4).trans s5) c5 ?_ (good_strip _) (fun c hc => ?_) fun X => ?_
 · have := share_len h23 hnd htm
   lia
 · obtain ⟨c', hc', rfl⟩ := (List.mem_map.mp (Cv.strip_mem _ c hc))
   exact ((hcb c' hc').times hby).mono (by lia)
 · rw [Cv.ev_strip, Cv.ev_scale, hev, ← shC_ev]
   show _ = (0 : Rat) + _
   grind
theorem sc_point_at : FnScope ["points", "x", "point"] ["points", "x"] (defScope (top 45)) := ⟨rfl, rfl, rfl, by decide +kernel, rfl, by decide +kernel, by decide +kernel⟩
set_option maxHeartbeats 4000000 in
theorem ok_point_at {f : Addr} {fd : FuncData} (F : Fun K "point_at" "point_at" (top 45) f fd) (hT : P.given.tree = none) :
   FnOk P w K mg base CX0 33 f fd ["points", "x"] (spPtAt K) := by
 refine F.ok sc_point_at (fun vs H Q E h => ?_) (fun cdv A outer s H vs Q E hr h => ?_)
 · obtain ⟨_, _, _, _, _, _, _, rfl, _⟩ := h; rfl
 refine ⟨_, (pss_consC (K := K) (ps_forC (K := K) PassesOwn.never rfl (piT K (pv 0)) (pg_name (i := 2) sc_point_at.nd rfl (Or.inl rfl)) (pss_one (ps_ifC (K := K) (pt_cmpR (eqD K hr.units) (pe_ix (ixT K) (pv 2) pe_int (fun u v => rfl)) (pv 1) (nomark _)) (pss_one (ps_ret (pv 2))) pss_nil (by rfl) (by rfl))) (by rfl))
   (pss_one ps_never) (by rfl)), ?_⟩
 obtain ⟨r, x, v, xs, pss, m, ps, rfl, hS, hp, hnd, hm, hv, hx, q⟩ := h
 refine ⟨_, rfl, r, rfl, ⟨_, hS⟩, for_tup (xs := xs) (fun i σ H' => H' = H ∧ i ≤ m ∧ ∃ z, σ = [some (.ref r), some x, z]) ⟨rfl, Nat.zero_le _, _, rfl⟩ (fun i σ H' _ h => by rw [h.1]; exact hS) ?_ ?_⟩
 · rintro i u σ H' hu hR1
   refine anE3 hR1 fun hq108 him hz110 => ?_
   refine exE1 hz110 fun z hq109 => ?_
   clear hz110
   obtain rfl := hq108
   obtain rfl := hq109
   try clear hR1
   obtain ⟨qs, hqs, a, us, pp, rfl, hus, hun, hu0, hpp⟩ := (Paired.get hp hu)
   refine ⟨_, rfl, a, us, _, _, rfl, rfl, hus, atI_nat (j := 0) hu0, _, rfl, ?_⟩
   refine eqN (NumV.of hpp) hx ?_
   refine ⟨_, rfl, ?_⟩
   by_cases he : qs.getD 0 0 = ps.getD 0 0
   · rw [decide_eq_true he]
     obtain rfl := nd_inj hnd hqs hm he
     rw [hv] at hu
     cases hu
     exact iteT ⟨_, rfl, q⟩
   · refine iteFc (by rw [decide_eq_false he] <;> rfl) ⟨rfl, ?_, _, rfl⟩
     rcases Nat.lt_or_ge i m with z | z
     · lia
     · obtain rfl : i = m := by lia
       rw [hm] at hqs
       cases hqs
       exact absurd rfl he
 · rintro σ H' hR2
   refine anE3 hR2 fun hq113 him hz115 => ?_
   refine exE1 hz115 fun z hq114 => ?_
   clear hz115
   obtain rfl := hq113
   obtain rfl := hq114
   try clear hR2
   exact absurd (List.getElem?_eq_some_iff.mp hv).1 (by lia)
theorem sc_taken_out : FnScope ["points", "x", "out"] ["points", "x"] (defScope (top 46)) := ⟨rfl, rfl, rfl, by decide +kernel, rfl, by decide +kernel, by decide +kernel⟩
set_option maxHeartbeats 4000000 in
theorem ok_taken_out {f : Addr} {fd : FuncData} (F : Fun K "taken_out" "taken_out" (top 46) f fd) (F_point_at : Fd P w K mg base 33 "point_at" ["points", "x"] (spPtAt K)) (b_tuple : mg "tuple" = none) (b_len : mg "len" = none) (hT : P.given.tree = none) :
   FnOk P w K mg base CX0 34 f fd ["points", "x"] (spTaken K) := by
 refine F.ok sc_taken_out (fun vs H Q E h => ?_) (fun cdv A outer s H vs Q E hr h => ?_)
 · obtain ⟨_, _, _, _, _, _, rfl, _⟩ := h; rfl
 refine ⟨_, (pss_consC (K := K) (ps_set (i := 2) sc_taken_out.nd rfl (Or.inr rfl) (pe_fn F_point_at hr rfl (pa_cons (pv 0) (pa_cons (pv 1) pa_nil))))
   (pss_consC (K := K) (ps_ifC (K := K) (pt_cmpR op_eq (pe_callB (lenK K) rfl b_len bt_len (pa_cons (pv 0) pa_nil)) pe_int (nomark _)) (pss_one ps_never) pss_nil (by rfl) (by rfl))
   (pss_one (ps_ret (pe_callTy (tupleK K) rfl b_tuple bt_tuple (pa_cons (pe_lc rfl (N := ["point", "out"]) (nt := 1) (js := [2]) (CompOk.look (NX := ["points", "x", "out"]) (sc := defScope (top 46)) rfl rfl (by decide +kernel)) (piT K (pv 0)) (fun u1 u2 u3 u4 u5 => (pg_name (i := 0) (show List.Nodup (["point", "out"] : List Str) from by decide +kernel) rfl (Or.inl rfl))) (stays_name (by decide)) (fun u1 u2 u3 u4 u5 => pts_one (pt_cmpR (neD K hr.units) (pv 0) (pv 1) (nomark _))) (fun u1 u2 u3 u4 u5 => (pv 0))) pa_nil)))) (by rfl)) (by rfl)), ?_⟩
 obtain ⟨r, x, xs, pss, m, ps, rfl, hS, hp, hnd, hm, hx, h2, h100, q⟩ := h
 have hl := hp.length
 obtain ⟨v, hv, hvp⟩ := (Paired.get' hp hm)
 refine ⟨_, rfl, _, rfl, r, x, v, xs, pss, m, ps, rfl, hS, hp, hnd, hm, hv, hx, ?_⟩
 refine ⟨_, rfl, r, xs, rfl, .inr hS, rfl, _, rfl, ?_⟩
 refine iteFc (by rw [decide_eq_false (show ¬ V.int ((xs.length : Nat) : Int) = V.int 1 from fun z => by have := V.int.inj z; lia)] <;> rfl) ?_
 refine lc_of ⟨_, rfl, r, rfl, ⟨_, hS⟩, ?_⟩
 refine lc_filtT (xs := xs) (fun i zs H' => H' = H ∧ zs = (xs.take m ++ xs.drop (m + 1)).take (if i ≤ m then i else i - 1)) ⟨rfl, by simp⟩ (fun i zs H' _ p => ⟨by rw [p.1]; exact hS, by rw [p.2, List.length_take]; split <;> lia⟩) (Nat.le_of_lt (small1000 (by lia))) ?_ ?_
 · rintro i u zs H' hu ⟨rfl, rfl⟩
   obtain ⟨qs, hqs, huq⟩ := (Paired.get hp hu)
   have hlt := (List.getElem?_eq_some_iff.mp hv).1
   have hiu := (List.getElem?_eq_some_iff.mp hu).1
   obtain ⟨a, rfl, cu⟩ := huq.pt
   obtain ⟨b, rfl, cv⟩ := hvp.pt
   refine ⟨_, rfl, _, rfl, ?_⟩
   refine eqT cu cv ?_
   refine ⟨_, rfl, ?_⟩
   by_cases he : i = m
   · subst he
     rw [hm] at hqs
     cases hqs
     refine iteFc (by rw [decide_eq_true rfl] <;> rfl) ⟨rfl, ?_⟩
     rw [if_pos (Nat.le_refl _), if_neg (by lia), Nat.add_sub_cancel]
   · refine iteTc (by rw [decide_eq_false (show ¬ qs = ps from fun z => he (nd_inj hnd hqs hm (by rw [z])))] <;> rfl) ⟨_, rfl, rfl, ?_⟩
     have hlen : (xs.take m).length = m := by rw [List.length_take]; lia
     by_cases hc : i ≤ m
     · rw [if_pos hc, if_pos (by lia), List.take_add_one, List.getElem?_append_left (by lia), List.getElem?_take, if_pos (by lia), hu]; rfl
     · obtain ⟨k, rfl⟩ : ∃ k, i = k + 1 := ⟨i - 1, by lia⟩
       rw [if_neg hc, if_neg (by lia), Nat.add_sub_cancel, Nat.add_sub_cancel, List.take_add_one, List.getElem?_append_right (by lia), hlen, List.getElem?_drop, show m + 1 + (k - m) = k + 1 by lia, hu]; rfl
 rintro zs Hq ⟨hq, rfl⟩ l hl'
 obtain rfl : H = Hq := hq.symm
 have hlt := (List.getElem?_eq_some_iff.mp hv).1
 rw [if_neg (by lia), List.take_of_length_le (by rw [List.length_append, List.length_take, List.length_drop]; lia)]
 have s1 : Same H (upd H l (.lst (xs.take m ++ xs.drop (m + 1)))) := Same.new hl'
 refine ⟨l, _, rfl, .inl ⟨SqL.of upd_same, fun t ht => ?_⟩⟩
 exact q t _ (s1.trans (Same.new ht)) (SqT.of upd_same)
theorem sc_are_unlike : FnScope ["places"] ["places"] (defScope (top 26)) := ⟨rfl, rfl, rfl, by decide +kernel, rfl, by decide +kernel, by decide +kernel⟩
set_option maxHeartbeats 4000000 in
theorem ok_are_unlike {f : Addr} {fd : FuncData} (F : Fun K "are_unlike" "are_unlike" (top 26) f fd) (b_len : mg "len" = none) (b_set : mg "set" = none) (hT : P.given.tree = none) :
   FnOk P w K mg base CX0 33 f fd ["places"] (spUnlike K) := by
 refine F.ok sc_are_unlike (fun vs H Q E h => ?_) (fun cdv A outer s H vs Q E hr h => ?_)
 · obtain ⟨_, _, _, rfl, _⟩ := h; rfl
 refine ⟨_, (pss_one (ps_ret (pe_cmpR op_eq (pe_callB call_lenS rfl b_len bt_len (pa_cons (pe_callTy (setR K rfl hr.units) rfl b_set bt_set (pa_cons (pv 0) pa_nil)) pa_nil)) (pe_callB (lenK K) rfl b_len bt_len (pa_cons (pv 0) pa_nil)) (nomark _)))), ?_⟩
 obtain ⟨l, ys, qs, rfl, hS, hn, hnd, h17, q⟩ := h
 have hl := hn.length
 refine ⟨_, rfl, l, ys, qs, rfl, hS, hn, hnd, h17, fun p hp => ⟨p, qs.length, rfl, upd_same, by lia, ?_⟩⟩
 have s1 : Same H (upd H p (SetO p qs.length)) := Same.new hp
 refine ⟨_, rfl, l, ys, rfl, .inl (Same.seq s1 hS), rfl, ?_⟩
 have e : (V.int ((qs.length : Nat) : Int) = V.int ((ys.length : Nat) : Int)) := by rw [hl]
 rw [decide_eq_true e]
 exact q _ s1
theorem sc_is_whole : FnScope ["thing"] ["thing"] (defScope (top 7)) := ⟨rfl, rfl, rfl, by decide +kernel, rfl, by decide +kernel, by decide +kernel⟩
set_option maxHeartbeats 4000000 in
theorem ok_is_whole {f : Addr} {fd : FuncData} (F : Fun K "is_whole" "is_whole" (top 7) f fd) (b_isinstance : mg "isinstance" = none) (b_int : mg "int" = none) (b_bool : mg "bool" = none) (hT : P.given.tree = none) :
   FnOk P w K mg base CX0 33 f fd ["thing"] (spWhole K) := by
 refine F.ok sc_is_whole (fun vs H Q E h => ?_) (fun cdv A outer s H vs Q E hr h => ?_)
 · obtain ⟨_, _, rfl, _⟩ := h; rfl
 refine ⟨_, (pss_one (ps_ret (pe_and (pe_callB (isiK K) rfl b_isinstance bt_isinstance (pa_cons (pv 0) (pa_cons (pe_bltn (v := .ty "int") rfl b_int bt_int rfl) pa_nil))) (pe_one (pe_not (pe_callB (isiK K) rfl b_isinstance bt_isinstance (pa_cons (pv 0) (pa_cons (pe_bltn (v := .ty "bool") rfl b_bool bt_bool rfl) pa_nil)))))))), ?_⟩
 obtain ⟨x, b, rfl, wx, q⟩ := h
 cases wx with
 | int i => exact ⟨_, rfl, _, _, _, _, rfl, .of (.int i), kit_ii K, true, rfl, iteT ⟨_, rfl, _, _, _, _, rfl, .of (.int i), kit_ib K, false, rfl, q⟩⟩
 | bl y => exact ⟨_, rfl, _, _, _, _, rfl, .of (.bl y), kit_bi K, true, rfl, iteT ⟨_, rfl, _, _, _, _, rfl, .of (.bl y), kit_bb K, true, rfl, q⟩⟩
 | oth ty hk => exact ⟨_, rfl, _, _, _, _, rfl, ty, hk, false, rfl, iteF q⟩
theorem sc_is_number : FnScope ["thing"] ["thing"] (defScope (top 9)) := ⟨rfl, rfl, rfl, by decide +kernel, rfl, by decide +kernel, by decide +kernel⟩
set_option maxHeartbeats 4000000 in
theorem ok_is_number {f : Addr} {fd : FuncData} (F : Fun K "is_number" "is_number" (top 9) f fd) (F_is_whole : Fd P w K mg base 33 "is_whole" ["thing"] (spWhole K)) (F_common_measure : Fd P w K mg base 33 "common_measure" ["one", "other"] (spGcd)) (b_isinstance : mg "isinstance" = none) (b_tuple : mg "tuple" = none) (b_len : mg "len" = none) (hT : P.given.tree = none) :
   FnOk P w K mg base CX0 34 f fd ["thing"] (spIsN K) := by
 refine F.ok sc_is_number (fun vs H Q E h => ?_) (fun cdv A outer s H vs Q E hr h => ?_)
 · obtain ⟨_, _, rfl, _⟩ := h; rfl
 refine ⟨_, (pss_consC (K := K) (ps_ifC (K := K) (PW.pt (pw_or (pt_not (pt_val (pe_callB (isiK K) rfl b_isinstance bt_isinstance (pa_cons (pv 0) (pa_cons (pe_bltn (v := .ty "tuple") rfl b_tuple bt_tuple rfl) pa_nil))))) (pw_or1 (pt_cmpR op_ne (pe_callB (lenK K) rfl b_len bt_len (pa_cons (pv 0) pa_nil)) pe_int (nomark _))))) (pss_one (ps_ret pe_bl)) pss_nil (by rfl) (by rfl))
   (pss_consC (K := K) (ps_ifC (K := K) (PW.pt (pw_or (pt_not (pt_val (pe_fn F_is_whole hr rfl (pa_cons (pe_ix (ixT K) (pv 0) pe_int (fun u v => rfl)) pa_nil)))) (pw_or1 (pt_not (pt_val (pe_fn F_is_whole hr rfl (pa_cons (pe_ix (ixT K) (pv 0) pe_int (fun u v => rfl)) pa_nil))))))) (pss_one (ps_ret pe_bl)) pss_nil (by rfl) (by rfl))
   (pss_one (ps_ret (pe_and (pe_cmpR op_ge (pe_ix (ixT K) (pv 0) pe_int (fun u v => rfl)) pe_int (nomark _)) (pe_one (pe_cmpR op_eq (pe_fn F_common_measure hr rfl (pa_cons (pe_ix (ixT K) (pv 0) pe_int (fun u v => rfl)) (pa_cons (pe_ix (ixT K) (pv 0) pe_int (fun u v => rfl)) pa_nil))) pe_int (nomark _)))))) (by rfl)) (by rfl)), ?_⟩
 obtain ⟨x, p, rfl, ⟨r, rfl, hr'⟩, q⟩ := h
 refine ⟨_, rfl, _, _, _, _, rfl, .tup hr', kit_tt K, true, rfl, iteF ?_⟩
 refine ⟨_, rfl, r, _, rfl, .inr hr', rfl, _, rfl, iteF ?_⟩
 refine ⟨_, rfl, r, _, _, _, rfl, rfl, hr', rfl, _, _, rfl, .int _, _, rfl, iteF ?_⟩
 refine ⟨_, rfl, r, _, _, _, rfl, rfl, hr', rfl, _, _, rfl, .int _, _, rfl, iteF ?_⟩
 refine ⟨_, rfl, r, _, _, _, rfl, rfl, hr', rfl, _, _, rfl, rfl, _, rfl, ?_⟩
 refine iteTc (by rw [decide_eq_true (show (1 : Int) ≤ (p.den : Int) by have := p.den_pos; lia)] <;> rfl) ?_
 refine ⟨_, rfl, r, _, _, _, rfl, rfl, hr', rfl, _, rfl, r, _, _, _, rfl, rfl, hr', rfl, _, _, rfl, rfl, ?_⟩
 rw [decide_eq_true (show V.int (Int.gcd p.num (p.den : Int) : Int) = V.int 1 by rw [isn_gcd])]
 exact q _ (Same.refl _)
theorem sc_is_point : FnScope ["thing"] ["thing"] (defScope (top 25)) := ⟨rfl, rfl, rfl, by decide +kernel, rfl, by decide +kernel, by decide +kernel⟩
set_option maxHeartbeats 4000000 in
theorem ok_is_point {f : Addr} {fd : FuncData} (F : Fun K "is_point" "is_point" (top 25) f fd) (F_is_number : Fd P w K mg base 34 "is_number" ["thing"] (spIsN K)) (b_all : mg "all" = none) (b_isinstance : mg "isinstance" = none) (b_tuple : mg "tuple" = none) (b_len : mg "len" = none) (hT : P.given.tree = none) :
   FnOk P w K mg base CX0 35 f fd ["thing"] (spIsPt K) := by
 refine F.ok sc_is_point (fun vs H Q E h => ?_) (fun cdv A outer s H vs Q E hr h => ?_)
 · obtain ⟨_, _, rfl, _⟩ := h; rfl
 refine ⟨_, (pss_consC (K := K) (ps_ifC (K := K) (PW.pt (pw_or (pt_not (pt_val (pe_callB (isiK K) rfl b_isinstance bt_isinstance (pa_cons (pv 0) (pa_cons (pe_bltn (v := .ty "tuple") rfl b_tuple bt_tuple rfl) pa_nil))))) (pw_or1 (pt_cmpR (notInS K) (pe_callB (lenK K) rfl b_len bt_len (pa_cons (pv 0) pa_nil)) (pe_tup (pa_cons pe_int (pa_cons pe_int pa_nil))) (by with_unfolding_all rfl))))) (pss_one (ps_ret pe_bl)) pss_nil (by rfl) (by rfl))
   (pss_one (ps_ret (pe_callB (allB K rfl) rfl b_all bt_all (pa_cons (pe_lc rfl (N := ["each"]) (nt := 1) (js := []) (CompOk.look (NX := ["thing"]) (sc := defScope (top 25)) rfl rfl (by decide +kernel)) (piT K (pv 0)) (fun u1 u2 u3 u4 u5 => (pg_name (i := 0) (show List.Nodup (["each"] : List Str) from by decide +kernel) rfl (Or.inl rfl))) (stays_name (by decide)) (fun u1 u2 u3 u4 u5 => pts_nil) (fun u1 u2 u3 u4 u5 => (pe_fn F_is_number hr rfl (pa_cons (pv 0) pa_nil)))) pa_nil)))) (by rfl)), ?_⟩
 obtain ⟨x, ps, rfl, ⟨r, rfl, xs, hS, hn⟩, h23, q⟩ := h
 have P2 : 2 ≤ sizeLine := by decide
 have hl := hn.length
 refine ⟨_, rfl, _, _, _, _, rfl, .tup hS, kit_tt K, true, rfl, iteF ?_⟩
 refine ⟨_, rfl, r, xs, rfl, .inr hS, P2, fun t ht => ?_⟩
 have s1 : Same H (upd H t (.tup [.int 2, .int 3])) := Same.new ht
 refine ⟨t, _, rfl, .inr (SqT.of upd_same), rfl, rfl, _, rfl, ?_⟩
 have hin : inV (V.int ((xs.length : Nat) : Int)) [.int 2, .int 3] = true := by
   rcases h23 with z | z
   · rw [hl, z]; rfl
   · rw [hl, z]; rfl
 rw [hin]
 refine iteF ?_
 refine lc_of ⟨_, rfl, r, rfl, ⟨_, SqT.same hS s1⟩, ?_⟩
 refine lc_tup (xs := xs) (fun i zs H' => Same H H' ∧ zs = List.replicate i (.bl true)) ⟨s1, rfl⟩ (fun i zs H' _ p => ⟨SqT.same hS p.1, by rw [p.2, List.length_replicate]⟩) (Nat.le_of_lt (small1000 (by lia))) ?_ ?_
 · rintro i x zs H' hx ⟨sm, rfl⟩
   obtain ⟨c, hc, hcn⟩ := (Paired.get hn hx)
   refine ⟨_, rfl, x, c, rfl, hcn.same sm, fun H2 s2 => ⟨sm.trans s2, ?_⟩⟩
   rw [← List.replicate_succ']
 rintro zs H' ⟨sm, rfl⟩ p hp
 refine ⟨p, List.replicate xs.length true, rfl, SqL.of (by rw [List.map_replicate]; exact upd_same), ?_⟩
 rw [all_rep]
 exact q _ (sm.trans (Same.new hp))
theorem sc_points_of : FnScope ["thing", "points"] ["thing"] (defScope (top 27)) := ⟨rfl, rfl, rfl, by decide +kernel, rfl, by decide +kernel, by decide +kernel⟩
set_option maxHeartbeats 4000000 in
theorem ok_points_of {f : Addr} {fd : FuncData} (F : Fun K "points_of" "points_of" (top 27) f fd) (F_are_unlike : Fd P w K mg base 33 "are_unlike" ["places"] (spUnlike K)) (F_told_in : Fd P w K mg base 33 "told_in" ["points"] (spToldT K)) (F_is_point : Fd P w K mg base 35 "is_point" ["thing"] (spIsPt K)) (b_tuple : mg "tuple" = none) (b_all : mg "all" = none) (b_len : mg "len" = none) (b_isinstance : mg "isinstance" = none) (b_list : mg "list" = none) {t_MOST_TOLD : Tok} (c_MOST_TOLD : mg "MOST_TOLD" = some (.int 12 t_MOST_TOLD)) (hT : P.given.tree = none) :
   FnOk P w K mg base CX0 36 f fd ["thing"] (spPtsOf K) := by
 refine F.ok sc_points_of (fun vs H Q E h => ?_) (fun cdv A outer s H vs Q E hr h => ?_)
 · obtain ⟨_, _, _, _, rfl, _⟩ := h; rfl
 refine ⟨_, (pss_consC (K := K) (ps_ifC (K := K) (PW.pt (pw_or (pt_not (pt_val (pe_callB (isiT K) rfl b_isinstance bt_isinstance (pa_cons (pv 0) (pa_cons (pe_tup (pa_cons (pe_bltn (v := .ty "list") rfl b_list bt_list rfl) (pa_cons (pe_bltn (v := .ty "tuple") rfl b_tuple bt_tuple rfl) pa_nil))) pa_nil))))) (pw_or1 (pt_cmpR op_eq (pe_callB (lenK K) rfl b_len bt_len (pa_cons (pv 0) pa_nil)) pe_int (nomark _))))) (pss_one ps_never) pss_nil (by rfl) (by rfl))
   (pss_consC (K := K) (ps_ifC (K := K) (pt_not (pt_val (pe_callB (allB K rfl) rfl b_all bt_all (pa_cons (pe_lc rfl (N := ["each"]) (nt := 1) (js := []) (CompOk.look (NX := ["thing", "points"]) (sc := defScope (top 27)) rfl rfl (by decide +kernel)) (piS K (pv 0)) (fun u1 u2 u3 u4 u5 => (pg_name (i := 0) (show List.Nodup (["each"] : List Str) from by decide +kernel) rfl (Or.inl rfl))) (stays_name (by decide)) (fun u1 u2 u3 u4 u5 => pts_nil) (fun u1 u2 u3 u4 u5 => (pe_fn F_is_point hr rfl (pa_cons (pv 0) pa_nil)))) pa_nil)))) (pss_one ps_never) pss_nil (by rfl) (by rfl))
   (pss_consC (K := K) (ps_ifC (K := K) (pt_not (pt_val (pe_fn F_are_unlike hr rfl (pa_cons (pe_lc rfl (N := ["point"]) (nt := 1) (js := []) (CompOk.look (NX := ["thing", "points"]) (sc := defScope (top 27)) rfl rfl (by decide +kernel)) (piS K (pv 0)) (fun u1 u2 u3 u4 u5 => (pg_name (i := 0) (show List.Nodup (["point"] : List Str) from by decide +kernel) rfl (Or.inl rfl))) (stays_name (by decide)) (fun u1 u2 u3 u4 u5 => pts_nil) (fun u1 u2 u3 u4 u5 => (pe_ix (ixT K) (pv 0) pe_int (fun u v => rfl)))) pa_nil)))) (pss_one ps_never) pss_nil (by rfl) (by rfl))
   (pss_consC (K := K) (ps_set (i := 1) sc_points_of.nd rfl (Or.inl rfl) (pe_callTy (tupleK K) rfl b_tuple bt_tuple (pa_cons (pv 0) pa_nil)))
   (pss_consC (K := K) (ps_ifC (K := K) (pt_cmpR op_gt (pe_callB (lenK K) rfl b_len bt_len (pa_cons (pe_fn F_told_in hr rfl (pa_cons (pv 1) pa_nil)) pa_nil)) (pe_glob (v := .int 12) rfl c_MOST_TOLD ⟨_, rfl⟩) (nomark _)) (pss_one ps_never) pss_nil (by rfl) (by rfl))
   (pss_one (ps_ret (pv 1))) (by rfl)) (by rfl)) (by rfl)) (by rfl)) (by rfl)), ?_⟩
 obtain ⟨b, r, xs, pss, rfl, hS, hp, h23, h1, hnd, h12, q⟩ := h
 have P2 : 2 ≤ sizeLine := by decide
 have hl := hp.length
 have hge := tell_ge h23
 refine ⟨_, rfl, P2, fun tp htp => ?_⟩
 have s1 : Same H (upd H tp (.tup [.ty "list", .ty "tuple"])) := Same.new htp
 have hS1 := Sq.same hS s1
 refine ⟨r, if b then .type "list" else .type "tuple", tp, [.ty "list", .ty "tuple"], [.type "list", .type "tuple"], true, rfl, ?_, upd_same, rfl, ?_, _, rfl, iteF ?_⟩
 · cases b
   · exact .inl ⟨⟨_, hS1⟩, rfl⟩
   · exact .inr ⟨⟨_, hS1⟩, rfl⟩
 · cases b
   · exact kitA_t K
   · exact kitA_l K
 generalize upd H tp (.tup [.ty "list", .ty "tuple"]) = H1 at s1 hS1 ⊢
 refine ⟨_, rfl, r, xs, rfl, Sq.len hS1, rfl, _, rfl, ?_⟩
 refine iteFc (by rw [decide_eq_false (show ¬ V.int ((xs.length : Nat) : Int) = V.int 0 from fun z => by have := V.int.inj z; lia)] <;> rfl) ?_
 have hp1 := PtsT.same hp s1
 refine lc_seq (b := b) (a := r) (xs := xs) rfl (fun i zs H' => Same H1 H' ∧ zs = List.replicate i (.bl true)) ⟨Same.refl _, rfl⟩ (fun i zs H' _ p => ⟨Sq.same hS1 p.1, by rw [p.2, List.length_replicate]⟩) (Nat.le_of_lt (small1000 (by lia))) ?_ ?_
 · rintro i x zs H' hx ⟨sm, rfl⟩
   obtain ⟨ps, hps, hpt⟩ := (Paired.get hp1 hx)
   refine ⟨_, rfl, x, ps, rfl, (hpt.pt).same sm, h23 ps (List.mem_of_getElem? hps), fun H2 s2 => ⟨sm.trans s2, ?_⟩⟩
   rw [← List.replicate_succ']
 rintro zs H2 ⟨s2, rfl⟩ al hal
 have s3 := s2.trans (Same.new (o := .lst (List.replicate xs.length (.bl true))) hal)
 refine ⟨al, List.replicate xs.length true, rfl, SqL.of (by rw [List.map_replicate]; exact upd_same), _, rfl, ?_⟩
 refine iteFc (by rw [all_rep] <;> rfl) ?_
 generalize upd H2 al (.lst (List.replicate xs.length (.bl true))) = H3 at s3 ⊢
 have hS3 := Sq.same hS1 s3
 have hp3 := PtsT.same hp1 s3
 refine lc_seq (b := b) (a := r) (xs := xs) rfl (L2 H3 pss fun H3 pss i zs H' => H' = H3 ∧ zs.length = i ∧ NumsT H3 zs ((pss.take i).map fun ps => ps.getD 0 0)) ⟨rfl, rfl, .nil⟩ (fun i zs H' _ p => ⟨by rw [p.1]; exact hS3, p.2.1⟩) (Nat.le_of_lt (small1000 (by lia))) ?_ ?_
 · rintro i x zs H' hx ⟨rfl, hzl, hzs⟩
   obtain ⟨ps, hps, a, us, pp, rfl, hus, hun, hu0, hpp⟩ := (Paired.get hp3 hx)
   refine ⟨_, rfl, a, us, _, _, rfl, rfl, hus, atI_nat (j := 0) hu0, rfl, by simp [hzl], ?_⟩
   rw [List.take_add_one, hps, List.map_append]
   exact Paired.snoc hzs ⟨pp, rfl, hpp⟩
 rintro zs Hq ⟨hq, hzl, hzs⟩ pl hpl
 obtain rfl : H3 = Hq := hq.symm
 rw [hl, List.take_length] at hzs
 have s4 : Same H3 (upd H3 pl (.lst zs)) := Same.new hpl
 refine ⟨pl, zs, _, rfl, SqL.of upd_same, NumsT.same hzs s4, hnd, by rw [List.length_map]; lia, fun H5 s5 => ⟨_, rfl, iteF ?_⟩⟩
 have s35 := s4.trans s5
 have hS5 := Sq.same hS3 s35
 have hp5 := PtsT.same hp3 s35
 have s15 := (s1.trans s3).trans s35
 have fin : ∀ (t : Addr) (H6 : Hp), Same H5 H6 → SqT K H6 t xs → (b = false → t = r) → (tCons (tVar 1) tNil) [some (.ref r), some (.ref t)] H6 fun vs H7 => True := fun t H6 _ _ _ => ⟨_, rfl, trivial⟩
 clear fin
 refine ⟨_, rfl, r, xs, rfl, ?_⟩
 cases b
 · refine .inr ⟨hS5, ?_⟩
   have sR := Same.refl H5
   refine ⟨_, rfl, r, xs, pss, rfl, (show SqT K H5 r xs from hS5), PtsT.same hp5 sR, h23, by lia, fun tl H7 tys s7 htl etl htls => ?_⟩
   refine ⟨tl, tys, rfl, .inl (SqL.of etl), _, _, rfl, rfl, _, rfl, ?_⟩
   have htyl := htls.length
   refine iteFc (by rw [decide_eq_false (show ¬ ((12 : Int) < ((tys.length : Nat) : Int)) by lia)] <;> rfl) ⟨_, rfl, q r H7 ((s15.trans sR).trans s7) ((show SqT K H5 r xs from hS5).same s7) (fun _ => rfl)⟩
 · refine .inl ⟨hS5, fun t ht => ?_⟩
   have sT : Same H5 (upd H5 t (.tup xs)) := Same.new ht
   have eT : SqT K (upd H5 t (.tup xs)) t xs := SqT.of upd_same
   refine ⟨_, rfl, t, xs, pss, rfl, eT, PtsT.same hp5 sT, h23, by lia, fun tl H7 tys s7 htl etl htls => ?_⟩
   refine ⟨tl, tys, rfl, .inl (SqL.of etl), _, _, rfl, rfl, _, rfl, ?_⟩
   have htyl := htls.length
   refine iteFc (by rw [decide_eq_false (show ¬ ((12 : Int) < ((tys.length : Nat) : Int)) by lia)] <;> rfl) ⟨_, rfl, q t H7 ((s15.trans sT).trans s7) (eT.same s7) (fun z => by cases z)⟩
theorem sc_put_in : FnScope ["points", "point"] ["points", "point"] (defScope (top 44)) := ⟨rfl, rfl, rfl, by decide +kernel, rfl, by decide +kernel, by decide +kernel⟩
set_option maxHeartbeats 4000000 in
theorem ok_put_in {f : Addr} {fd : FuncData} (F : Fun K "put_in" "put_in" (top 44) f fd) (F_points_of : Fd P w K mg base 36 "points_of" ["thing"] (spPtsOf K)) (b_list : mg "list" = none) (hT : P.given.tree = none) :
   FnOk P w K mg base CX0 37 f fd ["points", "point"] (spPutIn K) := by
 refine F.ok sc_put_in (fun vs H Q E h => ?_) (fun cdv A outer s H vs Q E hr h => ?_)
 · obtain ⟨_, _, _, _, _, rfl, _⟩ := h; rfl
 refine ⟨_, (pss_one (ps_ret (pe_fn F_points_of hr rfl (pa_cons (pe_op op_cat (pe_callTy (listK K) rfl b_list bt_list (pa_cons (pv 0) pa_nil)) (pe_lst (pa_cons (pv 1) pa_nil))) pa_nil)))), ?_⟩
 obtain ⟨r, x, xs, pss, ps, rfl, hS, hp, hx, h23, hnd, h12, q⟩ := h
 have P1 : 1 ≤ sizeLine := by decide
 have hl := hp.length
 have hge := tell_ge h23
 rw [List.length_append, List.length_singleton] at hge
 refine ⟨_, rfl, r, xs, rfl, .inr hS, fun l1 hl1 => ⟨_, rfl, P1, fun l2 hl2 => ?_⟩⟩
 refine ⟨l1, l2, xs, [x], rfl, rfl, (Same.new hl2) _ _ upd_same, upd_same, Nat.le_trans (show _ ≤ 300 by rw [List.length_singleton]; lia) (by decide), fun l3 hl3 => ?_⟩
 have s3 : Same H _ := ((Same.new hl1).trans (Same.new hl2)).trans (Same.new (o := .lst (xs ++ [x])) hl3)
 refine ⟨true, l3, xs ++ [x], pss ++ [ps], rfl, SqL.of upd_same, Paired.snoc (PtsT.same hp s3) (hx.same s3), h23, by rw [List.length_append, List.length_singleton]; lia, hnd, h12, fun p H' s4 hp4 _ => ?_⟩
 exact q p H' (s3.trans s4) hp4
theorem sc_new_steps : FnScope ["points", "point"] ["points", "point"] (defScope (top 50)) := ⟨rfl, rfl, rfl, by decide +kernel, rfl, by decide +kernel, by decide +kernel⟩
set_option maxHeartbeats 4000000 in
theorem ok_new_steps {f : Addr} {fd : FuncData} (F : Fun K "new_steps" "new_steps" (top 50) f fd) (F_steps_of : Fd P w K mg base 38 "steps_of" ["points"] (spSteps K)) (F_put_in : Fd P w K mg base 37 "put_in" ["points", "point"] (spPutIn K)) (F_told_in : Fd P w K mg base 33 "told_in" ["points"] (spToldT K)) (b_len : mg "len" = none) (hT : P.given.tree = none) :
   FnOk P w K mg base CX0 39 f fd ["points", "point"] (spNewSteps K) := by
 refine F.ok sc_new_steps (fun vs H Q E h => ?_) (fun cdv A outer s H vs Q E hr h => ?_)
 · obtain ⟨_, _, _, _, _, _, _, rfl, _⟩ := h; rfl
 refine ⟨_, (pss_one (ps_ret (pe_slice (slL K) (pe_fn F_steps_of hr rfl (pa_cons (pe_fn F_put_in hr rfl (pa_cons (pv 0) (pa_cons (pv 1) pa_nil))) pa_nil)) (po_some (pe_callB (lenK K) rfl b_len bt_len (pa_cons (pe_fn F_told_in hr rfl (pa_cons (pv 0) pa_nil)) pa_nil))) po_none))), ?_⟩
 obtain ⟨r, x, xs, pss, ps, hh, n, rfl, hS, hp, hx, h23, hnd, h12, hb, hbk, hn1, hn40, q⟩ := h
 have hge := tell_ge h23
 have h23p : P23 pss := fun ps hps => h23 ps (List.mem_append_left _ hps)
 have hl2 : (pss ++ [ps]).length = pss.length + 1 := by rw [List.length_append, List.length_singleton]
 refine ⟨_, rfl, _, rfl, r, x, xs, pss, ps, rfl, hS, hp, hx, h23, hnd, h12, fun w H1 s1 hw => ?_⟩
 have hpb : PtsT K H1 (xs ++ [x]) (pss ++ [ps]) := Paired.snoc (PtsT.same hp s1) (hx.same s1)
 refine ⟨w, xs ++ [x], pss ++ [ps], hh, n, rfl, hw, hpb, h23, by lia, hnd, h12, hb, hbk, hn1, hn40, fun st H2 zs s2 hst est hzs => ?_⟩
 have s12 := s1.trans s2
 refine ⟨_, rfl, r, xs, pss, rfl, hS.same s12, PtsT.same hp s12, h23p, by lia, fun tl H3 tys s3 htl etl htls => ⟨tl, tys, rfl, .inl (SqL.of etl), ?_⟩⟩
 have htll := htls.length
 refine ⟨_, rfl, st, zs, rfl, SqL.of (s3 _ _ est), fun l hl => ?_⟩
 rw [cut_from, htll]
 have s4 : Same H3 (upd H3 l (.lst (zs.drop (tell pss).length))) := Same.new hl
 have s13 := s12.trans s3
 exact q l _ _ (s13.trans s4) (s13.free hl) upd_same (paired_drop _ (Nums.same hzs (s3.trans s4)))
theorem sc_loss : FnScope ["points", "x", "left", "out", "steps", "knots"] ["points", "x"] (defScope (top 52)) := ⟨rfl, rfl, rfl, by decide +kernel, rfl, by decide +kernel, by decide +kernel⟩
set_option maxHeartbeats 4000000 in
theorem ok_loss {f : Addr} {fd : FuncData} (F : Fun K "loss" "loss" (top 52) f fd) (F_taken_out : Fd P w K mg base 34 "taken_out" ["points", "x"] (spTaken K)) (F_point_at : Fd P w K mg base 33 "point_at" ["points", "x"] (spPtAt K)) (F_new_steps : Fd P w K mg base 39 "new_steps" ["points", "point"] (spNewSteps K)) (F_knots_of : Fd P w K mg base 34 "knots_of" ["points"] (spKnotsT K)) (F_by_steps : Fd P w K mg base 36 "by_steps" ["knots", "steps"] (spBySteps K)) (b_len : mg "len" = none) {a_NOUGHT : Addr} (c_NOUGHT : mg "NOUGHT" = some (.ref a_NOUGHT)) (n_NOUGHT : ∀ H : Hp, NumV K H (.ref a_NOUGHT) (0)) (hT : P.given.tree = none) :
   FnOk P w K mg base CX0 40 f fd ["points", "x"] (spLoss K) := by
 refine F.ok sc_loss (fun vs H Q E h => ?_) (fun cdv A outer s H vs Q E hr h => ?_)
 · obtain ⟨_, _, _, _, _, _, _, _, _, rfl, _⟩ := h; rfl
 refine ⟨_, (pss_consC (K := K) (ps_set (i := 2) sc_loss.nd rfl (Or.inl rfl) (pe_fn F_taken_out hr rfl (pa_cons (pv 0) (pa_cons (pv 1) pa_nil))))
   (pss_consC (K := K) (ps_set (i := 3) sc_loss.nd rfl (Or.inl rfl) (pe_fn F_point_at hr rfl (pa_cons (pv 0) (pa_cons (pv 1) pa_nil))))
   (pss_consC (K := K) (ps_set (i := 4) sc_loss.nd rfl (Or.inl rfl) (pe_fn F_new_steps hr rfl (pa_cons (pv 2) (pa_cons (pv 3) pa_nil))))
   (pss_consC (K := K) (ps_set (i := 5) sc_loss.nd rfl (Or.inl rfl) (pe_fn F_knots_of hr rfl (pa_cons (pv 2) pa_nil)))
   (pss_one (ps_ret (pe_fn F_by_steps hr rfl (pa_cons (pe_op op_cat (pv 5) (pe_op op_rep (pe_lst (pa_cons (pv 1) pa_nil)) (pe_callB (lenK K) rfl b_len bt_len (pa_cons (pv 4) pa_nil)))) (pa_cons (pe_op op_cat (pe_op op_rep (pe_lst (pa_cons (pe_glob (v := .ref a_NOUGHT) rfl c_NOUGHT rfl) pa_nil)) (pe_callB (lenK K) rfl b_len bt_len (pa_cons (pv 5) pa_nil))) (pv 4)) pa_nil))))) (by rfl)) (by rfl)) (by rfl)) (by rfl)), ?_⟩
 obtain ⟨r, x, xs, pss, m, ps, hh, n, M, rfl, hS, hp, h23, hnd, hm, hx, h2, h12, hb, hbk, hn1, hn40, hsm, hnM, hM1, hM, q⟩ := h
 have P1 : 1 ≤ sizeLine := by decide
 have hge := tell_ge h23
 obtain ⟨v, hv, hvp⟩ := (Paired.get' hp hm)
 have hpm : (leftOf pss m ++ [ps]).Perm pss := out_perm hm
 have h23L := p23_perm hpm h23
 have hndL := nd_perm hpm hnd
 have htL := tell_perm hpm
 have hlL := hpm.length_eq
 rw [List.length_append, List.length_singleton] at hlL
 have hbL : ∀ q ∈ leftOf pss m ++ [ps], ∀ c ∈ q, RB hh c := fun q hq => hb q (hpm.mem_iff.mp hq)
 have hbkL : ∀ q ∈ leftOf pss m ++ [ps], RB n (q.getD 0 0) := fun q hq => hbk q (hpm.mem_iff.mp hq)
 have h23l : P23 (leftOf pss m) := fun q hq => h23L q (List.mem_append_left _ hq)
 have hps := h23 ps (List.mem_of_getElem? hm)
 have et1 : (tell (leftOf pss m ++ [ps])).length = (tell (leftOf pss m)).length + (ps.length - 1) := by
   rw [tell_app, List.length_append]
   show _ + (tellP ps ++ tell []).length = _
   rw [List.length_append, tellP_length]; rfl
 refine ⟨_, rfl, _, rfl, r, x, xs, pss, m, ps, rfl, hS, hp, hnd, hm, hx, h2, by lia, fun w1 H1 s1 hw1 => ?_⟩
 refine ⟨_, rfl, _, rfl, r, x, v, xs, pss, m, ps, rfl, hS.same s1, PtsT.same hp s1, hnd, hm, hv, hx.same s1, ?_⟩
 have hpl : PtsT K H1 (xs.take m ++ xs.drop (m + 1)) (leftOf pss m) := Paired.append (Paired.take m (PtsT.same hp s1)) (paired_drop (m + 1) (PtsT.same hp s1))
 refine ⟨_, rfl, _, rfl, w1, v, _, leftOf pss m, ps, hh, n, rfl, hw1, hpl, hvp.same s1, h23L, hndL, by lia, hbL, hbkL, hn1, hn40, fun sl H2 zs s2 hsl esl hzn => ?_⟩
 refine ⟨_, rfl, w1, _, leftOf pss m, rfl, hw1.same s2, PtsT.same hpl s2, h23l, by lia, fun kl H3 kv s3 hkl ekl hkn => ?_⟩
 have hkn' : Nums K H3 kv (kn (leftOf pss m)) := hkn.nums
 have hkl' := hkn'.length
 rw [kn_length] at hkl'
 have hzl := hzn.length
 rw [List.length_drop, stepsOf_length] at hzl
 have s13 := (s1.trans s2).trans s3
 have esl3 := s3 _ _ esl
 have hzn3 := Nums.same hzn s3
 have hx3 := hx.same s13
 clear hw1 hpl s1 s2 s3 esl hzn hkn
 refine ⟨_, rfl, _, rfl, P1, fun l1 hl1 => ?_⟩
 have sa : Same H3 (upd H3 l1 (.lst [x])) := Same.new hl1
 refine ⟨_, rfl, sl, zs, rfl, .inl (SqL.of (sa _ _ esl3)), l1, _, _, rfl, rfl, upd_same, by lia, by lia, ?_, fun l2 hl2 => ?_⟩
 · show 1 * ((zs.length : Nat) : Int).toNat ≤ sizeLine
   rw [Int.toNat_natCast]; exact Nat.le_of_lt (small1000 (by lia))
 rw [Int.toNat_natCast]
 have sb := sa.trans (Same.new (o := .lst (List.replicate zs.length [x]).flatten) hl2)
 have nr := rep_nums (hx3.same sb) zs.length
 have nrl := nr.length
 rw [List.length_replicate] at nrl
 refine ⟨kl, l2, kv, _, rfl, rfl, sb _ _ ekl, upd_same, Nat.le_trans (show _ ≤ 300 by rw [nrl]; lia) (by decide), fun l3 hl3 => ?_⟩
 have sc := sb.trans (Same.new (o := .lst (kv ++ (List.replicate zs.length [x]).flatten)) hl3)
 have ek := Nums.same (Paired.append (Nums.same hkn' sb) nr) (Same.new (o := .lst (kv ++ (List.replicate zs.length [x]).flatten)) hl3)
 have e3 : (upd (upd (upd H3 l1 (.lst [x])) l2 (.lst (List.replicate zs.length [x]).flatten)) l3 (.lst (kv ++ (List.replicate zs.length [x]).flatten))) l3 = some (.lst (kv ++ (List.replicate zs.length [x]).flatten)) := upd_same
 generalize upd (upd (upd H3 l1 (.lst [x])) l2 (.lst (List.replicate zs.length [x]).flatten)) l3 (.lst (kv ++ (List.replicate zs.length [x]).flatten)) = H4 at sc ek e3 ⊢
 refine ⟨P1, fun l4 hl4 => ?_⟩
 have sd : Same H4 (upd H4 l4 (.lst [.ref a_NOUGHT])) := Same.new hl4
 refine ⟨_, rfl, kl, kv, rfl, .inl (SqL.of (sd _ _ (sc _ _ ekl))), l4, _, _, rfl, rfl, upd_same, by lia, by lia, ?_, fun l5 hl5 => ?_⟩
 · show 1 * ((kv.length : Nat) : Int).toNat ≤ sizeLine
   rw [Int.toNat_natCast]; exact Nat.le_of_lt (small1000 (by lia))
 rw [Int.toNat_natCast]
 have se := sd.trans (Same.new (o := .lst (List.replicate kv.length [V.ref a_NOUGHT]).flatten) hl5)
 have nn := rep_nums (K := K) (H := upd (upd H4 l4 (.lst [.ref a_NOUGHT])) l5 (.lst (List.replicate kv.length [V.ref a_NOUGHT]).flatten)) (n_NOUGHT _) kv.length
 have nnl := nn.length
 rw [List.length_replicate] at nnl
 have sce := sc.trans se
 refine ⟨_, rfl, l5, sl, _, zs, rfl, rfl, upd_same, sce _ _ esl3, Nat.le_trans (show _ ≤ 300 by rw [nnl]; lia) (by decide), fun l6 hl6 => ?_⟩
 have sf : Same _ (upd (upd (upd H4 l4 (.lst [.ref a_NOUGHT])) l5 (.lst (List.replicate kv.length [V.ref a_NOUGHT]).flatten)) l6 (.lst ((List.replicate kv.length [V.ref a_NOUGHT]).flatten ++ zs))) := Same.new hl6
 have es := Nums.same (Paired.append nn (Nums.same hzn3 sce)) sf
 have sef := se.trans sf
 have s46 := sc.trans sef
 refine ⟨l3, l6, _, _, kn (leftOf pss m) ++ List.replicate zs.length (ps.getD 0 0), List.replicate kv.length 0 ++ (stepsOf (leftOf pss m ++ [ps])).drop (tell (leftOf pss m)).length, M, rfl, SqL.of (sef _ _ e3), Nums.same ek sef, SqL.of upd_same, es, ?_, ?_, fun c hc => ?_, fun c hc => ?_, hM, fun p Hp cs sp cp hcl gc hcb hce => ?_⟩
 · rw [List.length_append, List.length_append, List.length_replicate, List.length_replicate, List.length_drop, kn_length, stepsOf_length]; lia
 · rw [List.length_append, List.length_replicate, kn_length]; lia
 · rcases List.mem_append.mp hc with z | z
   · exact (kn_rb (pss := leftOf pss m) (fun q hq => hbkL q (List.mem_append_left _ hq)) c z).mono hnM
   · rw [(List.mem_replicate.mp z).2]; exact (hbk ps (List.mem_of_getElem? hm)).mono hnM
 · rcases List.mem_append.mp hc with z | z
   · rw [(List.mem_replicate.mp z).2]; exact RB.zero hM1
   · exact hsm c (List.mem_of_mem_drop z)
 have hkk : (kn (leftOf pss m) ++ List.replicate zs.length (ps.getD 0 0)).length ≤ 12 ∧ (kn (leftOf pss m) ++ List.replicate zs.length (ps.getD 0 0)).length ≤ (tell pss).length := by
   rw [List.length_append, List.length_replicate, kn_length]; lia
 have hm' : M * (kn (leftOf pss m) ++ List.replicate zs.length (ps.getD 0 0)).length ≤ M * 12 := Nat.mul_le_mul_left _ hkk.1
 refine q p Hp cs ((s13.trans s46).trans sp) cp (by lia) gc (fun c hc => (hcb c hc).mono (by lia)) fun X => ?_
 have ekn : kn (leftOf pss m ++ [ps]) = kn (leftOf pss m) ++ List.replicate zs.length (ps.getD 0 0) := by
   rw [kn_app, kn_one]
   congr 2
   lia
 have est : stepsOf (leftOf pss m ++ [ps]) = stepsOf (leftOf pss m) ++ (stepsOf (leftOf pss m ++ [ps])).drop (tell (leftOf pss m)).length := by
   rw [← steps_prefix h23L hndL, List.take_append_drop]
 have el : kv.length = (kn (leftOf pss m)).length := by rw [kn_length]; exact hkl'
 rw [hce X, el, newton_noughts, ekn]
 conv => rhs; rw [est]
 rw [newton_app X _ _ _ _ (by rw [stepsOf_length, kn_length])]
 grind
theorem sc__law_minus : FnScope ["_law_a", "_law_b"] ["_law_a", "_law_b"] (defScope (top 58)) := ⟨rfl, rfl, rfl, by decide +kernel, rfl, by decide +kernel, by decide +kernel⟩
set_option maxHeartbeats 4000000 in
theorem ok__law_minus {f : Addr} {fd : FuncData} (F : Fun K "_law_minus" "_law_minus" (top 58) f fd) (F__law_lowest : Fd P w K mg base 33 "_law_lowest" ["_law_top", "_law_bottom"] (spLow)) (hT : P.given.tree = none) :
   FnOk P w K mg base CX0 34 f fd ["_law_a", "_law_b"] (spBin K (· - ·)) := by
 refine F.ok sc__law_minus (fun vs H Q E h => ?_) (fun cdv A outer s H vs Q E hr h => ?_)
 · obtain ⟨_, _, _, _, _, _, rfl, _⟩ := h; rfl
 refine ⟨_, (pss_one (ps_ret (pe_fn F__law_lowest hr rfl (pa_cons (pe_op op_sub (pe_op op_mulC (pe_ix (ixT K) (pv 0) pe_int (fun u v => rfl)) (pe_ix (ixT K) (pv 1) pe_int (fun u v => rfl))) (pe_op op_mulC (pe_ix (ixT K) (pv 1) pe_int (fun u v => rfl)) (pe_ix (ixT K) (pv 0) pe_int (fun u v => rfl)))) (pa_cons (pe_op op_mulC (pe_ix (ixT K) (pv 0) pe_int (fun u v => rfl)) (pe_ix (ixT K) (pv 1) pe_int (fun u v => rfl))) pa_nil))))), ?_⟩
 obtain ⟨x, y, p, q, m, n, rfl, ⟨r, rfl, hr⟩, ⟨u, rfl, hu⟩, hp, hq, hmn, k⟩ := h
 refine ⟨_, rfl, r, _, _, _, rfl, rfl, hr, rfl, _, rfl, u, _, _, _, rfl, rfl, hu, rfl, _, _, rfl, rfl, MulC.bd hp.1 hq.2, _, rfl, u, _, _, _, rfl, rfl, hu, rfl, _, rfl, r, _, _, _, rfl, rfl, hr, rfl, _, _, rfl, rfl, MulC.bd hq.1 hp.2, _, _, rfl, rfl, ?_⟩
 refine ⟨_, rfl, r, _, _, _, rfl, rfl, hr, rfl, _, rfl, u, _, _, _, rfl, rfl, hu, rfl, _, _, rfl, rfl, MulC.bd hp.2 hq.2, ?_⟩
 refine ⟨_, _, rfl, Int.mul_ne_zero (Nm.den_ne p) (Nm.den_ne q), fun z hz => ?_⟩
 have e := k z hz
 try dsimp only at e
 rw [← Nm.minus_eq] at e
 exact e
theorem sc__law_times : FnScope ["_law_a", "_law_b"] ["_law_a", "_law_b"] (defScope (top 59)) := ⟨rfl, rfl, rfl, by decide +kernel, rfl, by decide +kernel, by decide +kernel⟩
set_option maxHeartbeats 4000000 in
theorem ok__law_times {f : Addr} {fd : FuncData} (F : Fun K "_law_times" "_law_times" (top 59) f fd) (F__law_lowest : Fd P w K mg base 33 "_law_lowest" ["_law_top", "_law_bottom"] (spLow)) (hT : P.given.tree = none) :
   FnOk P w K mg base CX0 34 f fd ["_law_a", "_law_b"] (spBin K (· * ·)) := by
 refine F.ok sc__law_times (fun vs H Q E h => ?_) (fun cdv A outer s H vs Q E hr h => ?_)
 · obtain ⟨_, _, _, _, _, _, rfl, _⟩ := h; rfl
 refine ⟨_, (pss_one (ps_ret (pe_fn F__law_lowest hr rfl (pa_cons (pe_op op_mulC (pe_ix (ixT K) (pv 0) pe_int (fun u v => rfl)) (pe_ix (ixT K) (pv 1) pe_int (fun u v => rfl))) (pa_cons (pe_op op_mulC (pe_ix (ixT K) (pv 0) pe_int (fun u v => rfl)) (pe_ix (ixT K) (pv 1) pe_int (fun u v => rfl))) pa_nil))))), ?_⟩
 obtain ⟨x, y, p, q, m, n, rfl, ⟨r, rfl, hr⟩, ⟨u, rfl, hu⟩, hp, hq, hmn, k⟩ := h
 refine ⟨_, rfl, r, _, _, _, rfl, rfl, hr, rfl, _, rfl, u, _, _, _, rfl, rfl, hu, rfl, _, _, rfl, rfl, MulC.bd hp.1 hq.1, ?_⟩
 refine ⟨_, rfl, r, _, _, _, rfl, rfl, hr, rfl, _, rfl, u, _, _, _, rfl, rfl, hu, rfl, _, _, rfl, rfl, MulC.bd hp.2 hq.2, ?_⟩
 refine ⟨_, _, rfl, Int.mul_ne_zero (Nm.den_ne p) (Nm.den_ne q), fun z hz => ?_⟩
 have e := k z hz
 try dsimp only at e
 rw [← Nm.times_eq] at e
 exact e
theorem sc__law_at : FnScope ["_law_curve", "_law_x", "_law_found", "_law_power", "_law_number_here"] ["_law_curve", "_law_x"] (defScope (top 61)) := ⟨rfl, rfl, rfl, by decide +kernel, rfl, by decide +kernel, by decide +kernel⟩
set_option maxHeartbeats 4000000 in
theorem ok__law_at {f : Addr} {fd : FuncData} (F : Fun K "_law_at" "_law_at" (top 61) f fd) (F__law_plus : Fd P w K mg base 34 "_law_plus" ["_law_a", "_law_b"] (spBin K (· + ·))) (F__law_times : Fd P w K mg base 34 "_law_times" ["_law_a", "_law_b"] (spBin K (· * ·))) (hT : P.given.tree = none) :
   FnOk P w K mg base CX0 35 f fd ["_law_curve", "_law_x"] (spAt2 K) := by
 refine F.ok sc__law_at (fun vs H Q E h => ?_) (fun cdv A outer s H vs Q E hr h => ?_)
 · obtain ⟨_, _, _, _, _, _, _, _, rfl, _⟩ := h; rfl
 refine ⟨_, (pss_consC (K := K) (ps_set (i := 2) sc__law_at.nd rfl (Or.inl rfl) (pe_tup (pa_cons pe_int (pa_cons pe_int pa_nil))))
   (pss_consC (K := K) (ps_set (i := 3) sc__law_at.nd rfl (Or.inl rfl) (pe_tup (pa_cons pe_int (pa_cons pe_int pa_nil))))
   (pss_consC (K := K) (ps_forC (K := K) PassesOwn.never rfl (piS K (pv 0)) (pg_name (i := 4) sc__law_at.nd rfl (Or.inl rfl)) (pss_consC (K := K) (ps_set (i := 2) sc__law_at.nd rfl (Or.inl rfl) (pe_fn F__law_plus hr rfl (pa_cons (pv 2) (pa_cons (pe_fn F__law_times hr rfl (pa_cons (pv 4) (pa_cons (pv 3) pa_nil))) pa_nil))))
   (pss_one (ps_set (i := 3) sc__law_at.nd rfl (Or.inl rfl) (pe_fn F__law_times hr rfl (pa_cons (pv 3) (pa_cons (pv 1) pa_nil))))) (by rfl)) (by rfl))
   (pss_one (ps_ret (pv 2))) (by rfl)) (by rfl)) (by rfl)), ?_⟩
 obtain ⟨b, r, rx, xs, qs, x, c0, n, rfl, hS, hn, hx, hB, hbx, hz, q⟩ := h
 have hl := hn.length
 generalize hM : c0 + n * qs.length + 4 = M at hz q
 have hle : M * 2 ≤ 90000000 := Nat.le_trans (Nat.mul_le_mul_left _ (by lia)) hz
 have hz' : (qs.length + 2) * M ≤ 90000000 := by rw [Nat.mul_comm]; exact hz
 refine ⟨(by decide : 2 ≤ sizeLine), fun f hf => ?_⟩
 refine ⟨(by decide : 2 ≤ sizeLine), fun g hg => ?_⟩
 have s0 : Same H (upd (upd H f (.tup [.int 0, .int 1])) g (.tup [.int 1, .int 1])) := (Same.new hf).trans (Same.new hg)
 refine for_seq (b := b) (a := r) (xs := xs) rfl (L7 H r rx qs x M n fun H r rx qs x M n i σ H' => Same H H' ∧ ∃ (f g : Addr) (z : Option V), σ = [some (.ref r), some (.ref rx), some (.ref f), some (.ref g), z] ∧ H' f = some (nT (Cv.ev (qs.take i) x)) ∧ H' g = some (nT (x ^ i)) ∧ RB ((i + 1) * M) (Cv.ev (qs.take i) x) ∧ RB (n * i + 1) (x ^ i))
   ⟨s0, f, g, none, rfl, (Same.new hg) _ _ upd_same, ?_, RB.zero (by lia), ?_⟩ (fun i σ H' _ p => Sq.same hS p.1) ?_ ?_
 · rw [Rat.pow_zero]; exact upd_same
 · rw [Rat.pow_zero]; exact RB.one (by lia)
 · rintro i v σ H' hv hR1
   refine anE2 hR1 fun sm hz119 => ?_
   refine exE3 hz119 fun f' g' z hz119' => ?_
   clear hz119
   refine anE5 hz119' fun hq118 ef eg bf bg => ?_
   clear hz119'
   obtain rfl := hq118
   try clear hR1
   obtain ⟨c, hc, hcn⟩ := (Paired.get hn hv)
   have hi : i < qs.length := (List.getElem?_eq_some_iff.mp hc).1
   have hcm : c ∈ qs := List.mem_of_getElem? hc
   have hni : n * i ≤ n * qs.length := Nat.mul_le_mul_left n (by lia)
   have hni1 : n * (i + 1) = n * i + n := by rw [Nat.mul_add, Nat.mul_one]
   have hni2 : n * (i + 1) ≤ n * qs.length := Nat.mul_le_mul_left n (by lia)
   have him : (i + 1 + 1) * M ≤ (qs.length + 2) * M := Nat.mul_le_mul_right _ (by lia)
   have him2 : (i + 1 + 1) * M = (i + 1) * M + M := by rw [Nat.add_mul, Nat.one_mul]
   have bt : RB (c0 + (n * i + 1)) (c * x ^ i) := (hB c hcm).times bg
   refine ⟨_, rfl, _, rfl, _, rfl, _, _, _, _, c0, n * i + 1, rfl, hcn.same sm, NumV.of eg, hB c hcm, bg, by lia, fun t ht => ?_⟩
   have s1 : Same H' (upd H' t (nT (c * x ^ i))) := Same.new ht
   refine ⟨_, _, _, _, (i + 1) * M, c0 + (n * i + 1), rfl, NumV.of (s1 _ _ ef), NumV.of upd_same, bf, bt, by lia, fun u hu => ?_⟩
   have s2 := s1.trans (Same.new (o := nT (Cv.ev (qs.take i) x + c * x ^ i)) hu)
   refine ⟨_, rfl, _, rfl, _, _, _, _, n * i + 1, n, rfl, NumV.of (s2 _ _ eg), (hx.same sm).same s2, bg, hbx, by lia, fun v' hv' => ?_⟩
   have s3 := s2.trans (Same.new (o := nT (x ^ i * x)) hv')
   have e1 : Cv.ev (qs.take (i + 1)) x = Cv.ev (qs.take i) x + c * x ^ i := by
     rw [List.take_add_one, hc]
     show Cv.ev (qs.take i ++ [c]) x = _
     rw [Cv.ev_snoc, List.length_take, Nat.min_eq_left (by lia)]
   refine ⟨sm.trans s3, u, v', _, rfl, ?_, ?_, ?_, ?_⟩
   · rw [e1]; exact (Same.new hv') _ _ upd_same
   · rw [Rat.pow_succ]; exact upd_same
   · rw [e1, him2]; exact (bf.plus bt).mono (by lia)
   · rw [Rat.pow_succ, hni1]; exact (bg.times hbx).mono (by lia)
 · rintro σ H' hR2
   refine anE2 hR2 fun sm hz121 => ?_
   refine exE3 hz121 fun f' g' z hz121' => ?_
   clear hz121
   refine anE5 hz121' fun hq120 ef eg bf bg => ?_
   clear hz121'
   obtain rfl := hq120
   try clear hR2
   rw [hl, List.take_length] at ef bf
   exact ⟨_, rfl, q _ _ sm ef (by rw [Nat.mul_comm]; exact bf)⟩
theorem sc_replaced : FnScope ["points", "old", "new"] ["points", "old", "new"] (defScope (top 47)) := ⟨rfl, rfl, rfl, by decide +kernel, rfl, by decide +kernel, by decide +kernel⟩
set_option maxHeartbeats 4000000 in
theorem ok_replaced {f : Addr} {fd : FuncData} (F : Fun K "replaced" "replaced" (top 47) f fd) (F_points_of : Fd P w K mg base 36 "points_of" ["thing"] (spPtsOf K)) (hT : P.given.tree = none) :
   FnOk P w K mg base CX0 37 f fd ["points", "old", "new"] (spReplaced K) := by
 refine F.ok sc_replaced (fun vs H Q E h => ?_) (fun cdv A outer s H vs Q E hr h => ?_)
 · obtain ⟨_, _, _, _, _, _, _, _, rfl, _⟩ := h; rfl
 refine ⟨_, (pss_one (ps_ret (pe_fn F_points_of hr rfl (pa_cons (pe_lc rfl (N := ["point", "old", "new"]) (nt := 1) (js := [1, 2]) (CompOk.look (NX := ["points", "old", "new"]) (sc := defScope (top 47)) rfl rfl (by decide +kernel)) (piT K (pv 0)) (fun u1 u2 u3 u4 u5 => (pg_name (i := 0) (show List.Nodup (["point", "old", "new"] : List Str) from by decide +kernel) rfl (Or.inl rfl))) (stays_name (by decide)) (fun u1 u2 u3 u4 u5 => pts_nil) (fun u1 u2 u3 u4 u5 => (pe_ifExp (pt_cmpR (eqD K hr.units) (pv 0) (pv 1) (nomark _)) (pv 2) (pv 0)))) pa_nil)))), ?_⟩
 obtain ⟨r, v, y, xs, pss, m, ps, qs, rfl, hS, hp, hnd, h23, hm, hv, hy, h0, hq23, h10, q⟩ := h
 have hl := hp.length
 have hge := tell_ge h23
 have hlt := (List.getElem?_eq_some_iff.mp hv).1
 refine lc_of ⟨_, rfl, r, rfl, ⟨_, hS⟩, ?_⟩
 refine lc_tup (xs := xs) (fun i zs H' => H' = H ∧ zs = (xs.set m y).take i) ⟨rfl, rfl⟩ (fun i zs H' _ p => ⟨by rw [p.1]; exact hS, by rw [p.2, List.length_take, List.length_set]; lia⟩) (Nat.le_of_lt (small1000 (by lia))) ?_ ?_
 · rintro i u zs H' hu ⟨rfl, rfl⟩
   obtain ⟨us, hqs, huq⟩ := (Paired.get hp hu)
   obtain ⟨us2, hqs2, hvp⟩ := (Paired.get hp hv)
   rw [hm] at hqs2
   cases hqs2
   have hiu := (List.getElem?_eq_some_iff.mp hu).1
   obtain ⟨a, rfl, cu⟩ := huq.pt
   obtain ⟨b, rfl, cv⟩ := hvp.pt
   refine ⟨_, rfl, _, rfl, ?_⟩
   refine eqT cu cv ?_
   refine ⟨_, rfl, ?_⟩
   by_cases he : i = m
   · subst he
     rw [hm] at hqs
     cases hqs
     refine iteTc (by rw [decide_eq_true rfl] <;> rfl) ⟨_, rfl, rfl, ?_⟩
     rw [List.take_add_one, List.getElem?_set_self hlt]; rfl
   · refine iteFc (by rw [decide_eq_false (show ¬ us = ps from fun z => he (nd_inj hnd hqs hm (by rw [z])))] <;> rfl) ⟨_, rfl, rfl, ?_⟩
     rw [List.take_add_one, List.getElem?_set_ne (Ne.symm he), hu]; rfl
 rintro zs Hq ⟨hq, rfl⟩ l hl'
 obtain rfl : H = Hq := hq.symm
 rw [List.take_of_length_le (by rw [List.length_set]; lia)]
 have s1 : Same H (upd H l (.lst (xs.set m y))) := Same.new hl'
 have ht := tell_set pss m qs (by lia)
 refine ⟨true, l, xs.set m y, pss.set m qs, rfl, SqL.of upd_same, paired_set m (PtsT.same hp s1) (hy.same s1), p23_set h23 hq23, by rw [List.length_set]; lia, nd_set hm h0 hnd, by lia, fun p H' s4 hp4 _ => ?_⟩
 exact q p H' (s1.trans s4) hp4
theorem sc_with_height : FnScope ["points", "x", "y", "old"] ["points", "x", "y"] (defScope (top 48)) := ⟨rfl, rfl, rfl, by decide +kernel, rfl, by decide +kernel, by decide +kernel⟩
set_option maxHeartbeats 4000000 in
theorem ok_with_height {f : Addr} {fd : FuncData} (F : Fun K "with_height" "with_height" (top 48) f fd) (F_point_at : Fd P w K mg base 33 "point_at" ["points", "x"] (spPtAt K)) (F_replaced : Fd P w K mg base 37 "replaced" ["points", "old", "new"] (spReplaced K)) (hT : P.given.tree = none) :
   FnOk P w K mg base CX0 38 f fd ["points", "x", "y"] (spWithH K) := by
 refine F.ok sc_with_height (fun vs H Q E h => ?_) (fun cdv A outer s H vs Q E hr h => ?_)
 · obtain ⟨_, _, _, _, _, _, _, _, rfl, _⟩ := h; rfl
 refine ⟨_, (pss_consC (K := K) (ps_set (i := 3) sc_with_height.nd rfl (Or.inl rfl) (pe_fn F_point_at hr rfl (pa_cons (pv 0) (pa_cons (pv 1) pa_nil))))
   (pss_one (ps_ret (pe_fn F_replaced hr rfl (pa_cons (pv 0) (pa_cons (pv 3) (pa_cons (pe_op (catTA K) (pe_tup (pa_cons (pv 1) (pa_cons (pv 2) pa_nil))) (pe_slice (slTA K) (pv 3) (po_some pe_int) po_none)) pa_nil)))))) (by rfl)), ?_⟩
 obtain ⟨r, px, y, xs, pss, m, ps, c, rfl, hS, hp, hnd, h23, hm, hx, hy, h10, q⟩ := h
 have P2 : 2 ≤ sizeLine := by decide
 have hps := h23 ps (List.mem_of_getElem? hm)
 obtain ⟨v, hv, a, us, pp, rfl, hus, hun, hu0, hpp⟩ := (Paired.get' hp hm)
 have hul := hun.length
 refine ⟨_, rfl, _, rfl, r, _, _, xs, pss, m, ps, rfl, hS, hp, hnd, hm, hv, NumV.of hx, ?_⟩
 refine ⟨_, rfl, _, rfl, _, rfl, _, rfl, P2, fun t ht => ?_⟩
 have s1 : Same H (upd H t (.tup [.ref px, y])) := Same.new ht
 refine ⟨_, rfl, 2, rfl, slice_from (v := 2) (hus.same s1) (by lia) fun w H2 s2 hw => ?_⟩
 have hl2 : (us.drop 2).length ≤ 1 := by rw [List.length_drop]; lia
 have s12 := s1.trans s2
 refine cat_pts (SqT.of (s2 _ _ upd_same)) hw (Nat.le_trans (show _ ≤ 300 by show 2 + _ ≤ 300; lia) (by decide)) (fun n H3 s3 hn => ?_)
 have s13 := s12.trans s3
 have hnew : PtT K H3 (.ref n) ([ps.getD 0 0, c] ++ ps.drop 2) := ⟨n, _, px, rfl, hn, .cons (NumV.of (s13 _ _ hx)) (.cons (hy.same s13) (paired_drop 2 (hun.same s13))), rfl, s13 _ _ hx⟩
 refine ⟨r, _, _, xs, pss, m, ps, _, rfl, hS.same s13, PtsT.same hp s13, hnd, h23, hm, hv, hnew, rfl, by simp only [List.length_append, List.length_drop, List.length_cons, List.length_nil]; lia, h10, fun p H4 s4 hp4 => ?_⟩
 have s14 := s13.trans s4
 exact q p H4 _ s14 hp4 (paired_set m (PtsT.same hp s14) (hnew.same s4))
theorem sc__law_told : FnScope ["_law_points_here", "_law_found", "_law_point"] ["_law_points_here"] (defScope (top 65)) := ⟨rfl, rfl, rfl, by decide +kernel, rfl, by decide +kernel, by decide +kernel⟩
set_option maxHeartbeats 4000000 in
theorem ok__law_told {f : Addr} {fd : FuncData} (F : Fun K "_law_told" "_law_told" (top 65) f fd) (b_len : mg "len" = none) (hT : P.given.tree = none) :
   FnOk P w K mg base CX0 33 f fd ["_law_points_here"] (spToldS K) := by
 refine F.ok sc__law_told (fun vs H Q E h => ?_) (fun cdv A outer s H vs Q E hr h => ?_)
 · obtain ⟨_, _, _, _, rfl, _⟩ := h; rfl
 refine ⟨_, (pss_consC (K := K) (ps_set (i := 1) sc__law_told.nd rfl (Or.inl rfl) (pe_lst pa_nil))
   (pss_consC (K := K) (ps_forC (K := K) PassesOwn.never rfl (piS K (pv 0)) (pg_name (i := 2) sc__law_told.nd rfl (Or.inl rfl)) (pss_consC (K := K) (ps_expr (pe_bmK K PySem.F.plainAttrs_list PySem.F.slot_list_append PySem.F.type_list_append mt_append (pv 1) (pa_cons (pe_tup (pa_cons (pe_ix (ixT K) (pv 2) pe_int (fun u v => rfl)) (pa_cons pe_int (pa_cons (pe_ix (ixT K) (pv 2) pe_int (fun u v => rfl)) pa_nil)))) pa_nil)))
   (pss_one (ps_ifC (K := K) (pt_cmpR op_eq (pe_callB (lenK K) rfl b_len bt_len (pa_cons (pv 2) pa_nil)) pe_int (nomark _)) (pss_one (ps_expr (pe_bmK K PySem.F.plainAttrs_list PySem.F.slot_list_append PySem.F.type_list_append mt_append (pv 1) (pa_cons (pe_tup (pa_cons (pe_ix (ixT K) (pv 2) pe_int (fun u v => rfl)) (pa_cons pe_int (pa_cons (pe_ix (ixT K) (pv 2) pe_int (fun u v => rfl)) pa_nil)))) pa_nil)))) pss_nil (by rfl) (by rfl))) (by rfl)) (by rfl))
   (pss_one (ps_ret (pv 1))) (by rfl)) (by rfl)), ?_⟩
 obtain ⟨b, r, xs, pss, rfl, hS, hp, h23, h100, q⟩ := h
 have P0 : 0 ≤ sizeLine := by decide
 have P3 : 3 ≤ sizeLine := by decide
 have hxl := hp.length
 refine ⟨P0, fun p hp0 => ?_⟩
 refine for_seq (b := b) (a := r) (n := 0) (xs := xs) rfl (L5 H r p K pss fun H r p K pss i σ H' => Same H H' ∧ ∃ ys z2, σ = [some (.ref r), some (.ref p), z2] ∧ H' p = some (.lst ys) ∧ Tls K H' ys (tell (pss.take i))) ⟨Same.new hp0, [], none, rfl, upd_same, .nil⟩ (fun i σ H' _ h => Sq.same hS h.1) ?_ ?_
 · rintro i v σ H' hv hR1
   refine anE2 hR1 fun sm hz125 => ?_
   refine exE2 hz125 fun ys z2 hz125' => ?_
   clear hz125
   refine anE3 hz125' fun hq124 ep hys => ?_
   clear hz125'
   obtain rfl := hq124
   try clear hR1
   obtain ⟨ps, hps, a, rfl, zs, hzs, hzn⟩ := (Paired.get hp hv)
   have hpl := h23 ps (List.mem_of_getElem? hps)
   have hzl := hzn.length
   have hyl : ys.length ≤ 200 := by
     have h1 := tell_length_le (pss.take i) (h23.take i)
     rw [List.length_take] at h1
     rw [hys.length]; lia
   have g0 := getD_some (l := ps) (i := 0) (by lia)
   have g1 := getD_some (l := ps) (i := 1) (by lia)
   obtain ⟨x0, hx0, hn0⟩ := (Paired.get' hzn g0)
   obtain ⟨x1, hx1, hn1⟩ := (Paired.get' hzn g1)
   have a0 : atI zs 0 = some x0 := atI_nat (j := 0) hx0
   have a1 : atI zs 1 = some x1 := atI_nat (j := 1) hx1
   have e : pss.take (i + 1) = pss.take i ++ [ps] := by rw [List.take_add_one, hps]; rfl
   refine ⟨_, rfl, .inl ⟨rfl, _, SqL.of ep⟩, _, rfl, a, zs, _, x0, rfl, rfl, hzs.same sm, a0, _, rfl, a, zs, _, x1, rfl, rfl, hzs.same sm, a1, P3, fun t ht => ?_⟩
   have s3 : Same H' (upd H' t (.tup [x0, .int 0, x1])) := Same.new ht
   have et : (upd H' t (.tup [x0, .int 0, x1])) t = some (.tup [x0, .int 0, x1]) := upd_same
   have tp : t ≠ p := (ne_of_none ep ht).symm
   have ep3 := s3 _ _ ep
   generalize upd H' t (.tup [x0, .int 0, x1]) = H3 at s3 et ep3 ⊢
   refine ⟨p, ys, .ref t, rfl, rfl, ep3, Nat.lt_of_lt_of_le (show ys.length < 300 by lia) (by decide), ?_⟩
   have sm4 : Same H (upd H3 p (.lst (ys ++ [.ref t]))) := (sm.trans s3).put hp0
   have ep4 : (upd H3 p (.lst (ys ++ [.ref t]))) p = some (.lst (ys ++ [.ref t])) := upd_same
   have hys4 : Tls K (upd H3 p (.lst (ys ++ [.ref t]))) (ys ++ [.ref t]) (tell (pss.take i) ++ [⟨ps.getD 0 0, 0, ps.getD 1 0⟩]) :=
     Paired.snoc (Tls.put (Tls.same hys s3) ep3) ⟨t, x0, x1, rfl, (SqT.of et).put ep3, ((hn0.same sm).same s3).put ep3, ((hn1.same sm).same s3).put ep3⟩
   generalize upd H3 p (.lst (ys ++ [.ref t])) = H4 at sm4 ep4 hys4 ⊢
   refine ⟨_, rfl, a, zs, rfl, .inr (hzs.same sm4), rfl, _, rfl, ?_⟩
   by_cases h3 : ps.length = 3
   · refine iteTc (by rw [decide_eq_true (show V.int (zs.length : Int) = V.int 3 by rw [hzl, h3]; rfl)] <;> rfl) ?_
     have g2 := getD_some (l := ps) (i := 2) (by lia)
     obtain ⟨x2, hx2, hn2⟩ := (Paired.get' hzn g2)
     have a2 : atI zs 2 = some x2 := atI_nat (j := 2) hx2
     refine ⟨_, rfl, .inl ⟨rfl, _, SqL.of ep4⟩, _, rfl, a, zs, _, x0, rfl, rfl, hzs.same sm4, a0, _, rfl, a, zs, _, x2, rfl, rfl, hzs.same sm4, a2, P3, fun u hu => ?_⟩
     have s5 : Same H4 (upd H4 u (.tup [x0, .int 1, x2])) := Same.new hu
     have ep5 := s5 _ _ ep4
     refine ⟨p, _, .ref u, rfl, rfl, ep5, Nat.lt_of_lt_of_le (show (ys ++ [V.ref t]).length < 300 by rw [List.length_append, List.length_singleton]; lia) (by decide), (sm4.trans s5).put hp0, _, _, rfl, upd_same, ?_⟩
     rw [e, tell_snoc]
     have et2 : tellP ps = [⟨ps.getD 0 0, 0, ps.getD 1 0⟩] ++ [⟨ps.getD 0 0, 1, ps.getD 2 0⟩] := by unfold tellP; rw [h3]; rfl
     rw [et2, ← List.append_assoc]
     exact Paired.snoc (Tls.put (Tls.same hys4 s5) ep5) ⟨u, x0, x2, rfl, (SqT.of upd_same).put ep5, ((hn0.same sm4).same s5).put ep5, ((hn2.same sm4).same s5).put ep5⟩
   · refine iteFc (by rw [decide_eq_false (show ¬ V.int (zs.length : Int) = V.int 3 from fun z => h3 (by have := V.int.inj z; lia))] <;> rfl) ⟨sm4, _, _, rfl, ep4, ?_⟩
     rw [e, tell_snoc]
     have et2 : tellP ps = [⟨ps.getD 0 0, 0, ps.getD 1 0⟩] := by unfold tellP; rw [show ps.length = 2 by lia]; rfl
     rw [et2]
     exact hys4
 · rintro σ H' hR2
   refine anE2 hR2 fun sm hz129 => ?_
   refine exE2 hz129 fun ys z2 hz129' => ?_
   clear hz129
   refine anE3 hz129' fun hq128 ep hys => ?_
   clear hz129'
   obtain rfl := hq128
   try clear hR2
   rw [hxl, List.take_length] at hys
   exact ⟨_, rfl, q p H' ys sm hp0 ep hys⟩
theorem sc__law_stepped : FnScope ["_law_points_here", "_law_new", "_law_x", "_law_knots", "_law_some", "_law_found", "_law_k", "_law_product", "_law_knot"] ["_law_points_here", "_law_new", "_law_x"] (defScope (top 68)) := ⟨rfl, rfl, rfl, by decide +kernel, rfl, by decide +kernel, by decide +kernel⟩
set_option maxHeartbeats 4000000 in
theorem ok__law_stepped {f : Addr} {fd : FuncData} (F : Fun K "_law_stepped" "_law_stepped" (top 68) f fd) (F_new_steps : Fd P w K mg base 39 "new_steps" ["points", "point"] (spNewSteps K)) (F__law_plus : Fd P w K mg base 34 "_law_plus" ["_law_a", "_law_b"] (spBin K (· + ·))) (F__law_told : Fd P w K mg base 33 "_law_told" ["_law_points_here"] (spToldS K)) (F__law_times : Fd P w K mg base 34 "_law_times" ["_law_a", "_law_b"] (spBin K (· * ·))) (F__law_minus : Fd P w K mg base 34 "_law_minus" ["_law_a", "_law_b"] (spBin K (· - ·))) (b_range : mg "range" = none) (b_len : mg "len" = none) (hT : P.given.tree = none) :
   FnOk P w K mg base CX0 40 f fd ["_law_points_here", "_law_new", "_law_x"] (spStepped K) := by
 refine F.ok sc__law_stepped (fun vs H Q E h => ?_) (fun cdv A outer s H vs Q E hr h => ?_)
 · obtain ⟨_, _, _, _, _, _, _, rfl, _⟩ := h; rfl
 refine ⟨_, (pss_consC (K := K) (ps_lc (i := 3) rfl sc__law_stepped.nd rfl rfl (N := ["_law_row"]) (nt := 1) (js := []) (CompOk.look (NX := ["_law_points_here", "_law_new", "_law_x", "_law_knots", "_law_some", "_law_found", "_law_k", "_law_product", "_law_knot"]) (sc := defScope (top 68)) rfl rfl (by decide +kernel)) (piL K (pe_fn F__law_told hr rfl (pa_cons (pe_op (catTA K) (pv 0) (pe_tup (pa_cons (pv 1) pa_nil))) pa_nil))) (fun u1 u2 u3 u4 u5 => (pg_name (i := 0) (show List.Nodup (["_law_row"] : List Str) from by decide +kernel) rfl (Or.inl rfl))) (stays_name (by decide)) (fun u1 u2 u3 u4 u5 => pts_nil) (fun u1 u2 u3 u4 u5 => (pe_ix (ixT K) (pv 0) pe_int (fun u v => rfl))) rfl)
   (pss_consC (K := K) (ps_set (i := 4) sc__law_stepped.nd rfl (Or.inl rfl) (pe_fn F_new_steps hr rfl (pa_cons (pv 0) (pa_cons (pv 1) pa_nil))))
   (pss_consC (K := K) (ps_set (i := 5) sc__law_stepped.nd rfl (Or.inl rfl) (pe_tup (pa_cons pe_int (pa_cons pe_int pa_nil))))
   (pss_consC (K := K) (ps_forC (K := K) PassesOwn.never rfl (pi_range1 rfl b_range (pa_cons (pe_callB (lenK K) rfl b_len bt_len (pa_cons (pv 4) pa_nil)) pa_nil)) (pg_name (i := 6) sc__law_stepped.nd rfl (Or.inl rfl)) (pss_consC (K := K) (ps_set (i := 7) sc__law_stepped.nd rfl (Or.inl rfl) (pe_ix (ixL K) (pv 4) (pv 6) (fun u v => rfl)))
   (pss_consC (K := K) (ps_forC (K := K) PassesOwn.never rfl (piL K (pe_slice (slL K) (pv 3) po_none (po_some (pe_op op_add (pe_op op_sub (pe_callB (lenK K) rfl b_len bt_len (pa_cons (pv 3) pa_nil)) (pe_callB (lenK K) rfl b_len bt_len (pa_cons (pv 4) pa_nil))) (pv 6))))) (pg_name (i := 8) sc__law_stepped.nd rfl (Or.inl rfl)) (pss_one (ps_set (i := 7) sc__law_stepped.nd rfl (Or.inl rfl) (pe_fn F__law_times hr rfl (pa_cons (pv 7) (pa_cons (pe_fn F__law_minus hr rfl (pa_cons (pv 2) (pa_cons (pv 8) pa_nil))) pa_nil))))) (by rfl))
   (pss_one (ps_set (i := 5) sc__law_stepped.nd rfl (Or.inl rfl) (pe_fn F__law_plus hr rfl (pa_cons (pv 5) (pa_cons (pv 7) pa_nil))))) (by rfl)) (by rfl)) (by rfl))
   (pss_one (ps_ret (pv 5))) (by rfl)) (by rfl)) (by rfl)) (by rfl)), ?_⟩
 obtain ⟨r, nw, rx, xs, pss, ps, x, rfl, hS, hp, hnw, h23, hnd, h7, hb, hX, bx, q⟩ := h
 have P1 : 1 ≤ sizeLine := by decide
 have P2 : 2 ≤ sizeLine := by decide
 have hge := tell_ge h23
 have hxl := hp.length
 have hl2 : (pss ++ [ps]).length = pss.length + 1 := by rw [List.length_append, List.length_singleton]
 have hbk : ∀ q ∈ pss ++ [ps], RB 16 (q.getD 0 0) := fun q hq => hb q hq _ (getD_mem (by have := h23 q hq; lia))
 have hsb := steps_rbN h23 hb hbk (by decide) h7
 rw [show bnd 16 16 7 = 6366 from rfl] at hsb
 have hkb := kn_rb hbk
 refine lc_of ?_
 refine ⟨_, rfl, _, rfl, P1, fun t1 ht1 => ?_⟩
 have sa := Same.new (o := .tup [.ref nw]) ht1
 refine cat_pts (hS.same sa) (SqT.of upd_same) (Nat.le_trans (show _ ≤ 300 by show _ + 1 ≤ 300; lia) (by decide)) (fun bo H1 s1 hbo => ?_)
 have s01 := sa.trans s1
 have hpo : PtsT K H1 (xs ++ [.ref nw]) (pss ++ [ps]) := Paired.snoc (PtsT.same hp s01) (hnw.same s01)
 refine ⟨false, bo, xs ++ [V.ref nw], pss ++ [ps], rfl, (show SqT K H1 bo (xs ++ [V.ref nw]) from hbo), hpo.pts, h23, by lia, fun w Hw ws sw hw ew htw => ⟨w, rfl, ⟨_, SqL.of ew⟩, ?_⟩⟩
 have hwl := htw.length
 refine lc_lst (xs := ws) (L4 Hw K pss ps fun Hw K pss ps i zs H' => H' = Hw ∧ zs.length = i ∧ Nums K Hw zs (((tell (pss ++ [ps])).take i).map Told.x)) ⟨rfl, rfl, .nil⟩ (fun i zs H' _ h => ⟨by rw [h.1]; exact SqL.of ew, h.2.1⟩) (Nat.le_of_lt (small1000 (by lia))) ?_ ?_
 · rintro i v zs H' hv ⟨rfl, hzl, hzn⟩
   obtain ⟨t, ht, a, rx, rn, rfl, ha, hx, _⟩ := (Paired.get htw hv)
   refine ⟨_, rfl, a, _, _, _, rfl, rfl, ha, rfl, rfl, by simp [hzl], ?_⟩
   rw [List.take_add_one, ht, List.map_append]
   exact Paired.snoc hzn hx
 rintro kv Hq ⟨hq, hkvl, hkn⟩ kl hkl
 obtain rfl : Hw = Hq := hq.symm
 rw [hwl, List.take_length] at hkn
 have sk := sw.trans (Same.new (o := .lst kv) hkl)
 have ekl : (upd Hw kl (.lst kv)) kl = some (.lst kv) := upd_same
 have hkn' : Nums K (upd Hw kl (.lst kv)) kv (kn (pss ++ [ps])) := Nums.same hkn (Same.new (o := .lst kv) hkl)
 generalize upd Hw kl (.lst kv) = H2 at sk ekl hkn' ⊢
 have s2 := s01.trans sk
 clear sk hkn ew htw sw hw hbo hpo hkl s01 s1 sa ht1
 refine ⟨_, rfl, _, rfl, r, _, xs, pss, ps, 16, 16, rfl, hS.same s2, PtsT.same hp s2, hnw.same s2, h23, hnd, by lia, hb, hbk, by decide, by decide, fun so H3 sv s3 hso eso hsn => ?_⟩
 refine ⟨P2, fun f hf => ?_⟩
 have s4 : Same H3 (upd H3 f (.tup [.int 0, .int 1])) := Same.new hf
 have ef : NumV K (upd H3 f (.tup [.int 0, .int 1])) (.ref f) 0 := NumV.of (upd_same (o := nT 0))
 generalize upd H3 f (.tup [.int 0, .int 1]) = H4 at s4 ef ⊢
 have s34 := s3.trans s4
 have s04 := s2.trans s34
 have ekl4 := s34 _ _ ekl
 have hkn4 := Nums.same hkn' s34
 have eso4 := s4 _ _ eso
 have hsn4 := Nums.same hsn s4
 have hX4 := hX.same s04
 have epk : (kn (pss ++ [ps])).take (tell pss).length = kn pss := by
   rw [kn_app, List.take_append_of_le_length (by rw [kn_length]; exact Nat.le_refl _), List.take_of_length_le (by rw [kn_length]; exact Nat.le_refl _)]
 have eps := steps_prefix h23 hnd
 have hkl : (kn (pss ++ [ps])).length = (tell (pss ++ [ps])).length := kn_length _
 have hsl : (stepsOf (pss ++ [ps])).length = (tell (pss ++ [ps])).length := stepsOf_length _
 have hnN : (tell pss).length ≤ (tell (pss ++ [ps])).length := by rw [tell_app, List.length_append]; exact Nat.le_add_right _ _
 rw [← epk, ← eps] at q
 generalize (tell pss).length = n at q hsn4 hsn epk eps hnN
 generalize kn (pss ++ [ps]) = ks at q hkn4 hkn' hkb hkl epk
 generalize stepsOf (pss ++ [ps]) = ss at q hsn4 hsn hsb hsl eps
 clear hsn hkn' epk eps eso ekl s3 s4 s34 s2 hso hf
 have svl := hsn4.length
 rw [List.length_drop] at svl
 have kvl := hkn4.length
 refine ⟨_, rfl, so, sv, rfl, .inl (SqL.of eso4), _, rfl, by lia, by lia, ?_⟩
 rw [Int.toNat_natCast, svl]
 have e00 : newton (ks.take (n + 0)) (ss.take (n + 0)) x - newton (ks.take n) (ss.take n) x = 0 := Rat.sub_self
 refine for_range (n := ss.length - n) (L12 H4 some r nw rx kl so K ks n ss x fun H4 some r nw rx kl so K ks n ss x k σ H' => Same H4 H' ∧ ∃ (fv : V) (z6 z7 z8 : Option V), σ = [some (.ref r), some (.ref nw), some (.ref rx), some (.ref kl), some (.ref so), some fv, z6, z7, z8] ∧ NumV K H' fv (newton (ks.take (n + k)) (ss.take (n + k)) x - newton (ks.take n) (ss.take n) x) ∧ RB (k * 7000 + 1) (newton (ks.take (n + k)) (ss.take (n + k)) x - newton (ks.take n) (ss.take n) x))
   ⟨Same.refl _, _, none, none, none, rfl, by rw [e00]; exact ef, by rw [e00]; exact RB.zero (by lia)⟩ ?_ ?_
 · rintro k σ H' hk hR1
   refine anE2 hR1 fun sm hz133 => ?_
   refine exE4 hz133 fun fv z6 z7 z8 hz133' => ?_
   clear hz133
   refine anE3 hz133' fun hq132 hfv bf => ?_
   clear hz133'
   obtain rfl := hq132
   try clear hR1
   rw [Int.zero_add]
   obtain ⟨s, hss⟩ : ∃ s, ss[n + k]? = some s := ⟨_, List.getElem?_eq_getElem (by lia)⟩
   have bs := hsb s (List.mem_of_getElem? hss)
   obtain ⟨sq, hsq, hsqn⟩ := Paired.get' hsn4 (i := k) (by rw [List.getElem?_drop]; exact hss)
   obtain ⟨kq, hkq⟩ : ∃ s, ks[n + k]? = some s := ⟨_, List.getElem?_eq_getElem (by lia)⟩
   refine ⟨_, rfl, _, rfl, so, sv, _, sq, rfl, rfl, SqL.of (sm _ _ eso4), atI_nat hsq, ?_⟩
   refine ⟨_, rfl, _, rfl, kl, kv, rfl, .inl (SqL.of (sm _ _ ekl4)), _, rfl, so, sv, rfl, .inl (SqL.of (sm _ _ eso4)), _, _, rfl, rfl, _, rfl, _, _, rfl, rfl, ((n + k : Nat) : Int), by show V.int (((kv.length : Int) - (sv.length : Int)) + (k : Int)) = _; congr 1; lia, kl, kv, rfl, SqL.of (sm _ _ ekl4), fun w hw => ?_⟩
   rw [cut_to]
   have s5 : Same H' (upd H' w (.lst (kv.take (n + k)))) := Same.new hw
   have ew : (upd H' w (.lst (kv.take (n + k)))) w = some (.lst (kv.take (n + k))) := upd_same
   generalize upd H' w (.lst (kv.take (n + k))) = H5 at s5 ew ⊢
   have s45 := sm.trans s5
   have hkt : (kv.take (n + k)).length = n + k := by rw [List.length_take]; lia
   have hfv5 := hfv.same s5
   refine ⟨w, rfl, ⟨_, SqL.of ew⟩, for_list (xs := kv.take (n + k)) (L13 H5 some r nw rx kl so fv k K s x ks fun H5 some r nw rx kl so fv k K s x ks i σ H' => Same H5 H' ∧ ∃ (pv : V) (z8 : Option V), σ = [some (.ref r), some (.ref nw), some (.ref rx), some (.ref kl), some (.ref so), some fv, some (.int (k : Int)), some pv, z8] ∧ NumV K H' pv (s * L2.prV x (ks.take i)) ∧ RB (6366 + i * 33) (s * L2.prV x (ks.take i)))
     ⟨Same.refl _, _, z8, rfl, ?_, ?_⟩ (fun i σ H' _ h => SqL.of (h.1 _ _ ew)) ?_ ?_⟩
   · show NumV K H5 _ (s * 1)
     rw [Rat.mul_one]; exact hsqn.same s45
   · show RB _ (s * 1)
     rw [Rat.mul_one]; exact bs
   · rintro i v σ H6 hv hR2
     refine anE2 hR2 fun s6 hz135 => ?_
     refine exE2 hz135 fun pv z8 hz135' => ?_
     clear hz135
     refine anE3 hz135' fun hq134 hpv bp => ?_
     clear hz135'
     obtain rfl := hq134
     try clear hR2
     have hi : i < (kv.take (n + k)).length := (List.getElem?_eq_some_iff.mp hv).1
     rw [hkt] at hi
     rw [List.getElem?_take, if_pos hi] at hv
     obtain ⟨o, ho, hon⟩ := (Paired.get hkn4 hv)
     have s46 := s45.trans s6
     have bo := hkb o (List.mem_of_getElem? ho)
     refine ⟨_, rfl, _, rfl, _, rfl, _, _, x, o, 16, 16, rfl, hX4.same s46, hon.same s46, bx, bo, by decide, fun t3 ht3 => ?_⟩
     have st3 := Same.new (o := nT (x - o)) ht3
     refine ⟨_, _, s * L2.prV x (ks.take i), x - o, 6366 + i * 33, 33, rfl, hpv.same st3, NumV.of upd_same, bp, bx.minus bo, by lia, fun t4 ht4 => ?_⟩
     have e2 : s * L2.prV x (ks.take (i + 1)) = s * L2.prV x (ks.take i) * (x - o) := by
       rw [List.take_add_one, ho]
       show s * L2.prV x (ks.take i ++ [o]) = _
       rw [prV_snoc, Rat.mul_assoc]
     refine ⟨(s6.trans st3).trans (Same.new ht4), _, _, rfl, ?_, ?_⟩
     · rw [e2]; exact NumV.of upd_same
     · rw [e2]; exact (bp.times (bx.minus bo)).mono (by lia)
   · rintro σ H6 hR3
     refine anE2 hR3 fun s6 hz137 => ?_
     refine exE2 hz137 fun pv z8 hz137' => ?_
     clear hz137
     refine anE3 hz137' fun hq136 hpv bp => ?_
     clear hz137'
     obtain rfl := hq136
     try clear hR3
     rw [hkt] at hpv bp
     have e1 : newton (ks.take (n + (k + 1))) (ss.take (n + (k + 1))) x - newton (ks.take n) (ss.take n) x = newton (ks.take (n + k)) (ss.take (n + k)) x - newton (ks.take n) (ss.take n) x + s * L2.prV x (ks.take (n + k)) := by
       rw [← Nat.add_assoc, newton_take hkq hss]; grind
     refine ⟨_, rfl, _, rfl, _, _, _, s * L2.prV x (ks.take (n + k)), k * 7000 + 1, 6366 + (n + k) * 33, rfl, hfv5.same s6, hpv, bf, bp, by lia, fun t5 ht5 => ?_⟩
     refine ⟨(s45.trans s6).trans (Same.new ht5), _, _, _, _, rfl, ?_, ?_⟩
     · rw [e1]; exact NumV.of upd_same
     · rw [e1]; exact (bf.plus bp).mono (by lia)
 · rintro σ H' hR4
   refine anE2 hR4 fun sm hz139 => ?_
   refine exE4 hz139 fun fv z6 z7 z8 hz139' => ?_
   clear hz139
   refine anE3 hz139' fun hq138 hfv bf => ?_
   clear hz139'
   obtain rfl := hq138
   try clear hR4
   have e : n + (ss.length - n) = ss.length := by lia
   rw [e, List.take_length, hsl, ← hkl, List.take_length] at hfv bf
   exact ⟨_, rfl, q _ _ (s04.trans sm) hfv (bf.mono (by lia))⟩
theorem sc_with_slope : FnScope ["points", "x", "slope", "old"] ["points", "x", "slope"] (defScope (top 49)) := ⟨rfl, rfl, rfl, by decide +kernel, rfl, by decide +kernel, by decide +kernel⟩
set_option maxHeartbeats 4000000 in
theorem ok_with_slope {f : Addr} {fd : FuncData} (F : Fun K "with_slope" "with_slope" (top 49) f fd) (F_point_at : Fd P w K mg base 33 "point_at" ["points", "x"] (spPtAt K)) (F_replaced : Fd P w K mg base 37 "replaced" ["points", "old", "new"] (spReplaced K)) (hT : P.given.tree = none) :
   FnOk P w K mg base CX0 38 f fd ["points", "x", "slope"] (spWithS K) := by
 refine F.ok sc_with_slope (fun vs H Q E h => ?_) (fun cdv A outer s H vs Q E hr h => ?_)
 · obtain ⟨_, _, _, _, _, _, _, _, rfl, _⟩ := h; rfl
 refine ⟨_, (pss_consC (K := K) (ps_set (i := 3) sc_with_slope.nd rfl (Or.inl rfl) (pe_fn F_point_at hr rfl (pa_cons (pv 0) (pa_cons (pv 1) pa_nil))))
   (pss_consC (K := K) (ps_ifC (K := K) (pt_cmpR op_isN (pv 2) pe_non (nomark _)) (pss_one (ps_ret (pe_fn F_replaced hr rfl (pa_cons (pv 0) (pa_cons (pv 3) (pa_cons (pe_slice (slTA K) (pv 3) po_none (po_some pe_int)) pa_nil)))))) pss_nil (by rfl) (by rfl))
   (pss_one (ps_ret (pe_fn F_replaced hr rfl (pa_cons (pv 0) (pa_cons (pv 3) (pa_cons (pe_op (catTA K) (pe_slice (slTA K) (pv 3) po_none (po_some pe_int)) (pe_tup (pa_cons (pv 2) pa_nil))) pa_nil)))))) (by rfl)) (by rfl)), ?_⟩
 obtain ⟨r, x, s, xs, pss, m, ps, qs, rfl, hS, hp, hnd, h23, hm, hx, hs, h10, q⟩ := h
 have P1 : 1 ≤ sizeLine := by decide
 have hps := h23 ps (List.mem_of_getElem? hm)
 obtain ⟨v, hv, a, us, pp, rfl, hus, hun, hu0, hpp⟩ := (Paired.get' hp hm)
 have hul := hun.length
 have hl2 : (us.take 2).length = 2 := by rw [List.length_take]; lia
 have hl2' : (ps.take 2).length = 2 := by rw [List.length_take]; lia
 refine ⟨_, rfl, _, rfl, r, _, _, xs, pss, m, ps, rfl, hS, hp, hnd, hm, hv, hx, ?_⟩
 refine ⟨_, rfl, rfl, _, rfl, ?_⟩
 rcases hs with ⟨rfl, rfl⟩ | ⟨c, hc, rfl⟩
 · refine iteTc (by rw [decide_eq_true rfl] <;> rfl) ?_
   refine ⟨_, rfl, _, rfl, _, rfl, 2, rfl, slice_to (v := 2) hus (by lia) fun w H2 s2 hw => ?_⟩
   have hnew : PtT K H2 (.ref w) (ps.take 2) := pt_cut 1 hw (hun.same s2) hu0 (s2 _ _ hpp)
   refine ⟨r, _, _, xs, pss, m, ps, _, rfl, hS.same s2, PtsT.same hp s2, hnd, h23, hm, hv, hnew, by rw [List.getD_eq_getElem?_getD, List.getElem?_take, if_pos (by lia), ← List.getD_eq_getElem?_getD], by lia, h10, fun p H4 s4 hp4 => ?_⟩
   have s14 := s2.trans s4
   exact q p H4 _ s14 hp4 (paired_set m (PtsT.same hp s14) (hnew.same s4))
 · obtain ⟨sa, rfl, hsa⟩ := hc
   refine iteFc (by rw [decide_eq_false (fun z => nomatch z)] <;> rfl) ?_
   refine ⟨_, rfl, _, rfl, _, rfl, 2, rfl, slice_to (v := 2) hus (by lia) fun w H2 s2 hw => ⟨_, rfl, P1, fun t ht => ?_⟩⟩
   have s3 := s2.trans (Same.new (o := .tup [.ref sa]) ht)
   refine cat_pts (hw.same (Same.new ht)) (SqT.of upd_same) (Nat.le_trans (show _ ≤ 300 by rw [hl2]; show 2 + 1 ≤ 300; decide) (by decide)) (fun n H3 s4 hn => ?_)
   have s13 := s3.trans s4
   have hnew : PtT K H3 (.ref n) (ps.take 2 ++ [c]) := by
     refine ⟨n, _, pp, rfl, hn, Paired.snoc (Paired.take 2 (hun.same s13)) ((show NumV K H (.ref sa) c from ⟨sa, rfl, hsa⟩).same s13), ?_, ?_⟩
     · rw [List.getElem?_append_left (by lia), List.getElem?_take, if_pos (by lia)]; exact hu0
     · rw [List.getD_eq_getElem?_getD, List.getElem?_append_left (by lia), List.getElem?_take, if_pos (by lia), ← List.getD_eq_getElem?_getD]; exact s13 _ _ hpp
   refine ⟨r, _, _, xs, pss, m, ps, _, rfl, hS.same s13, PtsT.same hp s13, hnd, h23, hm, hv, hnew, by rw [List.getD_eq_getElem?_getD, List.getElem?_append_left (by lia), List.getElem?_take, if_pos (by lia), ← List.getD_eq_getElem?_getD], by rw [List.length_append, hl2']; exact .inr rfl, h10, fun p H4 s5 hp4 => ?_⟩
   have s14 := s13.trans s5
   exact q p H4 _ s14 hp4 (paired_set m (PtsT.same hp s14) (hnew.same s5))
theorem sc__law_change : FnScope ["_law_pen_here", "_law_points_here", "_law_some", "_law_way", "_law_at_here", "_law_place", "_law_new", "_law_more", "_law_gone", "_law_number_here", "_law_due", "_law_own"] ["_law_pen_here", "_law_points_here", "_law_some"] (defScope (top 69)) := ⟨rfl, rfl, rfl, by decide +kernel, rfl, by decide +kernel, by decide +kernel⟩
set_option maxHeartbeats 4000000 in
theorem ok__law_change {f : Addr} {fd : FuncData} (F : Fun K "_law_change" "_law_change" (top 69) f fd) (F__law_draw : Fd P w K mg base 33 "_law_draw" ["_law_pen_here", "_law_many"] (spDraw)) (F__law_number : Fd P w K mg base 34 "_law_number" ["_law_pen_here"] (spNum 8)) (F_gain : Fd P w K mg base 38 "gain" ["points", "x", "k", "number"] (spGain K)) (F__law_fresh : Fd P w K mg base 35 "_law_fresh" ["_law_pen_here", "_law_points_here"] (spFresh K)) (F_loss : Fd P w K mg base 40 "loss" ["points", "x"] (spLoss K)) (F__law_minus : Fd P w K mg base 34 "_law_minus" ["_law_a", "_law_b"] (spBin K (· - ·))) (F__law_at : Fd P w K mg base 35 "_law_at" ["_law_curve", "_law_x"] (spAt2 K)) (F_with_height : Fd P w K mg base 38 "with_height" ["points", "x", "y"] (spWithH K)) (F__law_stepped : Fd P w K mg base 40 "_law_stepped" ["_law_points_here", "_law_new", "_law_x"] (spStepped K)) (F_put_in : Fd P w K mg base 37 "put_in" ["points", "point"] (spPutIn K)) (F_taken_out : Fd P w K mg base 34 "taken_out" ["points", "x"] (spTaken K)) (F_with_slope : Fd P w K mg base 38 "with_slope" ["points", "x", "slope"] (spWithS K)) (F__law_told : Fd P w K mg base 33 "_law_told" ["_law_points_here"] (spToldS K)) (b_len : mg "len" = none) (hT : P.given.tree = none) :
   FnOk P w K mg base CX0 41 f fd ["_law_pen_here", "_law_points_here", "_law_some"] (spChange K) := by
 refine F.ok sc__law_change (fun vs H Q E h => ?_) (fun cdv A outer s H vs Q E hr h => ?_)
 · obtain ⟨_, _, _, _, _, _, _, rfl, _⟩ := h; rfl
 refine ⟨_, (pss_consC (K := K) (ps_set (i := 3) sc__law_change.nd rfl (Or.inl rfl) (pe_fn F__law_draw hr rfl (pa_cons (pv 0) (pa_cons pe_int pa_nil))))
   (pss_consC (K := K) (ps_set (i := 4) sc__law_change.nd rfl (Or.inl rfl) (pe_fn F__law_draw hr rfl (pa_cons (pv 0) (pa_cons (pe_callB (lenK K) rfl b_len bt_len (pa_cons (pv 1) pa_nil)) pa_nil))))
   (pss_consC (K := K) (ps_set (i := 5) sc__law_change.nd rfl (Or.inl rfl) (pe_ix (ixT K) (pe_ix (ixT K) (pv 1) (pv 4) (fun u v => rfl)) pe_int (fun u v => rfl)))
   (pss_consC (K := K) (ps_ifC (K := K) (PW.pt (pw_and (pt_cmpR op_eq (pv 3) pe_int (nomark _)) (pw_and1 (pt_cmpR op_lt (pe_callB (lenK K) rfl b_len bt_len (pa_cons (pe_fn F__law_told hr rfl (pa_cons (pv 1) pa_nil)) pa_nil)) pe_int (nomark _))))) (pss_consC (K := K) (ps_set (i := 6) sc__law_change.nd rfl (Or.inr rfl) (pe_fn F__law_fresh hr rfl (pa_cons (pv 0) (pa_cons (pv 1) pa_nil))))
   (pss_consC (K := K) (ps_lc (i := 7) rfl sc__law_change.nd rfl rfl (N := ["_law_x", "_law_points_here", "_law_new"]) (nt := 1) (js := [1, 6]) (CompOk.look (NX := ["_law_pen_here", "_law_points_here", "_law_some", "_law_way", "_law_at_here", "_law_place", "_law_new", "_law_more", "_law_gone", "_law_number_here", "_law_due", "_law_own"]) (sc := defScope (top 69)) rfl rfl (by decide +kernel)) (piL K (pv 2)) (fun u1 u2 u3 u4 u5 => (pg_name (i := 0) (show List.Nodup (["_law_x", "_law_points_here", "_law_new"] : List Str) from by decide +kernel) rfl (Or.inl rfl))) (stays_name (by decide)) (fun u1 u2 u3 u4 u5 => pts_nil) (fun u1 u2 u3 u4 u5 => (pe_fn F__law_stepped hr rfl (pa_cons (pv 1) (pa_cons (pv 2) (pa_cons (pv 0) pa_nil))))) rfl)
   (pss_one (ps_ret (pe_tup (pa_cons (pe_fn F_put_in hr rfl (pa_cons (pv 1) (pa_cons (pv 6) pa_nil))) (pa_cons (pe_op (catTA K) (pv 1) (pe_tup (pa_cons (pv 6) pa_nil))) (pa_cons (pv 7) pa_nil)))))) (by rfl)) (by rfl)) pss_nil (by rfl) (by rfl))
   (pss_consC (K := K) (ps_ifC (K := K) (PW.pt (pw_and (pt_cmpR op_eq (pv 3) pe_int (nomark _)) (pw_and1 (pt_cmpR op_gt (pe_callB (lenK K) rfl b_len bt_len (pa_cons (pv 1) pa_nil)) pe_int (nomark _))))) (pss_consC (K := K) (ps_set (i := 8) sc__law_change.nd rfl (Or.inr rfl) (pe_fn F_loss hr rfl (pa_cons (pv 1) (pa_cons (pv 5) pa_nil))))
   (pss_consC (K := K) (ps_lc (i := 7) rfl sc__law_change.nd rfl rfl (N := ["_law_x", "_law_gone"]) (nt := 1) (js := [8]) (CompOk.look (NX := ["_law_pen_here", "_law_points_here", "_law_some", "_law_way", "_law_at_here", "_law_place", "_law_new", "_law_more", "_law_gone", "_law_number_here", "_law_due", "_law_own"]) (sc := defScope (top 69)) rfl rfl (by decide +kernel)) (piL K (pv 2)) (fun u1 u2 u3 u4 u5 => (pg_name (i := 0) (show List.Nodup (["_law_x", "_law_gone"] : List Str) from by decide +kernel) rfl (Or.inl rfl))) (stays_name (by decide)) (fun u1 u2 u3 u4 u5 => pts_nil) (fun u1 u2 u3 u4 u5 => (pe_fn F__law_minus hr rfl (pa_cons (pe_tup (pa_cons pe_int (pa_cons pe_int pa_nil))) (pa_cons (pe_fn F__law_at hr rfl (pa_cons (pv 1) (pa_cons (pv 0) pa_nil))) pa_nil)))) rfl)
   (pss_one (ps_ret (pe_tup (pa_cons (pe_fn F_taken_out hr rfl (pa_cons (pv 1) (pa_cons (pv 5) pa_nil))) (pa_cons (pe_op (catTA K) (pe_slice (slTA K) (pv 1) po_none (po_some (pv 4))) (pe_slice (slTA K) (pv 1) (po_some (pe_op op_add (pv 4) pe_int)) po_none)) (pa_cons (pv 7) pa_nil)))))) (by rfl)) (by rfl)) pss_nil (by rfl) (by rfl))
   (pss_consC (K := K) (ps_set (i := 9) sc__law_change.nd rfl (Or.inl rfl) (pe_fn F__law_number hr rfl (pa_cons (pv 0) pa_nil)))
   (pss_consC (K := K) (ps_ifC (K := K) (PW.pt (pw_and (pt_cmpR op_eq (pv 3) pe_int (nomark _)) (pw_and1 (pt_cmpR op_eq (pe_callB (lenK K) rfl b_len bt_len (pa_cons (pe_ix (ixT K) (pv 1) (pv 4) (fun u v => rfl)) pa_nil)) pe_int (nomark _))))) (pss_consC (K := K) (ps_set (i := 6) sc__law_change.nd rfl (Or.inr rfl) (pe_op (catTA K) (pe_slice (slTA K) (pe_ix (ixT K) (pv 1) (pv 4) (fun u v => rfl)) po_none (po_some pe_int)) (pe_tup (pa_cons (pv 9) pa_nil))))
   (pss_consC (K := K) (ps_set (i := 10) sc__law_change.nd rfl (Or.inl rfl) (pe_op (catTA K) (pe_op (catTA K) (pe_slice (slTA K) (pv 1) po_none (po_some (pv 4))) (pe_tup (pa_cons (pv 6) pa_nil))) (pe_slice (slTA K) (pv 1) (po_some (pe_op op_add (pv 4) pe_int)) po_none)))
   (pss_consC (K := K) (ps_set (i := 11) sc__law_change.nd rfl (Or.inr rfl) (pe_fn F_gain hr rfl (pa_cons (pv 1) (pa_cons (pv 5) (pa_cons pe_int (pa_cons (pe_fn F__law_minus hr rfl (pa_cons (pv 9) (pa_cons (pe_ix (ixT K) (pe_ix (ixT K) (pv 1) (pv 4) (fun u v => rfl)) pe_int (fun u v => rfl)) pa_nil))) pa_nil))))))
   (pss_consC (K := K) (ps_lc (i := 7) rfl sc__law_change.nd rfl rfl (N := ["_law_x", "_law_own"]) (nt := 1) (js := [11]) (CompOk.look (NX := ["_law_pen_here", "_law_points_here", "_law_some", "_law_way", "_law_at_here", "_law_place", "_law_new", "_law_more", "_law_gone", "_law_number_here", "_law_due", "_law_own"]) (sc := defScope (top 69)) rfl rfl (by decide +kernel)) (piL K (pv 2)) (fun u1 u2 u3 u4 u5 => (pg_name (i := 0) (show List.Nodup (["_law_x", "_law_own"] : List Str) from by decide +kernel) rfl (Or.inl rfl))) (stays_name (by decide)) (fun u1 u2 u3 u4 u5 => pts_nil) (fun u1 u2 u3 u4 u5 => (pe_fn F__law_at hr rfl (pa_cons (pv 1) (pa_cons (pv 0) pa_nil)))) rfl)
   (pss_one (ps_ret (pe_tup (pa_cons (pe_fn F_with_slope hr rfl (pa_cons (pv 1) (pa_cons (pv 5) (pa_cons (pv 9) pa_nil)))) (pa_cons (pv 10) (pa_cons (pv 7) pa_nil)))))) (by rfl)) (by rfl)) (by rfl)) (by rfl)) pss_nil (by rfl) (by rfl))
   (pss_consC (K := K) (ps_set (i := 6) sc__law_change.nd rfl (Or.inr rfl) (pe_op (catTA K) (pe_tup (pa_cons (pv 5) (pa_cons (pv 9) pa_nil))) (pe_slice (slTA K) (pe_ix (ixT K) (pv 1) (pv 4) (fun u v => rfl)) (po_some pe_int) po_none)))
   (pss_consC (K := K) (ps_set (i := 10) sc__law_change.nd rfl (Or.inl rfl) (pe_op (catTA K) (pe_op (catTA K) (pe_slice (slTA K) (pv 1) po_none (po_some (pv 4))) (pe_tup (pa_cons (pv 6) pa_nil))) (pe_slice (slTA K) (pv 1) (po_some (pe_op op_add (pv 4) pe_int)) po_none)))
   (pss_consC (K := K) (ps_set (i := 11) sc__law_change.nd rfl (Or.inr rfl) (pe_fn F_gain hr rfl (pa_cons (pv 1) (pa_cons (pv 5) (pa_cons pe_int (pa_cons (pe_fn F__law_minus hr rfl (pa_cons (pv 9) (pa_cons (pe_ix (ixT K) (pe_ix (ixT K) (pv 1) (pv 4) (fun u v => rfl)) pe_int (fun u v => rfl)) pa_nil))) pa_nil))))))
   (pss_consC (K := K) (ps_lc (i := 7) rfl sc__law_change.nd rfl rfl (N := ["_law_x", "_law_own"]) (nt := 1) (js := [11]) (CompOk.look (NX := ["_law_pen_here", "_law_points_here", "_law_some", "_law_way", "_law_at_here", "_law_place", "_law_new", "_law_more", "_law_gone", "_law_number_here", "_law_due", "_law_own"]) (sc := defScope (top 69)) rfl rfl (by decide +kernel)) (piL K (pv 2)) (fun u1 u2 u3 u4 u5 => (pg_name (i := 0) (show List.Nodup (["_law_x", "_law_own"] : List Str) from by decide +kernel) rfl (Or.inl rfl))) (stays_name (by decide)) (fun u1 u2 u3 u4 u5 => pts_nil) (fun u1 u2 u3 u4 u5 => (pe_fn F__law_at hr rfl (pa_cons (pv 1) (pa_cons (pv 0) pa_nil)))) rfl)
   (pss_one (ps_ret (pe_tup (pa_cons (pe_fn F_with_height hr rfl (pa_cons (pv 1) (pa_cons (pv 5) (pa_cons (pv 9) pa_nil)))) (pa_cons (pv 10) (pa_cons (pv 7) pa_nil)))))) (by rfl)) (by rfl)) (by rfl)) (by rfl)) (by rfl)) (by rfl)) (by rfl)) (by rfl)) (by rfl)) (by rfl)) (by rfl)), ?_⟩
 obtain ⟨p, r, s, xs, zs, pss, qs, rfl, pn, hS, hp, h23, h1, h6, hnd, hb, es, hz, hq1, hq10, hbq, q⟩ := h
 have P0 : 0 ≤ sizeLine := by decide
 have P1 : 1 ≤ sizeLine := by decide
 have P2 : 2 ≤ sizeLine := by decide
 have P3 : 3 ≤ sizeLine := by decide
 have hge := tell_ge h23
 have hxl := hp.length
 have hzl := hz.length
 have hsp : s ≠ p := pn.ne es (fun c0 c1 c2 z => by
   obtain ⟨u, hu⟩ : ∃ u, zs[0]? = some u := ⟨_, List.getElem?_eq_getElem (by lia)⟩
   obtain ⟨_, _, _, rfl, _⟩ := (Paired.get hz hu)
   injection z with z
   rw [z] at hu
   exact nomatch hu)
 refine ⟨_, rfl, p, 4, rfl, pn, by decide, by decide, fun way H1 w0 w1 o1 p1 => ?_⟩
 have hS1 := hS.mv pn o1.mv
 refine ⟨_, rfl, _, rfl, r, xs, rfl, .inr hS1, p, (xs.length : Int), rfl, p1, by lia, by lia, fun d H2 d0 d1 o2 p2 => ?_⟩
 obtain ⟨m, rfl⟩ : ∃ m : Nat, d = (m : Int) := ⟨d.toNat, by lia⟩
 have m2 := o1.mv.trans o2.mv
 have hS2 := hS.mv pn m2
 have hp2 := PtsT.mv hp pn m2
 have hz2 := NumsT.mv hz pn m2
 have es2 := m2 _ _ hsp es
 have hm : m < xs.length := by lia
 clear hS1 hS hp hz es o1 o2 p1 d0 d1
 have hpm : pss[m]? = some (pss[m]'(by lia)) := List.getElem?_eq_getElem _
 generalize pss[m]'(by lia) = ps at hpm
 have hpsm := List.mem_of_getElem? hpm
 have hps := h23 ps hpsm
 have hbk : ∀ q ∈ pss, RB 16 (q.getD 0 0) := fun q hq => hb q hq _ (getD_mem (by have := h23 q hq; lia))
 obtain ⟨v, hv, av, us, pp, rfl, hus, hun, hu0, hpp⟩ := (Paired.get' hp2 hpm)
 refine ⟨_, rfl, _, rfl, r, xs, _, _, rfl, rfl, hS2, atI_nat hv, av, us, _, _, rfl, rfl, hus, atI_nat (j := 0) hu0, ?_⟩
 refine if_andG (b := decide (V.int way = V.int 0)) (d := decide ((tell pss).length < 5)) (fun Q hQ => ⟨_, rfl, rfl, _, rfl, hQ⟩) (fun _ Q hQ => ?_) (fun c0 c1 H3 s3 => ?_) (fun c0 H3 s3 => ?_)
 · refine ⟨_, rfl, false, r, xs, pss, rfl, (show SqT K H2 r xs from hS2), hp2.pts, h23, by lia, fun tl H3 ty s3 htl etl htls => ?_⟩
   have e : decide (((ty.length : Nat) : Int) < 5) = decide ((tell pss).length < 5) := by
     have := htls.length
     exact decide_eq_decide.mpr (by lia)
   refine ⟨tl, ty, rfl, .inl (SqL.of etl), _, _, rfl, rfl, _, rfl, ?_⟩
   rw [e]
   exact hQ _ s3
 · have c1 := of_decide_eq_true c1
   have p3 := p2.sm s3
   have hS3 := hS2.same s3
   have hp3 := PtsT.same hp2 s3
   refine ⟨_, rfl, _, rfl, p, r, xs, pss, rfl, p3, hS3, hp3, by lia, fun nw H4 ns m4 p4 hnw hnl hnb hnin => ?_⟩
   have hS4 := hS3.mv p3 m4
   have hp4 := PtsT.mv hp3 p3 m4
   have hz4 := NumsT.mv (NumsT.same hz2 s3) p3 m4
   have es4 := m4 _ _ hsp (s3 _ _ es2)
   have mA : Mv p H H4 := (m2.trans s3.mv).trans m4
   clear hS3 hp3 hS2 hp2 hz2 es2 m4 m2 hus hun hpp
   have h23n : P23 (pss ++ [ns]) := fun q hq => by
     rcases List.mem_append.mp hq with z | z
     · exact h23 q z
     · rw [List.mem_singleton.mp z]; exact hnl
   have hndn : ((pss ++ [ns]).map fun ps => ps.getD 0 0).Nodup := by
     rw [List.map_append]
     exact List.nodup_append.mpr ⟨hnd, by simp, fun a ha b hb e => hnin (by
       have e2 : a = ns.getD 0 0 := e.trans (List.mem_singleton.mp hb)
       rw [← e2]; exact ha)⟩
   have hbn : ∀ q ∈ pss ++ [ns], ∀ c ∈ q, RB 16 c := fun q hq => by
     rcases List.mem_append.mp hq with z | z
     · exact hb q z
     · rw [List.mem_singleton.mp z]; exact hnb
   have htn : (tell (pss ++ [ns])).length ≤ 6 := by
     rw [tell_app, List.length_append]
     show _ + (tellP ns ++ tell []).length ≤ 6
     rw [List.length_append, tellP_length]
     show _ + (_ + 0) ≤ 6
     lia
   refine lc_of ⟨_, rfl, s, rfl, ⟨_, SqL.of es4⟩, ?_⟩
   refine lc_lst (xs := zs) (L5 H4 K qs pss ns fun H4 K qs pss ns i ys H' => Same H4 H' ∧ Nums K H' ys ((qs.take i).map fun x => nwP (pss ++ [ns]) x - nwP pss x) ∧ ∀ x ∈ qs.take i, RB 4000000 (nwP (pss ++ [ns]) x - nwP pss x)) ⟨Same.refl _, .nil, fun x hx => nomatch hx⟩ (fun i ys H' hi h => ⟨SqL.of (h.1 _ _ es4), by rw [h.2.1.length, List.length_map, List.length_take]; lia⟩) (Nat.le_of_lt (small1000 (by lia))) ?_ ?_
   · rintro i u ys H' hu ⟨sm, hys, hby⟩
     obtain ⟨x, hx, rx, rfl, hrx⟩ := (Paired.get hz4 hu)
     refine ⟨_, rfl, _, rfl, _, rfl, r, nw, rx, xs, pss, ns, x, rfl, hS4.same sm, PtsT.same hp4 sm, hnw.same sm, h23n, hndn, by lia, hbn, NumV.of (sm _ _ hrx), hbq x (List.mem_of_getElem? hx), fun v H5 s5 hv5 b5 => ⟨sm.trans s5, ?_, ?_⟩⟩
     · rw [List.take_add_one, hx, List.map_append]
       exact Paired.snoc (Nums.same hys s5) hv5
     · rw [List.take_add_one, hx]
       intro y hy
       rcases List.mem_append.mp hy with z | z
       · exact hby y z
       · rw [List.mem_singleton.mp z]; exact b5.mono (by decide)
   rintro ys H5 ⟨s5, hys, hby⟩ l hl
   rw [hzl, List.take_length] at hys hby
   have s6 : Same H5 (upd H5 l (.lst ys)) := Same.new hl
   have el : (upd H5 l (.lst ys)) l = some (.lst ys) := upd_same
   have hys6 := Nums.same hys s6
   generalize upd H5 l (.lst ys) = H6 at s6 el hys6 ⊢
   have s46 := s5.trans s6
   clear s5 s6 hys hl
   refine ⟨_, rfl, _, rfl, r, _, xs, pss, ns, rfl, hS4.same s46, PtsT.same hp4 s46, hnw.same s46, h23n, hndn, by lia, fun fo H7 s7 hfo => ?_⟩
   have s47 := s46.trans s7
   refine ⟨_, rfl, _, rfl, P1, fun t1 ht1 => ?_⟩
   have s8 := Same.new (o := .tup [.ref nw]) ht1
   refine cat_pts (hS4.same (s47.trans s8)) (SqT.of upd_same) (Nat.le_trans (show _ ≤ 300 by show _ + 1 ≤ 300; lia) (by decide)) (fun du H9 s9 hdu => ?_)
   refine ⟨_, rfl, P3, fun o ho => ?_⟩
   have sO := Same.new (o := .tup [.ref fo, .ref du, .ref l]) ho
   have s79 := (s8.trans s9).trans sO
   have sF := s47.trans s79
   have hpF : PtsT K (upd H9 o (.tup [.ref fo, .ref du, .ref l])) (xs ++ [.ref nw]) (pss ++ [ns]) := Paired.snoc (PtsT.same hp4 sF) (hnw.same sF)
   exact q o fo du l _ _ _ ys (pss ++ [ns]) (mA.trans sF.mv) (p4.sm sF) (SqT.of upd_same) (hfo.same s79) hpF (hdu.same sO) hpF h23n (by rw [List.length_append]; lia) htn hndn hbn (SqL.of ((s7.trans s79) _ _ el)) (Nums.same hys6 (s7.trans s79)) hby
 have p3 := p2.sm s3
 have hS3 := hS2.same s3
 have hp3 := PtsT.same hp2 s3
 have hz3 := NumsT.same hz2 s3
 have es3 := s3 _ _ es2
 have hus3 := hus.same s3
 have hpp3 := s3 _ _ hpp
 have hun3 := Nums.same hun s3
 have mA : Mv p H H3 := m2.trans s3.mv
 clear hS2 hp2 hz2 es2 hus hpp hun s3 m2 p2 c0
 refine if_andN (b := decide (V.int way = V.int 1)) (d := decide (1 < pss.length)) (fun Q hQ => ⟨_, rfl, rfl, _, rfl, hQ⟩) (fun _ Q hQ => ?_) (fun _ c1 H4 s4 => ?_) (fun c0 H4 s4 => ?_)
 · have e : decide ((1 : Int) < ((xs.length : Nat) : Int)) = decide (1 < pss.length) := decide_eq_decide.mpr (by lia)
   refine ⟨_, rfl, r, xs, rfl, .inr hS3, _, _, rfl, rfl, _, rfl, ?_⟩
   rw [e]
   exact hQ _ (Same.refl _)
 · have c1 := of_decide_eq_true c1
   have p4 := p3.sm s4
   have hS4 := hS3.same s4
   have hp4 := PtsT.same hp3 s4
   have hz4 := NumsT.same hz3 s4
   have es4 := s4 _ _ es3
   have hpp4 := s4 _ _ hpp3
   have mB : Mv p H H4 := mA.trans s4.mv
   clear hS3 hp3 hz3 es3 hus3 hpp3 hun3 s4 mA p3
   have hprm := leftOf_perm hpm
   have h23L := p23_perm hprm h23
   have hndL := nd_perm hprm hnd
   have htL := tell_perm hprm
   have hlL := hprm.length_eq
   rw [List.length_append, List.length_singleton] at hlL
   have hbL : ∀ q ∈ leftOf pss m ++ [ps], ∀ c ∈ q, RB 16 c := fun q hq => hb q (hprm.mem_iff.mp hq)
   have hbkL : ∀ q ∈ leftOf pss m ++ [ps], RB 16 (q.getD 0 0) := fun q hq => hbk q (hprm.mem_iff.mp hq)
   have h23l : P23 (leftOf pss m) := fun q hq => h23L q (List.mem_append_left _ hq)
   have hndl : ((leftOf pss m).map fun ps => ps.getD 0 0).Nodup := by
     rw [List.map_append] at hndL
     exact (List.nodup_append.mp hndL).1
   have htl : (tell (leftOf pss m)).length ≤ 6 := by
     rw [tell_app, List.length_append] at htL
     lia
   have hsM : ∀ q ∈ stepsOf (leftOf pss m ++ [ps]), RB 3166 q := steps_rbN (N := 6) h23L hbL hbkL (by decide) (by lia)
   refine ⟨_, rfl, _, rfl, r, _, xs, pss, m, ps, 16, 16, 3166, rfl, hS4, hp4, h23, hnd, hpm, NumV.of hpp4, by lia, by lia, hb, hbk, by decide, by decide, hsM, by decide, by decide, by decide, fun fo H5 cs s5 hfo hfl hg hfb hev => ?_⟩
   obtain ⟨cxs, hcS, hcn⟩ := hfo
   have ef : ∀ x, 0 - Cv.ev cs x = nwP (leftOf pss m) x - nwP pss x := fun x => by
     have e := perm_nw hprm h23 hnd x
     have e2 : Cv.ev cs x = nwP (leftOf pss m ++ [ps]) x - nwP (leftOf pss m) x := hev x
     rw [e2, e]; grind
   have es5 := s5 _ _ es4
   have hz5 := NumsT.same hz4 s5
   have cond : (82616 + 16 * cs.length + 4) * (cs.length + 2) ≤ 90000000 := Nat.le_trans (Nat.mul_le_mul (show _ ≤ 82716 by lia) (show cs.length + 2 ≤ 8 by lia)) (by decide)
   have cond2 : (82616 + 16 * cs.length + 4) * (cs.length + 1) ≤ 579012 := Nat.le_trans (Nat.mul_le_mul (show _ ≤ 82716 by lia) (show cs.length + 1 ≤ 7 by lia)) (by decide)
   refine lc_of ⟨_, rfl, s, rfl, ⟨_, SqL.of es5⟩, ?_⟩
   refine lc_lst (xs := zs) (L5 H5 K qs pss m fun H5 K qs pss m i ys H' => Same H5 H' ∧ Nums K H' ys ((qs.take i).map fun x => nwP (leftOf pss m) x - nwP pss x) ∧ ∀ x ∈ qs.take i, RB 4000000 (nwP (leftOf pss m) x - nwP pss x)) ⟨Same.refl _, .nil, fun x hx => nomatch hx⟩ (fun i ys H' hi h => ⟨SqL.of (h.1 _ _ es5), by rw [h.2.1.length, List.length_map, List.length_take]; lia⟩) (Nat.le_of_lt (small1000 (by lia))) ?_ ?_
   · rintro i u ys H' hu ⟨sm, hys, hby⟩
     obtain ⟨x, hx, rx, rfl, hrx⟩ := (Paired.get hz5 hu)
     refine ⟨P2, fun t1 ht1 => ?_⟩
     have st1 := Same.new (o := .tup [.int 0, .int 1]) ht1
     have sm1 := sm.trans st1
     refine ⟨_, rfl, _, rfl, false, fo, rx, cxs, cs, x, 82616, 16, rfl, hcS.same sm1, Nums.same hcn sm1, NumV.of (sm1 _ _ hrx), hfb, hbq x (List.mem_of_getElem? hx), cond, fun w H6 s6 ew bw => ?_⟩
     have bw := bw.mono cond2
     refine ⟨_, _, 0, Cv.ev cs x, 1, 579012, rfl, NumV.of (s6 _ _ (upd_same (o := nT 0))), NumV.of ew, RB.zero (by decide), bw, by lia, fun t2 ht2 => ?_⟩
     have s7 := (st1.trans s6).trans (Same.new (o := nT (0 - Cv.ev cs x)) ht2)
     refine ⟨sm.trans s7, ?_, ?_⟩
     · rw [List.take_add_one, hx, List.map_append]
       refine Paired.snoc (Nums.same hys s7) ?_
       show NumV K _ _ (nwP (leftOf pss m) x - nwP pss x)
       rw [← ef]; exact NumV.of upd_same
     · rw [List.take_add_one, hx]
       intro y hy
       rcases List.mem_append.mp hy with z | z
       · exact hby y z
       · rw [List.mem_singleton.mp z, ← ef]
         exact (RB.minus (RB.zero (n := 1) (by decide)) bw).mono (by decide)
   rintro ys H6 ⟨s6, hys, hby⟩ l hl
   rw [hzl, List.take_length] at hys hby
   have s7 : Same H6 (upd H6 l (.lst ys)) := Same.new hl
   have el : (upd H6 l (.lst ys)) l = some (.lst ys) := upd_same
   have hys7 := Nums.same hys s7
   generalize upd H6 l (.lst ys) = H7 at s7 el hys7 ⊢
   have s47 := (s5.trans s6).trans s7
   clear s5 s6 s7 hys hl hcS hcn hfb hev ef cond cond2 es5 hz5
   refine ⟨_, rfl, _, rfl, r, _, xs, pss, m, ps, rfl, hS4.same s47, PtsT.same hp4 s47, hnd, hpm, NumV.of (s47 _ _ hpp4), by lia, by lia, fun f2 H8 s8 hf2 => ?_⟩
   have s48 := s47.trans s8
   refine ⟨_, rfl, _, rfl, _, rfl, slice_to (hS4.same s48) (by lia) fun w2 H9 s9 hw2 => ?_⟩
   have e1 : ((m : Int) + 1) = ((m + 1 : Nat) : Int) := by lia
   have s49 := s48.trans s9
   refine ⟨_, rfl, _, rfl, _, _, rfl, rfl, ((m + 1 : Nat) : Int), by show V.int ((m : Int) + 1) = _; rw [e1], slice_from (hS4.same s49) (by lia) fun w3 HA sA hw3 => ?_⟩
   refine cat_pts (hw2.same sA) hw3 (Nat.le_trans (show _ ≤ 300 by rw [List.length_take, List.length_drop]; lia) (by decide)) (fun du HB sB hdu => ?_)
   refine ⟨_, rfl, P3, fun o ho => ?_⟩
   have sO := Same.new (o := .tup [.ref f2, .ref du, .ref l]) ho
   have s8O := ((s9.trans sA).trans sB).trans sO
   have sF := s48.trans s8O
   have hpF : PtsT K (upd HB o (.tup [.ref f2, .ref du, .ref l])) (xs.take m ++ xs.drop (m + 1)) (leftOf pss m) := Paired.append (Paired.take m (PtsT.same hp4 sF)) (paired_drop (m + 1) (PtsT.same hp4 sF))
   exact q o f2 du l _ _ _ ys (leftOf pss m) (mB.trans sF.mv) (p4.sm sF) (SqT.of upd_same) (hf2.same s8O) hpF (hdu.same sO) hpF h23l (by lia) htl hndl (fun q hq => hbL q (List.mem_append_left _ hq)) (SqL.of ((s8.trans s8O) _ _ el)) (Nums.same hys7 (s8.trans s8O)) hby
 have p4 := p3.sm s4
 refine ⟨_, rfl, p, rfl, p4, fun c rn H5 m5 p5 hrn bn bd => ?_⟩
 have mB : Mv p H H5 := (mA.trans s4.mv).trans m5
 have hS5 := (hS3.same s4).mv p4 m5
 have hp5 := PtsT.mv (PtsT.same hp3 s4) p4 m5
 have hz5 := NumsT.mv (NumsT.same hz3 s4) p4 m5
 have es5 := m5 _ _ hsp (s4 _ _ es3)
 have hus5 := (hus3.same s4).mv p4 m5
 have hpp5 := m5 _ _ (p4.ne (s4 _ _ hpp3) (nT_ne _)) (s4 _ _ hpp3)
 have hun5 := Nums.mv (Nums.same hun3 s4) p4 m5
 have hcb : RB 16 c := RB.mono (n := 16) ⟨bn, bd⟩ (by decide)
 clear hS3 hp3 hz3 es3 hus3 hpp3 hun3 mA s4 m5 p3 p4 c0 bn bd
 have hul := hun5.length
 have hkb : ∀ c ∈ knots pss, RB 33 c := fun c hc => by
   obtain ⟨ps, hps, rfl⟩ := (List.mem_map.mp (knots_mem hc))
   exact (hbk ps hps).mono (by decide)
 have hn0 := tell_of hpsm (k := 0) (by lia)
 refine if_andG (b := decide (V.int way = V.int 2)) (d := decide (ps.length = 3)) (fun Q hQ => ⟨_, rfl, rfl, _, rfl, hQ⟩) (fun _ Q hQ => ?_) (fun _ c1 H6 s6 => ?_) (fun _ H6 s6 => ?_)
 · have e : decide (V.int ((us.length : Nat) : Int) = V.int 3) = decide (ps.length = 3) := decide_eq_decide.mpr ⟨fun z => by have := V.int.inj z; lia, fun z => by congr 1; lia⟩
   refine ⟨_, rfl, _, rfl, r, xs, _, _, rfl, rfl, hS5, atI_nat hv, av, us, rfl, .inr hus5, rfl, _, rfl, ?_⟩
   rw [e]
   exact hQ _ (Same.refl _)
 · have c1 := of_decide_eq_true c1
   have p6 := p5.sm s6
   have hS6 := hS5.same s6
   have hp6 := PtsT.same hp5 s6
   have hz6 := NumsT.same hz5 s6
   have es6 := s6 _ _ es5
   have hus6 := hus5.same s6
   have hpp6 := s6 _ _ hpp5
   have hun6 := Nums.same hun5 s6
   have hrn6 := s6 _ _ hrn
   have mC : Mv p H H6 := mB.trans s6.mv
   clear hS5 hp5 hz5 es5 hus5 hpp5 hun5 hrn mB s6 p5
   refine ⟨_, rfl, _, rfl, r, xs, _, _, rfl, rfl, hS6, atI_nat hv, ((2 : Nat) : Int), rfl, slice_to (v := 2) hus6 (by lia) fun w1 H7 s7 hw1 => ?_⟩
   refine ⟨_, rfl, P1, fun t1 ht1 => ?_⟩
   have st1 := Same.new (o := .tup [.ref rn]) ht1
   refine cat_pts (hw1.same st1) (SqT.of upd_same) (Nat.le_trans (show _ ≤ 300 by rw [List.length_take]; show _ + 1 ≤ 300; lia) (by decide)) (fun nt H8 s8 hnt => ?_)
   have s68 := (s7.trans st1).trans s8
   have eqs : movP (ps.getD 0 0) 1 (c - ps.getD 2 0) ps = ps.take 2 ++ [c] := movP_s c1
   have hnp : PtT K H8 (.ref nt) (ps.take 2 ++ [c]) := ⟨nt, _, pp, rfl, hnt, Paired.snoc (Paired.take 2 (Nums.same hun6 s68)) (NumV.of (s68 _ _ hrn6)), by rw [List.getElem?_append_left (by rw [List.length_take]; lia), List.getElem?_take, if_pos (by lia)]; exact hu0, by rw [← eqs, movP_first]; exact s68 _ _ hpp6⟩
   have hqb : ∀ u ∈ ps.take 2 ++ [c], RB 16 u := fun u hu => by
     rcases List.mem_append.mp hu with z | z
     · exact hb ps hpsm u (List.mem_of_mem_take z)
     · rw [List.mem_singleton.mp z]; exact hcb
   refine ⟨_, rfl, _, rfl, _, rfl, slice_to (hS6.same s68) (by lia) fun w2 H9 s9 hw2 => ?_⟩
   refine ⟨_, rfl, P1, fun t2 ht2 => ?_⟩
   have st2 := Same.new (o := .tup [.ref nt]) ht2
   refine cat_pts (hw2.same st2) (SqT.of upd_same) (Nat.le_trans (show _ ≤ 300 by rw [List.length_take]; show _ + 1 ≤ 300; lia) (by decide)) (fun w3 HA sA hw3 => ?_)
   have s6A := ((s68.trans s9).trans st2).trans sA
   have e1 : ((m : Int) + 1) = ((m + 1 : Nat) : Int) := by lia
   refine ⟨_, rfl, _, rfl, _, _, rfl, rfl, ((m + 1 : Nat) : Int), by show V.int ((m : Int) + 1) = _; rw [e1], slice_from (hS6.same s6A) (by lia) fun w4 HB sB hw4 => ?_⟩
   refine cat_pts (hw3.same sB) hw4 (Nat.le_trans (show _ ≤ 300 by rw [List.length_append, List.length_take, List.length_drop]; show _ + 1 + _ ≤ 300; lia) (by decide)) (fun du HC sC hdu => ?_)
   have s6C := (s6A.trans sB).trans sC
   have s8C := (((s9.trans st2).trans sA).trans sB).trans sC
   have eset : pss.set m (ps.take 2 ++ [c]) = pss.map (movP (ps.getD 0 0) 1 (c - ps.getD 2 0)) := by rw [← eqs, set_movP hnd hpm]
   have hpd : PtsT K HC (xs.take m ++ [.ref nt] ++ xs.drop (m + 1)) (pss.map (movP (ps.getD 0 0) 1 (c - ps.getD 2 0))) := by
     rw [← eset, List.set_eq_take_append_cons_drop, if_pos (show m < pss.length by lia), show pss.take m ++ (ps.take 2 ++ [c]) :: pss.drop (m + 1) = pss.take m ++ [ps.take 2 ++ [c]] ++ pss.drop (m + 1) by rw [List.append_assoc]; rfl]
     exact Paired.append (Paired.append (Paired.take m (PtsT.same hp6 s6C)) (.cons (hnp.same s8C) .nil)) (paired_drop (m + 1) (PtsT.same hp6 s6C))
   clear hnp hnt hw1 hw2 hw3 hw4 s7 s8 s9 sA sB sC st1 st2 s68 s6A s8C
   have hunC := Nums.same hun6 s6C
   obtain ⟨x2, hx2, hxn⟩ := (Paired.get' hunC (getD_some (l := ps) (i := 2) (by lia)))
   refine ⟨_, rfl, _, rfl, _, rfl, _, rfl, _, rfl, r, xs, _, _, rfl, rfl, hS6.same s6C, atI_nat hv, av, us, _, _, rfl, rfl, hus6.same s6C, atI_nat (j := 2) hx2, _, _, c, ps.getD 2 0, 16, 16, rfl, NumV.of (s6C _ _ hrn6), hxn, hcb, hb ps hpsm _ (getD_mem (by lia)), by decide, fun yr hyr => ?_⟩
   have sy := s6C.trans (Same.new (o := nT (c - ps.getD 2 0)) hyr)
   refine ⟨r, pp, yr, xs, pss, ⟨ps.getD 0 0, ((1 : Nat) : Int), ps.getD (1 + 1) 0⟩, c - ps.getD 2 0, 33, rfl, hS6.same sy, PtsT.same hp6 sy, h23, by lia, by lia, hnd, tell_of hpsm (by lia), NumV.of (sy _ _ hpp6), hkb, by decide, by decide, NumV.of upd_same, hcb.minus (hb ps hpsm _ (getD_mem (by lia))), fun ow HE cs sE how hol hog hob hoev => ?_⟩
   have s6E := sy.trans sE
   have sCE := (Same.new (o := nT (c - ps.getD 2 0)) hyr).trans sE
   have ef : ∀ x, nwP (pss.map (movP (ps.getD 0 0) 1 (c - ps.getD 2 0))) x - nwP pss x = Cv.ev cs x := mov_nw h23 hnd hpsm (by decide) (by lia) hol hoev
   obtain ⟨cxs, hcS, hcn⟩ := how
   have esE := s6E _ _ es6
   have hzE := NumsT.same hz6 s6E
   have cond : (40040 + 16 * cs.length + 4) * (cs.length + 2) ≤ 90000000 := Nat.le_trans (Nat.mul_le_mul (show _ ≤ 40140 by lia) (show cs.length + 2 ≤ 8 by lia)) (by decide)
   have cond2 : (40040 + 16 * cs.length + 4) * (cs.length + 1) ≤ 280980 := Nat.le_trans (Nat.mul_le_mul (show _ ≤ 40140 by lia) (show cs.length + 1 ≤ 7 by lia)) (by decide)
   refine lc_of ⟨_, rfl, s, rfl, ⟨_, SqL.of esE⟩, ?_⟩
   refine lc_lst (xs := zs) (L6 HE K qs pss ps c fun HE K qs pss ps c i ys H' => Same HE H' ∧ Nums K H' ys ((qs.take i).map fun x => nwP (pss.map (movP (ps.getD 0 0) 1 (c - ps.getD 2 0))) x - nwP pss x) ∧ ∀ x ∈ qs.take i, RB 4000000 (nwP (pss.map (movP (ps.getD 0 0) 1 (c - ps.getD 2 0))) x - nwP pss x)) ⟨Same.refl _, .nil, fun x hx => nomatch hx⟩ (fun i ys H' hi h => ⟨SqL.of (h.1 _ _ esE), by rw [h.2.1.length, List.length_map, List.length_take]; lia⟩) (Nat.le_of_lt (small1000 (by lia))) ?_ ?_
   · rintro i u ys H' hu ⟨sm, hys, hby⟩
     obtain ⟨x, hx, rx, rfl, hrx⟩ := (Paired.get hzE hu)
     refine ⟨_, rfl, _, rfl, false, ow, rx, cxs, cs, x, 40040, 16, rfl, hcS.same sm, Nums.same hcn sm, NumV.of (sm _ _ hrx), hob, hbq x (List.mem_of_getElem? hx), cond, fun w HF sF ew bw => ?_⟩
     have bw := bw.mono cond2
     refine ⟨sm.trans sF, ?_, ?_⟩
     · rw [List.take_add_one, hx, List.map_append]
       refine Paired.snoc (Nums.same hys sF) ?_
       show NumV K _ _ (nwP (pss.map (movP (ps.getD 0 0) 1 (c - ps.getD 2 0))) x - nwP pss x)
       rw [ef]; exact NumV.of ew
     · rw [List.take_add_one, hx]
       intro y hy
       rcases List.mem_append.mp hy with z | z
       · exact hby y z
       · rw [List.mem_singleton.mp z, ef]
         exact bw.mono (by decide)
   rintro ys HF ⟨sF, hys, hby⟩ l hl
   rw [hzl, List.take_length] at hys hby
   have sG : Same HF (upd HF l (.lst ys)) := Same.new hl
   have el : (upd HF l (.lst ys)) l = some (.lst ys) := upd_same
   have hysG := Nums.same hys sG
   generalize upd HF l (.lst ys) = HG at sG el hysG ⊢
   have s6G := (s6E.trans sF).trans sG
   have sCG := (sCE.trans sF).trans sG
   clear hcS hcn hob hoev ef cond cond2 esE hzE hys hl sF sG sE sy
   refine ⟨_, rfl, _, rfl, _, rfl, r, _, _, xs, pss, m, ps, ps.take 2 ++ [c], rfl, hS6.same s6G, PtsT.same hp6 s6G, hnd, h23, hpm, NumV.of (s6G _ _ hpp6), .inr ⟨c, NumV.of (s6G _ _ hrn6), rfl⟩, by lia, fun f2 HI xs1 sI hf2 hpf2 => ?_⟩
   rw [eset] at hpf2
   refine ⟨_, rfl, _, rfl, P3, fun o ho => ?_⟩
   have sO := Same.new (o := .tup [.ref f2, .ref du, .ref l]) ho
   have sIO := sI.trans sO
   have s6F := s6G.trans sIO
   have hPb : ∀ q ∈ pss.map (movP (ps.getD 0 0) 1 (c - ps.getD 2 0)), ∀ c ∈ q, RB 16 c := fun u hu => by
     rw [← eset] at hu
     rcases List.mem_or_eq_of_mem_set hu with z | z
     · exact hb u z
     · rw [z]; exact hqb
   exact q o f2 du l _ xs1 _ ys (pss.map (movP (ps.getD 0 0) 1 (c - ps.getD 2 0))) (mC.trans s6F.mv) (p6.sm s6F) (SqT.of upd_same) (hf2.same sO) (PtsT.same hpf2 sO) (hdu.same (sCG.trans sIO)) (PtsT.same hpd (sCG.trans sIO)) (mov_23 h23 _ _ _) (by rw [List.length_map]; exact h1) (by rw [mov_map_len]; exact h6) (by rw [mov_first]; exact hnd) hPb (SqL.of (sIO _ _ el)) (Nums.same hysG sIO) hby
 have p6 := p5.sm s6
 have hS6 := hS5.same s6
 have hp6 := PtsT.same hp5 s6
 have hz6 := NumsT.same hz5 s6
 have es6 := s6 _ _ es5
 have hus6 := hus5.same s6
 have hpp6 := s6 _ _ hpp5
 have hun6 := Nums.same hun5 s6
 have hrn6 := s6 _ _ hrn
 have mC : Mv p H H6 := mB.trans s6.mv
 clear hS5 hp5 hz5 es5 hus5 hpp5 hun5 hrn mB s6 p5
 refine ⟨_, rfl, _, rfl, P2, fun t1 ht1 => ?_⟩
 have st1 := Same.new (o := .tup [.ref pp, .ref rn]) ht1
 refine ⟨_, rfl, _, rfl, r, xs, _, _, rfl, rfl, hS6.same st1, atI_nat hv, ((2 : Nat) : Int), rfl, slice_from (v := 2) (hus6.same st1) (by lia) fun w1 H7 s7 hw1 => ?_⟩
 refine cat_pts (SqT.of (s7 _ _ upd_same)) hw1 (Nat.le_trans (show _ ≤ 300 by rw [List.length_drop]; show 2 + _ ≤ 300; lia) (by decide)) (fun nt H8 s8 hnt => ?_)
 have s68 := (st1.trans s7).trans s8
 have eqs : movP (ps.getD 0 0) 0 (c - ps.getD 1 0) ps = [ps.getD 0 0, c] ++ ps.drop 2 := movP_h hps
 have hnp : PtT K H8 (.ref nt) ([ps.getD 0 0, c] ++ ps.drop 2) := ⟨nt, _, pp, rfl, hnt, Paired.append (.cons (NumV.of (s68 _ _ hpp6)) (.cons (NumV.of (s68 _ _ hrn6)) .nil)) (paired_drop 2 (Nums.same hun6 s68)), rfl, s68 _ _ hpp6⟩
 have hqb : ∀ u ∈ [ps.getD 0 0, c] ++ ps.drop 2, RB 16 u := fun u hu => by
   rcases List.mem_append.mp hu with z | z
   · rcases List.mem_cons.mp z with z | z
     · rw [z]; exact hbk ps hpsm
     · rw [List.mem_singleton.mp z]; exact hcb
   · exact hb ps hpsm u (List.mem_of_mem_drop z)
 refine ⟨_, rfl, _, rfl, _, rfl, slice_to (hS6.same s68) (by lia) fun w2 H9 s9 hw2 => ?_⟩
 refine ⟨_, rfl, P1, fun t2 ht2 => ?_⟩
 have st2 := Same.new (o := .tup [.ref nt]) ht2
 refine cat_pts (hw2.same st2) (SqT.of upd_same) (Nat.le_trans (show _ ≤ 300 by rw [List.length_take]; show _ + 1 ≤ 300; lia) (by decide)) (fun w3 HA sA hw3 => ?_)
 have s6A := ((s68.trans s9).trans st2).trans sA
 have e1 : ((m : Int) + 1) = ((m + 1 : Nat) : Int) := by lia
 refine ⟨_, rfl, _, rfl, _, _, rfl, rfl, ((m + 1 : Nat) : Int), by show V.int ((m : Int) + 1) = _; rw [e1], slice_from (hS6.same s6A) (by lia) fun w4 HB sB hw4 => ?_⟩
 refine cat_pts (hw3.same sB) hw4 (Nat.le_trans (show _ ≤ 300 by rw [List.length_append, List.length_take, List.length_drop]; show _ + 1 + _ ≤ 300; lia) (by decide)) (fun du HC sC hdu => ?_)
 have s6C := (s6A.trans sB).trans sC
 have s8C := (((s9.trans st2).trans sA).trans sB).trans sC
 have eset : pss.set m ([ps.getD 0 0, c] ++ ps.drop 2) = pss.map (movP (ps.getD 0 0) 0 (c - ps.getD 1 0)) := by rw [← eqs, set_movP hnd hpm]
 have hpd : PtsT K HC (xs.take m ++ [.ref nt] ++ xs.drop (m + 1)) (pss.map (movP (ps.getD 0 0) 0 (c - ps.getD 1 0))) := by
   rw [← eset, List.set_eq_take_append_cons_drop, if_pos (show m < pss.length by lia), show pss.take m ++ ([ps.getD 0 0, c] ++ ps.drop 2) :: pss.drop (m + 1) = pss.take m ++ [[ps.getD 0 0, c] ++ ps.drop 2] ++ pss.drop (m + 1) by rw [List.append_assoc]; rfl]
   exact Paired.append (Paired.append (Paired.take m (PtsT.same hp6 s6C)) (.cons (hnp.same s8C) .nil)) (paired_drop (m + 1) (PtsT.same hp6 s6C))
 clear hnp hnt hw1 hw2 hw3 hw4 s7 s8 s9 sA sB sC st1 st2 s68 s6A s8C
 have hunC := Nums.same hun6 s6C
 obtain ⟨x2, hx2, hxn⟩ := (Paired.get' hunC (getD_some (l := ps) (i := 1) (by lia)))
 refine ⟨_, rfl, _, rfl, _, rfl, _, rfl, _, rfl, r, xs, _, _, rfl, rfl, hS6.same s6C, atI_nat hv, av, us, _, _, rfl, rfl, hus6.same s6C, atI_nat (j := 1) hx2, _, _, c, ps.getD 1 0, 16, 16, rfl, NumV.of (s6C _ _ hrn6), hxn, hcb, hb ps hpsm _ (getD_mem (by lia)), by decide, fun yr hyr => ?_⟩
 have sy := s6C.trans (Same.new (o := nT (c - ps.getD 1 0)) hyr)
 refine ⟨r, pp, yr, xs, pss, ⟨ps.getD 0 0, ((0 : Nat) : Int), ps.getD (0 + 1) 0⟩, c - ps.getD 1 0, 33, rfl, hS6.same sy, PtsT.same hp6 sy, h23, by lia, by lia, hnd, tell_of hpsm (by lia), NumV.of (sy _ _ hpp6), hkb, by decide, by decide, NumV.of upd_same, hcb.minus (hb ps hpsm _ (getD_mem (by lia))), fun ow HE cs sE how hol hog hob hoev => ?_⟩
 have s6E := sy.trans sE
 have sCE := (Same.new (o := nT (c - ps.getD 1 0)) hyr).trans sE
 have ef : ∀ x, nwP (pss.map (movP (ps.getD 0 0) 0 (c - ps.getD 1 0))) x - nwP pss x = Cv.ev cs x := mov_nw h23 hnd hpsm (by decide) (by lia) hol hoev
 obtain ⟨cxs, hcS, hcn⟩ := how
 have esE := s6E _ _ es6
 have hzE := NumsT.same hz6 s6E
 have cond : (40040 + 16 * cs.length + 4) * (cs.length + 2) ≤ 90000000 := Nat.le_trans (Nat.mul_le_mul (show _ ≤ 40140 by lia) (show cs.length + 2 ≤ 8 by lia)) (by decide)
 have cond2 : (40040 + 16 * cs.length + 4) * (cs.length + 1) ≤ 280980 := Nat.le_trans (Nat.mul_le_mul (show _ ≤ 40140 by lia) (show cs.length + 1 ≤ 7 by lia)) (by decide)
 refine lc_of ⟨_, rfl, s, rfl, ⟨_, SqL.of esE⟩, ?_⟩
 refine lc_lst (xs := zs) (L6 HE K qs pss ps c fun HE K qs pss ps c i ys H' => Same HE H' ∧ Nums K H' ys ((qs.take i).map fun x => nwP (pss.map (movP (ps.getD 0 0) 0 (c - ps.getD 1 0))) x - nwP pss x) ∧ ∀ x ∈ qs.take i, RB 4000000 (nwP (pss.map (movP (ps.getD 0 0) 0 (c - ps.getD 1 0))) x - nwP pss x)) ⟨Same.refl _, .nil, fun x hx => nomatch hx⟩ (fun i ys H' hi h => ⟨SqL.of (h.1 _ _ esE), by rw [h.2.1.length, List.length_map, List.length_take]; lia⟩) (Nat.le_of_lt (small1000 (by lia))) ?_ ?_
 · rintro i u ys H' hu ⟨sm, hys, hby⟩
   obtain ⟨x, hx, rx, rfl, hrx⟩ := (Paired.get hzE hu)
   refine ⟨_, rfl, _, rfl, false, ow, rx, cxs, cs, x, 40040, 16, rfl, hcS.same sm, Nums.same hcn sm, NumV.of (sm _ _ hrx), hob, hbq x (List.mem_of_getElem? hx), cond, fun w HF sF ew bw => ?_⟩
   have bw := bw.mono cond2
   refine ⟨sm.trans sF, ?_, ?_⟩
   · rw [List.take_add_one, hx, List.map_append]
     refine Paired.snoc (Nums.same hys sF) ?_
     show NumV K _ _ (nwP (pss.map (movP (ps.getD 0 0) 0 (c - ps.getD 1 0))) x - nwP pss x)
     rw [ef]; exact NumV.of ew
   · rw [List.take_add_one, hx]
     intro y hy
     rcases List.mem_append.mp hy with z | z
     · exact hby y z
     · rw [List.mem_singleton.mp z, ef]
       exact bw.mono (by decide)
 rintro ys HF ⟨sF, hys, hby⟩ l hl
 rw [hzl, List.take_length] at hys hby
 have sG : Same HF (upd HF l (.lst ys)) := Same.new hl
 have el : (upd HF l (.lst ys)) l = some (.lst ys) := upd_same
 have hysG := Nums.same hys sG
 generalize upd HF l (.lst ys) = HG at sG el hysG ⊢
 have s6G := (s6E.trans sF).trans sG
 have sCG := (sCE.trans sF).trans sG
 clear hcS hcn hob hoev ef cond cond2 esE hzE hys hl sF sG sE sy
 refine ⟨_, rfl, _, rfl, _, rfl, r, pp, _, xs, pss, m, ps, c, rfl, hS6.same s6G, PtsT.same hp6 s6G, hnd, h23, hpm, s6G _ _ hpp6, NumV.of (s6G _ _ hrn6), by lia, fun f2 HI xs1 sI hf2 hpf2 => ?_⟩
 rw [eset] at hpf2
 refine ⟨_, rfl, _, rfl, P3, fun o ho => ?_⟩
 have sO := Same.new (o := .tup [.ref f2, .ref du, .ref l]) ho
 have sIO := sI.trans sO
 have s6F := s6G.trans sIO
 have hPb : ∀ q ∈ pss.map (movP (ps.getD 0 0) 0 (c - ps.getD 1 0)), ∀ c ∈ q, RB 16 c := fun u hu => by
   rw [← eset] at hu
   rcases List.mem_or_eq_of_mem_set hu with z | z
   · exact hb u z
   · rw [z]; exact hqb
 exact q o f2 du l _ xs1 _ ys (pss.map (movP (ps.getD 0 0) 0 (c - ps.getD 1 0))) (mC.trans s6F.mv) (p6.sm s6F) (SqT.of upd_same) (hf2.same sO) (PtsT.same hpf2 sO) (hdu.same (sCG.trans sIO)) (PtsT.same hpd (sCG.trans sIO)) (mov_23 h23 _ _ _) (by rw [List.length_map]; exact h1) (by rw [mov_map_len]; exact h6) (by rw [mov_first]; exact hnd) hPb (SqL.of (sIO _ _ el)) (Nums.same hysG sIO) hby
theorem sc__law_slope_at : FnScope ["_law_curve", "_law_x"] ["_law_curve", "_law_x"] (defScope (top 62)) := ⟨rfl, rfl, rfl, by decide +kernel, rfl, by decide +kernel, by decide +kernel⟩
set_option maxHeartbeats 4000000 in
theorem ok__law_slope_at {f : Addr} {fd : FuncData} (F : Fun K "_law_slope_at" "_law_slope_at" (top 62) f fd) (F__law_at : Fd P w K mg base 35 "_law_at" ["_law_curve", "_law_x"] (spAt2 K)) (F__law_times : Fd P w K mg base 34 "_law_times" ["_law_a", "_law_b"] (spBin K (· * ·))) (b_range : mg "range" = none) (b_len : mg "len" = none) (hT : P.given.tree = none) :
   FnOk P w K mg base CX0 36 f fd ["_law_curve", "_law_x"] (spSlopeAt3 K) := by
 refine F.ok sc__law_slope_at (fun vs H Q E h => ?_) (fun cdv A outer s H vs Q E hr h => ?_)
 · obtain ⟨_, _, _, _, _, _, _, rfl, _⟩ := h; rfl
 refine ⟨_, (pss_one (ps_ret (pe_fn F__law_at hr rfl (pa_cons (pe_lc rfl (N := ["_law_k", "_law_curve"]) (nt := 1) (js := [0]) (CompOk.look (NX := ["_law_curve", "_law_x"]) (sc := defScope (top 62)) rfl rfl (by decide +kernel)) (pi_range2 rfl b_range (pa_cons pe_int (pa_cons (pe_callB (lenK K) rfl b_len bt_len (pa_cons (pv 0) pa_nil)) pa_nil))) (fun u1 u2 u3 u4 u5 => (pg_name (i := 0) (show List.Nodup (["_law_k", "_law_curve"] : List Str) from by decide +kernel) rfl (Or.inl rfl))) (stays_name (by decide)) (fun u1 u2 u3 u4 u5 => pts_nil) (fun u1 u2 u3 u4 u5 => (pe_fn F__law_times hr rfl (pa_cons (pe_tup (pa_cons (pv 0) (pa_cons pe_int pa_nil))) (pa_cons (pe_ix (ixSeq K) (pv 1) (pv 0) (fun u v => rfl)) pa_nil))))) (pa_cons (pv 1) pa_nil))))), ?_⟩
 obtain ⟨b, c, rx, cs, x, m, n, rfl, ⟨xs, hS, hn⟩, hx, hB, hbx, hl20, hm1, hz, q⟩ := h
 have hmz : (m + 11) * 2 ≤ 90000000 := Nat.le_trans (Nat.mul_le_mul (by lia) (by lia)) hz
 have hl := hn.length
 refine lc_of ⟨_, rfl, c, xs, rfl, Sq.any hS, 1, (xs.length : Int), rfl, ⟨by decide, by decide, by lia, by lia⟩, ?_⟩
 have en : ((xs.length : Int) - 1).toNat = cs.length - 1 := by lia
 rw [en]
 refine lc_itr (L3 H K cs fun H K cs i zs H' => Same H H' ∧ zs.length = i ∧ Nums K H' zs ((List.range i).map fun j => cs.getD (j + 1) 0 * ((j + 1 : Nat) : Rat))) ⟨Same.refl _, rfl, .nil⟩ (fun i zs H' _ p => p.2.1) (Nat.le_of_lt (small1000 (by lia))) ?_ ?_
 · rintro i zs H' hi ⟨sm, hzl, hnn⟩
   have hi1 : i + 1 < cs.length := by lia
   have hq : cs[i + 1]? = some (cs.getD (i + 1) 0) := getD_some hi1
   obtain ⟨y, hy, hyn⟩ := (Paired.get' hn hq)
   have hat : atI xs (1 + (i : Int)) = some y := by
     rw [show 1 + (i : Int) = ((i + 1 : Nat) : Int) by lia]
     exact atI_nat hy
   refine ⟨_, rfl, (by decide : 2 ≤ sizeLine), fun t ht => ?_⟩
   have ht1 : NumV K (upd H' t (.tup [.int (1 + (i : Int)), .int 1])) (.ref t) (((i + 1 : Nat)) : Rat) := NumV.of (by
     rw [upd_same]
     unfold nT
     rw [Rat.num_natCast, Rat.den_natCast, show 1 + (i : Int) = ((i + 1 : Nat) : Int) by lia]
     rfl)
   refine ⟨_, rfl, _, rfl, ix_of (Sq.same hS (sm.trans (Same.new ht))) hat ⟨_, _, _, _, 11, m, rfl, ht1, (hyn.same sm).same (Same.new ht), rb_nat11 (by lia), hB _ (List.mem_of_getElem? hq), by lia, fun p hp => ⟨(sm.trans (Same.new ht)).trans (Same.new hp), by simp [hzl], ?_⟩⟩⟩
   rw [List.range_succ, List.map_append]
   refine Paired.snoc (Nums.same (Nums.same hnn (Same.new ht)) (Same.new hp)) ?_
   show NumV K _ _ (cs.getD (i + 1) 0 * ((i + 1 : Nat) : Rat))
   rw [Rat.mul_comm]
   exact NumV.of upd_same
 rintro zs H' ⟨sm, hzl, hnn⟩ l hl'
 have s2 : Same H (upd H' l (.lst zs)) := sm.trans (Same.new hl')
 obtain ⟨rx', e, _⟩ := (id hx)
 cases e
 have hsl := slope_length cs
 have hsq : (m + 11 + n * (slopeL cs).length + 4) * ((slopeL cs).length + 2) ≤ (m + 11 + n * cs.length + 4) * (cs.length + 2) := Nat.mul_le_mul (by have := Nat.mul_le_mul_left n (show (slopeL cs).length ≤ cs.length by lia); lia) (by lia)
 have hsq1 : (m + 11 + n * (slopeL cs).length + 4) * ((slopeL cs).length + 1) ≤ (m + 11 + n * cs.length + 4) * (cs.length + 1) := Nat.mul_le_mul (by have := Nat.mul_le_mul_left n (show (slopeL cs).length ≤ cs.length by lia); lia) (by lia)
 refine ⟨_, rfl, true, l, rx, zs, slopeL cs, x, m + 11, n, rfl, SqL.of upd_same, Nums.same hnn (Same.new hl'), hx.same s2, slope_rb (by lia) hm1 hB, hbx, Nat.le_trans hsq hz, fun p Hp sp ep bp => ?_⟩
 exact q p Hp (s2.trans sp) ep (bp.mono hsq1)
theorem sc__law_missed : FnScope ["_law_points_here", "_law_curve", "_law_found", "_law_x", "_law_k", "_law_number_here", "_law_there"] ["_law_points_here", "_law_curve"] (defScope (top 66)) := ⟨rfl, rfl, rfl, by decide +kernel, rfl, by decide +kernel, by decide +kernel⟩
set_option maxHeartbeats 4000000 in
theorem ok__law_missed {f : Addr} {fd : FuncData} (F : Fun K "_law_missed" "_law_missed" (top 66) f fd) (F__law_told : Fd P w K mg base 33 "_law_told" ["_law_points_here"] (spToldS K)) (F__law_at : Fd P w K mg base 35 "_law_at" ["_law_curve", "_law_x"] (spAt2 K)) (F__law_slope_at : Fd P w K mg base 36 "_law_slope_at" ["_law_curve", "_law_x"] (spSlopeAt3 K)) (hT : P.given.tree = none) :
   FnOk P w K mg base CX0 37 f fd ["_law_points_here", "_law_curve"] (spMissed3 K) := by
 refine F.ok sc__law_missed (fun vs H Q E h => ?_) (fun cdv A outer s H vs Q E hr h => ?_)
 · obtain ⟨_, _, _, _, _, _, _, _, _, rfl, _⟩ := h; rfl
 refine ⟨_, (pss_consC (K := K) (ps_set (i := 2) sc__law_missed.nd rfl (Or.inl rfl) (pe_lst pa_nil))
   (pss_consC (K := K) (ps_forC (K := K) PassesOwn.never rfl (piL K (pe_fn F__law_told hr rfl (pa_cons (pv 0) pa_nil))) (pgT K (n := 3) rfl (pgs_cons (pg_name (i := 3) sc__law_missed.nd rfl (Or.inl rfl)) (pgs_cons (pg_name (i := 4) sc__law_missed.nd rfl (Or.inl rfl)) (pgs_cons (pg_name (i := 5) sc__law_missed.nd rfl (Or.inl rfl)) pgs_nil)))) (pss_consC (K := K) (ps_set (i := 6) sc__law_missed.nd rfl (Or.inl rfl) (pe_fn F__law_at hr rfl (pa_cons (pv 1) (pa_cons (pv 3) pa_nil))))
   (pss_consC (K := K) (ps_ifC (K := K) (pt_cmpR op_eq (pv 4) pe_int (nomark _)) (pss_one (ps_set (i := 6) sc__law_missed.nd rfl (Or.inl rfl) (pe_fn F__law_slope_at hr rfl (pa_cons (pv 1) (pa_cons (pv 3) pa_nil))))) pss_nil (by rfl) (by rfl))
   (pss_one (ps_ifC (K := K) (pt_cmpR (neD K hr.units) (pv 6) (pv 5) (nomark _)) (pss_one (ps_expr (pe_bmK K PySem.F.plainAttrs_list PySem.F.slot_list_append PySem.F.type_list_append mt_append (pv 2) (pa_cons (pe_tup (pa_cons (pv 3) (pa_cons (pv 4) pa_nil))) pa_nil)))) pss_nil (by rfl) (by rfl))) (by rfl)) (by rfl)) (by rfl))
   (pss_one (ps_ret (pv 2))) (by rfl)) (by rfl)), ?_⟩
 obtain ⟨d, b, r, c, xs, pss, cs, m, n, rfl, hS, hp, h23, h20, hc, hcl, hbp, hbc, hm1, hn1, hzz, q⟩ := h
 have P0 : 0 ≤ sizeLine := by decide
 have P2 : 2 ≤ sizeLine := by decide
 refine ⟨P0, fun f hf => ?_⟩
 have s1 : Same H (upd H f (.lst [])) := Same.new hf
 have ef0 : (upd H f (.lst [])) f = some (.lst []) := upd_same
 generalize upd H f (.lst []) = H1 at s1 ef0 ⊢
 refine ⟨_, rfl, d, r, xs, pss, rfl, Sq.same hS s1, Pts.same hp s1, h23, by lia, fun w Hw ws sw hw ew htw => ⟨w, rfl, ⟨_, SqL.of ew⟩, ?_⟩⟩
 have hwl := htw.length
 have htl := tell_length_le pss fun ps hp => by have := h23 ps hp; lia
 have wf : w ≠ f := (ne_of_none ef0 hw).symm
 have hnz : (m + n * cs.length + 4) * (cs.length + 2) ≤ 90000000 := Nat.le_trans (Nat.mul_le_mul_right _ (by lia)) hzz
 refine for_list (xs := ws) (L9 H w ws K pss r c f cs fun H w ws K pss r c f cs i σ H' => Same H H' ∧ H' w = some (.lst ws) ∧ Tls K H' ws (tell pss) ∧ ∃ zs z3 z4 z5 z6, σ = [some (.ref r), some (.ref c), some (.ref f), z3, z4, z5, z6] ∧ H' f = some (.lst zs) ∧ zs.length ≤ i ∧ Mss K H' zs (msd cs ((tell pss).take i)))
   ⟨s1.trans sw, ew, htw, [], none, none, none, none, rfl, sw _ _ ef0, Nat.le_refl _, .nil⟩ (fun i σ H' _ h => SqL.of h.2.1) ?_ ?_
 · rintro i v σ H' hv hR1
   obtain ⟨sm, ew', htw', zs, z3, z4, z5, z6, rfl, ef, hzl, hz⟩ := hR1
   try clear hR1
   obtain ⟨t, ht, a, rx, rn, rfl, ha, hxn, hnn⟩ := (Paired.get htw' hv)
   obtain ⟨rxa, rfl, _⟩ := (id hxn)
   have htm := List.mem_of_getElem? ht
   have hk01 := tell_k h23 t htm
   obtain ⟨hbx, hbn⟩ := (tell_rb hn1 hbp t htm)
   have hi : i < ws.length := (List.getElem?_eq_some_iff.mp hv).1
   have e1 : (tell pss).take (i + 1) = (tell pss).take i ++ [t] := by rw [List.take_add_one, ht]; rfl
   obtain ⟨xc, hxc, hxcn⟩ := (hc.same sm)
   refine ⟨a, _, rfl, ha, rfl, _, _, rfl, _, _, rfl, _, _, rfl, rfl, ?_⟩
   refine ⟨_, rfl, _, rfl, b, c, rxa, xc, cs, t.x, m, n, rfl, hxc, hxcn, hxn, hbc, hbx, hnz, fun p1 H2 s2 e2 b2 => ?_⟩
   try dsimp only
   refine seq_joinN (L9 H' r c f rxa t rn K cs fun H' r c f rxa t rn K cs σ' H3 => Same H' H3 ∧ ∃ p2, σ' = [some (.ref r), some (.ref c), some (.ref f), some (.ref rxa), some (.int t.k), some rn, some (.ref p2)] ∧ NumV K H3 (.ref p2) (hk cs t)) (fun nx hnx => ?_) ?_
   · refine ⟨_, rfl, rfl, _, rfl, ?_⟩
     rcases hk01 with z | z
     · refine iteFc (by rw [decide_eq_false (show ¬ V.int t.k = V.int 1 from fun zz => by have := V.int.inj zz; lia)] <;> rfl) (hnx _ _ ⟨s2, p1, rfl, NumV.of ?_⟩)
       have : hk cs t = Cv.ev cs t.x := by unfold hk; rw [if_neg (by lia)]
       rw [this]; exact e2
     · refine iteTc (by rw [decide_eq_true (show V.int t.k = V.int 1 by rw [z])] <;> rfl) ⟨_, rfl, _, rfl, b, c, rxa, cs, t.x, m, n, rfl, (hc.same sm).same s2, hxn.same s2, hbc, hbx, by lia, hm1, hzz, fun p2 H3 s3 e3 b3 => ?_⟩
       refine hnx _ _ ⟨s2.trans s3, p2, rfl, NumV.of ?_⟩
       have : hk cs t = Cv.ev (slopeL cs) t.x := by unfold hk; rw [if_pos z]
       rw [this]; exact e3
   rintro σ' H3 hR2
   refine anE2 hR2 fun s3 hz159 => ?_
   refine exE1 hz159 fun p2 hz159' => ?_
   clear hz159
   refine anE2 hz159' fun hq158 hp2 => ?_
   clear hz159'
   obtain rfl := hq158
   try clear hR2
   refine ⟨_, rfl, _, rfl, ?_⟩
   refine eqN hp2 (hnn.same s3) ?_
   refine ⟨_, rfl, ?_⟩
   by_cases he : hk cs t = t.n
   · refine iteFc (by rw [decide_eq_true he] <;> rfl) ⟨sm.trans s3, s3 _ _ ew', Tls.same htw' s3, zs, _, _, _, _, rfl, s3 _ _ ef, by lia, ?_⟩
     rw [e1, msd_snoc, if_pos he, List.append_nil]
     exact mss_same hz s3
   · rw [decide_eq_false he]
     have ef3 := s3 _ _ ef
     refine iteT ⟨_, rfl, .inl ⟨rfl, _, SqL.of ef3⟩, _, rfl, _, rfl, P2, fun u hu => ?_⟩
     have s4 : Same H3 (upd H3 u (.tup [.ref rxa, .int t.k])) := Same.new hu
     have eu : (upd H3 u (.tup [.ref rxa, .int t.k])) u = some (.tup [.ref rxa, .int t.k]) := upd_same
     generalize upd H3 u (.tup [.ref rxa, .int t.k]) = H4 at s4 eu ⊢
     have s34 := s3.trans s4
     have ef4 := s4 _ _ ef3
     refine ⟨f, zs, .ref u, rfl, rfl, ef4, Nat.lt_of_lt_of_le (show zs.length < 300 by lia) (by decide), ?_⟩
     refine ⟨(sm.trans s34).put hf, by rw [upd_ne wf]; exact s34 _ _ ew', Tls.put (Tls.same htw' s34) ef4, zs ++ [.ref u], _, _, _, _, rfl, upd_same, by rw [List.length_append, List.length_singleton]; lia, ?_⟩
     rw [e1, msd_snoc, if_neg he]
     exact Paired.snoc (mss_put (mss_same hz s34) ef4) (msv_put ⟨u, _, rfl, SqT.of eu, hxn.same s34⟩ ef4)
 · rintro σ H' hR3
   obtain ⟨sm, ew', htw', zs, z3, z4, z5, z6, rfl, ef, hzl, hz⟩ := hR3
   try clear hR3
   rw [hwl, List.take_length] at hz
   exact ⟨_, rfl, q f H' zs sm hf ef hz⟩
theorem sc_law : FnScope ["_law_script", "_law_pen_here", "_law_points_here", "_law_curve", "_law_k", "_law_some", "_law_found", "_law_due", "_law_more", "_law_own", "_law_x", "_law_number_here", "_law_turn", "_law_other", "_law_new"] ["_law_script"] (defScope (top 70)) := ⟨rfl, rfl, rfl, by decide +kernel, rfl, by decide +kernel, by decide +kernel⟩
set_option maxHeartbeats 4000000 in
theorem ok_law {f : Addr} {fd : FuncData} (F : Fun K "law" "law" (top 70) f fd) (F__law_pen : Fd P w K mg base 33 "_law_pen" ["_law_script", "_law_k"] (spPen K)) (F__law_points : Fd P w K mg base 36 "_law_points" ["_law_pen_here", "_law_most"] (spPointsT K 8)) (F_curve_through : Fd P w K mg base 39 "curve_through" ["points"] (spThru3 K)) (F__law_fresh : Fd P w K mg base 35 "_law_fresh" ["_law_pen_here", "_law_points_here"] (spFresh K)) (F__law_change : Fd P w K mg base 41 "_law_change" ["_law_pen_here", "_law_points_here", "_law_some"] (spChange K)) (F__law_draw : Fd P w K mg base 33 "_law_draw" ["_law_pen_here", "_law_many"] (spDraw)) (F_taken_out : Fd P w K mg base 34 "taken_out" ["points", "x"] (spTaken K)) (F__law_number : Fd P w K mg base 34 "_law_number" ["_law_pen_here"] (spNum 8)) (F_put_in : Fd P w K mg base 37 "put_in" ["points", "point"] (spPutIn K)) (F__law_missed : Fd P w K mg base 37 "_law_missed" ["_law_points_here", "_law_curve"] (spMissed3 K)) (F__law_told : Fd P w K mg base 33 "_law_told" ["_law_points_here"] (spToldS K)) (F__law_at : Fd P w K mg base 35 "_law_at" ["_law_curve", "_law_x"] (spAt2 K)) (F__law_plus : Fd P w K mg base 34 "_law_plus" ["_law_a", "_law_b"] (spBin K (· + ·))) (F_steps_of : Fd P w K mg base 38 "steps_of" ["points"] (spSteps K)) (b_range : mg "range" = none) (b_zip : mg "zip" = none) (b_len : mg "len" = none) (hT : P.given.tree = none) :
   FnOk P w K mg base CX0 42 f fd ["_law_script"] (spLaw K) := by
 refine F.ok sc_law (fun vs H Q E h => ?_) (fun cdv A outer s H vs Q E hr h => ?_)
 · obtain ⟨_, _, rfl, _⟩ := h; rfl
 refine ⟨_, (pss_consC (K := K) (ps_set (i := 1) sc_law.nd rfl (Or.inl rfl) (pe_fn F__law_pen hr rfl (pa_cons (pv 0) (pa_cons pe_int pa_nil))))
   (pss_consC (K := K) (ps_set (i := 2) sc_law.nd rfl (Or.inl rfl) (pe_fn F__law_points hr rfl (pa_cons (pv 1) (pa_cons pe_int pa_nil))))
   (pss_consC (K := K) (ps_set (i := 3) sc_law.nd rfl (Or.inl rfl) (pe_fn F_curve_through hr rfl (pa_cons (pv 2) pa_nil)))
   (pss_consC (K := K) (ps_forC (K := K) PassesOwn.never rfl (pi_range1 rfl b_range (pa_cons pe_int pa_nil)) (pg_name (i := 4) sc_law.nd rfl (Or.inl rfl)) (pss_consC (K := K) (ps_set (i := 5) sc_law.nd rfl (Or.inl rfl) (pe_lst (pa_cons (pe_tup (pa_cons (pv 4) (pa_cons pe_int pa_nil))) (pa_cons (pe_fn F__law_number hr rfl (pa_cons (pv 1) pa_nil)) (pa_cons (pe_tup (pa_cons (pe_un un_neg pe_int) (pa_cons pe_int pa_nil))) pa_nil)))))
   (pss_consC (K := K) (ps_asg (pe_fn F__law_change hr rfl (pa_cons (pv 1) (pa_cons (pv 2) (pa_cons (pv 5) pa_nil)))) (pgT K (n := 3) rfl (pgs_cons (pg_name (i := 6) sc_law.nd rfl (Or.inl rfl)) (pgs_cons (pg_name (i := 7) sc_law.nd rfl (Or.inl rfl)) (pgs_cons (pg_name (i := 8) sc_law.nd rfl (Or.inl rfl)) pgs_nil)))))
   (pss_consC (K := K) (ps_set (i := 9) sc_law.nd rfl (Or.inl rfl) (pe_fn F_curve_through hr rfl (pa_cons (pv 6) pa_nil)))
   (pss_consC (K := K) (ps_ifC (K := K) (PW.pt (pw_or (pt_cmpR (neD K hr.units) (pv 6) (pv 7) (nomark _)) (pw_or1 (pt_cmpR (neD K hr.units) (pe_fn F__law_missed hr rfl (pa_cons (pv 6) (pa_cons (pv 9) pa_nil))) (pe_lst pa_nil) (nomark _))))) (pss_one (ps_ret pe_bl)) pss_nil (by rfl) (by rfl))
   (pss_consC (K := K) (ps_ifC (K := K) (pt_cmpR op_gt (pe_callB (lenK K) rfl b_len bt_len (pa_cons (pv 9) pa_nil)) (pe_callB (lenK K) rfl b_len bt_len (pa_cons (pe_fn F__law_told hr rfl (pa_cons (pv 6) pa_nil)) pa_nil)) (nomark _)) (pss_one (ps_ret pe_bl)) pss_nil (by rfl) (by rfl))
   (pss_consC (K := K) (ps_forC (K := K) PassesOwn.never rfl (piZip K rfl b_zip (pa_cons (pv 5) (pa_cons (pv 8) pa_nil))) (pgT K (n := 2) rfl (pgs_cons (pg_name (i := 10) sc_law.nd rfl (Or.inl rfl)) (pgs_cons (pg_name (i := 11) sc_law.nd rfl (Or.inl rfl)) pgs_nil))) (pss_one (ps_ifC (K := K) (pt_cmpR (neD K hr.units) (pe_fn F__law_at hr rfl (pa_cons (pv 9) (pa_cons (pv 10) pa_nil))) (pe_fn F__law_plus hr rfl (pa_cons (pe_fn F__law_at hr rfl (pa_cons (pv 3) (pa_cons (pv 10) pa_nil))) (pa_cons (pv 11) pa_nil))) (nomark _)) (pss_one (ps_ret pe_bl)) pss_nil (by rfl) (by rfl))) (by rfl))
   (pss_consC (K := K) (ps_set (i := 12) sc_law.nd rfl (Or.inl rfl) (pe_fn F__law_draw hr rfl (pa_cons (pv 1) (pa_cons (pe_callB (lenK K) rfl b_len bt_len (pa_cons (pv 6) pa_nil)) pa_nil))))
   (pss_consC (K := K) (ps_set (i := 13) sc_law.nd rfl (Or.inl rfl) (pe_op (catTA K) (pe_revT K (pe_slice (slTA K) (pv 6) (po_some (pv 12)) po_none)) (pe_slice (slTA K) (pv 6) po_none (po_some (pv 12)))))
   (pss_consC (K := K) (ps_ifC (K := K) (pt_cmpR (neD K hr.units) (pe_fn F_curve_through hr rfl (pa_cons (pv 13) pa_nil)) (pv 9) (nomark _)) (pss_one (ps_ret pe_bl)) pss_nil (by rfl) (by rfl))
   (pss_consC (K := K) (ps_ifC (K := K) (pt_cmpR (neD K hr.units) (pe_ix (ixL K) (pe_fn F_steps_of hr rfl (pa_cons (pv 13) pa_nil)) (pe_un un_neg pe_int) (fun u v => rfl)) (pe_ix (ixL K) (pe_fn F_steps_of hr rfl (pa_cons (pv 6) pa_nil)) (pe_un un_neg pe_int) (fun u v => rfl)) (nomark _)) (pss_one (ps_ret pe_bl)) pss_nil (by rfl) (by rfl))
   (pss_consC (K := K) (ps_set (i := 2) sc_law.nd rfl (Or.inl rfl) (pv 6))
   (pss_one (ps_set (i := 3) sc_law.nd rfl (Or.inl rfl) (pv 9))) (by rfl)) (by rfl)) (by rfl)) (by rfl)) (by rfl)) (by rfl)) (by rfl)) (by rfl)) (by rfl)) (by rfl)) (by rfl)) (by rfl))
   (pss_consC (K := K) (ps_set (i := 14) sc_law.nd rfl (Or.inl rfl) (pe_fn F__law_fresh hr rfl (pa_cons (pv 1) (pa_cons (pv 2) pa_nil))))
   (pss_one (ps_ret (pe_cmpR (eqD K hr.units) (pe_fn F_taken_out hr rfl (pa_cons (pe_fn F_put_in hr rfl (pa_cons (pv 2) (pa_cons (pv 14) pa_nil))) (pa_cons (pe_ix (ixT K) (pv 14) pe_int (fun u v => rfl)) pa_nil))) (pv 2) (nomark _)))) (by rfl)) (by rfl)) (by rfl)) (by rfl)) (by rfl)), ?_⟩
 obtain ⟨a, ns, rfl, hS, h63, q⟩ := h
 have P0 : 0 ≤ sizeLine := by decide
 have P1 : 1 ≤ sizeLine := by decide
 have P2 : 2 ≤ sizeLine := by decide
 have P3 : 3 ≤ sizeLine := by decide
 refine ⟨_, rfl, a, ns, 0, rfl, hS, h63, by decide, by decide, fun p c0 c1 hp => ?_⟩
 have pn : Pen (upd H p (.lst [.int c0, .int c1, .int 0])) p := .put
 generalize upd H p (.lst [.int c0, .int c1, .int 0]) = H1 at pn ⊢
 clear hS hp
 refine ⟨_, rfl, p, 4, rfl, pn, by decide, by decide, fun r H2 xs pss m2 p2 hS hp h23 hb h1 _ ht4 hnd => ?_⟩
 have hbk : ∀ q ∈ pss, RB 16 (q.getD 0 0) := fun q hq => hb q hq _ (getD_mem (by have := h23 q hq; lia))
 have hge := tell_ge h23
 have hsM : ∀ q ∈ stepsOf pss, RB 3166 q := steps_rbN (N := 6) h23 hb hbk (by decide) (by lia)
 refine ⟨_, rfl, r, xs, pss, 16, 16, 3166, rfl, hS, hp, h23, by lia, hnd, by lia, hb, hbk, by decide, by decide, hsM, by decide, by decide, fun cv H3 cs s3 hcv hcl hg hcb hev => ?_⟩
 refine ⟨_, rfl, by decide, by decide, ?_⟩
 rw [show Int.toNat 5 = 5 from rfl]
 refine for_range (n := 5) (L4 p a K tell fun p a K tell k σ H' => Pen H' p ∧ ∃ (r cv : Addr) (xs : List V) (pss : List (List Rat)) (cs : List Rat) (z4 z5 z6 z7 z8 z9 z10 z11 z12 z13 z14 : Option V), σ = [some (.ref a), some (.ref p), some (.ref r), some (.ref cv), z4, z5, z6, z7, z8, z9, z10, z11, z12, z13, z14] ∧ SqT K H' r xs ∧ PtsT K H' xs pss ∧ P23 pss ∧ 1 ≤ pss.length ∧ (tell pss).length ≤ 6 ∧ (pss.map fun ps => ps.getD 0 0).Nodup ∧ (∀ ps ∈ pss, ∀ q ∈ ps, RB 16 q) ∧ Crv K H' cv cs ∧ cs.length ≤ 6 ∧ (∀ q ∈ cs, RB 82616 q) ∧ ∀ X, Cv.ev cs X = nwP pss X)
   ⟨p2.sm s3, r, cv, xs, pss, cs, none, none, none, none, none, none, none, none, none, none, none, rfl, hS.same s3, PtsT.same hp s3, h23, h1, by lia, hnd, hb, hcv, by lia, hcb, hev⟩ ?_ ?_
 · clear hS hp h23 hb h1 ht4 hnd hbk hge hsM s3 hcv hcl hg hcb hev p2 m2 pn
   rintro k σ H4 hk hR1
   obtain ⟨p4, r, cv, xs, pss, cs, z4, z5, z6, z7, z8, z9, z10, z11, z12, z13, z14, rfl, hS, hp, h23, h1, ht6, hnd, hb, hcv, hcl, hcb, hev⟩ := hR1
   try clear hR1
   rw [Int.zero_add]
   refine ⟨_, rfl, P2, fun t1 ht1 => ?_⟩
   have st1 := Same.new (o := .tup [.int (k : Int), .int 1]) ht1
   have n1 : NumT (upd H4 t1 (.tup [.int (k : Int), .int 1])) (.ref t1) (k : Rat) := ⟨t1, rfl, by rw [upd_same, nT_nat30]⟩
   refine ⟨_, rfl, p, rfl, p4.sm st1, fun c rn H5 m5 p5 hrn bn bd => ?_⟩
   have n15 := n1.mv (p4.sm st1) m5
   have nr5 : NumT H5 (.ref rn) c := ⟨rn, rfl, hrn⟩
   refine ⟨_, rfl, P2, fun t3 ht3 => ?_⟩
   refine ⟨P3, fun s hs => ?_⟩
   have s6 : Same H5 (upd H5 t3 (.tup [.int (-7), .int 2])) := Same.new ht3
   have n3 : NumT (upd H5 t3 (.tup [.int (-7), .int 2])) (.ref t3) ⟨-7, 2, by decide, by decide⟩ := ⟨t3, rfl, upd_same⟩
   have s7 : Same (upd H5 t3 (.tup [.int (-7), .int 2])) (upd (upd H5 t3 (.tup [.int (-7), .int 2])) s (.lst [.ref t1, .ref rn, .ref t3])) := Same.new hs
   have es : (upd (upd H5 t3 (.tup [.int (-7), .int 2])) s (.lst [.ref t1, .ref rn, .ref t3])) s = some (.lst [.ref t1, .ref rn, .ref t3]) := upd_same
   have s57 := s6.trans s7
   have hz : NumsT (upd (upd H5 t3 (.tup [.int (-7), .int 2])) s (.lst [.ref t1, .ref rn, .ref t3])) [.ref t1, .ref rn, .ref t3] [(k : Rat), c, ⟨-7, 2, by decide, by decide⟩] := .cons (n15.same s57) (.cons (nr5.same s57) (.cons (n3.same s7) .nil))
   have m47 : Mv p H4 (upd (upd H5 t3 (.tup [.int (-7), .int 2])) s (.lst [.ref t1, .ref rn, .ref t3])) := (st1.mv.trans m5).trans s57.mv
   have p7 := p5.sm s57
   show gName 5 _ _ _ _
   generalize upd (upd H5 t3 (.tup [.int (-7), .int 2])) s (.lst [.ref t1, .ref rn, .ref t3]) = H7 at es hz m47 p7 ⊢
   have hbq : ∀ q ∈ [(k : Rat), c, ⟨-7, 2, by decide, by decide⟩], RB 16 q := fun q hq => by
     rcases List.mem_cons.mp hq with z | hq
     · rw [z]; exact (rb_nat (j := k) (by lia)).mono (by lia)
     · rcases List.mem_cons.mp hq with z | hq
       · rw [z]; exact RB.mono (n := 16) ⟨bn, bd⟩ (by decide)
       · rw [List.mem_singleton.mp hq]; exact ⟨show (7 : Nat) < 2 ^ 16 by decide, show (2 : Nat) < 2 ^ 16 by decide⟩
   have hS7 := hS.mv p4 m47
   have hp7 := PtsT.mv hp p4 m47
   have hcv7 := hcv.mv p4 m47
   clear hS hp hcv m47 n1 n15 nr5 n3 s6 s7 s57 hs ht3 ht1 st1 m5 p5 p4 hrn bn bd
   refine ⟨_, rfl, _, rfl, _, rfl, p, r, s, xs, _, pss, _, rfl, p7, hS7, hp7, h23, h1, ht6, hnd, hb, es, hz, (show 1 ≤ 3 by decide), (show 3 ≤ 10 by decide), hbq, fun o fa fb l H8 xs1 xs2 ys pss' m8 p8 ho hfa hpa hfb hpb h23' h1' ht' hnd' hb' hl hys hyb => ?_⟩
   refine ⟨o, _, rfl, ho, rfl, _, _, rfl, _, _, rfl, _, _, rfl, rfl, ?_⟩
   have hge' := tell_ge h23'
   have hx1 := hpa.length
   have hbk' : ∀ q ∈ pss', RB 16 (q.getD 0 0) := fun q hq => hb' q hq _ (getD_mem (by have := h23' q hq; lia))
   have hsM' : ∀ q ∈ stepsOf pss', RB 3166 q := steps_rbN (N := 6) h23' hb' hbk' (by decide) (by lia)
   have hcv8 := hcv7.mv p7 m8
   have es8 := m8 _ _ (p7.ne es (fun c0 c1 c2 z => by injection z with z; exact nomatch z)) es
   have hz8 := NumsT.mv hz p7 m8
   clear hS7 hp7 hcv7 es hz m8 p7
   refine ⟨_, rfl, fa, xs1, pss', 16, 16, 3166, rfl, hfa, hpa, h23', by lia, hnd', by lia, hb', hbk', by decide, by decide, hsM', by decide, by decide, fun ow H9 ds s9 how hol hog hob hoev => ?_⟩
   have hob : ∀ q ∈ ds, RB 82616 q := hob
   have hon := thru_on h23' hnd' hoev
   have cond : (82616 + 11 + 16 * ds.length + 4) * (ds.length + 2) ≤ 90000000 := Nat.le_trans (Nat.mul_le_mul (show _ ≤ 82800 by lia) (show ds.length + 2 ≤ 8 by lia)) (by decide)
   refine ⟨_, rfl, _, rfl, ?_⟩
   refine eqTT (hfa.same s9) (PtsT.same hpa s9).pts (hfb.same s9) (PtsT.same hpb s9).pts ?_
   refine ⟨_, rfl, iteFc (by rw [decide_eq_true rfl] <;> rfl) ?_⟩
   refine ⟨_, rfl, _, rfl, false, false, fa, ow, xs1, pss', ds, 82616, 16, rfl, (show SqT K H9 fa xs1 from hfa.same s9), (PtsT.same hpa s9).pts, h23', by lia, how, by lia, hb', hob, by decide, by decide, cond, fun ms HA mys sA hms ems hmss => ⟨P0, fun e he => ?_⟩⟩
   rw [msd_on h23' hon] at hmss
   have se : Same HA (upd HA e (.lst [])) := Same.new he
   refine eqMs (SqL.of (se _ _ ems)) (mss_same hmss se) (SqL.of upd_same) .nil ?_
   refine ⟨_, rfl, iteF ?_⟩
   have s9B := sA.trans se
   generalize upd HA e (.lst []) = HB at s9B ⊢
   have s8B := s9.trans s9B
   have how' := how.same s9B
   clear hmss ems sA se he hms
   obtain ⟨dxs, hdS, hdn⟩ := how'
   have hdl := hdn.length
   refine ⟨_, rfl, ow, dxs, rfl, .inr hdS, _, rfl, false, fa, xs1, pss', rfl, (show SqT K HB fa xs1 from hfa.same s8B), (PtsT.same hpa s8B).pts, h23', by lia, fun tl HC ty sC htl etl htls => ⟨tl, ty, rfl, .inl (SqL.of etl), _, _, rfl, rfl, _, rfl, ?_⟩⟩
   have htll := htls.length
   refine iteFc (by rw [decide_eq_false (show ¬ ((ty.length : Nat) : Int) < ((dxs.length : Nat) : Int) by lia)] <;> rfl) ?_
   have s8C := s8B.trans sC
   have esC := s8C _ _ es8
   have hzC := NumsT.same hz8 s8C
   have hlC := Same.seq s8C hl
   have hysC := Nums.same hys s8C
   have hdSC := hdS.same sC
   have hdnC := Nums.same hdn sC
   obtain ⟨cxs, hcS, hcn⟩ := (hcv8.same s8C)
   have condD : (82616 + 16 * ds.length + 4) * (ds.length + 2) ≤ 90000000 := Nat.le_trans (Nat.mul_le_mul (show _ ≤ 82800 by lia) (show ds.length + 2 ≤ 8 by lia)) (by decide)
   have condC : (82616 + 16 * cs.length + 4) * (cs.length + 2) ≤ 90000000 := Nat.le_trans (Nat.mul_le_mul (show _ ≤ 82800 by lia) (show cs.length + 2 ≤ 8 by lia)) (by decide)
   have condE : (82616 + 16 * cs.length + 4) * (cs.length + 1) ≤ 600000 := Nat.le_trans (Nat.mul_le_mul (show _ ≤ 82720 by lia) (show cs.length + 1 ≤ 7 by lia)) (by decide)
   refine ⟨_, rfl, _, rfl, s, l, [.ref t1, .ref rn, .ref t3], ys, rfl, SqL.of esC, hlC, for_zip (xs := [.ref t1, .ref rn, .ref t3]) (ys := ys) (L14 HC a p r cv k s fa fb l ow z12 z13 z14 fun HC a p r cv k s fa fb l ow z12 z13 z14 i σ H' => Same HC H' ∧ ∃ z10 z11, σ = [some (.ref a), some (.ref p), some (.ref r), some (.ref cv), some (.int (k : Int)), some (.ref s), some (.ref fa), some (.ref fb), some (.ref l), some (.ref ow), z10, z11, z12, z13, z14]) ⟨Same.refl _, z10, z11, rfl⟩ (fun i σ H' _ h => ⟨SqL.of (h.1 _ _ esC), Same.seq h.1 hlC⟩) ?_ ?_⟩
   · rintro i u v T σ H' hu hv hT hR2
     refine anE2 hR2 fun sm hz165 => ?_
     refine exE2 hz165 fun z10 z11 hq164 => ?_
     clear hz165
     obtain rfl := hq164
     try clear hR2
     have sT := Same.new (o := .tup [u, v]) hT
     have eT : SqT K (upd H' T (.tup [u, v])) T [u, v] := SqT.of upd_same
     generalize upd H' T (.tup [u, v]) = HD at sT eT ⊢
     have smT := sm.trans sT
     obtain ⟨x, hx, rx, rfl, hrx⟩ := (Paired.get hzC hu)
     obtain ⟨y, hy, hyn⟩ := (Paired.get hysC hv)
     rw [List.getElem?_map, hx] at hy
     obtain rfl := Option.some.inj hy
     refine ⟨T, _, rfl, eT, rfl, _, _, rfl, _, _, rfl, rfl, ?_⟩
     refine ⟨_, rfl, _, rfl, false, ow, rx, dxs, ds, x, 82616, 16, rfl, hdSC.same smT, Nums.same hdnC smT, NumV.of (smT _ _ hrx), hob, hbq x (List.mem_of_getElem? hx), condD, fun w1 HE1 s1 e1 b1 => ?_⟩
     have smE := smT.trans s1
     refine ⟨_, rfl, _, rfl, false, cv, rx, cxs, cs, x, 82616, 16, rfl, hcS.same smE, Nums.same hcn smE, NumV.of (smE _ _ hrx), hcb, hbq x (List.mem_of_getElem? hx), condC, fun w2 HE2 s2 e2 b2 => ?_⟩
     refine ⟨_, rfl, _, _, Cv.ev cs x, nwP pss' x - nwP pss x, 600000, 4000000, rfl, NumV.of e2, hyn.same (smE.trans s2), b2.mono condE, hyb x (List.mem_of_getElem? hx), by decide, fun t4 ht4 => ?_⟩
     have s4 := Same.new (o := nT (Cv.ev cs x + (nwP pss' x - nwP pss x))) ht4
     refine eqN (NumV.of ((s2.trans s4) _ _ e1)) (NumV.of upd_same) ?_
     have e : Cv.ev ds x = Cv.ev cs x + (nwP pss' x - nwP pss x) := by
       have e5 : Cv.ev ds x = nwP pss' x := hoev x
       rw [hev, e5]; grind
     exact ⟨_, rfl, iteFc (by rw [decide_eq_true e] <;> rfl) ⟨(smE.trans s2).trans s4, _, _, rfl⟩⟩
   rintro σ HD hR3
   refine anE2 hR3 fun sD hz169 => ?_
   refine exE2 hz169 fun y10 y11 hq168 => ?_
   clear hz169
   obtain rfl := hq168
   try clear hR3
   have s8D := s8C.trans sD
   have pD := p8.sm s8D
   have s9D := (s9B.trans sC).trans sD
   clear hcS hcn hdSC hdnC hysC hlC hzC esC condC condD condE hdS hdn etl htls
   refine ⟨_, rfl, _, rfl, fa, xs1, rfl, .inr (hfa.same s8D), p, (xs1.length : Int), rfl, pD, by lia, by lia, fun d HE d0 d1 oE pE => ?_⟩
   obtain ⟨m, rfl⟩ : ∃ m : Nat, d = (m : Int) := ⟨d.toNat, by lia⟩
   have hfaE := (hfa.same s8D).mv pD oE.mv
   have hpaE := PtsT.mv (PtsT.same hpa s8D) pD oE.mv
   have howE := (how.same s9D).mv pD oE.mv
   refine ⟨_, rfl, _, rfl, _, rfl, slice_from hfaE (by lia) fun w2 HF sF hw2 => ⟨w2, _, rfl, hw2, fun w3 hw3 => ?_⟩⟩
   have s3 := Same.new (o := .tup (xs1.drop m).reverse) hw3
   refine ⟨_, rfl, _, rfl, _, rfl, slice_to (hfaE.same (sF.trans s3)) (by lia) fun w4 HG sG hw4 => ?_⟩
   refine cat_pts (SqT.of (sG _ _ upd_same)) hw4 (Nat.le_trans (show _ ≤ 300 by rw [List.length_reverse, List.length_take, List.length_drop]; lia) (by decide)) (fun ot HI sI hot => ?_)
   have sEI := ((sF.trans s3).trans sG).trans sI
   have hpo : PtsT K HI ((xs1.drop m).reverse ++ xs1.take m) ((pss'.drop m).reverse ++ pss'.take m) := Paired.append (paired_rev30 (paired_drop m (PtsT.same hpaE sEI))) (Paired.take m (PtsT.same hpaE sEI))
   have hperm : ((pss'.drop m).reverse ++ pss'.take m).Perm pss' := ((List.reverse_perm _).append_right _).trans (List.perm_append_comm.trans (by rw [List.take_append_drop]))
   have h23o := p23_perm hperm h23'
   have hndo := nd_perm hperm hnd'
   have hto := tell_perm hperm
   have hlo := hperm.length_eq
   have hbo : ∀ q ∈ (pss'.drop m).reverse ++ pss'.take m, ∀ c ∈ q, RB 16 c := fun q hq => hb' q (hperm.mem_iff.mp hq)
   have hbko : ∀ q ∈ (pss'.drop m).reverse ++ pss'.take m, RB 16 (q.getD 0 0) := fun q hq => hbk' q (hperm.mem_iff.mp hq)
   generalize (pss'.drop m).reverse ++ pss'.take m = po at hpo hperm h23o hndo hto hlo hbo hbko
   generalize (xs1.drop m).reverse ++ xs1.take m = xo at hot hpo
   have hsMo : ∀ q ∈ stepsOf po, RB 3166 q := steps_rbN (N := 6) h23o hbo hbko (by decide) (by lia)
   refine ⟨_, rfl, ot, xo, po, 16, 16, 3166, rfl, hot, hpo, h23o, by lia, hndo, by lia, hbo, hbko, by decide, by decide, hsMo, by decide, by decide, fun c2 HJ es2 sJ hc2 hcl2 hg2 _ hev2 => ⟨_, rfl, ?_⟩⟩
   have eq2 : es2 = ds := good_one hg2 hog (fun x => by
     have e1 : Cv.ev es2 x = nwP po x := hev2 x
     have e2 : Cv.ev ds x = nwP pss' x := hoev x
     rw [e1, e2]; exact perm_nw hperm h23' hnd' x)
   have sEJ := sEI.trans sJ
   refine eqT hc2 (howE.same sEJ) ?_
   refine ⟨_, rfl, iteFc (by rw [decide_eq_true eq2] <;> rfl) ?_⟩
   rw [eq2] at hev2
   refine ⟨_, rfl, ot, xo, po, 16, 16, rfl, hot.same sJ, PtsT.same hpo sJ, h23o, by lia, hndo, by lia, hbo, hbko, by decide, by decide, fun st HK zs1 sK hst est hzs1 => ?_⟩
   have hl1 := hzs1.length
   rw [stepsOf_length] at hl1
   obtain ⟨N, hN⟩ : ∃ N, (tell pss').length = N + 1 := ⟨(tell pss').length - 1, by lia⟩
   obtain ⟨x1, hx1', hn1⟩ := Paired.get' hzs1 (getD_some (l := stepsOf po) (i := N) (by rw [stepsOf_length]; lia))
   refine ⟨_, rfl, st, zs1, _, x1, rfl, rfl, SqL.of est, atI_back (by rw [hl1, hto, hN]; exact hx1'), ?_⟩
   have sEK := sEJ.trans sK
   refine ⟨_, rfl, fa, xs1, pss', 16, 16, rfl, hfaE.same sEK, PtsT.same hpaE sEK, h23', by lia, hnd', by lia, hb', hbk', by decide, by decide, fun st2 HL zs2 sL hst2 est2 hzs2 => ?_⟩
   have hl2 := hzs2.length
   rw [stepsOf_length] at hl2
   obtain ⟨x2, hx2', hn2⟩ := Paired.get' hzs2 (getD_some (l := stepsOf pss') (i := N) (by rw [stepsOf_length]; lia))
   refine ⟨_, rfl, st2, zs2, _, x2, rfl, rfl, SqL.of est2, atI_back (by rw [hl2, hN]; exact hx2'), ?_⟩
   refine eqN (hn1.same sL) hn2 ?_
   refine ⟨_, rfl, iteFc (by rw [decide_eq_true (show (stepsOf po).getD N 0 = (stepsOf pss').getD N 0 by rw [steps_last30 (hto.trans hN) hev2, steps_last30 hN hoev])] <;> rfl) ?_⟩
   have sEL := sEK.trans sL
   exact ⟨_, rfl, _, rfl, pE.sm sEL, fa, ow, xs1, pss', ds, _, _, _, _, _, _, _, _, _, _, _, rfl, hfaE.same sEL, PtsT.same hpaE sEL, h23', h1', ht', hnd', hb', howE.same sEL, by lia, hob, hoev⟩
 clear hS hp h23 hb h1 ht4 hnd hbk hge hsM s3 hcv hcl hg hcb hev p2 m2 pn
 rintro σ H4 hR4
 obtain ⟨p4, r, cv, xs, pss, cs, z4, z5, z6, z7, z8, z9, z10, z11, z12, z13, z14, rfl, hS, hp, h23, h1, ht6, hnd, hb, hcv, hcl, hcb, hev⟩ := hR4
 try clear hR4
 have hge := tell_ge h23
 have hxl := hp.length
 refine ⟨_, rfl, _, rfl, p, r, xs, pss, rfl, p4, hS, hp, by lia, fun nw H5 nv m5 p5 hnw hnl hnb hnin => ?_⟩
 have hS5 := hS.mv p4 m5
 have hp5 := PtsT.mv hp p4 m5
 have h23n : P23 (pss ++ [nv]) := fun q hq => by
   rcases List.mem_append.mp hq with z | z
   · exact h23 q z
   · rw [List.mem_singleton.mp z]; exact hnl
 have hndn : ((pss ++ [nv]).map fun ps => ps.getD 0 0).Nodup := by
   rw [List.map_append]
   exact List.nodup_append.mpr ⟨hnd, by simp, fun a ha b hb e => hnin (by
     have e2 : a = nv.getD 0 0 := e.trans (List.mem_singleton.mp hb)
     rw [← e2]; exact ha)⟩
 have htn : (tell (pss ++ [nv])).length ≤ 12 := by
   rw [tell_app, List.length_append]
   show _ + (tellP nv ++ tell []).length ≤ 12
   rw [List.length_append, tellP_length]
   show _ + (_ + 0) ≤ 12
   lia
 refine ⟨_, rfl, _, rfl, r, _, xs, pss, nv, rfl, hS5, hp5, hnw, h23n, hndn, htn, fun w H6 s6 hw => ?_⟩
 have hpF : PtsT K H6 (xs ++ [.ref nw]) (pss ++ [nv]) := Paired.snoc (PtsT.same hp5 s6) (hnw.same s6)
 refine exE3 hnw fun na nus npp hz172' => ?_
 refine anE5 hz172' fun enw hnus hnun hnu0 hnpp => ?_
 clear hz172'
 cases enw
 refine ⟨_, rfl, nw, nus, _, _, rfl, rfl, hnus.same s6, atI_nat (j := 0) hnu0, w, _, xs ++ [.ref nw], pss ++ [nv], pss.length, nv, rfl, hw, hpF, hndn, List.getElem?_concat_length, NumV.of (s6 _ _ hnpp), by rw [List.length_append]; show 2 ≤ _ + 1; lia, by rw [List.length_append]; show _ + 1 ≤ 100; lia, fun tk H7 s7 htk => ?_⟩
 have ex : (xs ++ [V.ref nw]).take pss.length ++ (xs ++ [V.ref nw]).drop (pss.length + 1) = xs := by
   rw [← hxl, List.take_left, List.drop_eq_nil_of_le (by rw [List.length_append]; exact Nat.le_refl _), List.append_nil]
 rw [ex] at htk
 have s57 := s6.trans s7
 refine ⟨_, rfl, eqTT htk (PtsT.same hp5 s57).pts (hS5.same s57) (PtsT.same hp5 s57).pts ?_⟩
 rw [decide_eq_true rfl]
 exact q _
end
set_option maxHeartbeats 4000000 in
theorem all_mk {l : PySem.W.OpenLaw} {w : World} {K : PySem.W.Frag} {h : Heap} {mg : Str → Option Value} {fa f1 f2 f3 f4 f5 f6 f7 f8 f9 f10 f11 f12 f13 f14 f15 f16 f17 f18 f19 f20 f21 f22 f23 f24 f25 f26 f27 f28 f29 f30 f31 f32 f33 f34 f35 f36 f37 f38 f39 f40 f41 f42 f43 f44 f45 f46 f47 f48 f49 f50 f51 f52 f53 f54 f55 : Addr} (hT : l.prog.given.tree = none) (X : K.In h) (G : h.Ns mainGlobals mg) (hfa : mg "law" = some (.ref fa))
   {od1 an1 od2 an2 od3 an3 od4 an4 od5 an5 od6 an6 od7 an7 od8 an8 od9 an9 od10 an10 od11 an11 od12 an12 od13 an13 od14 an14 od15 an15 od16 an16 od17 an17 od18 an18 od19 an19 od20 an20 od21 an21 od22 an22 od23 an23 od24 an24 od25 an25 od26 an26 od27 an27 od28 an28 od29 an29 od30 an30 od31 an31 od32 an32 od33 an33 od34 an34 od35 an35 od36 an36 od37 an37 od38 an38 od39 an39 od40 an40 od41 an41 od42 an42 od43 an43 od44 an44 od45 an45 od46 an46 od47 an47 od48 an48 od49 an49 od50 an50 od51 an51 od52 an52 od53 an53 od54 an54 od55 an55 : Option Addr} {sl1 sl2 sl3 sl4 sl5 sl6 sl7 sl8 sl9 sl10 sl11 sl12 sl13 sl14 sl15 sl16 sl17 sl18 sl19 sl20 sl21 sl22 sl23 sl24 sl25 sl26 sl27 sl28 sl29 sl30 sl31 sl32 sl33 sl34 sl35 sl36 sl37 sl38 sl39 sl40 sl41 sl42 sl43 sl44 sl45 sl46 sl47 sl48 sl49 sl50 sl51 sl52 sl53 sl54 sl55 : Array (Option Value)} {oc1 kV1 dc1 pm1 cd1 ct1 oc2 kV2 dc2 pm2 cd2 ct2 oc3 kV3 dc3 pm3 cd3 ct3 oc4 kV4 dc4 pm4 cd4 ct4 oc5 kV5 dc5 pm5 cd5 ct5 oc6 kV6 dc6 pm6 cd6 ct6 oc7 kV7 dc7 pm7 cd7 ct7 oc8 kV8 dc8 pm8 cd8 ct8 oc9 kV9 dc9 pm9 cd9 ct9 oc10 kV10 dc10 pm10 cd10 ct10 oc11 kV11 dc11 pm11 cd11 ct11 oc12 kV12 dc12 pm12 cd12 ct12 oc13 kV13 dc13 pm13 cd13 ct13 oc14 kV14 dc14 pm14 cd14 ct14 oc15 kV15 dc15 pm15 cd15 ct15 oc16 kV16 dc16 pm16 cd16 ct16 oc17 kV17 dc17 pm17 cd17 ct17 oc18 kV18 dc18 pm18 cd18 ct18 oc19 kV19 dc19 pm19 cd19 ct19 oc20 kV20 dc20 pm20 cd20 ct20 oc21 kV21 dc21 pm21 cd21 ct21 oc22 kV22 dc22 pm22 cd22 ct22 oc23 kV23 dc23 pm23 cd23 ct23 oc24 kV24 dc24 pm24 cd24 ct24 oc25 kV25 dc25 pm25 cd25 ct25 oc26 kV26 dc26 pm26 cd26 ct26 oc27 kV27 dc27 pm27 cd27 ct27 oc28 kV28 dc28 pm28 cd28 ct28 oc29 kV29 dc29 pm29 cd29 ct29 oc30 kV30 dc30 pm30 cd30 ct30 oc31 kV31 dc31 pm31 cd31 ct31 oc32 kV32 dc32 pm32 cd32 ct32 oc33 kV33 dc33 pm33 cd33 ct33 oc34 kV34 dc34 pm34 cd34 ct34 oc35 kV35 dc35 pm35 cd35 ct35 oc36 kV36 dc36 pm36 cd36 ct36 oc37 kV37 dc37 pm37 cd37 ct37 oc38 kV38 dc38 pm38 cd38 ct38 oc39 kV39 dc39 pm39 cd39 ct39 oc40 kV40 dc40 pm40 cd40 ct40 oc41 kV41 dc41 pm41 cd41 ct41 oc42 kV42 dc42 pm42 cd42 ct42 oc43 kV43 dc43 pm43 cd43 ct43 oc44 kV44 dc44 pm44 cd44 ct44 oc45 kV45 dc45 pm45 cd45 ct45 oc46 kV46 dc46 pm46 cd46 ct46 oc47 kV47 dc47 pm47 cd47 ct47 oc48 kV48 dc48 pm48 cd48 ct48 oc49 kV49 dc49 pm49 cd49 ct49 oc50 kV50 dc50 pm50 cd50 ct50 oc51 kV51 dc51 pm51 cd51 ct51 oc52 kV52 dc52 pm52 cd52 ct52 oc53 kV53 dc53 pm53 cd53 ct53 oc54 kV54 dc54 pm54 cd54 ct54 oc55 kV55 dc55 pm55 cd55 ct55 : Value}
   (a1 : PySem.W.nsIn K mainGlobals "_law_pen" = some (some (.ref f1))) (l1 : K.lookup f1 = some ⟨oc1, od1, .func (PySem.W.fnOf "_law_pen" "_law_pen" (defArgs (top 54)) (defBody (top 54)) (defScope (top 54)) .none kV1 dc1 pm1 an1 cd1 ct1), sl1⟩) (c1 : PySem.W.codeIn K cd1 "_law_pen" = true) (k1 : PySem.W.keepIn K (.ref f1) = true)
   (a2 : PySem.W.nsIn K mainGlobals "_law_lowest" = some (some (.ref f2))) (l2 : K.lookup f2 = some ⟨oc2, od2, .func (PySem.W.fnOf "_law_lowest" "_law_lowest" (defArgs (top 56)) (defBody (top 56)) (defScope (top 56)) .none kV2 dc2 pm2 an2 cd2 ct2), sl2⟩) (c2 : PySem.W.codeIn K cd2 "_law_lowest" = true) (k2 : PySem.W.keepIn K (.ref f2) = true)
   (a3 : PySem.W.nsIn K mainGlobals "_law_draw" = some (some (.ref f3))) (l3 : K.lookup f3 = some ⟨oc3, od3, .func (PySem.W.fnOf "_law_draw" "_law_draw" (defArgs (top 55)) (defBody (top 55)) (defScope (top 55)) .none kV3 dc3 pm3 an3 cd3 ct3), sl3⟩) (c3 : PySem.W.codeIn K cd3 "_law_draw" = true) (k3 : PySem.W.keepIn K (.ref f3) = true)
   (a4 : PySem.W.nsIn K mainGlobals "_law_number" = some (some (.ref f4))) (l4 : K.lookup f4 = some ⟨oc4, od4, .func (PySem.W.fnOf "_law_number" "_law_number" (defArgs (top 60)) (defBody (top 60)) (defScope (top 60)) .none kV4 dc4 pm4 an4 cd4 ct4), sl4⟩) (c4 : PySem.W.codeIn K cd4 "_law_number" = true) (k4 : PySem.W.keepIn K (.ref f4) = true)
   (a5 : PySem.W.nsIn K mainGlobals "_law_plus" = some (some (.ref f5))) (l5 : K.lookup f5 = some ⟨oc5, od5, .func (PySem.W.fnOf "_law_plus" "_law_plus" (defArgs (top 57)) (defBody (top 57)) (defScope (top 57)) .none kV5 dc5 pm5 an5 cd5 ct5), sl5⟩) (c5 : PySem.W.codeIn K cd5 "_law_plus" = true) (k5 : PySem.W.keepIn K (.ref f5) = true)
   (a6 : PySem.W.nsIn K mainGlobals "_law_places" = some (some (.ref f6))) (l6 : K.lookup f6 = some ⟨oc6, od6, .func (PySem.W.fnOf "_law_places" "_law_places" (defArgs (top 63)) (defBody (top 63)) (defScope (top 63)) .none kV6 dc6 pm6 an6 cd6 ct6), sl6⟩) (c6 : PySem.W.codeIn K cd6 "_law_places" = true) (k6 : PySem.W.keepIn K (.ref f6) = true)
   (a7 : PySem.W.nsIn K mainGlobals "_law_points" = some (some (.ref f7))) (l7 : K.lookup f7 = some ⟨oc7, od7, .func (PySem.W.fnOf "_law_points" "_law_points" (defArgs (top 64)) (defBody (top 64)) (defScope (top 64)) .none kV7 dc7 pm7 an7 cd7 ct7), sl7⟩) (c7 : PySem.W.codeIn K cd7 "_law_points" = true) (k7 : PySem.W.keepIn K (.ref f7) = true)
   (a8 : PySem.W.nsIn K mainGlobals "common_measure" = some (some (.ref f8))) (l8 : K.lookup f8 = some ⟨oc8, od8, .func (PySem.W.fnOf "common_measure" "common_measure" (defArgs (top 8)) (defBody (top 8)) (defScope (top 8)) .none kV8 dc8 pm8 an8 cd8 ct8), sl8⟩) (c8 : PySem.W.codeIn K cd8 "common_measure" = true) (k8 : PySem.W.keepIn K (.ref f8) = true)
   (a9 : PySem.W.nsIn K mainGlobals "bottom_of" = some (some (.ref f9))) (l9 : K.lookup f9 = some ⟨oc9, od9, .func (PySem.W.fnOf "bottom_of" "bottom_of" (defArgs (top 18)) (defBody (top 18)) (defScope (top 18)) .none kV9 dc9 pm9 an9 cd9 ct9), sl9⟩) (c9 : PySem.W.codeIn K cd9 "bottom_of" = true) (k9 : PySem.W.keepIn K (.ref f9) = true)
   (a10 : PySem.W.nsIn K mainGlobals "tops_over" = some (some (.ref f10))) (l10 : K.lookup f10 = some ⟨oc10, od10, .func (PySem.W.fnOf "tops_over" "tops_over" (defArgs (top 19)) (defBody (top 19)) (defScope (top 19)) .none kV10 dc10 pm10 an10 cd10 ct10), sl10⟩) (c10 : PySem.W.codeIn K cd10 "tops_over" = true) (k10 : PySem.W.keepIn K (.ref f10) = true)
   (a11 : PySem.W.nsIn K mainGlobals "curve_of" = some (some (.ref f11))) (l11 : K.lookup f11 = some ⟨oc11, od11, .func (PySem.W.fnOf "curve_of" "curve_of" (defArgs (top 17)) (defBody (top 17)) (defScope (top 17)) .none kV11 dc11 pm11 an11 cd11 ct11), sl11⟩) (c11 : PySem.W.codeIn K cd11 "curve_of" = true) (k11 : PySem.W.keepIn K (.ref f11) = true)
   (a12 : PySem.W.nsIn K mainGlobals "number_of" = some (some (.ref f12))) (l12 : K.lookup f12 = some ⟨oc12, od12, .func (PySem.W.fnOf "number_of" "number_of" (defArgs (top 10)) (defBody (top 10)) (defScope (top 10)) .none kV12 dc12 pm12 an12 cd12 ct12), sl12⟩) (c12 : PySem.W.codeIn K cd12 "number_of" = true) (k12 : PySem.W.keepIn K (.ref f12) = true)
   (a13 : PySem.W.nsIn K mainGlobals "curve_over" = some (some (.ref f13))) (l13 : K.lookup f13 = some ⟨oc13, od13, .func (PySem.W.fnOf "curve_over" "curve_over" (defArgs (top 20)) (defBody (top 20)) (defScope (top 20)) .none kV13 dc13 pm13 an13 cd13 ct13), sl13⟩) (c13 : PySem.W.codeIn K cd13 "curve_over" = true) (k13 : PySem.W.keepIn K (.ref f13) = true)
   (a14 : PySem.W.nsIn K mainGlobals "whole_product" = some (some (.ref f14))) (l14 : K.lookup f14 = some ⟨oc14, od14, .func (PySem.W.fnOf "whole_product" "whole_product" (defArgs (top 21)) (defBody (top 21)) (defScope (top 21)) .none kV14 dc14 pm14 an14 cd14 ct14), sl14⟩) (c14 : PySem.W.codeIn K cd14 "whole_product" = true) (k14 : PySem.W.keepIn K (.ref f14) = true)
   (a15 : PySem.W.nsIn K mainGlobals "by_steps" = some (some (.ref f15))) (l15 : K.lookup f15 = some ⟨oc15, od15, .func (PySem.W.fnOf "by_steps" "by_steps" (defArgs (top 36)) (defBody (top 36)) (defScope (top 36)) .none kV15 dc15 pm15 an15 cd15 ct15), sl15⟩) (c15 : PySem.W.codeIn K cd15 "by_steps" = true) (k15 : PySem.W.keepIn K (.ref f15) = true)
   (a16 : PySem.W.nsIn K mainGlobals "told_in" = some (some (.ref f16))) (l16 : K.lookup f16 = some ⟨oc16, od16, .func (PySem.W.fnOf "told_in" "told_in" (defArgs (top 28)) (defBody (top 28)) (defScope (top 28)) .none kV16 dc16 pm16 an16 cd16 ct16), sl16⟩) (c16 : PySem.W.codeIn K cd16 "told_in" = true) (k16 : PySem.W.keepIn K (.ref f16) = true)
   (a17 : PySem.W.nsIn K mainGlobals "knots_of" = some (some (.ref f17))) (l17 : K.lookup f17 = some ⟨oc17, od17, .func (PySem.W.fnOf "knots_of" "knots_of" (defArgs (top 29)) (defBody (top 29)) (defScope (top 29)) .none kV17 dc17 pm17 an17 cd17 ct17), sl17⟩) (c17 : PySem.W.codeIn K cd17 "knots_of" = true) (k17 : PySem.W.keepIn K (.ref f17) = true)
   (a18 : PySem.W.nsIn K mainGlobals "slopes_in" = some (some (.ref f18))) (l18 : K.lookup f18 = some ⟨oc18, od18, .func (PySem.W.fnOf "slopes_in" "slopes_in" (defArgs (top 32)) (defBody (top 32)) (defScope (top 32)) .none kV18 dc18 pm18 an18 cd18 ct18), sl18⟩) (c18 : PySem.W.codeIn K cd18 "slopes_in" = true) (k18 : PySem.W.keepIn K (.ref f18) = true)
   (a19 : PySem.W.nsIn K mainGlobals "first_row" = some (some (.ref f19))) (l19 : K.lookup f19 = some ⟨oc19, od19, .func (PySem.W.fnOf "first_row" "first_row" (defArgs (top 31)) (defBody (top 31)) (defScope (top 31)) .none kV19 dc19 pm19 an19 cd19 ct19), sl19⟩) (c19 : PySem.W.codeIn K cd19 "first_row" = true) (k19 : PySem.W.keepIn K (.ref f19) = true)
   (a20 : PySem.W.nsIn K mainGlobals "over" = some (some (.ref f20))) (l20 : K.lookup f20 = some ⟨oc20, od20, .func (PySem.W.fnOf "over" "over" (defArgs (top 14)) (defBody (top 14)) (defScope (top 14)) .none kV20 dc20 pm20 an20 cd20 ct20), sl20⟩) (c20 : PySem.W.codeIn K cd20 "over" = true) (k20 : PySem.W.keepIn K (.ref f20) = true)
   (a21 : PySem.W.nsIn K mainGlobals "minus" = some (some (.ref f21))) (l21 : K.lookup f21 = some ⟨oc21, od21, .func (PySem.W.fnOf "minus" "minus" (defArgs (top 12)) (defBody (top 12)) (defScope (top 12)) .none kV21 dc21 pm21 an21 cd21 ct21), sl21⟩) (c21 : PySem.W.codeIn K cd21 "minus" = true) (k21 : PySem.W.keepIn K (.ref f21) = true)
   (a22 : PySem.W.nsIn K mainGlobals "next_row" = some (some (.ref f22))) (l22 : K.lookup f22 = some ⟨oc22, od22, .func (PySem.W.fnOf "next_row" "next_row" (defArgs (top 33)) (defBody (top 33)) (defScope (top 33)) .none kV22 dc22 pm22 an22 cd22 ct22), sl22⟩) (c22 : PySem.W.codeIn K cd22 "next_row" = true) (k22 : PySem.W.keepIn K (.ref f22) = true)
   (a23 : PySem.W.nsIn K mainGlobals "table_of" = some (some (.ref f23))) (l23 : K.lookup f23 = some ⟨oc23, od23, .func (PySem.W.fnOf "table_of" "table_of" (defArgs (top 34)) (defBody (top 34)) (defScope (top 34)) .none kV23 dc23 pm23 an23 cd23 ct23), sl23⟩) (c23 : PySem.W.codeIn K cd23 "table_of" = true) (k23 : PySem.W.keepIn K (.ref f23) = true)
   (a24 : PySem.W.nsIn K mainGlobals "steps_of" = some (some (.ref f24))) (l24 : K.lookup f24 = some ⟨oc24, od24, .func (PySem.W.fnOf "steps_of" "steps_of" (defArgs (top 35)) (defBody (top 35)) (defScope (top 35)) .none kV24 dc24 pm24 an24 cd24 ct24), sl24⟩) (c24 : PySem.W.codeIn K cd24 "steps_of" = true) (k24 : PySem.W.keepIn K (.ref f24) = true)
   (a25 : PySem.W.nsIn K mainGlobals "curve_through" = some (some (.ref f25))) (l25 : K.lookup f25 = some ⟨oc25, od25, .func (PySem.W.fnOf "curve_through" "curve_through" (defArgs (top 37)) (defBody (top 37)) (defScope (top 37)) .none kV25 dc25 pm25 an25 cd25 ct25), sl25⟩) (c25 : PySem.W.codeIn K cd25 "curve_through" = true) (k25 : PySem.W.keepIn K (.ref f25) = true)
   (a26 : PySem.W.nsIn K mainGlobals "_law_fresh" = some (some (.ref f26))) (l26 : K.lookup f26 = some ⟨oc26, od26, .func (PySem.W.fnOf "_law_fresh" "_law_fresh" (defArgs (top 67)) (defBody (top 67)) (defScope (top 67)) .none kV26 dc26 pm26 an26 cd26 ct26), sl26⟩) (c26 : PySem.W.codeIn K cd26 "_law_fresh" = true) (k26 : PySem.W.keepIn K (.ref f26) = true)
   (a27 : PySem.W.nsIn K mainGlobals "times" = some (some (.ref f27))) (l27 : K.lookup f27 = some ⟨oc27, od27, .func (PySem.W.fnOf "times" "times" (defArgs (top 13)) (defBody (top 13)) (defScope (top 13)) .none kV27 dc27 pm27 an27 cd27 ct27), sl27⟩) (c27 : PySem.W.codeIn K cd27 "times" = true) (k27 : PySem.W.keepIn K (.ref f27) = true)
   (a28 : PySem.W.nsIn K mainGlobals "scaled" = some (some (.ref f28))) (l28 : K.lookup f28 = some ⟨oc28, od28, .func (PySem.W.fnOf "scaled" "scaled" (defArgs (top 22)) (defBody (top 22)) (defScope (top 22)) .none kV28 dc28 pm28 an28 cd28 ct28), sl28⟩) (c28 : PySem.W.codeIn K cd28 "scaled" = true) (k28 : PySem.W.keepIn K (.ref f28) = true)
   (a29 : PySem.W.nsIn K mainGlobals "weight_among" = some (some (.ref f29))) (l29 : K.lookup f29 = some ⟨oc29, od29, .func (PySem.W.fnOf "weight_among" "weight_among" (defArgs (top 40)) (defBody (top 40)) (defScope (top 40)) .none kV29 dc29 pm29 an29 cd29 ct29), sl29⟩) (c29 : PySem.W.codeIn K cd29 "weight_among" = true) (k29 : PySem.W.keepIn K (.ref f29) = true)
   (a30 : PySem.W.nsIn K mainGlobals "plus" = some (some (.ref f30))) (l30 : K.lookup f30 = some ⟨oc30, od30, .func (PySem.W.fnOf "plus" "plus" (defArgs (top 11)) (defBody (top 11)) (defScope (top 11)) .none kV30 dc30 pm30 an30 cd30 ct30), sl30⟩) (c30 : PySem.W.codeIn K cd30 "plus" = true) (k30 : PySem.W.keepIn K (.ref f30) = true)
   (a31 : PySem.W.nsIn K mainGlobals "sum_of_turned" = some (some (.ref f31))) (l31 : K.lookup f31 = some ⟨oc31, od31, .func (PySem.W.fnOf "sum_of_turned" "sum_of_turned" (defArgs (top 41)) (defBody (top 41)) (defScope (top 41)) .none kV31 dc31 pm31 an31 cd31 ct31), sl31⟩) (c31 : PySem.W.codeIn K cd31 "sum_of_turned" = true) (k31 : PySem.W.keepIn K (.ref f31) = true)
   (a32 : PySem.W.nsIn K mainGlobals "share_of" = some (some (.ref f32))) (l32 : K.lookup f32 = some ⟨oc32, od32, .func (PySem.W.fnOf "share_of" "share_of" (defArgs (top 42)) (defBody (top 42)) (defScope (top 42)) .none kV32 dc32 pm32 an32 cd32 ct32), sl32⟩) (c32 : PySem.W.codeIn K cd32 "share_of" = true) (k32 : PySem.W.keepIn K (.ref f32) = true)
   (a33 : PySem.W.nsIn K mainGlobals "gain" = some (some (.ref f33))) (l33 : K.lookup f33 = some ⟨oc33, od33, .func (PySem.W.fnOf "gain" "gain" (defArgs (top 51)) (defBody (top 51)) (defScope (top 51)) .none kV33 dc33 pm33 an33 cd33 ct33), sl33⟩) (c33 : PySem.W.codeIn K cd33 "gain" = true) (k33 : PySem.W.keepIn K (.ref f33) = true)
   (a34 : PySem.W.nsIn K mainGlobals "point_at" = some (some (.ref f34))) (l34 : K.lookup f34 = some ⟨oc34, od34, .func (PySem.W.fnOf "point_at" "point_at" (defArgs (top 45)) (defBody (top 45)) (defScope (top 45)) .none kV34 dc34 pm34 an34 cd34 ct34), sl34⟩) (c34 : PySem.W.codeIn K cd34 "point_at" = true) (k34 : PySem.W.keepIn K (.ref f34) = true)
   (a35 : PySem.W.nsIn K mainGlobals "taken_out" = some (some (.ref f35))) (l35 : K.lookup f35 = some ⟨oc35, od35, .func (PySem.W.fnOf "taken_out" "taken_out" (defArgs (top 46)) (defBody (top 46)) (defScope (top 46)) .none kV35 dc35 pm35 an35 cd35 ct35), sl35⟩) (c35 : PySem.W.codeIn K cd35 "taken_out" = true) (k35 : PySem.W.keepIn K (.ref f35) = true)
   (a36 : PySem.W.nsIn K mainGlobals "are_unlike" = some (some (.ref f36))) (l36 : K.lookup f36 = some ⟨oc36, od36, .func (PySem.W.fnOf "are_unlike" "are_unlike" (defArgs (top 26)) (defBody (top 26)) (defScope (top 26)) .none kV36 dc36 pm36 an36 cd36 ct36), sl36⟩) (c36 : PySem.W.codeIn K cd36 "are_unlike" = true) (k36 : PySem.W.keepIn K (.ref f36) = true)
   (a37 : PySem.W.nsIn K mainGlobals "is_whole" = some (some (.ref f37))) (l37 : K.lookup f37 = some ⟨oc37, od37, .func (PySem.W.fnOf "is_whole" "is_whole" (defArgs (top 7)) (defBody (top 7)) (defScope (top 7)) .none kV37 dc37 pm37 an37 cd37 ct37), sl37⟩) (c37 : PySem.W.codeIn K cd37 "is_whole" = true) (k37 : PySem.W.keepIn K (.ref f37) = true)
   (a38 : PySem.W.nsIn K mainGlobals "is_number" = some (some (.ref f38))) (l38 : K.lookup f38 = some ⟨oc38, od38, .func (PySem.W.fnOf "is_number" "is_number" (defArgs (top 9)) (defBody (top 9)) (defScope (top 9)) .none kV38 dc38 pm38 an38 cd38 ct38), sl38⟩) (c38 : PySem.W.codeIn K cd38 "is_number" = true) (k38 : PySem.W.keepIn K (.ref f38) = true)
   (a39 : PySem.W.nsIn K mainGlobals "is_point" = some (some (.ref f39))) (l39 : K.lookup f39 = some ⟨oc39, od39, .func (PySem.W.fnOf "is_point" "is_point" (defArgs (top 25)) (defBody (top 25)) (defScope (top 25)) .none kV39 dc39 pm39 an39 cd39 ct39), sl39⟩) (c39 : PySem.W.codeIn K cd39 "is_point" = true) (k39 : PySem.W.keepIn K (.ref f39) = true)
   (a40 : PySem.W.nsIn K mainGlobals "points_of" = some (some (.ref f40))) (l40 : K.lookup f40 = some ⟨oc40, od40, .func (PySem.W.fnOf "points_of" "points_of" (defArgs (top 27)) (defBody (top 27)) (defScope (top 27)) .none kV40 dc40 pm40 an40 cd40 ct40), sl40⟩) (c40 : PySem.W.codeIn K cd40 "points_of" = true) (k40 : PySem.W.keepIn K (.ref f40) = true)
   (a41 : PySem.W.nsIn K mainGlobals "put_in" = some (some (.ref f41))) (l41 : K.lookup f41 = some ⟨oc41, od41, .func (PySem.W.fnOf "put_in" "put_in" (defArgs (top 44)) (defBody (top 44)) (defScope (top 44)) .none kV41 dc41 pm41 an41 cd41 ct41), sl41⟩) (c41 : PySem.W.codeIn K cd41 "put_in" = true) (k41 : PySem.W.keepIn K (.ref f41) = true)
   (a42 : PySem.W.nsIn K mainGlobals "new_steps" = some (some (.ref f42))) (l42 : K.lookup f42 = some ⟨oc42, od42, .func (PySem.W.fnOf "new_steps" "new_steps" (defArgs (top 50)) (defBody (top 50)) (defScope (top 50)) .none kV42 dc42 pm42 an42 cd42 ct42), sl42⟩) (c42 : PySem.W.codeIn K cd42 "new_steps" = true) (k42 : PySem.W.keepIn K (.ref f42) = true)
   (a43 : PySem.W.nsIn K mainGlobals "loss" = some (some (.ref f43))) (l43 : K.lookup f43 = some ⟨oc43, od43, .func (PySem.W.fnOf "loss" "loss" (defArgs (top 52)) (defBody (top 52)) (defScope (top 52)) .none kV43 dc43 pm43 an43 cd43 ct43), sl43⟩) (c43 : PySem.W.codeIn K cd43 "loss" = true) (k43 : PySem.W.keepIn K (.ref f43) = true)
   (a44 : PySem.W.nsIn K mainGlobals "_law_minus" = some (some (.ref f44))) (l44 : K.lookup f44 = some ⟨oc44, od44, .func (PySem.W.fnOf "_law_minus" "_law_minus" (defArgs (top 58)) (defBody (top 58)) (defScope (top 58)) .none kV44 dc44 pm44 an44 cd44 ct44), sl44⟩) (c44 : PySem.W.codeIn K cd44 "_law_minus" = true) (k44 : PySem.W.keepIn K (.ref f44) = true)
   (a45 : PySem.W.nsIn K mainGlobals "_law_times" = some (some (.ref f45))) (l45 : K.lookup f45 = some ⟨oc45, od45, .func (PySem.W.fnOf "_law_times" "_law_times" (defArgs (top 59)) (defBody (top 59)) (defScope (top 59)) .none kV45 dc45 pm45 an45 cd45 ct45), sl45⟩) (c45 : PySem.W.codeIn K cd45 "_law_times" = true) (k45 : PySem.W.keepIn K (.ref f45) = true)
   (a46 : PySem.W.nsIn K mainGlobals "_law_at" = some (some (.ref f46))) (l46 : K.lookup f46 = some ⟨oc46, od46, .func (PySem.W.fnOf "_law_at" "_law_at" (defArgs (top 61)) (defBody (top 61)) (defScope (top 61)) .none kV46 dc46 pm46 an46 cd46 ct46), sl46⟩) (c46 : PySem.W.codeIn K cd46 "_law_at" = true) (k46 : PySem.W.keepIn K (.ref f46) = true)
   (a47 : PySem.W.nsIn K mainGlobals "replaced" = some (some (.ref f47))) (l47 : K.lookup f47 = some ⟨oc47, od47, .func (PySem.W.fnOf "replaced" "replaced" (defArgs (top 47)) (defBody (top 47)) (defScope (top 47)) .none kV47 dc47 pm47 an47 cd47 ct47), sl47⟩) (c47 : PySem.W.codeIn K cd47 "replaced" = true) (k47 : PySem.W.keepIn K (.ref f47) = true)
   (a48 : PySem.W.nsIn K mainGlobals "with_height" = some (some (.ref f48))) (l48 : K.lookup f48 = some ⟨oc48, od48, .func (PySem.W.fnOf "with_height" "with_height" (defArgs (top 48)) (defBody (top 48)) (defScope (top 48)) .none kV48 dc48 pm48 an48 cd48 ct48), sl48⟩) (c48 : PySem.W.codeIn K cd48 "with_height" = true) (k48 : PySem.W.keepIn K (.ref f48) = true)
   (a49 : PySem.W.nsIn K mainGlobals "_law_told" = some (some (.ref f49))) (l49 : K.lookup f49 = some ⟨oc49, od49, .func (PySem.W.fnOf "_law_told" "_law_told" (defArgs (top 65)) (defBody (top 65)) (defScope (top 65)) .none kV49 dc49 pm49 an49 cd49 ct49), sl49⟩) (c49 : PySem.W.codeIn K cd49 "_law_told" = true) (k49 : PySem.W.keepIn K (.ref f49) = true)
   (a50 : PySem.W.nsIn K mainGlobals "_law_stepped" = some (some (.ref f50))) (l50 : K.lookup f50 = some ⟨oc50, od50, .func (PySem.W.fnOf "_law_stepped" "_law_stepped" (defArgs (top 68)) (defBody (top 68)) (defScope (top 68)) .none kV50 dc50 pm50 an50 cd50 ct50), sl50⟩) (c50 : PySem.W.codeIn K cd50 "_law_stepped" = true) (k50 : PySem.W.keepIn K (.ref f50) = true)
   (a51 : PySem.W.nsIn K mainGlobals "with_slope" = some (some (.ref f51))) (l51 : K.lookup f51 = some ⟨oc51, od51, .func (PySem.W.fnOf "with_slope" "with_slope" (defArgs (top 49)) (defBody (top 49)) (defScope (top 49)) .none kV51 dc51 pm51 an51 cd51 ct51), sl51⟩) (c51 : PySem.W.codeIn K cd51 "with_slope" = true) (k51 : PySem.W.keepIn K (.ref f51) = true)
   (a52 : PySem.W.nsIn K mainGlobals "_law_change" = some (some (.ref f52))) (l52 : K.lookup f52 = some ⟨oc52, od52, .func (PySem.W.fnOf "_law_change" "_law_change" (defArgs (top 69)) (defBody (top 69)) (defScope (top 69)) .none kV52 dc52 pm52 an52 cd52 ct52), sl52⟩) (c52 : PySem.W.codeIn K cd52 "_law_change" = true) (k52 : PySem.W.keepIn K (.ref f52) = true)
   (a53 : PySem.W.nsIn K mainGlobals "_law_slope_at" = some (some (.ref f53))) (l53 : K.lookup f53 = some ⟨oc53, od53, .func (PySem.W.fnOf "_law_slope_at" "_law_slope_at" (defArgs (top 62)) (defBody (top 62)) (defScope (top 62)) .none kV53 dc53 pm53 an53 cd53 ct53), sl53⟩) (c53 : PySem.W.codeIn K cd53 "_law_slope_at" = true) (k53 : PySem.W.keepIn K (.ref f53) = true)
   (a54 : PySem.W.nsIn K mainGlobals "_law_missed" = some (some (.ref f54))) (l54 : K.lookup f54 = some ⟨oc54, od54, .func (PySem.W.fnOf "_law_missed" "_law_missed" (defArgs (top 66)) (defBody (top 66)) (defScope (top 66)) .none kV54 dc54 pm54 an54 cd54 ct54), sl54⟩) (c54 : PySem.W.codeIn K cd54 "_law_missed" = true) (k54 : PySem.W.keepIn K (.ref f54) = true)
   (a55 : PySem.W.nsIn K mainGlobals "law" = some (some (.ref f55))) (l55 : K.lookup f55 = some ⟨oc55, od55, .func (PySem.W.fnOf "law" "law" (defArgs (top 70)) (defBody (top 70)) (defScope (top 70)) .none kV55 dc55 pm55 an55 cd55 ct55), sl55⟩) (c55 : PySem.W.codeIn K cd55 "law" = true) (k55 : PySem.W.keepIn K (.ref f55) = true)
   (z_len : PySem.W.nsIn K mainGlobals "len" = some none)
   (z_abs : PySem.W.nsIn K mainGlobals "abs" = some none)
   (z_range : PySem.W.nsIn K mainGlobals "range" = some none)
   (z_tuple : PySem.W.nsIn K mainGlobals "tuple" = some none)
   (z_set : PySem.W.nsIn K mainGlobals "set" = some none)
   (z_isinstance : PySem.W.nsIn K mainGlobals "isinstance" = some none)
   (z_int : PySem.W.nsIn K mainGlobals "int" = some none)
   (z_bool : PySem.W.nsIn K mainGlobals "bool" = some none)
   (z_all : PySem.W.nsIn K mainGlobals "all" = some none)
   (z_list : PySem.W.nsIn K mainGlobals "list" = some none)
   (z_zip : PySem.W.nsIn K mainGlobals "zip" = some none)
   {t_MOST_TOLD : Tok} (x_MOST_TOLD : PySem.W.nsIn K mainGlobals "MOST_TOLD" = some (some (.int 12 t_MOST_TOLD)))
   {g_NOUGHT : Addr} {o_NOUGHT : Obj} {v_NOUGHT : Array Value} {m_NOUGHT : Nat} (x_NOUGHT : PySem.W.nsIn K mainGlobals "NOUGHT" = some (some (.ref g_NOUGHT))) (y_NOUGHT : K.lookup g_NOUGHT = some o_NOUGHT) (w_NOUGHT : o_NOUGHT.cls = .type "tuple") (d_NOUGHT : o_NOUGHT.data = .seq v_NOUGHT m_NOUGHT) (e_NOUGHT : v_NOUGHT.toList.map absV = [some (.int (0 : Rat).num), some (.int ((0 : Rat).den : Int))])
   {g_ONE : Addr} {o_ONE : Obj} {v_ONE : Array Value} {m_ONE : Nat} (x_ONE : PySem.W.nsIn K mainGlobals "ONE" = some (some (.ref g_ONE))) (y_ONE : K.lookup g_ONE = some o_ONE) (w_ONE : o_ONE.cls = .type "tuple") (d_ONE : o_ONE.data = .seq v_ONE m_ONE) (e_ONE : v_ONE.toList.map absV = [some (.int (1 : Rat).num), some (.int ((1 : Rat).den : Int))]) :
   ∃ fd : FuncData, (∀ (s : Shared) (v : Value), BindsTo s fd ⟨[v], []⟩ [("_law_script", v)]) ∧ ∀ base : Heap, K.In base → base.Ns mainGlobals mg → FnOk l.prog w K mg base CX0 42 fa fd ["_law_script"] (spLaw K) := by
 have e := hfa.symm.trans (PySem.W.mg_of X G a55)
 cases e
 have b_len := PySem.W.mg_none_of X G z_len
 have b_abs := PySem.W.mg_none_of X G z_abs
 have b_range := PySem.W.mg_none_of X G z_range
 have b_tuple := PySem.W.mg_none_of X G z_tuple
 have b_set := PySem.W.mg_none_of X G z_set
 have b_isinstance := PySem.W.mg_none_of X G z_isinstance
 have b_int := PySem.W.mg_none_of X G z_int
 have b_bool := PySem.W.mg_none_of X G z_bool
 have b_all := PySem.W.mg_none_of X G z_all
 have b_list := PySem.W.mg_none_of X G z_list
 have b_zip := PySem.W.mg_none_of X G z_zip
 have c_MOST_TOLD := PySem.W.mg_of X G x_MOST_TOLD
 have c_NOUGHT := PySem.W.mg_of X G x_NOUGHT
 have n_NOUGHT : ∀ H : Hp, NumV K H (.ref g_NOUGHT) (0) := fun H => ⟨_, rfl, const_num y_NOUGHT w_NOUGHT d_NOUGHT e_NOUGHT⟩
 have c_ONE := PySem.W.mg_of X G x_ONE
 have n_ONE : ∀ H : Hp, NumV K H (.ref g_ONE) (1) := fun H => ⟨_, rfl, const_num y_ONE w_ONE d_ONE e_ONE⟩
 have F1 := fun_mk (st := top 54) l1 c1 k1
 have B1 := Fun.binds2 "_law_script" "_law_k" F1 fun _ _ _ _ _ _ _ _ => rfl
 have F2 := fun_mk (st := top 56) l2 c2 k2
 have B2 := Fun.binds2 "_law_top" "_law_bottom" F2 fun _ _ _ _ _ _ _ _ => rfl
 have F3 := fun_mk (st := top 55) l3 c3 k3
 have B3 := Fun.binds2 "_law_pen_here" "_law_many" F3 fun _ _ _ _ _ _ _ _ => rfl
 have F4 := fun_mk (st := top 60) l4 c4 k4
 have B4 := Fun.binds1 "_law_pen_here" F4 fun _ _ _ _ _ _ _ => rfl
 have F5 := fun_mk (st := top 57) l5 c5 k5
 have B5 := Fun.binds2 "_law_a" "_law_b" F5 fun _ _ _ _ _ _ _ _ => rfl
 have F6 := fun_mk (st := top 63) l6 c6 k6
 have B6 := Fun.binds2 "_law_pen_here" "_law_many" F6 fun _ _ _ _ _ _ _ _ => rfl
 have F7 := fun_mk (st := top 64) l7 c7 k7
 have B7 := Fun.binds2 "_law_pen_here" "_law_most" F7 fun _ _ _ _ _ _ _ _ => rfl
 have F8 := fun_mk (st := top 8) l8 c8 k8
 have B8 := Fun.binds2 "one" "other" F8 fun _ _ _ _ _ _ _ _ => rfl
 have F9 := fun_mk (st := top 18) l9 c9 k9
 have B9 := Fun.binds1 "numbers" F9 fun _ _ _ _ _ _ _ => rfl
 have F10 := fun_mk (st := top 19) l10 c10 k10
 have B10 := Fun.binds2 "numbers" "bottom" F10 fun _ _ _ _ _ _ _ _ => rfl
 have F11 := fun_mk (st := top 17) l11 c11 k11
 have B11 := Fun.binds1 "numbers" F11 fun _ _ _ _ _ _ _ => rfl
 have F12 := fun_mk (st := top 10) l12 c12 k12
 have B12 := Fun.binds2 "top" "bottom" F12 fun _ _ _ _ _ _ _ _ => rfl
 have F13 := fun_mk (st := top 20) l13 c13 k13
 have B13 := Fun.binds2 "tops" "bottom" F13 fun _ _ _ _ _ _ _ _ => rfl
 have F14 := fun_mk (st := top 21) l14 c14 k14
 have B14 := Fun.binds2 "first" "second" F14 fun _ _ _ _ _ _ _ _ => rfl
 have F15 := fun_mk (st := top 36) l15 c15 k15
 have B15 := Fun.binds2 "knots" "steps" F15 fun _ _ _ _ _ _ _ _ => rfl
 have F16 := fun_mk (st := top 28) l16 c16 k16
 have B16 := Fun.binds1 "points" F16 fun _ _ _ _ _ _ _ => rfl
 have F17 := fun_mk (st := top 29) l17 c17 k17
 have B17 := Fun.binds1 "points" F17 fun _ _ _ _ _ _ _ => rfl
 have F18 := fun_mk (st := top 32) l18 c18 k18
 have B18 := Fun.binds1 "points" F18 fun _ _ _ _ _ _ _ => rfl
 have F19 := fun_mk (st := top 31) l19 c19 k19
 have B19 := Fun.binds1 "points" F19 fun _ _ _ _ _ _ _ => rfl
 have F20 := fun_mk (st := top 14) l20 c20 k20
 have B20 := Fun.binds2 "a" "b" F20 fun _ _ _ _ _ _ _ _ => rfl
 have F21 := fun_mk (st := top 12) l21 c21 k21
 have B21 := Fun.binds2 "a" "b" F21 fun _ _ _ _ _ _ _ _ => rfl
 have F22 := fun_mk (st := top 33) l22 c22 k22
 have B22 := Fun.binds4 "ahead" "knots" "slopes" "k" F22 fun _ _ _ _ _ _ _ _ _ _ => rfl
 have F23 := fun_mk (st := top 34) l23 c23 k23
 have B23 := Fun.binds1 "points" F23 fun _ _ _ _ _ _ _ => rfl
 have F24 := fun_mk (st := top 35) l24 c24 k24
 have B24 := Fun.binds1 "points" F24 fun _ _ _ _ _ _ _ => rfl
 have F25 := fun_mk (st := top 37) l25 c25 k25
 have B25 := Fun.binds1 "points" F25 fun _ _ _ _ _ _ _ => rfl
 have F26 := fun_mk (st := top 67) l26 c26 k26
 have B26 := Fun.binds2 "_law_pen_here" "_law_points_here" F26 fun _ _ _ _ _ _ _ _ => rfl
 have F27 := fun_mk (st := top 13) l27 c27 k27
 have B27 := Fun.binds2 "a" "b" F27 fun _ _ _ _ _ _ _ _ => rfl
 have F28 := fun_mk (st := top 22) l28 c28 k28
 have B28 := Fun.binds2 "curve" "number" F28 fun _ _ _ _ _ _ _ _ => rfl
 have F29 := fun_mk (st := top 40) l29 c29 k29
 have B29 := Fun.binds2 "x" "others" F29 fun _ _ _ _ _ _ _ _ => rfl
 have F30 := fun_mk (st := top 11) l30 c30 k30
 have B30 := Fun.binds2 "a" "b" F30 fun _ _ _ _ _ _ _ _ => rfl
 have F31 := fun_mk (st := top 41) l31 c31 k31
 have B31 := Fun.binds2 "x" "others" F31 fun _ _ _ _ _ _ _ _ => rfl
 have F32 := fun_mk (st := top 42) l32 c32 k32
 have B32 := Fun.binds3 "points" "x" "k" F32 fun _ _ _ _ _ _ _ _ _ => rfl
 have F33 := fun_mk (st := top 51) l33 c33 k33
 have B33 := Fun.binds4 "points" "x" "k" "number" F33 fun _ _ _ _ _ _ _ _ _ _ => rfl
 have F34 := fun_mk (st := top 45) l34 c34 k34
 have B34 := Fun.binds2 "points" "x" F34 fun _ _ _ _ _ _ _ _ => rfl
 have F35 := fun_mk (st := top 46) l35 c35 k35
 have B35 := Fun.binds2 "points" "x" F35 fun _ _ _ _ _ _ _ _ => rfl
 have F36 := fun_mk (st := top 26) l36 c36 k36
 have B36 := Fun.binds1 "places" F36 fun _ _ _ _ _ _ _ => rfl
 have F37 := fun_mk (st := top 7) l37 c37 k37
 have B37 := Fun.binds1 "thing" F37 fun _ _ _ _ _ _ _ => rfl
 have F38 := fun_mk (st := top 9) l38 c38 k38
 have B38 := Fun.binds1 "thing" F38 fun _ _ _ _ _ _ _ => rfl
 have F39 := fun_mk (st := top 25) l39 c39 k39
 have B39 := Fun.binds1 "thing" F39 fun _ _ _ _ _ _ _ => rfl
 have F40 := fun_mk (st := top 27) l40 c40 k40
 have B40 := Fun.binds1 "thing" F40 fun _ _ _ _ _ _ _ => rfl
 have F41 := fun_mk (st := top 44) l41 c41 k41
 have B41 := Fun.binds2 "points" "point" F41 fun _ _ _ _ _ _ _ _ => rfl
 have F42 := fun_mk (st := top 50) l42 c42 k42
 have B42 := Fun.binds2 "points" "point" F42 fun _ _ _ _ _ _ _ _ => rfl
 have F43 := fun_mk (st := top 52) l43 c43 k43
 have B43 := Fun.binds2 "points" "x" F43 fun _ _ _ _ _ _ _ _ => rfl
 have F44 := fun_mk (st := top 58) l44 c44 k44
 have B44 := Fun.binds2 "_law_a" "_law_b" F44 fun _ _ _ _ _ _ _ _ => rfl
 have F45 := fun_mk (st := top 59) l45 c45 k45
 have B45 := Fun.binds2 "_law_a" "_law_b" F45 fun _ _ _ _ _ _ _ _ => rfl
 have F46 := fun_mk (st := top 61) l46 c46 k46
 have B46 := Fun.binds2 "_law_curve" "_law_x" F46 fun _ _ _ _ _ _ _ _ => rfl
 have F47 := fun_mk (st := top 47) l47 c47 k47
 have B47 := Fun.binds3 "points" "old" "new" F47 fun _ _ _ _ _ _ _ _ _ => rfl
 have F48 := fun_mk (st := top 48) l48 c48 k48
 have B48 := Fun.binds3 "points" "x" "y" F48 fun _ _ _ _ _ _ _ _ _ => rfl
 have F49 := fun_mk (st := top 65) l49 c49 k49
 have B49 := Fun.binds1 "_law_points_here" F49 fun _ _ _ _ _ _ _ => rfl
 have F50 := fun_mk (st := top 68) l50 c50 k50
 have B50 := Fun.binds3 "_law_points_here" "_law_new" "_law_x" F50 fun _ _ _ _ _ _ _ _ _ => rfl
 have F51 := fun_mk (st := top 49) l51 c51 k51
 have B51 := Fun.binds3 "points" "x" "slope" F51 fun _ _ _ _ _ _ _ _ _ => rfl
 have F52 := fun_mk (st := top 69) l52 c52 k52
 have B52 := Fun.binds3 "_law_pen_here" "_law_points_here" "_law_some" F52 fun _ _ _ _ _ _ _ _ _ => rfl
 have F53 := fun_mk (st := top 62) l53 c53 k53
 have B53 := Fun.binds2 "_law_curve" "_law_x" F53 fun _ _ _ _ _ _ _ _ => rfl
 have F54 := fun_mk (st := top 66) l54 c54 k54
 have B54 := Fun.binds2 "_law_points_here" "_law_curve" F54 fun _ _ _ _ _ _ _ _ => rfl
 have F55 := fun_mk (st := top 70) l55 c55 k55
 refine ⟨PySem.W.fnOf "law" "law" (defArgs (top 70)) (defBody (top 70)) (defScope (top 70)) .none kV55 dc55 pm55 an55 cd55 ct55, fun s v => .of_eq rfl, fun base _ _ => ?_⟩
 have E__law_pen : Fd l.prog w K mg base 33 "_law_pen" ["_law_script", "_law_k"] (spPen K) := ⟨_, _, ok__law_pen F1 b_len hT, B1, k1, PySem.W.mg_of X G a1⟩
 have E__law_lowest : Fd l.prog w K mg base 33 "_law_lowest" ["_law_top", "_law_bottom"] (spLow) := ⟨_, _, ok__law_lowest F2 b_abs hT, B2, k2, PySem.W.mg_of X G a2⟩
 have E__law_draw : Fd l.prog w K mg base 33 "_law_draw" ["_law_pen_here", "_law_many"] (spDraw) := ⟨_, _, ok__law_draw F3 hT, B3, k3, PySem.W.mg_of X G a3⟩
 have E__law_number : Fd l.prog w K mg base 34 "_law_number" ["_law_pen_here"] (spNum 8) := ⟨_, _, ok__law_number F4 E__law_lowest E__law_draw hT, B4, k4, PySem.W.mg_of X G a4⟩
 have E__law_plus : Fd l.prog w K mg base 34 "_law_plus" ["_law_a", "_law_b"] (spBin K (· + ·)) := ⟨_, _, ok__law_plus F5 E__law_lowest hT, B5, k5, PySem.W.mg_of X G a5⟩
 have E__law_places : Fd l.prog w K mg base 35 "_law_places" ["_law_pen_here", "_law_many"] (spPlacesT K 8) := ⟨_, _, ok__law_places F6 E__law_number E__law_plus b_range hT, B6, k6, PySem.W.mg_of X G a6⟩
 have E__law_points : Fd l.prog w K mg base 36 "_law_points" ["_law_pen_here", "_law_most"] (spPointsT K 8) := ⟨_, _, ok__law_points F7 E__law_places E__law_draw E__law_number b_tuple hT, B7, k7, PySem.W.mg_of X G a7⟩
 have E_common_measure : Fd l.prog w K mg base 33 "common_measure" ["one", "other"] (spGcd) := ⟨_, _, ok_common_measure F8 b_abs hT, B8, k8, PySem.W.mg_of X G a8⟩
 have E_bottom_of : Fd l.prog w K mg base 34 "bottom_of" ["numbers"] (spBot K) := ⟨_, _, ok_bottom_of F9 E_common_measure hT, B9, k9, PySem.W.mg_of X G a9⟩
 have E_tops_over : Fd l.prog w K mg base 33 "tops_over" ["numbers", "bottom"] (spTops K) := ⟨_, _, ok_tops_over F10 hT, B10, k10, PySem.W.mg_of X G a10⟩
 have E_curve_of : Fd l.prog w K mg base 33 "curve_of" ["numbers"] (spCurveOf K) := ⟨_, _, ok_curve_of F11 b_len b_tuple c_NOUGHT n_NOUGHT hT, B11, k11, PySem.W.mg_of X G a11⟩
 have E_number_of : Fd l.prog w K mg base 34 "number_of" ["top", "bottom"] (spLow) := ⟨_, _, ok_number_of F12 E_common_measure hT, B12, k12, PySem.W.mg_of X G a12⟩
 have E_curve_over : Fd l.prog w K mg base 35 "curve_over" ["tops", "bottom"] (spCurveOver K) := ⟨_, _, ok_curve_over F13 E_curve_of E_number_of hT, B13, k13, PySem.W.mg_of X G a13⟩
 have E_whole_product : Fd l.prog w K mg base 33 "whole_product" ["first", "second"] (spProd K) := ⟨_, _, ok_whole_product F14 b_range b_len hT, B14, k14, PySem.W.mg_of X G a14⟩
 have E_by_steps : Fd l.prog w K mg base 36 "by_steps" ["knots", "steps"] (spBySteps K) := ⟨_, _, ok_by_steps F15 E_bottom_of E_tops_over E_curve_over E_whole_product b_range b_len hT, B15, k15, PySem.W.mg_of X G a15⟩
 have E_told_in : Fd l.prog w K mg base 33 "told_in" ["points"] (spToldT K) := ⟨_, _, ok_told_in F16 b_range b_len hT, B16, k16, PySem.W.mg_of X G a16⟩
 have E_knots_of : Fd l.prog w K mg base 34 "knots_of" ["points"] (spKnotsT K) := ⟨_, _, ok_knots_of F17 E_told_in hT, B17, k17, PySem.W.mg_of X G a17⟩
 have E_slopes_in : Fd l.prog w K mg base 33 "slopes_in" ["points"] (spSlopes K) := ⟨_, _, ok_slopes_in F18 b_len hT, B18, k18, PySem.W.mg_of X G a18⟩
 have E_first_row : Fd l.prog w K mg base 33 "first_row" ["points"] (spRow0 K) := ⟨_, _, ok_first_row F19 b_len hT, B19, k19, PySem.W.mg_of X G a19⟩
 have E_over : Fd l.prog w K mg base 35 "over" ["a", "b"] (spOver K) := ⟨_, _, ok_over F20 E_number_of hT, B20, k20, PySem.W.mg_of X G a20⟩
 have E_minus : Fd l.prog w K mg base 35 "minus" ["a", "b"] (spBin K (· - ·)) := ⟨_, _, ok_minus F21 E_number_of hT, B21, k21, PySem.W.mg_of X G a21⟩
 have E_next_row : Fd l.prog w K mg base 36 "next_row" ["ahead", "knots", "slopes", "k"] (spNextRow K) := ⟨_, _, ok_next_row F22 E_over E_minus b_range b_len hT, B22, k22, PySem.W.mg_of X G a22⟩
 have E_table_of : Fd l.prog w K mg base 37 "table_of" ["points"] (spTable K) := ⟨_, _, ok_table_of F23 E_knots_of E_slopes_in E_first_row E_next_row b_range b_len hT, B23, k23, PySem.W.mg_of X G a23⟩
 have E_steps_of : Fd l.prog w K mg base 38 "steps_of" ["points"] (spSteps K) := ⟨_, _, ok_steps_of F24 E_table_of hT, B24, k24, PySem.W.mg_of X G a24⟩
 have E_curve_through : Fd l.prog w K mg base 39 "curve_through" ["points"] (spThru3 K) := ⟨_, _, ok_curve_through F25 E_by_steps E_knots_of E_steps_of hT, B25, k25, PySem.W.mg_of X G a25⟩
 have E__law_fresh : Fd l.prog w K mg base 35 "_law_fresh" ["_law_pen_here", "_law_points_here"] (spFresh K) := ⟨_, _, ok__law_fresh F26 E__law_number E__law_plus E__law_draw hT, B26, k26, PySem.W.mg_of X G a26⟩
 have E_times : Fd l.prog w K mg base 35 "times" ["a", "b"] (spBin K (· * ·)) := ⟨_, _, ok_times F27 E_number_of hT, B27, k27, PySem.W.mg_of X G a27⟩
 have E_scaled : Fd l.prog w K mg base 36 "scaled" ["curve", "number"] (spScaled K) := ⟨_, _, ok_scaled F28 E_curve_of E_times hT, B28, k28, PySem.W.mg_of X G a28⟩
 have E_weight_among : Fd l.prog w K mg base 36 "weight_among" ["x", "others"] (spWA K) := ⟨_, _, ok_weight_among F29 E_number_of E_minus hT, B29, k29, PySem.W.mg_of X G a29⟩
 have E_plus : Fd l.prog w K mg base 35 "plus" ["a", "b"] (spBin K (· + ·)) := ⟨_, _, ok_plus F30 E_number_of hT, B30, k30, PySem.W.mg_of X G a30⟩
 have E_sum_of_turned : Fd l.prog w K mg base 36 "sum_of_turned" ["x", "others"] (spST K) := ⟨_, _, ok_sum_of_turned F31 E_plus E_over E_minus c_NOUGHT n_NOUGHT c_ONE n_ONE hT, B31, k31, PySem.W.mg_of X G a31⟩
 have E_share_of : Fd l.prog w K mg base 37 "share_of" ["points", "x", "k"] (spShare K) := ⟨_, _, ok_share_of F32 E_knots_of E_weight_among E_by_steps E_minus E_times E_sum_of_turned b_len c_NOUGHT n_NOUGHT hT, B32, k32, PySem.W.mg_of X G a32⟩
 have E_gain : Fd l.prog w K mg base 38 "gain" ["points", "x", "k", "number"] (spGain K) := ⟨_, _, ok_gain F33 E_scaled E_share_of E_told_in hT, B33, k33, PySem.W.mg_of X G a33⟩
 have E_point_at : Fd l.prog w K mg base 33 "point_at" ["points", "x"] (spPtAt K) := ⟨_, _, ok_point_at F34 hT, B34, k34, PySem.W.mg_of X G a34⟩
 have E_taken_out : Fd l.prog w K mg base 34 "taken_out" ["points", "x"] (spTaken K) := ⟨_, _, ok_taken_out F35 E_point_at b_tuple b_len hT, B35, k35, PySem.W.mg_of X G a35⟩
 have E_are_unlike : Fd l.prog w K mg base 33 "are_unlike" ["places"] (spUnlike K) := ⟨_, _, ok_are_unlike F36 b_len b_set hT, B36, k36, PySem.W.mg_of X G a36⟩
 have E_is_whole : Fd l.prog w K mg base 33 "is_whole" ["thing"] (spWhole K) := ⟨_, _, ok_is_whole F37 b_isinstance b_int b_bool hT, B37, k37, PySem.W.mg_of X G a37⟩
 have E_is_number : Fd l.prog w K mg base 34 "is_number" ["thing"] (spIsN K) := ⟨_, _, ok_is_number F38 E_is_whole E_common_measure b_isinstance b_tuple b_len hT, B38, k38, PySem.W.mg_of X G a38⟩
 have E_is_point : Fd l.prog w K mg base 35 "is_point" ["thing"] (spIsPt K) := ⟨_, _, ok_is_point F39 E_is_number b_all b_isinstance b_tuple b_len hT, B39, k39, PySem.W.mg_of X G a39⟩
 have E_points_of : Fd l.prog w K mg base 36 "points_of" ["thing"] (spPtsOf K) := ⟨_, _, ok_points_of F40 E_are_unlike E_told_in E_is_point b_tuple b_all b_len b_isinstance b_list c_MOST_TOLD hT, B40, k40, PySem.W.mg_of X G a40⟩
 have E_put_in : Fd l.prog w K mg base 37 "put_in" ["points", "point"] (spPutIn K) := ⟨_, _, ok_put_in F41 E_points_of b_list hT, B41, k41, PySem.W.mg_of X G a41⟩
 have E_new_steps : Fd l.prog w K mg base 39 "new_steps" ["points", "point"] (spNewSteps K) := ⟨_, _, ok_new_steps F42 E_steps_of E_put_in E_told_in b_len hT, B42, k42, PySem.W.mg_of X G a42⟩
 have E_loss : Fd l.prog w K mg base 40 "loss" ["points", "x"] (spLoss K) := ⟨_, _, ok_loss F43 E_taken_out E_point_at E_new_steps E_knots_of E_by_steps b_len c_NOUGHT n_NOUGHT hT, B43, k43, PySem.W.mg_of X G a43⟩
 have E__law_minus : Fd l.prog w K mg base 34 "_law_minus" ["_law_a", "_law_b"] (spBin K (· - ·)) := ⟨_, _, ok__law_minus F44 E__law_lowest hT, B44, k44, PySem.W.mg_of X G a44⟩
 have E__law_times : Fd l.prog w K mg base 34 "_law_times" ["_law_a", "_law_b"] (spBin K (· * ·)) := ⟨_, _, ok__law_times F45 E__law_lowest hT, B45, k45, PySem.W.mg_of X G a45⟩
 have E__law_at : Fd l.prog w K mg base 35 "_law_at" ["_law_curve", "_law_x"] (spAt2 K) := ⟨_, _, ok__law_at F46 E__law_plus E__law_times hT, B46, k46, PySem.W.mg_of X G a46⟩
 have E_replaced : Fd l.prog w K mg base 37 "replaced" ["points", "old", "new"] (spReplaced K) := ⟨_, _, ok_replaced F47 E_points_of hT, B47, k47, PySem.W.mg_of X G a47⟩
 have E_with_height : Fd l.prog w K mg base 38 "with_height" ["points", "x", "y"] (spWithH K) := ⟨_, _, ok_with_height F48 E_point_at E_replaced hT, B48, k48, PySem.W.mg_of X G a48⟩
 have E__law_told : Fd l.prog w K mg base 33 "_law_told" ["_law_points_here"] (spToldS K) := ⟨_, _, ok__law_told F49 b_len hT, B49, k49, PySem.W.mg_of X G a49⟩
 have E__law_stepped : Fd l.prog w K mg base 40 "_law_stepped" ["_law_points_here", "_law_new", "_law_x"] (spStepped K) := ⟨_, _, ok__law_stepped F50 E_new_steps E__law_plus E__law_told E__law_times E__law_minus b_range b_len hT, B50, k50, PySem.W.mg_of X G a50⟩
 have E_with_slope : Fd l.prog w K mg base 38 "with_slope" ["points", "x", "slope"] (spWithS K) := ⟨_, _, ok_with_slope F51 E_point_at E_replaced hT, B51, k51, PySem.W.mg_of X G a51⟩
 have E__law_change : Fd l.prog w K mg base 41 "_law_change" ["_law_pen_here", "_law_points_here", "_law_some"] (spChange K) := ⟨_, _, ok__law_change F52 E__law_draw E__law_number E_gain E__law_fresh E_loss E__law_minus E__law_at E_with_height E__law_stepped E_put_in E_taken_out E_with_slope E__law_told b_len hT, B52, k52, PySem.W.mg_of X G a52⟩
 have E__law_slope_at : Fd l.prog w K mg base 36 "_law_slope_at" ["_law_curve", "_law_x"] (spSlopeAt3 K) := ⟨_, _, ok__law_slope_at F53 E__law_at E__law_times b_range b_len hT, B53, k53, PySem.W.mg_of X G a53⟩
 have E__law_missed : Fd l.prog w K mg base 37 "_law_missed" ["_law_points_here", "_law_curve"] (spMissed3 K) := ⟨_, _, ok__law_missed F54 E__law_told E__law_at E__law_slope_at hT, B54, k54, PySem.W.mg_of X G a54⟩
 exact ok_law F55 E__law_pen E__law_points E_curve_through E__law_fresh E__law_change E__law_draw E_taken_out E__law_number E_put_in E__law_missed E__law_told E__law_at E__law_plus E_steps_of b_range b_zip b_len hT
theorem walk {l : PySem.W.OpenLaw} {q : Program} {loose : List Str} {XP : (Str → Option Value) → Heap → Prop} {YP : World → Heap → Prop} {d : DefRec} {K : Params → PySem.W.Frag} (hI : PyProof.Rows.importsNone q = true) (hn : l.most = some 63) (hdf : d.params.defaults = [])
   (hY : ∀ (w : World) (h : Heap), YP w h → (K w.params).In h)
   (F : ∀ (w : World) (mg : Str → Option Value) (fa : Addr) (h : Heap), (K w.params).In h → h.Ns mainGlobals mg → mg d.name = some (.ref fa) →
     ∃ fd : FuncData, (∀ (s : Shared) (u : Value), BindsTo s fd ⟨[u], []⟩ [("_law_script", u)]) ∧ ∀ base : Heap, (K w.params).In base → base.Ns mainGlobals mg → FnOk l.prog w (K w.params) mg base CX0 42 fa fd ["_law_script"] ((fun (K : PySem.W.Frag) => (spLaw K : Sp)) (K w.params))) :
   PySem.W.WalkO q loose XP YP l.row.toRowW d [] (fun f vs => PySem.call f vs) :=
 L2.walk_of (n := 63) (k := 42) (x := "_law_script") (CX := fun _ => CX0) (sp := fun w => (fun (K : PySem.W.Frag) => (spLaw K : Sp)) (K w.params)) hI hn (by decide) hdf ⟨rfl, by decide, by decide⟩ hY F (fun _ _ a ns hl _ hS => ⟨a, ns, rfl, hS, hl, fun _ => rfl⟩) fun _ _ _ _ _ z => z
end Pf
def PySem.W.Fast.tw11814283824363142038 : Unit := ()
def PySem.W.Fast.tw16244771603935036830 : Unit := ()
def PySem.W.Fast.tw2156359014751370722 : Unit := ()
def PySem.W.Fast.tw12283223361777038640 : Unit := ()
def PySem.W.Fast.tw3078366581983381383 : Unit := ()
def PySem.W.Fast.tw14164463213214337763 : Unit := ()
def PySem.W.Fast.tw4425189261625110201 : Unit := ()
def PySem.W.Fast.tw14858768666877726370 : Unit := ()
def PySem.W.Fast.tw14199722900188401999 : Unit := ()
def PySem.W.Fast.tw16960640786791391257 : Unit := ()
def PySem.W.Fast.tw6404385611149693380 : Unit := ()
def PySem.W.Fast.tw3563160275519772212 : Unit := ()
def PySem.W.Fast.tw11300115622328079877 : Unit := ()
def PySem.W.Fast.tw15133666846258440706 : Unit := ()
def PySem.W.Fast.tw7094852494109206674 : Unit := ()
def PySem.W.Fast.tw7301443970126947123 : Unit := ()
def PySem.W.Fast.tw13207195021222256734 : Unit := ()
def PySem.W.Fast.tw5371276698964361277 : Unit := ()
def PySem.W.Fast.tw918845973433972560 : Unit := ()
def PySem.W.Fast.tw5675567321014700546 : Unit := ()
def PySem.W.Fast.tw531676876769527345 : Unit := ()
def PySem.W.Fast.tw4677408200217717280 : Unit := ()
def PySem.W.Fast.tw11493064706466274214 : Unit := ()
def PySem.W.Fast.tw17421950165552162582 : Unit := ()
def PySem.W.Fast.tw16063170882200452729 : Unit := ()
def PySem.W.Fast.tw16498441737287578699 : Unit := ()
def PySem.W.Fast.tw10116808475836113515 : Unit := ()
def PySem.W.Fast.tw12947046080285146109 : Unit := ()
def PySem.W.Fast.tw2844401659379942153 : Unit := ()
def PySem.W.Fast.tw6374443956105912275 : Unit := ()
def PySem.W.Fast.tw11221548923838015459 : Unit := ()
def PySem.W.Fast.tw15023109706247350041 : Unit := ()
def PySem.W.Fast.tw12368170807339494885 : Unit := ()
def PySem.W.Fast.tw1402036076362013118 : Unit := ()
def PySem.W.Fast.tw9582072119569743914 : Unit := ()
def PySem.W.Fast.tw10212909211751966687 : Unit := ()
def PySem.W.Fast.tw13012006053837363012 : Unit := ()
def PySem.W.Fast.tw11622047421201151940 : Unit := ()
def PySem.W.Fast.tw4499067975629261456 : Unit := ()
def PySem.W.Fast.tw11120459425966826899 : Unit := ()
def PySem.W.Fast.tw5923234486516340091 : Unit := ()
def PySem.W.Fast.tw13325177505386481836 : Unit := ()
def PySem.W.Fast.tw16143467870769480771 : Unit := ()
def PySem.W.Fast.tw7049813136854382337 : Unit := ()
def PySem.W.Fast.tw2018100344709370664 : Unit := ()
def PySem.W.Fast.tw5128853087364074962 : Unit := ()
def PySem.W.Fast.tw814000400200312640 : Unit := ()
def PySem.W.Fast.tw11074104460392132639 : Unit := ()
def PySem.W.Fast.tw16561022879161317813 : Unit := ()
def PySem.W.Fast.tw12085134632126681152 : Unit := ()
def PySem.W.Fast.tw6476964215564575505 : Unit := ()
def PySem.W.Fast.tw17797366733546526519 : Unit := ()
def PySem.W.Fast.tw9628582905422063903 : Unit := ()
def PySem.W.Fast.tw12909875538887496910 : Unit := ()
def PySem.W.Fast.tw11921507111168214937 : Unit := ()
def PySem.W.Fast.tw13598313695955860423 : Unit := ()
def PySem.W.Fast.tw15963892187088590590 : Unit := ()
def PySem.W.Fast.tw6305196329618861934 : Unit := ()
def PySem.W.Fast.tw18069983304584512563 : Unit := ()
def PySem.W.Fast.tw10230143582238508484 : Unit := ()
def PySem.W.Fast.tw18347541129475338616 : Unit := ()
def PySem.W.Fast.tw2015144037051348904 : Unit := ()
def PySem.W.Fast.tw14173827116081699123 : Unit := ()
def PySem.W.Fast.tw11563516021680956324 : Unit := ()
def PySem.W.Fast.tw16698856315140908309 : Unit := ()
def PySem.W.Fast.tw12636416609146132571 : Unit := ()
def PySem.W.Fast.tw18415867371574670862 : Unit := ()
def PySem.W.Fast.tw3398876053778999850 : Unit := ()
def PySem.W.Fast.tw9596381115390825308 : Unit := ()
def PySem.W.Fast.tw3295940725669267306 : Unit := ()
def PySem.W.Fast.tw2142582116337589089 : Unit := ()
def PySem.W.Fast.tw1905689312267626785 : Unit := ()
def PySem.W.Fast.tw11507738727204428374 : Unit := ()
def PySem.W.Fast.tw5269899511104341117 : Unit := ()
def PySem.W.Fast.tw8580801522192495173 : Unit := ()
def PySem.W.Fast.tw3040262726927396067 : Unit := ()
def PySem.W.Fast.tw2906968096052874627 : Unit := ()
def PySem.W.Fast.tw3929959665638761121 : Unit := ()
def PySem.W.Fast.tw382993177881274083 : Unit := ()
def PySem.W.Fast.tw16071568176072270017 : Unit := ()
def PySem.W.Fast.tw5191145172098689160 : Unit := ()
def PySem.W.Fast.tw16285675258123265955 : Unit := ()
def PySem.W.Fast.tw14796921355784181309 : Unit := ()
def PySem.W.Fast.tw5483329904110087365 : Unit := ()
def PySem.W.Fast.tw1078928852104156397 : Unit := ()
def PySem.W.Fast.tw136442230543553350 : Unit := ()
def PySem.W.Fast.tw12891355663079289450 : Unit := ()
def PySem.W.Fast.tw1519924329181568820 : Unit := ()
def PySem.W.Fast.tw7115148127563578720 : Unit := ()
def PySem.W.Fast.tw8613600184225237850 : Unit := ()
def PySem.W.Fast.tw3608597114761621425 : Unit := ()
def PySem.W.Fast.tw2486561126419865777 : Unit := ()
def PySem.W.Fast.tw7694286184967462071 : Unit := ()
def PySem.W.Fast.tw2965614932969887314 : Unit := ()
def PySem.W.Fast.tw1346686976325232462 : Unit := ()
def PySem.W.Fast.tw13630564259178863898 : Unit := ()
def PySem.W.Fast.tw2339839957673080521 : Unit := ()
def PySem.W.Fast.tw13875594645210281119 : Unit := ()
def PySem.W.Fast.tw4999775925859311958 : Unit := ()
def PySem.W.Fast.tw8597028879911258272 : Unit := ()
def PySem.W.Fast.tw817029613761078191 : Unit := ()
def PySem.W.Fast.tw11377025277556344916 : Unit := ()
def PySem.W.Fast.tw7462910534654993380 : Unit := ()
def PySem.W.Fast.tw4010654227108267157 : Unit := ()
def PySem.W.Fast.tw369767243074486967 : Unit := ()
def PySem.W.Fast.tw8705538507930279996 : Unit := ()
def PySem.W.Fast.tw964575047438845763 : Unit := ()
def PySem.W.Fast.tw14174259749016160549 : Unit := ()
def PySem.W.Fast.tw4836859505794589158 : Unit := ()
def PySem.W.Fast.tw10349142523617597215 : Unit := ()
def PySem.W.Fast.tw2824127635506731064 : Unit := ()
def PySem.W.Fast.tw387598479121482027 : Unit := ()
def PySem.W.Fast.tw11553260949154544561 : Unit := ()
open PySem PySem.W PyProof.Rows
set_option maxRecDepth 100000 in
set_option maxHeartbeats 0 in
theorem PySem.Challenge.cw_onecurve_k30_whole_changes_one_behind_an_holds : PySem.Challenge.rw_onecurve_k30_whole_changes_one_behind_an.Holds := by
 w_on; o_law; k_head; (case hw => w_witness2)
 k_fill
 refine Pf.walk (l := PySem.Challenge.rw_onecurve_k30_whole_changes_one_behind_an) (by decide +kernel) rfl rfl (fun w h Y => PySem.W.kIn_of Y) ?F
 case F =>
   intro w mg fa h KX G hmg
   refine' Pf.all_mk rfl KX G hmg ?a1 ?l1 ?c1 ?k1 ?a2 ?l2 ?c2 ?k2 ?a3 ?l3 ?c3 ?k3 ?a4 ?l4 ?c4 ?k4 ?a5 ?l5 ?c5 ?k5 ?a6 ?l6 ?c6 ?k6 ?a7 ?l7 ?c7 ?k7 ?a8 ?l8 ?c8 ?k8 ?a9 ?l9 ?c9 ?k9 ?a10 ?l10 ?c10 ?k10 ?a11 ?l11 ?c11 ?k11 ?a12 ?l12 ?c12 ?k12 ?a13 ?l13 ?c13 ?k13 ?a14 ?l14 ?c14 ?k14 ?a15 ?l15 ?c15 ?k15 ?a16 ?l16 ?c16 ?k16 ?a17 ?l17 ?c17 ?k17 ?a18 ?l18 ?c18 ?k18 ?a19 ?l19 ?c19 ?k19 ?a20 ?l20 ?c20 ?k20 ?a21 ?l21 ?c21 ?k21 ?a22 ?l22 ?c22 ?k22 ?a23 ?l23 ?c23 ?k23 ?a24 ?l24 ?c24 ?k24 ?a25 ?l25 ?c25 ?k25 ?a26 ?l26 ?c26 ?k26 ?a27 ?l27 ?c27 ?k27 ?a28 ?l28 ?c28 ?k28 ?a29 ?l29 ?c29 ?k29 ?a30 ?l30 ?c30 ?k30 ?a31 ?l31 ?c31 ?k31 ?a32 ?l32 ?c32 ?k32 ?a33 ?l33 ?c33 ?k33 ?a34 ?l34 ?c34 ?k34 ?a35 ?l35 ?c35 ?k35 ?a36 ?l36 ?c36 ?k36 ?a37 ?l37 ?c37 ?k37 ?a38 ?l38 ?c38 ?k38 ?a39 ?l39 ?c39 ?k39 ?a40 ?l40 ?c40 ?k40 ?a41 ?l41 ?c41 ?k41 ?a42 ?l42 ?c42 ?k42 ?a43 ?l43 ?c43 ?k43 ?a44 ?l44 ?c44 ?k44 ?a45 ?l45 ?c45 ?k45 ?a46 ?l46 ?c46 ?k46 ?a47 ?l47 ?c47 ?k47 ?a48 ?l48 ?c48 ?k48 ?a49 ?l49 ?c49 ?k49 ?a50 ?l50 ?c50 ?k50 ?a51 ?l51 ?c51 ?k51 ?a52 ?l52 ?c52 ?k52 ?a53 ?l53 ?c53 ?k53 ?a54 ?l54 ?c54 ?k54 ?a55 ?l55 ?c55 ?k55 ?z_len ?z_abs ?z_range ?z_tuple ?z_set ?z_isinstance ?z_int ?z_bool ?z_all ?z_list ?z_zip ?x_MOST_TOLD ?x_NOUGHT ?y_NOUGHT ?w_NOUGHT ?d_NOUGHT ?e_NOUGHT ?x_ONE ?y_ONE ?w_ONE ?d_ONE ?e_ONE
   (case a1 => k_is)
   (case l1 => k_is)
   (case c1 => k_is)
   (case k1 => k_is)
   (case a2 => k_is)
   (case l2 => k_is)
   (case c2 => k_is)
   (case k2 => k_is)
   (case a3 => k_is)
   (case l3 => k_is)
   (case c3 => k_is)
   (case k3 => k_is)
   (case a4 => k_is)
   (case l4 => k_is)
   (case c4 => k_is)
   (case k4 => k_is)
   (case a5 => k_is)
   (case l5 => k_is)
   (case c5 => k_is)
   (case k5 => k_is)
   (case a6 => k_is)
   (case l6 => k_is)
   (case c6 => k_is)
   (case k6 => k_is)
   (case a7 => k_is)
   (case l7 => k_is)
   (case c7 => k_is)
   (case k7 => k_is)
   (case a8 => k_is)
   (case l8 => k_is)
   (case c8 => k_is)
   (case k8 => k_is)
   (case a9 => k_is)
   (case l9 => k_is)
   (case c9 => k_is)
   (case k9 => k_is)
   (case a10 => k_is)
   (case l10 => k_is)
   (case c10 => k_is)
   (case k10 => k_is)
   (case a11 => k_is)
   (case l11 => k_is)
   (case c11 => k_is)
   (case k11 => k_is)
   (case a12 => k_is)
   (case l12 => k_is)
   (case c12 => k_is)
   (case k12 => k_is)
   (case a13 => k_is)
   (case l13 => k_is)
   (case c13 => k_is)
   (case k13 => k_is)
   (case a14 => k_is)
   (case l14 => k_is)
   (case c14 => k_is)
   (case k14 => k_is)
   (case a15 => k_is)
   (case l15 => k_is)
   (case c15 => k_is)
   (case k15 => k_is)
   (case a16 => k_is)
   (case l16 => k_is)
   (case c16 => k_is)
   (case k16 => k_is)
   (case a17 => k_is)
   (case l17 => k_is)
   (case c17 => k_is)
   (case k17 => k_is)
   (case a18 => k_is)
   (case l18 => k_is)
   (case c18 => k_is)
   (case k18 => k_is)
   (case a19 => k_is)
   (case l19 => k_is)
   (case c19 => k_is)
   (case k19 => k_is)
   (case a20 => k_is)
   (case l20 => k_is)
   (case c20 => k_is)
   (case k20 => k_is)
   (case a21 => k_is)
   (case l21 => k_is)
   (case c21 => k_is)
   (case k21 => k_is)
   (case a22 => k_is)
   (case l22 => k_is)
   (case c22 => k_is)
   (case k22 => k_is)
   (case a23 => k_is)
   (case l23 => k_is)
   (case c23 => k_is)
   (case k23 => k_is)
   (case a24 => k_is)
   (case l24 => k_is)
   (case c24 => k_is)
   (case k24 => k_is)
   (case a25 => k_is)
   (case l25 => k_is)
   (case c25 => k_is)
   (case k25 => k_is)
   (case a26 => k_is)
   (case l26 => k_is)
   (case c26 => k_is)
   (case k26 => k_is)
   (case a27 => k_is)
   (case l27 => k_is)
   (case c27 => k_is)
   (case k27 => k_is)
   (case a28 => k_is)
   (case l28 => k_is)
   (case c28 => k_is)
   (case k28 => k_is)
   (case a29 => k_is)
   (case l29 => k_is)
   (case c29 => k_is)
   (case k29 => k_is)
   (case a30 => k_is)
   (case l30 => k_is)
   (case c30 => k_is)
   (case k30 => k_is)
   (case a31 => k_is)
   (case l31 => k_is)
   (case c31 => k_is)
   (case k31 => k_is)
   (case a32 => k_is)
   (case l32 => k_is)
   (case c32 => k_is)
   (case k32 => k_is)
   (case a33 => k_is)
   (case l33 => k_is)
   (case c33 => k_is)
   (case k33 => k_is)
   (case a34 => k_is)
   (case l34 => k_is)
   (case c34 => k_is)
   (case k34 => k_is)
   (case a35 => k_is)
   (case l35 => k_is)
   (case c35 => k_is)
   (case k35 => k_is)
   (case a36 => k_is)
   (case l36 => k_is)
   (case c36 => k_is)
   (case k36 => k_is)
   (case a37 => k_is)
   (case l37 => k_is)
   (case c37 => k_is)
   (case k37 => k_is)
   (case a38 => k_is)
   (case l38 => k_is)
   (case c38 => k_is)
   (case k38 => k_is)
   (case a39 => k_is)
   (case l39 => k_is)
   (case c39 => k_is)
   (case k39 => k_is)
   (case a40 => k_is)
   (case l40 => k_is)
   (case c40 => k_is)
   (case k40 => k_is)
   (case a41 => k_is)
   (case l41 => k_is)
   (case c41 => k_is)
   (case k41 => k_is)
   (case a42 => k_is)
   (case l42 => k_is)
   (case c42 => k_is)
   (case k42 => k_is)
   (case a43 => k_is)
   (case l43 => k_is)
   (case c43 => k_is)
   (case k43 => k_is)
   (case a44 => k_is)
   (case l44 => k_is)
   (case c44 => k_is)
   (case k44 => k_is)
   (case a45 => k_is)
   (case l45 => k_is)
   (case c45 => k_is)
   (case k45 => k_is)
   (case a46 => k_is)
   (case l46 => k_is)
   (case c46 => k_is)
   (case k46 => k_is)
   (case a47 => k_is)
   (case l47 => k_is)
   (case c47 => k_is)
   (case k47 => k_is)
   (case a48 => k_is)
   (case l48 => k_is)
   (case c48 => k_is)
   (case k48 => k_is)
   (case a49 => k_is)
   (case l49 => k_is)
   (case c49 => k_is)
   (case k49 => k_is)
   (case a50 => k_is)
   (case l50 => k_is)
   (case c50 => k_is)
   (case k50 => k_is)
   (case a51 => k_is)
   (case l51 => k_is)
   (case c51 => k_is)
   (case k51 => k_is)
   (case a52 => k_is)
   (case l52 => k_is)
   (case c52 => k_is)
   (case k52 => k_is)
   (case a53 => k_is)
   (case l53 => k_is)
   (case c53 => k_is)
   (case k53 => k_is)
   (case a54 => k_is)
   (case l54 => k_is)
   (case c54 => k_is)
   (case k54 => k_is)
   (case a55 => k_is)
   (case l55 => k_is)
   (case c55 => k_is)
   (case k55 => k_is)
   (case z_len => k_is)
   (case z_abs => k_is)
   (case z_range => k_is)
   (case z_tuple => k_is)
   (case z_set => k_is)
   (case z_isinstance => k_is)
   (case z_int => k_is)
   (case z_bool => k_is)
   (case z_all => k_is)
   (case z_list => k_is)
   (case z_zip => k_is)
   (case x_MOST_TOLD => k_is)
   (case x_NOUGHT => k_is)
   (case y_NOUGHT => k_is)
   (case w_NOUGHT => rfl)
   (case d_NOUGHT => rfl)
   (case e_NOUGHT => rfl)
   (case x_ONE => k_is)
   (case y_ONE => k_is)
   (case w_ONE => rfl)
   (case d_ONE => rfl)
   (case e_ONE => rfl)
#print axioms PySem.Challenge.cw_onecurve_k30_whole_changes_one_behind_an_holds
