import PyProof.Rows.All
import Wide.All
import OpenK.AllK
import Wide.FinOn
import Lean
import PyProof.EqAt
import PyProof.EqKinds
import PyProof.TupleCall
import KE.KLam
import KE.KNestM
import KE.KSortKey
import PySem.Challenge.RW_onecurve_k55_whole_quotients_turned_over
open Option renaming some → Sj
open PySem.W renaming methodObj → Sk, Frag → Su, findIn → SO, keepIn → SQ, fnOf → T9, codeIn → Tc, nsIn → Uk, envX → UY, kla_fn → V0, codeHdIn → V1, tabObj → V2, codeHd_of_K → V3, kla_obj → V4, OpenLaw → V6, mg_of → VL, mg_none_of → VM
open Nat renaming lt_of_lt_of_le → Sl, lt_irrefl → Sm, ne_of_lt → Sn, le_trans → Sv, le_of_lt → Sw, ne_of_gt → SJ, le_refl → SK, zero_le → SN, min_eq_left → Te, min_eq_right → Tf, lt_of_le_of_lt → Tr, lt_trans → Ts, add_zero → TL, lt_succ_self → U9, lt_succ_of_lt → Ua, pow_le_pow_right → Ue, add_mul → Uh, one_mul → Ui, mul_le_mul_right → Uj, sub_zero → Um, mul_add → Ur, succ_pos → Uv, sub_self → UC, le_add_right → UH, zero_add → UK, add_le_add_right → UX, le_of_eq → V5, lt_or_ge → Va, add_sub_cancel → Vb, mul_le_mul → Vo, mul_le_mul_left → VE, mul_one → VF
open List renaming range → So, mem_filter → Sr, mem_range → Ss, filterMap_cons → Sx, mem_cons_self → Sy, mem_cons_of_mem → Sz, mem_cons → SA, mem_append → SD, mem_append_left → SE, getElem?_eq_some_iff → SF, getElem?_set_self → SG, getElem?_set_ne → SH, mem_append_right → SM, append_nil → SR, nodup_cons → SS, of_mem_zip → SU, replicate → SV, length → SW, length_take → SX, getElem?_append_right → SY, getElem?_replicate → T1, getElem?_append_left → T2, getElem?_map → T3, take_sublist → T4, mem_of_getElem? → T5, length_append → T6, length_map → T7, length_replicate → T8, length_drop → Tg, size_toArray → Th, length_set → Ti, replicate_succ → Tj, flatten_cons → Tn, append_assoc → To, length_singleton → Tp, map_cons → Tq, length_pos_iff → TQ, length_cons → TR, getElem?_cons_succ → TU, map_set → TV, take_add_one → TX, map_append → TY, take_length → TZ, eq_nil_of_length_eq_zero → U0, forIn_cons → U2, lookup_cons → U3, lookup → U4, all_eq_true → U5, getD_eq_getElem?_getD → U6, ext_getElem? → U7, getElem?_drop → U8, mem_singleton → Ub, getElem?_eq_getElem → Uc, getElem_mem → Ud, drop_zero → Ul, drop_eq_getElem_cons → Uw, getElem?_eq_none → Ux, length_nil → Uy, range_succ → Uz, mem_map → UA, take_of_length_le → UB, take_zero → UD, drop_eq_nil_of_le → UE, length_range → UL, getElem?_range → UP, take_append_drop → UQ, perm_append_comm → US, length_eq_zero_iff → UW, mem_map_of_mem → UZ, getElem?_take → V9, getElem_of_mem → Vc, zip_nil_right → Ve, length_zip → Vf, pairwise_map → Vg, getElem?_zip_eq_some → Vh, map_map → Vi, map_congr_left → Vj, mem_of_mem_take → Vm, mem_replicate → Vp, eq_of_mem_replicate → Vt, getElem_zip → Vw, map_fst_zip → Vx, filter_cons_of_neg → Vy, filter_cons_of_pos → Vz, map_id' → VA, getElem_map → VB, zipWith → VC, mem_or_eq_of_mem_set → VG, map_take → VH, filter_append → VI, mem_of_mem_drop → VJ
open Array renaming length_toList → SI, getElem?_eq_none → UG, forIn_toList → UM, getElem?_eq_getElem → UN, getD_eq_getD_getElem? → UO, getElem?_setIfInBounds_ne → UR, replicate → UT, size_push → UU
open Int renaming toNat_natCast → Td, gcd → Tt, mul_fdiv_cancel_left → Tu, gcd_dvd_left → Tw, one_mul → Tx, gcd_dvd_right → Tz, mul_ne_zero → TH, sub_eq_add_neg → Ug, pow_zero → Uo, pow_succ → Uq, emod_nonneg → UI, emod_lt_of_pos → UJ, mul_zero → Vk, fdiv_eq_ediv_of_nonneg → Vu, natCast_nonneg → VD
open Rat renaming divInt → Tv, divInt_eq_div → TC, div_mul_cancel → TF, intCast_mul → TJ, intCast_sub → TK, pow_zero → TM, pow_succ → TN, mul_eq_zero → U1, mul_assoc → Us, mul_inv_cancel → Ut, mul_one → Uu, mul_zero → V7, zero_mul → V8, one_mul → Vd, num_eq_zero → Vl, le_trans → Vn, intCast_zero → Vq, num_intCast → Vr, den_intCast → Vs, div_def → Vv
set_option Elab.async false
set_option linter.all false
set_option maxRecDepth 100000
namespace L2
open PySem PySem.Spec PyProof.Rows
abbrev Key := Sum Int Str
def GR : Key → Value → Bool
 | .inl k, v => Value.isInt k v
 | .inr x, v => Value.isStrOf x v
def Qf (w : World) : Key → Int
 | .inl k => hashInt k
 | .inr x => hashStr w x
theorem Bq : ∀ {k : Key} {v : Value}, GR k v = true → (∃ i t, k = Sum.inl i ∧ v = Value.int i t) ∨ (∃ x t, k = Sum.inr x ∧ v = Value.str x t)
 | .inl i, v, h => by
   obtain ⟨t, e⟩ := Value.isInt_shape (k := i) (v := v) h
   exact .inl ⟨i, t, rfl, e⟩
 | .inr x, v, h => by
   obtain ⟨t, e⟩ := Value.isStrOf_shape (x := x) (v := v) h
   exact .inr ⟨x, t, rfl, e⟩
theorem Lh (i : Int) (t : Tok) : GR (.inl i) (.int i t) = true := by simp [GR, Value.isInt]
theorem Lf (x : Str) (t : Tok) : GR (.inr x) (.str x t) = true := by simp [GR, Value.isStrOf]
theorem OR (a b : Int) : decide ((Sum.inl a : Key) = Sum.inl b) = (a == b) := by
 by_cases e : a = b
 ·subst e; simp
 ·have h : ¬ (Sum.inl a : Key) = Sum.inl b := fun q => e (Sum.inl.inj q)
  rw [decide_eq_false h]
  exact (beq_eq_false_iff_ne.mpr e).symm
theorem OO (a b : Str) : decide ((Sum.inr a : Key) = Sum.inr b) = decide (a = b) := by
 by_cases e : a = b
 ·subst e; simp
 ·have h : ¬ (Sum.inr a : Key) = Sum.inr b := fun q => e (Sum.inr.inj q)
  rw [decide_eq_false h, decide_eq_false e]
theorem OQ (a : Int) (b : Str) : decide ((Sum.inl a : Key) = Sum.inr b) = false := decide_eq_false (fun q => nomatch q)
theorem OP (a : Str) (b : Int) : decide ((Sum.inr a : Key) = Sum.inl b) = false := decide_eq_false (fun q => nomatch q)
def CK (prog : Program) (w : World) : PySem.KeyKind prog w Key where
 is := GR
 hash := Qf w
 inj := fun v a b ha hb => by
  rcases Bq ha with ⟨i, t, rfl, rfl⟩ | ⟨x, t, rfl, rfl⟩
  ·rcases Bq hb with ⟨j, u, rfl, e⟩ | ⟨y, u, rfl, e⟩
   ·injection e with e1 _; rw [e1]
   ·exact nomatch e
  ·rcases Bq hb with ⟨j, u, rfl, e⟩ | ⟨y, u, rfl, e⟩
   ·exact nomatch e
   ·injection e with e1 _; rw [e1]
 byValue := fun k v h => by
  rcases Bq h with ⟨i, t, rfl, rfl⟩ | ⟨x, t, rfl, rfl⟩ <;> rfl
 pyHash := fun hv h => by
  rcases Bq hv with ⟨i, t, rfl, rfl⟩ | ⟨x, t, rfl, rfl⟩
  ·exact wpAny_pyHash_int h
  ·exact wpAny_pyHash_str h
 eqBool := fun hu hv h => by
  rcases Bq hu with ⟨i, t, rfl, rfl⟩ | ⟨x, t, rfl, rfl⟩
  ·rcases Bq hv with ⟨j, u, rfl, rfl⟩ | ⟨y, u, rfl, rfl⟩
   ·rw [OR] at h; exact wpAny_eqBool_int h
   ·rw [OQ] at h; exact SeqAt.EqAt.int_str i t y u _ _ _ _ h
  ·rcases Bq hv with ⟨j, u, rfl, rfl⟩ | ⟨y, u, rfl, rfl⟩
   ·rw [OP] at h; exact SeqAt.EqAt.str_int x t j u _ _ _ _ h
   ·rw [OO] at h; exact wpAny_eqBool_str h
 «strs» := fun k x t v h => by
  rcases Bq h with ⟨i, u, rfl, e⟩ | ⟨y, u, rfl, e⟩
  ·exact nomatch e
  ·injection e with e1 _
   subst e1
   cases v <;> rfl
theorem J3 (prog : Program) (w : World) (i : Int) (t : Tok) : (CK prog w).is (.inl i) (.int i t) = true := Lh i t
theorem J2 (prog : Program) (w : World) (x : Str) (t : Tok) : (CK prog w).is (.inr x) (.str x t) = true := Lf x t
end L2
namespace L2
open PySem PySem.Spec PyProof.Rows
inductive V where
 | non | bl (b : Bool) | int (i : Int) | str (x : Str) | byt (b : Array UInt8) | flt (b : UInt64) | ref (a : Addr) | ty (n : String)
 deriving DecidableEq
def AR : V → Value → Prop
 | .non, u => u = Value.none
 | .bl b, u => u = Value.bool b
 | .int i, u => ∃ t, u = Value.int i t
 | .str x, u => ∃ t, u = Value.str x t
 | .byt b, u => ∃ t, u = Value.bytes b t
 | .flt b, u => ∃ t, u = Value.float b t
 | .ref a, u => u = Value.ref a
 | .ty n, u => u = Value.type n
abbrev AG : List V → List Value → Prop := Paired AR
theorem AG.length {xs : List V} {us : List Value} (r : AG xs us) : xs.length = us.length := Paired.length r
theorem AG.get : ∀ {xs : List V} {us : List Value} {i : Nat} {x : V}, AG xs us → xs[i]? = some x → ∃ u, us[i]? = some u ∧ AR x u
 | _, _, _, _, .nil, e => by simp at e
 | _, _, 0, _, .cons r _, e => by simp at e; subst e; exact ⟨_, rfl, r⟩
 | _, _, i + 1, x, .cons _ t, e => by
   obtain ⟨u, h1, h2⟩ := AG.get (i := i) (x := x) t (by simpa using e)
   exact ⟨u, by simpa using h1, h2⟩
theorem AG.set {x : V} {u : Value} (r : AR x u) : ∀ {xs : List V} {us : List Value} (i : Nat), AG xs us → AG (xs.set i x) (us.set i u)
 | _, _, _, .nil => .nil
 | _, _, 0, .cons _ t => .cons r t
 | _, _, i + 1, .cons q t => .cons q (AG.set r i t)
theorem AG.append {xs ys : List V} {us ws : List Value} (a : AG xs us) (b : AG ys ws) : AG (xs ++ ys) (us ++ ws) := by
 induction a with
 | nil => exact b
 | cons r t ih => exact .cons r ih
theorem AG.take : ∀ {xs : List V} {us : List Value} (n : Nat), AG xs us → AG (xs.take n) (us.take n)
 | _, _, 0, _ => .nil
 | _, _, _ + 1, .nil => .nil
 | _, _, n + 1, .cons r t => .cons r (AG.take n t)
theorem AG.drop : ∀ {xs : List V} {us : List Value} (n : Nat), AG xs us → AG (xs.drop n) (us.drop n)
 | _, _, 0, r => r
 | _, _, _ + 1, .nil => .nil
 | _, _, n + 1, .cons _ t => AG.drop n t
def Q0 : Option V → Option Value → Prop
 | some v, some u => AR v u
 | none, none => True
 | _, _ => False
def KV {κ : Type} : List (κ × V) → List (κ × Value) → Prop := Paired fun (p : κ × V) (q : κ × Value) => p.1 = q.1 ∧ AR p.2 q.2
def kV : Key → V
 | .inl i => .int i
 | .inr x => .str x
inductive HO where
 | lst (xs : List V)
 | tup (xs : List V)
 | dK (kvs : List (Key × V)) | dT (kvs : List (List Key × V))
 | set (S : Int → Bool) (n : Nat)
 | ins (C dx : Addr) (fs : List (Str × V))
 | own (x : Addr)
 | xd (fs : List (Str × V))
 | met (f x : Addr)
 | rng (lo hi : Int)
 | frz (o : Obj) (u : HO)
 | tbl (ps : Array Value)
 | ext (φ : Heap → Prop)
abbrev Hp := Addr → Option HO
def upd (H : Hp) (a : Addr) (o : HO) : Hp := fun b => if b = a then some o else H b
theorem Aa {H : Hp} {a : Addr} {o : HO} : upd H a o a = some o := by unfold upd; rw [if_pos rfl]
theorem Aq {H : Hp} {a b : Addr} {o : HO} (h : b ≠ a) : upd H a o b = H b := by unfold upd; rw [if_neg h]
theorem N3 {H : Hp} {a : Addr} {o u : HO} : upd (upd H a o) a u = upd H a u := by
 funext b; unfold upd; split <;> rfl
theorem EX {H : Hp} {a b : Addr} {o u : HO} (h : H a = some o) (h' : H b = some u) (d : o ≠ u) : a ≠ b := by
 intro e; subst e; rw [h] at h'; exact d (Sj.inj h')
theorem Aw {H : Hp} {a b : Addr} {o : HO} (h : H a = some o) (h' : H b = none) : a ≠ b := by
 intro e; subst e; rw [h] at h'; cases h'
section
variable (P : Program) (w : World)
def BX (H : Hp) (h : Heap) (a : Addr) : HO → Prop
 | .lst xs => xs.length ≤ sizeLine ∧ ∃ (its : List Value) (n : Nat), AG xs its ∧ h.get? a = some { cls := .type "list", data := .seq its.toArray n }
 | .tup xs => xs.length ≤ sizeLine ∧ ∃ its : List Value, AG xs its ∧ IsTup h a its.toArray
 | .dK kvs => kvs.length ≤ sizeLine ∧ (a == sysModules) = false ∧ ∃ vs, KV kvs vs ∧ h.DictOf (CK P w) a vs
 | .dT kvs => kvs.length ≤ sizeLine ∧ (a == sysModules) = false ∧ ∃ xs : List (List Key × Addr × Value),
  Paired (fun (p : List Key × V) (q : List Key × Addr × Value) => p.1 = q.1 ∧ H q.2.1 = some (.tup (p.1.map kV)) ∧ AR p.2 q.2.2) kvs xs ∧
  ∃ o es ep, h.get? a = some o ∧ o.ExactDict ∧ o.data = .dict es ep ∧ es.toList = xs.map (entryOfKey (tupleKind (CK P w))) ∧ (xs.map (·.1)).Nodup
 | .set S n => h.SetOf (intKind P w) a S n
 | .ins C dx fs => H dx = some (.own a) ∧ fs.length ≤ 1000 ∧ dx ≠ a ∧ h.get? a = some (PySem.W.instObj C dx) ∧
  ∃ mA, h.Ns1 dx mA ∧ (∀ f, Q0 (fs.lookup f) (mA f)) ∧ PySem.Within mA (fs.map (·.1))
 | .own _ => ∃ o, h.get? a = some o
 | .xd fs => ∃ mA, h.Ns1 a mA ∧ ∀ f, Q0 (fs.lookup f) (mA f)
 | .rng lo hi => ∃ t u v, h.get? a = some { cls := .type "range", data := .fields #[.int lo t, .int hi u, .int 1 v] }
 | .frz o u => h.get? a = some o ∧ BX H h a u
 | .tbl ps => h.get? a = some { cls := .none, data := .fields ps }
 | .met f x => h.get? a = some (Sk (.ref f) (.ref x))
 | .ext φ => φ h ∧ (∃ o, h.get? a = some o) ∧ ∀ h1 h2 : Heap, φ h1 → (∀ o, h1.get? a = some o → h2.get? a = some o) → φ h2
def HOk (H : Hp) (h : Heap) : Prop := ∀ a o, H a = some o → BX P w H h a o
end
section
variable {P : Program} {w : World} {H H' : Hp} {h h' : Heap} {a : Addr} {o : HO}
theorem BX.lt (x : BX P w H h a o) : a < h.objs.size := by
 cases o with
 | lst xs => obtain ⟨_, _, _, _, e⟩ := x; exact Heap.lt_size e
 | tup xs => obtain ⟨_, _, _, p⟩ := x; exact p.lt
 | dK kvs => obtain ⟨_, _, _, _, o, _, _, e, _⟩ := x; exact Heap.lt_size e
 | dT kvs => obtain ⟨_, _, _, _, o, _, _, e, _⟩ := x; exact Heap.lt_size e
 | set S n => obtain ⟨o, _, _, _, e, _⟩ := x; exact Heap.lt_size e
 | ins C dx fs => obtain ⟨_, _, _, e, _⟩ := x; exact Heap.lt_size e
 | own y => obtain ⟨_, e⟩ := x; exact Heap.lt_size e
 | xd fs => obtain ⟨_, ⟨_, _, _, e, _⟩, _⟩ := x; exact Heap.lt_size e
 | rng lo hi => obtain ⟨_, _, _, e⟩ := x; exact Heap.lt_size e
 | frz ob u => obtain ⟨e, _⟩ := x; exact Heap.lt_size e
 | tbl ps => exact Heap.lt_size (show h.get? a = some _ from x)
 | met f y => exact Heap.lt_size (show h.get? a = some _ from x)
 | ext φ => obtain ⟨_, ⟨_, e⟩, _⟩ := x; exact Heap.lt_size e
theorem Paired.mapP {α β : Type} {F G : α → β → Prop} {l₁ : List α} {l₂ : List β} (h : Paired F l₁ l₂) (f : ∀ a b, F a b → G a b) : Paired G l₁ l₂ := by
 induction h with
 | nil => exact .nil
 | cons r t ih => exact .cons (f _ _ r) ih
theorem BX.stay (x : BX P w H h a o) (k : ∀ b u, (b = a ∨ H b = some (.own a)) → h.get? b = some u → h'.get? b = some u)
 (ho : ∀ b, H b = some (.own a) → H' b = some (.own a)) (ht : ∀ b xs, H b = some (.tup xs) → H' b = some (.tup xs)) : BX P w H' h' a o := by
 induction o with
 | lst xs => obtain ⟨z, its, n, r, e⟩ := x; exact ⟨z, its, n, r, k _ _ (.inl rfl) e⟩
 | tup xs => obtain ⟨z, its, r, ob, e, c⟩ := x; exact ⟨z, its, r, ob, k _ _ (.inl rfl) e, c⟩
 | dK kvs => obtain ⟨z, y, vs, r, ob, es, ep, e, c⟩ := x; exact ⟨z, y, vs, r, ob, es, ep, k _ _ (.inl rfl) e, c⟩
 | dT kvs =>
   obtain ⟨z, y, xs, r, ob, es, ep, e, c⟩ := x
   exact ⟨z, y, xs, Paired.mapP r fun p q z => ⟨z.1, ht _ _ z.2.1, z.2.2⟩, ob, es, ep, k _ _ (.inl rfl) e, c⟩
 | set S n => obtain ⟨ob, es, ep, t, e, c⟩ := x; exact ⟨ob, es, ep, t, k _ _ (.inl rfl) e, c⟩
 | ins C dx fs =>
   obtain ⟨d, z, ne, e, mA, ⟨od, es, ep, e2, c⟩, r⟩ := x
   exact ⟨ho _ d, z, ne, k _ _ (.inl rfl) e, mA, ⟨od, es, ep, k _ _ (.inr d) e2, c⟩, r⟩
 | own y => obtain ⟨ob, e⟩ := x; exact ⟨ob, k _ _ (.inl rfl) e⟩
 | xd fs => obtain ⟨mA, ⟨od, es, ep, e, c⟩, r⟩ := x; exact ⟨mA, ⟨od, es, ep, k _ _ (.inl rfl) e, c⟩, r⟩
 | rng lo hi => obtain ⟨t, u, v, e⟩ := x; exact ⟨t, u, v, k _ _ (.inl rfl) e⟩
 | frz ob u ih => obtain ⟨e, q⟩ := x; exact ⟨k _ _ (.inl rfl) e, ih q⟩
 | tbl ps =>
   have e : h.get? a = some { cls := .none, data := .fields ps } := x
   show h'.get? a = some { cls := .none, data := .fields ps }
   exact k a _ (.inl rfl) e
 | met f y =>
   have e : h.get? a = some (Sk (.ref f) (.ref y)) := x
   show h'.get? a = some (Sk (.ref f) (.ref y))
   exact k a _ (.inl rfl) e
 | ext φ => obtain ⟨p, ⟨o, e⟩, st⟩ := x; exact ⟨st _ _ p fun o q => k _ _ (.inl rfl) q, ⟨o, k _ _ (.inl rfl) e⟩, st⟩
theorem HOk.lt (x : HOk P w H h) (e : H a = some o) : a < h.objs.size := (x a o e).lt
theorem HOk.fresh (x : HOk P w H h) (e : h.objs.size ≤ a) : H a = none := by
 cases q : H a with
 | none => rfl
 | some u => exact absurd (Sl (x.lt q) e) (Sm _)
theorem HOk.kept (x : HOk P w H h) (k : ∀ b u, h.get? b = some u → h'.get? b = some u) : HOk P w H h' := fun a o e =>
 (x a o e).stay (fun b u _ q => k b u q) (fun _ q => q) fun _ _ q => q
theorem HOk.laid (x : HOk P w H h) (k : ∀ b u, h.get? b = some u → h'.get? b = some u) (hp : h.objs.size ≤ a) (new : BX P w (upd H a o) h' a o) : HOk P w (upd H a o) h' := fun b u e => by
 have hn := x.fresh hp
 by_cases hb : b = a
 ·subst hb; rw [Aa] at e; cases e; exact new
 ·rw [Aq hb] at e
  exact (x b u e).stay (fun c v _ q => k c v q) (fun c q => by rw [Aq (Aw q hn)]; exact q) fun c xs q => by rw [Aq (Aw q hn)]; exact q
end
def Rd (H : Hp) (a : Addr) (u : HO) : Prop := H a = some u ∨ ∃ o, H a = some (.frz o u)
theorem Rd.ok {P : Program} {w : World} {H : Hp} {h : Heap} {a : Addr} {u : HO} (r : Rd H a u) (x : HOk P w H h) : BX P w H h a u := by
 rcases r with r | ⟨o, r⟩
 ·exact x a u r
 ·obtain ⟨_, q⟩ := x a _ r
  exact q
def Mut : Option HO → Prop
 | some (.lst _) => True
 | some (.dK _) => True
 | some (.dT _) => True
 | some (.set _ _) => True
 | some (.ins _ _ _) => True
 | some (.ext _) => True
 | _ => False
section
variable {P : Program} {w : World} {H : Hp} {h h' : Heap} {x e : Addr} {o' : HO}
theorem HOk.write (ok : HOk P w H h) (mu : Mut (H x)) (he : e = x ∨ H e = some (.own x)) (k : ∀ b u, b ≠ e → h.get? b = some u → h'.get? b = some u) (heo : ∃ u, h'.get? e = some u)
 (new : BX P w (upd H x o') h' x o') : HOk P w (upd H x o') h' := fun b u q => by
 have nown : ∀ c y, H c = some (.own y) → c ≠ x := fun c y r z => by subst z; rw [r] at mu; exact mu
 have ntup : ∀ c xs, H c = some (.tup xs) → c ≠ x := fun c xs r z => by subst z; rw [r] at mu; exact mu
 by_cases hb : b = x
 ·subst hb; rw [Aa] at q; cases q; exact new
 ·rw [Aq hb] at q
  by_cases hbe : b = e
  ·have q' : H b = some (.own x) := by
    rcases he with z | z
    ·exact absurd (hbe.trans z) hb
    ·rw [hbe]; exact z
   rw [q] at q'; cases q'
   obtain ⟨v, hv⟩ := heo
   exact ⟨v, by rw [hbe]; exact hv⟩
  ·refine (ok b u q).stay (fun c v hc r => k c v ?_ r) (fun c r => by rw [Aq (nown c b r)]; exact r) fun c xs r => by rw [Aq (ntup c xs r)]; exact r
   rcases hc with rfl | hc
   ·exact hbe
   ·rintro rfl
    rcases he with z | z
    ·exact nown c b hc z
    ·rw [hc] at z; cases z; exact hb rfl
end
structure Un (fs ex : List Addr) (H H' : Hp) (h h' : Heap) : Prop where
 keep : ∀ b o, h.get? b = some o → H b = none → b ∉ fs → b ∉ ex → h'.get? b = some o
 slot : ∀ b o, h.get? b = some o → H b = none → b ∈ fs → b ∉ ex → ∃ sl, h'.get? b = some { o with slots := sl }
 free : ∀ b o, h.get? b = some o → H b = none → b ∉ ex → H' b = none
 there : ∀ b o, h.get? b = some o → b ∉ ex → ∃ o', h'.get? b = some o'
 tups : ∀ b xs, H b = some (.tup xs) → H' b = some (.tup xs)
 frzs : ∀ b o u, H b = some (.frz o u) → H' b = some (.frz o u)
 tbls : ∀ b ps, H b = some (.tbl ps) → ∃ more, H' b = some (.tbl (ps ++ more))
section
variable {fs fs' ex ex' : List Addr} {H H1 H2 : Hp} {h h1 h2 h' : Heap} {a x e : Addr} {o : HO}
theorem Un.any (u : Un fs ex H H1 h h1) {b : Addr} {ob : Obj} (q : h.get? b = some ob) (n : H b = none) (hx : b ∉ ex) : ∃ sl, h1.get? b = some { ob with slots := sl } := by
 by_cases hb : b ∈ fs
 ·exact u.slot b ob q n hb hx
 ·exact ⟨ob.slots, u.keep b ob q n hb hx⟩
theorem Un.kept (k : ∀ b u, h.get? b = some u → h'.get? b = some u) : Un fs ex H H h h' :=
 ⟨fun b ob q _ _ _ => k b ob q, fun b ob q _ _ _ => ⟨ob.slots, k b ob q⟩, fun _ _ _ n _ => n, fun b ob q _ => ⟨ob, k b ob q⟩, fun _ _ q => q, fun _ _ _ q => q, fun _ ps q => ⟨#[], by rw [q]; simp⟩⟩
theorem Un.refl : Un fs ex H H h h := Un.kept fun _ _ q => q
theorem Un.laid (k : ∀ b u, h.get? b = some u → h'.get? b = some u) (hp : h.objs.size ≤ a) (hn : H a = none) : Un fs ex H (upd H a o) h h' where
 keep := fun b u q _ _ _ => k b u q
 slot := fun b u q _ _ _ => ⟨u.slots, k b u q⟩
 free := fun b u q n _ => by rw [Aq (Sn (Sl (Heap.lt_size q) hp))]; exact n
 there := fun b u q _ => ⟨u, k b u q⟩
 tups := fun b xs q => by rw [Aq (Aw q hn)]; exact q
 frzs := fun b u xs q => by rw [Aq (Aw q hn)]; exact q
 tbls := fun b ps q => ⟨#[], by rw [Aq (Aw q hn), q]; simp⟩
theorem Un.write (mu : Mut (H x)) (he : e = x ∨ H e = some (.own x)) (k : ∀ b u, b ≠ e → h.get? b = some u → h'.get? b = some u) (heo : ∃ u, h'.get? e = some u) : Un fs ex H (upd H x o) h h' := by
 have hx : ∀ b, H b = none → b ≠ x := fun b n z => by subst z; rw [n] at mu; exact mu
 have hb : ∀ b, H b = none → b ≠ e := fun b n z => by
  subst z
  rcases he with r | r
  ·exact hx b n r
  ·rw [n] at r; cases r
 have hm : ∀ b u, H b = some u → ¬ Mut (some u) → b ≠ x := fun b u q nm z => by subst z; rw [q] at mu; exact nm mu
 refine ⟨fun b u q n _ _ => k b u (hb b n) q, fun b u q n _ _ => ⟨u.slots, k b u (hb b n) q⟩, fun b u q n _ => by rw [Aq (hx b n)]; exact n, fun b u q _ => ?_,
  fun b xs q => by rw [Aq (hm b _ q fun z => z)]; exact q, fun b u xs q => by rw [Aq (hm b _ q fun z => z)]; exact q, fun b ps q => ⟨#[], by rw [Aq (hm b _ q fun z => z), q]; simp⟩⟩
 by_cases hbe : b = e
 ·subst hbe; exact heo
 ·exact ⟨u, k b u hbe q⟩
end
def trk (h : Heap) (H : Hp) : List Addr := (So h.objs.size).filter fun a => (H a).isSome
def FY (h : Heap) (H : Hp) : Heap := PySem.W.hideAll h (trk h H)
theorem Lj (h : Heap) (H : Hp) : (FY h H).objs.size = h.objs.size := PySem.W.hideAll_size _ _
theorem Mz {h : Heap} {H : Hp} {b : Addr} {o : Obj} (e : h.get? b = some o) (n : H b = none) : (FY h H).get? b = some o :=
 PySem.W.hideAll_get _ e fun hm => by
  have q : (H b).isSome = true := (Sr.mp hm).2
  rw [n] at q; simp at q
theorem Nw {h : Heap} {H : Hp} {b : Addr} {o : Obj} (e : (FY h H).get? b = some o) : h.get? b = some o ∧ H b = none := by
 have e' : h.get? b = some o := PySem.W.of_hideAll (trk h H) e
 refine ⟨e', ?_⟩
 cases q : H b with
 | none => rfl
 | some x =>
   have hm : b ∈ trk h H := Sr.mpr ⟨Ss.mpr (Heap.lt_size e'), by simp [q]⟩
   have z : (FY h H).get? b = none := PySem.W.hideAll_none (trk h H) hm
   rw [z] at e; cases e
def NQ (g h : Heap) (L : Addr) : List (Addr × Obj) := (So h.objs.size).filterMap fun a => if a = L ∨ (g.get? a).isSome = true then none else (h.get? a).map fun o => (a, o)
def Cr (g h : Heap) (L d : Addr) : List (Addr × Obj) := (NQ g h L).filter fun p => decide (p.1 ≠ d)
end L2
namespace L2
open PySem PySem.Spec PyProof.Rows
structure Mod (K : Su) (mg : Str → Option Value) (base : Heap) : Prop where
 kin : K.In base
 glob : base.Ns mainGlobals mg
 blt : ∃ mb, base.Ns builtinsNs mb ∧ ∀ x : Str, x ≠ "__name__" → mb x = bootBuiltins x
 nolimit : base.NoLimit
 seer : base.NoSeer
structure Cx where
 prog : Program
 w : World
 K : Su
 mg : Str → Option Value
 base : Heap
 A : Around
 N : List Str
 s₀ : Shared
 H₀ : Hp
 env : Env
 outer : List Env
 stack : List Env
 ex : List Addr
 fn : Str → Bool
 calm : Bool
 pn : List (Addr × Obj)
 xe : Value → Shared → Prop
def frs (l : List Env) : List Addr := l.filterMap (·.frame)
abbrev Cx.fs (X : Cx) : List Addr := frs X.outer
def Vis (sc : Scope) (x : Str) : Prop := sc.names.lookup x = some .local ∨ sc.names.lookup x = some .cell ∨ sc.names.lookup x = some .free
def Loc (sc : Scope) (x : Str) : Prop := sc.names.lookup x = some .local ∨ sc.names.lookup x = some .cell
def Qp (env : Env) (h : Heap) (m : Str → Option Value) (x : Str) (u : Value) : Prop :=
 (env.kindOf x = some .local ∧ m x = some u) ∨ ((env.kindOf x = some .cell ∨ env.kindOf x = some .free) ∧ ∃ c, env.cells.lookup x = some c ∧ h.IsCell c (some u))
structure Cx.Ok (X : Cx) : Prop where
 mod : Mod X.K X.mg X.base
 kind : X.env.scope.kind = .function
 glob : X.env.globals = mainGlobals
 blt : X.env.builtins = builtinsNs
 above : X.s₀.heap.objs.size ≤ X.env.locals
 inj : ∀ x y c, X.env.cells.lookup x = some c → X.env.cells.lookup y = some c → x = y
 has : ∀ x, (X.env.kindOf x = some .cell ∨ X.env.kindOf x = some .free) → ∃ c, X.env.cells.lookup x = some c
 cab : ∀ x c, X.fn x = true → X.env.cells.lookup x = some c → X.s₀.heap.objs.size ≤ c
 hd : X.calm = true → X.A.handled = none
 frames : X.A.frames = some X.stack
 stk : X.stack = X.outer ∨ (X.stack = X.env :: X.outer ∧ X.env.frame = some X.env.locals)
 exf : ∀ b ∈ X.ex, b ≠ X.env.locals ∧ ∀ x c, X.env.cells.lookup x = some c → c ≠ b
 bs : ∀ b o, X.base.get? b = some o → X.s₀.heap.get? b = some o ∧ X.H₀ b = none
 bsz : X.base.objs.size ≤ X.s₀.heap.objs.size
 noex : ∀ b o, X.base.get? b = some o → b ∉ X.ex
 exfs : ∀ b ∈ X.ex, b ∉ X.fs
 funs : X.s₀.heap.FunFrames X.base X.outer
 frf : ∀ b ∈ X.fs, X.H₀ b = none
structure Inv (X : Cx) (pins : List (Addr × Obj)) (σ : List (Option V)) (H : Hp) (s : Shared) : Prop where
 ok : X.Ok
 os : s.os = X.s₀.os
 bare : AllBare s.gens
 base : Un X.fs X.ex X.H₀ H X.s₀.heap s.heap
 loc : ∃ m, s.heap.Ns X.env.locals m ∧ ∀ (i : Nat) (x : Str) (v : V), X.N[i]? = some x → σ[i]? = some (some v) → Vis X.env.scope x → ∃ u, AR v u ∧ Qp X.env s.heap m x u
 cell : ∀ x c, X.env.cells.lookup x = some c → ∃ v, s.heap.IsCell c v
 free : H X.env.locals = none
 freeC : ∀ x c, X.env.cells.lookup x = some c → H c = none
 pin : ∀ p ∈ X.pn ++ pins, s.heap.get? p.1 = some p.2 ∧ H p.1 = none ∧ p.1 ≠ X.env.locals ∧ p.1 ∉ X.fs ∧ ∀ v, p.2.data ≠ .cell v
 hok : HOk X.prog X.w H s.heap
 len : σ.length = X.N.length
section
variable {X : Cx} {pins : List (Addr × Obj)} {σ : List (Option V)} {H H' : Hp} {s : Shared} {h' : Heap}
theorem Cx.Ok.nofr (ok : X.Ok) {b : Addr} {o : Obj} (e : X.base.get? b = some o) : b ∉ X.fs := fun hb => by
 have := (ok.funs.mem hb).1
 rw [e] at this; cases this
theorem Inv.bs (I : Inv X pins σ H s) : ∀ b o, X.base.get? b = some o → s.heap.get? b = some o ∧ H b = none := fun b o e =>
 ⟨I.base.keep b o (I.ok.bs b o e).1 (I.ok.bs b o e).2 (I.ok.nofr e) (I.ok.noex b o e), I.base.free b o (I.ok.bs b o e).1 (I.ok.bs b o e).2 (I.ok.noex b o e)⟩
theorem Inv.bk (I : Inv X pins σ H s) : ∀ b o, X.base.get? b = some o → s.heap.get? b = some o := fun b o e => (I.bs b o e).1
theorem Inv.mod (I : Inv X pins σ H s) : Mod X.K X.mg X.base := I.ok.mod
theorem Inv.kIn (I : Inv X pins σ H s) : X.K.In s.heap := I.ok.mod.kin.keeps I.bk
theorem Inv.nolimit (I : Inv X pins σ H s) : s.heap.NoLimit := I.ok.mod.nolimit.keeps I.bk
theorem Inv.lt (I : Inv X pins σ H s) : X.env.locals < s.heap.objs.size := let ⟨_, hn, _⟩ := I.loc; hn.lt
theorem Inv.sz (I : Inv X pins σ H s) : X.s₀.heap.objs.size ≤ s.heap.objs.size := Sv I.ok.above (Sw I.lt)
theorem Inv.nofs (I : Inv X pins σ H s) {a : Addr} (h : s.heap.objs.size ≤ a) : a ∉ X.fs := fun hb => by
 obtain ⟨_, o, ho, _⟩ := I.ok.funs.mem hb
 exact absurd (Sl (Heap.lt_size ho) (Sv I.sz h)) (Sm _)
theorem Inv.cne (I : Inv X pins σ H s) : ∀ x c, X.env.cells.lookup x = some c → c ≠ X.env.locals := fun x c e z => by
 obtain ⟨v, o, ho, hd⟩ := I.cell x c e
 obtain ⟨m, ⟨o', es, ep, ho', hd', _⟩, _⟩ := I.loc
 rw [z, ho'] at ho; cases ho; rw [hd'] at hd; cases hd
theorem Inv.funs (I : Inv X pins σ H s) : s.heap.FunFrames X.base X.outer := by
 have all : ∀ (l : List Env), (∀ b ∈ frs l, b ∈ X.fs) → X.s₀.heap.FunFrames X.base l → s.heap.FunFrames X.base l := by
  intro l
  induction l with
  | nil => intro _ _; trivial
  | cons env r ih =>
    intro hs hl
    obtain ⟨hk, ⟨L, o, hf, hn, ho, hd⟩, hr⟩ := hl
    have hL : L ∈ X.fs := hs L (by unfold frs; rw [Sx, hf]; exact Sy)
    obtain ⟨sl, e⟩ := I.base.slot L o ho (I.ok.frf L hL) hL fun z => I.ok.exfs L z hL
    exact ⟨hk, ⟨L, _, hf, hn, e, hd⟩, ih (fun b hb => hs b (by unfold frs; rw [Sx, hf]; exact Sz _ hb)) hr⟩
 exact all X.outer (fun _ hb => hb) I.ok.funs
theorem Inv.stack (I : Inv X pins σ H s) : s.heap.FunFrames X.base X.stack := by
 rcases I.ok.stk with e | ⟨e, hf⟩
 ·rw [e]; exact I.funs
 ·rw [e]
  obtain ⟨m, hn, _⟩ := I.loc
  refine .cons (by rw [I.ok.kind]; decide) hf hn ?_ I.funs
  exact Heap.get?_none_of_le (Sv I.ok.bsz I.ok.above)
theorem Inv.stkSub (I : Inv X pins σ H s) : ∀ b ∈ frs X.stack, b ∈ X.env.locals :: X.fs := fun b hb => by
 rcases I.ok.stk with e | ⟨e, hf⟩
 ·rw [e] at hb; exact Sz _ hb
 ·rw [e] at hb
  unfold frs at hb
  rw [Sx, hf] at hb
  exact hb
theorem Inv.stkFree (I : Inv X pins σ H s) : ∀ b ∈ frs X.stack, H b = none := fun b hb => by
 rcases SA.mp (I.stkSub b hb) with e | hb
 ·rw [e]; exact I.free
 ·obtain ⟨_, o, ho, _⟩ := I.ok.funs.mem hb
  exact I.base.free b o ho (I.ok.frf b hb) fun z => I.ok.exfs b z hb
theorem Inv.step {g' : Array GenState} {t' : Nat} {d' : Drawn} {ch : List Addr} (I : Inv X pins σ H s)
 (hch : ∀ b ∈ ch, (b ∈ X.ex ∨ X.s₀.heap.objs.size ≤ b) ∧ b ≠ X.env.locals ∧ (∀ x c, X.env.cells.lookup x = some c → c ≠ b) ∧ ∀ p ∈ X.pn ++ pins, p.1 ≠ b)
 (keep : ∀ b o, b ≠ X.env.locals → b ∉ X.fs → b ∉ ch → s.heap.get? b = some o → H b = none → h'.get? b = some o)
 (slot : ∀ b o, b ≠ X.env.locals → b ∈ X.fs → b ∉ ch → s.heap.get? b = some o → H b = none → ∃ sl, h'.get? b = some { o with slots := sl }) (free : ∀ b o, b ∉ ch → s.heap.get? b = some o → H b = none → H' b = none)
 (there : ∀ b o, b ∉ ch → s.heap.get? b = some o → ∃ o', h'.get? b = some o')
 (tups : ∀ b xs, H b = some (.tup xs) → H' b = some (.tup xs)) (frzs : ∀ b o u, H b = some (.frz o u) → H' b = some (.frz o u)) (tbls : ∀ b ps, H b = some (.tbl ps) → ∃ more, H' b = some (.tbl (ps ++ more)))
 (ns : ∀ m, s.heap.Ns X.env.locals m → h'.Ns X.env.locals m) (hok : HOk X.prog X.w H' h') (hg : AllBare g') :
 Inv X pins σ H' { s with heap := h', gens := g', drawn := d', toks := t' } := by
 have neL : ∀ b o, X.s₀.heap.get? b = some o → b ≠ X.env.locals := fun b o e => Sn (Sl (Heap.lt_size e) I.ok.above)
 have neC : ∀ b o, X.s₀.heap.get? b = some o → b ∉ X.ex → b ∉ ch := fun b o e hx hb => by
  rcases (hch b hb).1 with z | z
  ·exact hx z
  ·exact absurd (Sl (Heap.lt_size e) z) (Sm _)
 have cellK : ∀ x c, X.env.cells.lookup x = some c → ∀ v, s.heap.IsCell c v → h'.IsCell c v := fun x c e v ⟨o, ho, hd⟩ => by
  have nch : c ∉ ch := fun z => (hch c z).2.2.1 x c e rfl
  by_cases hc : c ∈ X.fs
  ·obtain ⟨sl, q⟩ := slot c o (I.cne x c e) hc nch ho (I.freeC x c e)
   exact ⟨_, q, hd⟩
  ·exact ⟨o, keep c o (I.cne x c e) hc nch ho (I.freeC x c e), hd⟩
 refine ⟨I.ok, I.os, hg, ⟨fun b o e n hb hx => ?_, fun b o e n hb hx => ?_, fun b o e n hx => ?_, fun b o e hx => ?_, fun b xs e => tups b xs (I.base.tups b xs e), fun b o xs e => frzs b o xs (I.base.frzs b o xs e), fun b ps e => ?_⟩, ?_, fun x c e => ?_, ?_, fun x c e => ?_, fun p hp => ?_, hok, I.len⟩
 ·exact keep b o (neL b o e) hb (neC b o e hx) (I.base.keep b o e n hb hx) (I.base.free b o e n hx)
 ·obtain ⟨sl, e1⟩ := I.base.slot b o e n hb hx
  obtain ⟨sl', e2⟩ := slot b _ (neL b o e) hb (neC b o e hx) e1 (I.base.free b o e n hx)
  exact ⟨sl', e2⟩
 ·obtain ⟨o', e1⟩ := I.base.there b o e hx
  exact free b o' (neC b o e hx) e1 (I.base.free b o e n hx)
 ·obtain ⟨o', e1⟩ := I.base.there b o e hx
  exact there b o' (neC b o e hx) e1
 ·obtain ⟨m1, e1⟩ := I.base.tbls b ps e
  obtain ⟨m2, e2⟩ := tbls b _ e1
  exact ⟨m1 ++ m2, by rw [e2, Array.append_assoc]⟩
 ·obtain ⟨m, hn, hl⟩ := I.loc
  refine ⟨m, ns m hn, fun i x v e1 e2 e3 => ?_⟩
  obtain ⟨u, r, l⟩ := hl i x v e1 e2 e3
  refine ⟨u, r, ?_⟩
  rcases l with l | ⟨k, c, e, z⟩
  ·exact .inl l
  ·exact .inr ⟨k, c, e, cellK x c e _ z⟩
 ·obtain ⟨v, z⟩ := I.cell x c e
  exact ⟨v, cellK x c e v z⟩
 ·obtain ⟨m, ⟨o, _, _, ho, _⟩, _⟩ := I.loc
  exact free _ o (fun z => (hch _ z).2.1 rfl) ho I.free
 ·obtain ⟨v, o, ho, hd⟩ := I.cell x c e
  exact free c o (fun z => (hch c z).2.2.1 x c e rfl) ho (I.freeC x c e)
 ·obtain ⟨e, n, ne, nf, d⟩ := I.pin p hp
  have nch : p.1 ∉ ch := fun z => (hch p.1 z).2.2.2 p hp rfl
  exact ⟨keep p.1 p.2 ne nf nch e n, free p.1 p.2 nch e n, ne, nf, d⟩
theorem Inv.un {t' : Nat} (I : Inv X pins σ H s) (u : Un X.fs [] H H' s.heap h') (hok : HOk X.prog X.w H' h') : Inv X pins σ H' { s with heap := h', toks := t' } := by
 obtain ⟨m, ⟨o, es, ep, ho, r⟩, _⟩ := id I.loc
 obtain ⟨sl, hL⟩ := u.any ho I.free (by simp)
 exact I.step (g' := s.gens) (d' := s.drawn) (ch := []) (fun _ z => nomatch z) (fun b o _ hb _ e n => u.keep b o e n hb (by simp)) (fun b o _ hb _ e n => u.slot b o e n hb (by simp)) (fun b o _ e n => u.free b o e n (by simp)) (fun b o _ e => u.there b o e (by simp)) u.tups u.frzs u.tbls (fun m' hm => by
  obtain ⟨o', es', ep', ho', r'⟩ := hm
  rw [ho] at ho'; cases ho'
  exact ⟨_, es', ep', hL, r'⟩) hok I.bare
theorem Inv.call {g' : Array GenState} {t' : Nat} {d' : Drawn} {ch : List Addr} (I : Inv X pins σ H s) (u : Un (frs X.stack) ch H H' s.heap h') (hok : HOk X.prog X.w H' h') (hg : AllBare g')
 (hch : ∀ b ∈ ch, (b ∈ X.ex ∨ X.s₀.heap.objs.size ≤ b) ∧ b ≠ X.env.locals ∧ (∀ x c, X.env.cells.lookup x = some c → c ≠ b) ∧ ∀ p ∈ X.pn ++ pins, p.1 ≠ b) :
 Inv X pins σ H' { s with heap := h', gens := g', drawn := d', toks := t' } := by
 obtain ⟨m, ⟨o, es, ep, ho, r⟩, _⟩ := id I.loc
 obtain ⟨sl, hL⟩ := u.any ho I.free fun z => (hch _ z).2.1 rfl
 exact I.step (ch := ch) hch (fun b o hL hb hc e n => u.keep b o e n (fun z => (SA.mp (I.stkSub b z)).elim hL hb) hc) (fun b o _ _ hc e n => u.any e n hc) (fun b o hc e n => u.free b o e n hc) (fun b o hc e => u.there b o e hc) u.tups u.frzs u.tbls (fun m' hm => by
  obtain ⟨o', es', ep', ho', r'⟩ := hm
  rw [ho] at ho'; cases ho'
  exact ⟨_, es', ep', hL, r'⟩) hok hg
theorem Inv.turned {t' : Nat} {it : Addr} (I : Inv X pins σ H s) (k : ∀ b o, b ≠ it → s.heap.get? b = some o → h'.get? b = some o) (hn : H it = none) (hL : it ≠ X.env.locals)
 (h1 : it ∈ X.ex ∨ X.s₀.heap.objs.size ≤ it) (h2 : ∀ x c, X.env.cells.lookup x = some c → c ≠ it) (h3 : ∀ p ∈ X.pn ++ pins, p.1 ≠ it) : Inv X pins σ H { s with heap := h', toks := t' } := by
 have nit : ∀ b u, H b = some u → b ≠ it := fun b u e z => by rw [z, hn] at e; cases e
 refine I.step (g' := s.gens) (d' := s.drawn) (ch := [it]) (fun b hb => ?_) (fun b o _ _ hc e _ => k b o (fun z => hc (by simp [z])) e) (fun b o _ _ hc e _ => ⟨o.slots, k b o (fun z => hc (by simp [z])) e⟩) (fun _ _ _ _ n => n)
  (fun b o hc e => ⟨o, k b o (fun z => hc (by simp [z])) e⟩) (fun _ _ e => e) (fun _ _ _ e => e) (fun b ps e => ⟨#[], by rw [e]; simp⟩) (fun m hm => ?_) (fun b u e => ?_) I.bare
 ·have e : b = it := by simpa using hb
  subst e
  exact ⟨h1, hL, h2, h3⟩
 ·obtain ⟨o, es, ep, ho, r⟩ := hm
  exact ⟨o, es, ep, k _ o (Ne.symm hL) ho, r⟩
 ·refine (I.hok b u e).stay (fun c v hc q => k c v ?_ q) (fun _ q => q) fun _ _ q => q
  rcases hc with z | z
  ·rw [z]; exact nit b u e
  ·exact nit c _ z
theorem Inv.tok (I : Inv X pins σ H s) (t : Nat) : Inv X pins σ H { s with toks := t } := I.un (h' := s.heap) (t' := t) Un.refl I.hok
theorem Inv.kept {t' : Nat} (I : Inv X pins σ H s) (k : ∀ b u, s.heap.get? b = some u → h'.get? b = some u) : Inv X pins σ H { s with heap := h', toks := t' } := I.un (Un.kept k) (I.hok.kept k)
theorem Inv.laid {a : Addr} {o : HO} {t' : Nat} (I : Inv X pins σ H s) (k : ∀ b u, s.heap.get? b = some u → h'.get? b = some u) (hp : s.heap.objs.size ≤ a) (new : BX X.prog X.w (upd H a o) h' a o) :
 Inv X pins σ (upd H a o) { s with heap := h', toks := t' } := I.un (Un.laid k hp (I.hok.fresh hp)) (I.hok.laid k hp new)
theorem Inv.write {x e : Addr} {o : HO} {t' : Nat} (I : Inv X pins σ H s) (mu : Mut (H x)) (he : e = x ∨ H e = some (.own x)) (k : ∀ b u, b ≠ e → s.heap.get? b = some u → h'.get? b = some u) (heo : ∃ u, h'.get? e = some u)
 (new : BX X.prog X.w (upd H x o) h' x o) : Inv X pins σ (upd H x o) { s with heap := h', toks := t' } := I.un (Un.write mu he k heo) (I.hok.write mu he k heo new)
theorem Inv.weak {σ' : List (Option V)} (I : Inv X pins σ H s) (hl : σ'.length = σ.length) (w : ∀ (i : Nat) v, σ'[i]? = some (some v) → σ[i]? = some (some v)) : Inv X pins σ' H s :=
 ⟨I.ok, I.os, I.bare, I.base, let ⟨m, hn, hl'⟩ := I.loc; ⟨m, hn, fun i x v e1 e2 e3 => hl' i x v e1 (w i v e2) e3⟩, I.cell, I.free, I.freeC, I.pin, I.hok, hl.trans I.len⟩
theorem Inv.pins_of {pins' : List (Addr × Obj)} (I : Inv X pins σ H s) (h : ∀ p ∈ pins', s.heap.get? p.1 = some p.2 ∧ H p.1 = none ∧ p.1 ≠ X.env.locals ∧ p.1 ∉ X.fs ∧ ∀ v, p.2.data ≠ .cell v) : Inv X pins' σ H s :=
 ⟨I.ok, I.os, I.bare, I.base, I.loc, I.cell, I.free, I.freeC, fun p hp => (SD.mp hp).elim (fun z => I.pin p (SE _ z)) (h p), I.hok, I.len⟩
theorem IY {N : List Str} (hN : N.Nodup) {i j : Nat} {x : Str} (a : N[i]? = some x) (b : N[j]? = some x) : i = j := by
 obtain ⟨h1, e1⟩ := SF.mp a
 obtain ⟨h2, e2⟩ := SF.mp b
 exact (List.getElem_inj hN).mp (e1.trans e2.symm)
theorem GH {M : Model} {A : Around} {E : Value → Shared → Prop} {i : Nat} {x : Str} {v : V} {u : Value} {Q : Unit → Shared → Prop} (I : Inv X pins σ H s) (hN : X.N.Nodup) (hi : X.N[i]? = some x) (hx : Loc X.env.scope x) (r : AR v u)
 (h : ∀ s', Inv X pins (σ.set i (some v)) H s' → (∃ a, Heap.SameBut a s.heap s'.heap ∧ (a = X.env.locals ∨ X.env.cells.lookup x = some a)) → Q () s') (hf : X.fn x = true ∨ X.env.scope.names.lookup x = some .local := by first | exact .inl rfl | exact .inr rfl | assumption) : wpAny M A (storeName X.env x u) Q E s := by
 obtain ⟨m, hn, hl⟩ := id I.loc
 have hcls : (X.env.scope.kind == .class || (X.env.scope.kind == .module && X.env.locals != X.env.globals)) = false := by rw [I.ok.kind]; rfl
 have hiσ : i < σ.length := by rw [I.len]; exact (SF.mp hi).1
 have cne := I.cne
 have tracked : ∀ {a : Addr} {h' : Heap}, (∃ o, s.heap.get? a = some o ∧ H a = none) → Heap.SameBut a s.heap h' → HOk X.prog X.w H h' := fun {a h'} ha hs b ob e => by
  obtain ⟨_, _, hfree⟩ := ha
  refine (I.hok b ob e).stay (fun c w' hc q => (hs.2 c ?_).trans q) (fun _ q => q) fun _ _ q => q
  rintro rfl
  rcases hc with rfl | hc
  ·rw [hfree] at e; cases e
  ·rw [hfree] at hc; cases hc
 rcases hx with hk | hk
 ·refine wpAny_storeName_local hk hn (fun h' hn' hs => ?_) hcls
  obtain ⟨oL, _, _, hoL, _⟩ := id hn
  refine h _ ⟨I.ok, I.os, I.bare, ⟨fun b o e n hb hx => ?_, fun b o e n hb hx => ?_, I.base.free, fun b o e hx => ?_, I.base.tups, I.base.frzs, I.base.tbls⟩, ⟨_, hn', fun j y v' e1 e2 e3 => ?_⟩, fun y c e => ?_, I.free, I.freeC, fun p hp => ?_, tracked ⟨oL, hoL, I.free⟩ hs, by simpa using I.len⟩ ⟨_, hs, .inl rfl⟩
  ·exact (hs.2 b (Sn (Sl (Heap.lt_size e) I.ok.above))).trans (I.base.keep b o e n hb hx)
  ·obtain ⟨sl, e1⟩ := I.base.slot b o e n hb hx
   exact ⟨sl, (hs.2 b (Sn (Sl (Heap.lt_size e) I.ok.above))).trans e1⟩
  ·obtain ⟨o', e1⟩ := I.base.there b o e hx
   exact ⟨o', (hs.2 b (Sn (Sl (Heap.lt_size e) I.ok.above))).trans e1⟩
  ·by_cases hj : j = i
   ·subst hj
    rw [hi] at e1; cases e1
    rw [SG hiσ] at e2
    cases e2
    exact ⟨u, r, .inl ⟨hk, by simp⟩⟩
   ·rw [SH (Ne.symm hj)] at e2
    obtain ⟨u', r', q⟩ := hl j y v' e1 e2 e3
    refine ⟨u', r', ?_⟩
    rcases q with ⟨k, e⟩ | ⟨k, c, e, z⟩
    ·refine .inl ⟨k, ?_⟩
     have : y ≠ x := fun e => hj (IY hN e1 (e ▸ hi))
     simp [this, e]
    ·exact .inr ⟨k, c, e, z.sameBut hs (cne y c e)⟩
  ·obtain ⟨w', z⟩ := I.cell y c e
   exact ⟨w', z.sameBut hs (cne y c e)⟩
  ·obtain ⟨e, n, ne, nf, d⟩ := I.pin p hp
   exact ⟨(hs.2 p.1 ne).trans e, n, ne, nf, d⟩
 ·have hfn : X.fn x = true := by
   rcases hf with z | z
   ·exact z
   ·rw [z] at hk; cases hk
  obtain ⟨c, hc⟩ := I.ok.has x (.inl hk)
  obtain ⟨w', z⟩ := I.cell x c hc
  refine wpAny_storeName_cell I.ok.kind hk hc z (fun h' hc' hs => ?_)
  obtain ⟨oc, hoc, hocd⟩ := id z
  refine h { s with heap := h' } ⟨I.ok, I.os, I.bare, ⟨fun b o e n hb hx => ?_, fun b o e n hb hx => ?_, I.base.free, fun b o e hx => ?_, I.base.tups, I.base.frzs, I.base.tbls⟩, ⟨m, hn.sameBut hs (Ne.symm (cne x c hc)), fun j y v' e1 e2 e3 => ?_⟩, fun y c' e => ?_, I.free, I.freeC, fun p hp => ?_, tracked ⟨oc, hoc, I.freeC x c hc⟩ hs, by simpa using I.len⟩ ⟨c, hs, .inr hc⟩
  ·exact (hs.2 b (Sn (Sl (Heap.lt_size e) (I.ok.cab x c hfn hc)))).trans (I.base.keep b o e n hb hx)
  ·obtain ⟨sl, e1⟩ := I.base.slot b o e n hb hx
   exact ⟨sl, (hs.2 b (Sn (Sl (Heap.lt_size e) (I.ok.cab x c hfn hc)))).trans e1⟩
  ·obtain ⟨o', e1⟩ := I.base.there b o e hx
   exact ⟨o', (hs.2 b (Sn (Sl (Heap.lt_size e) (I.ok.cab x c hfn hc)))).trans e1⟩
  ·by_cases hj : j = i
   ·subst hj
    rw [hi] at e1; cases e1
    rw [SG hiσ] at e2
    cases e2
    exact ⟨u, r, .inr ⟨.inl hk, c, hc, hc'⟩⟩
   ·rw [SH (Ne.symm hj)] at e2
    obtain ⟨u', r', q⟩ := hl j y v' e1 e2 e3
    refine ⟨u', r', ?_⟩
    rcases q with q | ⟨k, c', e, z'⟩
    ·exact .inl q
    ·refine .inr ⟨k, c', e, z'.sameBut hs ?_⟩
     rintro rfl
     exact hj (IY hN e1 (I.ok.inj _ _ _ e hc ▸ hi))
  ·by_cases hcc : c' = c
   ·subst hcc; exact ⟨_, hc'⟩
   ·obtain ⟨w2, z2⟩ := I.cell y c' e
    exact ⟨w2, z2.sameBut hs hcc⟩
  ·obtain ⟨e, n, ne, nf, d⟩ := I.pin p hp
   refine ⟨(hs.2 p.1 ?_).trans e, n, ne, nf, d⟩
   intro q
   rw [q, hoc] at e
   have q' : oc = p.2 := Sj.inj e
   exact d w' (by rw [← q']; exact hocd)
theorem E5 {M : Model} {A : Around} {E : Value → Shared → Prop} {i : Nat} {x : Str} {v : V} {u : Value} {Q : Unit → Shared → Prop} (I : Inv X pins σ H s) (hN : X.N.Nodup) (hi : X.N[i]? = some x) (hx : Loc X.env.scope x) (r : AR v u)
 (h : ∀ s', Inv X pins (σ.set i (some v)) H s' → Q () s') (hf : X.fn x = true ∨ X.env.scope.names.lookup x = some .local := by first | exact .inl rfl | exact .inr rfl | assumption) : wpAny M A (storeName X.env x u) Q E s :=
 GH I hN hi hx r (fun s' I' _ => h s' I') hf
theorem Inv.call' {s' : Shared} {ch : List Addr} (I : Inv X pins σ H s) (ho : s'.os = s.os) (u : Un (frs X.stack) ch H H' s.heap s'.heap) (hok : HOk X.prog X.w H' s'.heap) (hg : AllBare s'.gens)
 (hch : ∀ b ∈ ch, (b ∈ X.ex ∨ X.s₀.heap.objs.size ≤ b) ∧ b ≠ X.env.locals ∧ (∀ x c, X.env.cells.lookup x = some c → c ≠ b) ∧ ∀ p ∈ X.pn ++ pins, p.1 ≠ b) : Inv X pins σ H' s' := by
 obtain ⟨h', g', d', t', o'⟩ := s'
 have e : o' = s.os := ho
 subst e
 exact I.call (g' := g') (t' := t') (d' := d') u hok hg hch
end
abbrev XK := Value → Option Addr → Hp → Prop
abbrev St := List (Option V)
abbrev VK := V → Hp → Prop
abbrev TE := St → Hp → VK → Prop
abbrev TT := St → Hp → (Bool → Hp → Prop) → Prop
abbrev TA := St → Hp → (List V → Hp → Prop) → Prop
structure Dp where
 nx : St → Hp → Prop
 rt : VK
 bk : St → Hp → Prop := fun _ _ => False
 ct : St → Hp → Prop := fun _ _ => False
abbrev TS := Dp → St → Hp → Prop
inductive EP (X : Cx) (pins : List (Addr × Obj)) (σ : St) (Q : VK) (u : Value) (s' : Shared) : Prop
 | mk (v : _) (H' : _) (h1 : Inv X pins σ H' s') (h2 : AR v u) (h3 : Q v H') : EP X pins σ Q u s'
def TP (X : Cx) (pins : List (Addr × Obj)) (σ : St) (Q : Bool → Hp → Prop) (b : Bool) (s' : Shared) : Prop := ∃ H', Inv X pins σ H' s' ∧ Q b H'
inductive AP (X : Cx) (pins : List (Addr × Obj)) (σ : St) (Q : List V → Hp → Prop) (us : List Value) (s' : Shared) : Prop
 | mk (vs : _) (H' : _) (h1 : Inv X pins σ H' s') (h2 : AG vs us) (h3 : Q vs H') : AP X pins σ Q us s'
def SP (X : Cx) (pins : List (Addr × Obj)) (D : Dp) (f : Flow) (s' : Shared) : Prop :=
 match f with
 | .next => ∃ σ' H', Inv X pins σ' H' s' ∧ D.nx σ' H'
 | .brk => ∃ σ' H', Inv X pins σ' H' s' ∧ D.bk σ' H'
 | .cont => ∃ σ' H', Inv X pins σ' H' s' ∧ D.ct σ' H'
 | .ret u => ∃ v σ' H', Inv X pins σ' H' s' ∧ AR v u ∧ D.rt v H'
def PE (X : Cx) (e : Expr) (t : TE) : Prop :=
 ∀ (pins : List (Addr × Obj)) (s : Shared) (σ : St) (H : Hp) (Q : VK), Inv X pins σ H s → t σ H Q → wpAny (model X.prog X.w) X.A (eval e X.env) (EP X pins σ Q) X.xe s
def PT (X : Cx) (e : Expr) (t : TT) : Prop :=
 ∀ (pins : List (Addr × Obj)) (s : Shared) (σ : St) (H : Hp) (Q : Bool → Hp → Prop), Inv X pins σ H s → t σ H Q → wpAny (model X.prog X.w) X.A (isTrue e X.env (eval e X.env)) (TP X pins σ Q) X.xe s
def PW (X : Cx) (e : Expr) (t : TT) : Prop :=
 ∀ (whole : Sem Value) (pins : List (Addr × Obj)) (s : Shared) (σ : St) (H : Hp) (Q : Bool → Hp → Prop), Inv X pins σ H s → t σ H Q → wpAny (model X.prog X.w) X.A (isTrue e X.env whole) (TP X pins σ Q) X.xe s
theorem PW.pt {X : Cx} {e : Expr} {t : TT} (h : PW X e t) : PT X e t := h _
def PA (X : Cx) (es : List Expr) (t : TA) : Prop :=
 ∀ (pos : Pos) (pins : List (Addr × Obj)) (s : Shared) (σ : St) (H : Hp) (Q : List V → Hp → Prop), Inv X pins σ H s → t σ H Q → wpAny (model X.prog X.w) X.A (spliced (backTo pos (starEach es X.env))) (AP X pins σ Q) X.xe s
def PS (X : Cx) (st : Stmt) (t : TS) : Prop :=
 ∀ (pins : List (Addr × Obj)) (s : Shared) (σ : St) (H : Hp) (D : Dp), Inv X pins σ H s → t D σ H → wpAny (model X.prog X.w) X.A (exec st X.env) (SP X pins D) X.xe s
def PSs (X : Cx) (st : List Stmt) (t : TS) : Prop :=
 ∀ (pins : List (Addr × Obj)) (s : Shared) (σ : St) (H : Hp) (D : Dp), Inv X pins σ H s → t D σ H → wpAny (model X.prog X.w) X.A (execs st X.env) (SP X pins D) X.xe s
theorem thn {α : Type} {t : Sem α} {Q Q' : α → Shared → Prop} {M : Model} {A : Around} {E : Value → Shared → Prop} {s : Shared} (h : wpAny M A t Q E s) (hQ : ∀ a s, Q a s → Q' a s) : wpAny M A t Q' E s := wpAny_mono h hQ fun _ _ x => x
end L2
namespace L2
open PySem PySem.Spec PyProof.Rows
section
variable {X : Cx}
inductive LG (i : Nat) (σ : St) (H : Hp) (Q : VK) : Prop
 | mk (v : _) (h1 : σ[i]? = some (some v)) (h2 : Q v H) : LG i σ H Q
def tC (v : V) : TE := fun _ H Q => Q v H
theorem Oy {i : Nat} {x : Str} {pos : Pos} (hN : X.N[i]? = some x) (hv : Vis X.env.scope x) (hd : (x == ("__debug__" : Str)) = false := by decide) (hcd : (x == ("__classdict__" : Str)) = false := by decide) : PE X (.Name x pos) (LG i) := by
 intro pins s σ H Q I h
 obtain ⟨v, e, h⟩ := h
 obtain ⟨m, hn, hl⟩ := I.loc
 obtain ⟨u, r, l⟩ := hl i x v hN e hv
 have fin : EP X pins σ Q u s := ⟨v, H, I, r, h⟩
 rcases l with ⟨hk, hm⟩ | ⟨hk, c, hc, hcell⟩
 ·exact wpAny_Name (wpAny_loadName_local I.ok.kind hk hn hm fin) hd
 ·rcases hk with hk | hk
  ·exact wpAny_Name (wpAny_loadName_cell I.ok.kind hk hc hcell fin) hd
  ·exact wpAny_Name (wpAny_loadName_free I.ok.kind hk hc hcell fin hcd) hd
theorem Ac {i j pos} : PE X (.Constant (.int i) j pos) (tC (.int i)) := fun _ _ _ H _ I h => wpAny_Constant_int ⟨.int i, H, I.tok _, ⟨_, rfl⟩, h⟩
theorem IJ {b j pos} : PE X (.Constant (.bool b) j pos) (tC (.bl b)) := fun _ _ _ H _ I h => Constant_bool ⟨.bl b, H, I, rfl, h⟩
def Gl (X : Cx) (x : Str) : Prop := X.env.kindOf x = some .globalImplicit
theorem Kf {E : Value → Shared → Prop} {pins : List (Addr × Obj)} {s : Shared} {σ : St} {H : Hp} {x : Str} {u : Value} {pos : Pos} {Q : Value → Shared → Prop} (I : Inv X pins σ H s) (hg : Gl X x) (hm : X.mg x = some u) (h : Q u s)
 (hd : (x == ("__debug__" : Str)) = false := by decide) : wpAny (model X.prog X.w) X.A (eval (.Name x pos) X.env) Q E s :=
 Calls.Name_function_global I.ok.kind hg (Calls.loadGlobal_global (by rw [I.ok.glob]; exact I.mod.glob.keeps I.bk) hm h) hd
theorem Di {E : Value → Shared → Prop} {pins : List (Addr × Obj)} {s : Shared} {σ : St} {H : Hp} {x : Str} {u : Value} {pos : Pos} {Q : Value → Shared → Prop} (I : Inv X pins σ H s) (hg : Gl X x) (hm : X.mg x = none) (hv : bootBuiltins x = some u) (h : Q u s)
 (hn : x ≠ "__name__" := by decide) (hd : (x == ("__debug__" : Str)) = false := by decide) : wpAny (model X.prog X.w) X.A (eval (.Name x pos) X.env) Q E s := by
 obtain ⟨mb, h1, h2⟩ := I.mod.blt
 exact Calls.Name_function_global I.ok.kind hg (Calls.loadGlobal_builtin (by rw [I.ok.glob]; exact I.mod.glob.keeps I.bk) hm (by rw [I.ok.blt]; exact h1.keeps I.bk) ((h2 x hn).trans hv) h) hd
theorem DN {x : Str} {v : V} {u : Value} {pos : Pos} (hg : Gl X x) (hm : X.mg x = some u) (r : AR v u) (hd : (x == ("__debug__" : Str)) = false := by decide) : PE X (.Name x pos) (tC v) :=
 fun _ _ _ H _ I h => Kf I hg hm ⟨v, H, I, r, h⟩ hd
variable {a b : Expr} {ta tb : TE} {pos : Pos}
def tB (t : TE) : TT := fun σ H Q => t σ H fun x H1 => ∃ c, x = .bl c ∧ Q c H1
theorem HE {e : Expr} {t : TE} (h : PE X e t) (he : ∀ whole, isTrue e X.env whole = (do let v ← whole; standAt e.pos; holding [v] (truthy v)) := by intro _; rfl) : PT X e (tB t) := by
 intro pins s σ H Q I hw
 refine isTrue_plain (thn (h pins s σ H _ I hw) fun v s1 ⟨x, H1, I1, r1, q1⟩ => ?_) (he _)
 obtain ⟨d, rfl, q⟩ := q1
 cases r1
 exact wpAny_truthy_bool ⟨H1, I1, q⟩
variable {tA tB' : TT} {Cr : List Expr}
def Qc (t u : TT) : TT := fun σ H Q => t σ H fun c H1 => if c = true then u σ H1 Q else Q false H1
def tOr (t u : TT) : TT := fun σ H Q => t σ H fun c H1 => if c = true then Q true H1 else u σ H1 Q
def Qa (t : TT) : TT := fun σ H Q => t σ H fun c H1 => Q (!c) H1
theorem HC (ha : PT X a tA) : PW X (.BoolOp .And [a] pos) tA := by
 intro wh pins s σ H Q I h
 refine isTrue_and (thn (ha pins s σ H Q I h) fun c s1 e => ?_)
 cases c with
 | true => exact isTrue_and_nil e
 | false => exact e
theorem JB (ha : PT X a tA) : PW X (.BoolOp .Or [a] pos) tA := by
 intro wh pins s σ H Q I h
 refine isTrue_or (thn (ha pins s σ H Q I h) fun c s1 e => ?_)
 cases c with
 | false => exact isTrue_or_nil e
 | true => exact e
theorem JC (ha : PT X a tA) (hb : PW X (.BoolOp .And (b :: Cr) pos) tB') : PW X (.BoolOp .And (a :: b :: Cr) pos) (Qc tA tB') := by
 intro wh pins s σ H Q I h
 refine isTrue_and (thn (ha pins s σ H _ I h) fun c s1 ⟨H1, I1, q1⟩ => ?_)
 cases c with
 | true => exact hb wh pins s1 σ H1 Q I1 q1
 | false => exact ⟨H1, I1, q1⟩
theorem M0 (ha : PT X a tA) (hb : PW X (.BoolOp .Or (b :: Cr) pos) tB') : PW X (.BoolOp .Or (a :: b :: Cr) pos) (tOr tA tB') := by
 intro wh pins s σ H Q I h
 refine isTrue_or (thn (ha pins s σ H _ I h) fun c s1 ⟨H1, I1, q1⟩ => ?_)
 cases c with
 | true => exact ⟨H1, I1, q1⟩
 | false => exact hb wh pins s1 σ H1 Q I1 q1
theorem HH (ha : PT X a tA) : PT X (.UnaryOp .Not a pos) (Qa tA) := by
 intro pins s σ H Q I h
 exact isTrue_not (ha pins s σ H (fun c H1 => Q (!c) H1) I h)
def Pq (ta tb : TE) : TE := fun σ H Q => ta σ H fun x H1 => ∃ c, x = .bl c ∧ if c = true then tb σ H1 Q else Q (.bl false) H1
theorem Ma {op} {t : TE} (h : PE X a t) : PE X (.BoolOp op [a] pos) t := fun pins s σ H Q I hw => BoolOp_one (h pins s σ H Q I hw)
theorem Mc (ha : PE X a ta) (hb : PE X (.BoolOp .And (b :: Cr) pos) tb) : PE X (.BoolOp .And (a :: b :: Cr) pos) (Pq ta tb) := by
 intro pins s σ H Q I h
 refine BoolOp_and (thn (ha pins s σ H _ I h) fun v s1 ⟨x, H1, I1, r1, q1⟩ => ?_)
 obtain ⟨c, rfl, q1⟩ := q1
 cases r1
 refine wpAny_truthy_bool ?_
 cases c with
 | true => exact hb pins s1 σ H1 Q I1 q1
 | false => exact ⟨.bl false, H1, I1, rfl, q1⟩
def tIf (t : TT) (ta tb : TE) : TE := fun σ H Q => t σ H fun c H1 => if c = true then ta σ H1 Q else tb σ H1 Q
theorem FJ {c : Expr} (hc : PT X c tA) (ha : PE X a ta) (hb : PE X b tb) : PE X (.IfExp c a b pos) (tIf tA ta tb) := by
 intro pins s σ H Q I h
 refine wpAny_IfExp (thn (hc pins s σ H _ I h) fun d s1 ⟨H1, I1, q1⟩ => ?_)
 cases d with
 | true => exact ha pins s1 σ H1 Q I1 q1
 | false => exact hb pins s1 σ H1 Q I1 q1
end
end L2
namespace L2
open PySem PySem.Spec PyProof.Rows
def SqL (K : Su) (H : Hp) (a : Addr) (xs : List V) : Prop :=
 Rd H a (.lst xs) ∨
  ∃ (o : Obj) (its : Array Value) (n : Nat), K.lookup a = some o ∧ o.cls = .type "list" ∧ o.dict = none ∧ o.data = .seq its n ∧ its.size ≤ sizeLine ∧ AG xs its.toList
def SqT (K : Su) (H : Hp) (a : Addr) (xs : List V) : Prop :=
 Rd H a (.tup xs) ∨
  ∃ (o : Obj) (its : Array Value) (n : Nat), K.lookup a = some o ∧ o.cls = .type "tuple" ∧ o.data = .seq its n ∧ its.size ≤ sizeLine ∧ AG xs its.toList
def Lq : Value → Option V
 | .none => some .non
 | .bool b => some (.bl b)
 | .int i _ => some (.int i)
 | .str x _ => some (.str x)
 | .bytes b _ => some (.byt b)
 | .float b _ => some (.flt b)
 | .ref a => some (.ref a)
 | .type n => some (.ty n)
 | _ => none
theorem AR.abs {x : V} {u : Value} (r : AR x u) : Lq u = some x := by
 cases x with
 | non => cases r; rfl
 | bl _ => cases r; rfl
 | int _ => obtain ⟨t, rfl⟩ := r; rfl
 | str _ => obtain ⟨t, rfl⟩ := r; rfl
 | byt _ => obtain ⟨t, rfl⟩ := r; rfl
 | flt _ => obtain ⟨t, rfl⟩ := r; rfl
 | ref _ => cases r; rfl
 | ty _ => cases r; rfl
theorem AR.inj {x y : V} {u : Value} (r : AR x u) (q : AR y u) : x = y := Sj.inj (r.abs.symm.trans q.abs)
theorem AG.inj {xs ys : List V} {us : List Value} (a : AG xs us) (b : AG ys us) : xs = ys := by
 induction a generalizing ys with
 | nil => cases b; rfl
 | cons r t ih => cases b with | cons r' t' => rw [r.inj r', ih t']
section
variable {X : Cx} {pins : List (Addr × Obj)} {σ : St} {H : Hp} {s : Shared} {a : Addr} {xs ys : List V}
theorem SqL.of {K : Su} (h : H a = some (.lst xs)) : SqL K H a xs := .inl (.inl h)
theorem SqT.of {K : Su} (h : H a = some (.tup xs)) : SqT K H a xs := .inl (.inl h)
theorem Inv.list (I : Inv X pins σ H s) (h : SqL X.K H a xs) : ∃ its : List Value, AG xs its ∧ PlainL s.heap a its.toArray ∧ xs.length ≤ sizeLine := by
 rcases h with h | ⟨o, its, n, hk, hc, hd, hs, hz, r⟩
 ·obtain ⟨z, its, n, r, e⟩ := h.ok I.hok
  exact ⟨its, r, ⟨_, n, e, rfl, rfl, rfl⟩, z⟩
 ·refine ⟨its.toList, r, ⟨o, n, I.kIn a o hk, hc, hd, by simpa using hs⟩, ?_⟩
  have e := r.length
  simp only [SI] at e
  lia
theorem Inv.tuple (I : Inv X pins σ H s) (h : SqT X.K H a xs) : ∃ its : List Value, AG xs its ∧ IsTup s.heap a its.toArray ∧ xs.length ≤ sizeLine := by
 rcases h with h | ⟨o, its, n, hk, hc, hs, hz, r⟩
 ·obtain ⟨z, its, r, p⟩ := h.ok I.hok
  exact ⟨its, r, p, z⟩
 ·refine ⟨its.toList, r, ⟨o, I.kIn a o hk, hc, n, by simpa using hs⟩, ?_⟩
  have e := r.length
  simp only [SI] at e
  lia
theorem Inv.list_inj (I : Inv X pins σ H s) (h : SqL X.K H a xs) (h' : SqL X.K H a ys) : xs = ys := by
 obtain ⟨its, r, ⟨o, n, e, _, _, d⟩, _⟩ := I.list h
 obtain ⟨its', r', ⟨o', n', e', _, _, d'⟩, _⟩ := I.list h'
 rw [e] at e'; cases e'
 rw [d] at d'
 injection d' with d1 _
 have : its = its' := by simpa using congrArg Array.toList d1
 subst this
 exact r.inj r'
theorem Inv.tuple_inj (I : Inv X pins σ H s) (h : SqT X.K H a xs) (h' : SqT X.K H a ys) : xs = ys := by
 obtain ⟨its, r, ⟨o, e, _, n, d⟩, _⟩ := I.tuple h
 obtain ⟨its', r', ⟨o', e', _, n', d'⟩, _⟩ := I.tuple h'
 rw [e] at e'; cases e'
 rw [d] at d'
 injection d' with d1 _
 have : its = its' := by simpa using congrArg Array.toList d1
 subst this
 exact r.inj r'
end
abbrev Cx.wish (X : Cx) (E : Value → Shared → Prop) : Cx := { X with xe := E }
abbrev Cx.nox (X : Cx) : Cx := X.wish fun _ _ => False
theorem Cx.Ok.wish {X : Cx} (ok : X.Ok) (E : Value → Shared → Prop) : (X.wish E).Ok :=
 ⟨ok.mod, ok.kind, ok.glob, ok.blt, ok.above, ok.inj, ok.has, ok.cab, ok.hd, ok.frames, ok.stk, ok.exf, ok.bs, ok.bsz, ok.noex, ok.exfs, ok.funs, ok.frf⟩
theorem Cx.Ok.unwish {X : Cx} {E : Value → Shared → Prop} (ok : (X.wish E).Ok) : X.Ok :=
 ⟨ok.mod, ok.kind, ok.glob, ok.blt, ok.above, ok.inj, ok.has, ok.cab, ok.hd, ok.frames, ok.stk, ok.exf, ok.bs, ok.bsz, ok.noex, ok.exfs, ok.funs, ok.frf⟩
section
variable {X : Cx} {pins : List (Addr × Obj)} {σ : St} {H : Hp} {s : Shared} {E : Value → Shared → Prop}
theorem Inv.wish (I : Inv X pins σ H s) (E : Value → Shared → Prop) : Inv (X.wish E) pins σ H s := ⟨I.ok.wish E, I.os, I.bare, I.base, I.loc, I.cell, I.free, I.freeC, I.pin, I.hok, I.len⟩
theorem Inv.unwish (I : Inv (X.wish E) pins σ H s) : Inv X pins σ H s := ⟨I.ok.unwish, I.os, I.bare, I.base, I.loc, I.cell, I.free, I.freeC, I.pin, I.hok, I.len⟩
theorem SP.unwish {D : Dp} {f : Flow} {s' : Shared} (h : SP (X.wish E) pins D f s') : SP X pins D f s' := by
 cases f with
 | next => obtain ⟨σ', H', I, q⟩ := h; exact ⟨σ', H', I.unwish, q⟩
 | brk => obtain ⟨σ', H', I, q⟩ := h; exact ⟨σ', H', I.unwish, q⟩
 | cont => obtain ⟨σ', H', I, q⟩ := h; exact ⟨σ', H', I.unwish, q⟩
 | ret u => obtain ⟨v, σ', H', I, r, q⟩ := h; exact ⟨v, σ', H', I.unwish, r, q⟩
theorem PSs.nox {st : List Stmt} {t : TS} (h : PSs X.nox st t) : PSs X st t := fun pins s σ H D I hw =>
 wpAny_mono (h pins s σ H D (I.wish _) hw) (fun _ _ q => q.unwish) fun _ _ z => False.elim z
end
section
variable {X : Cx} {st : Stmt} {Cr : List Stmt} {t u : TS} {e : Expr} {te : TE} {pos : Pos}
def Pm : TS := fun D σ H => D.nx σ H
@[reducible] def Dp.to (D : Dp) (n : St → Hp → Prop) : Dp := { D with nx := n }
def Pj (t u : TS) : TS := fun D σ H => t (D.to (u D)) σ H
theorem AY : PSs X [] Pm := fun _ _ σ H _ I h => wpAny_execs_nil ⟨σ, H, I, h⟩
theorem M4 (h1 : PS X st t) (h2 : PSs X Cr u) : PSs X (st :: Cr) (Pj t u) := by
 intro pins s σ H D I h
 refine wpAny_execs_cons (thn (h1 pins s σ H { D with nx := u D } I h) fun f s1 q => ?_)
 cases f with
 | next =>
   obtain ⟨σ', H', I', q⟩ := q
   exact h2 pins s1 σ' H' D I' q
 | ret v => exact q
 | brk => exact q
 | cont => exact q
theorem Ag (h1 : PS X st t) : PSs X [st] t := by
 intro pins s σ H D I h
 refine wpAny_execs_cons (thn (h1 pins s σ H D I h) fun f s1 q => ?_)
 cases f with
 | next => exact wpAny_execs_nil q
 | ret v => exact q
 | brk => exact q
 | cont => exact q
theorem Inv.quiet {pins : List (Addr × Obj)} {σ : St} {H : Hp} {s : Shared} (I : Inv X pins σ H s) : interactive X.env = false := by simp [interactive, I.ok.kind]
def Pp (te : TE) : TS := fun D σ H => te σ H fun _ H1 => D.nx σ H1
theorem CI (he : PE X e te) (hs : swapsWith e none pos.line X.env = pure false := by rfl) : PS X (.Expr e pos) (Pp te) := by
 intro pins s σ H D I h
 exact wpAny_Expr_any (thn (he pins s σ H _ I h) fun v s1 ⟨x, H1, I1, r1, q1⟩ => ⟨σ, H1, I1, q1⟩) I.quiet hs
def Q8 (te : TE) : TS := fun D σ H => te σ H D.rt
theorem As (he : PE X e te) : PS X (.Return (some e) pos) (Q8 te) := by
 intro pins s σ H D I h
 exact wpAny_Return_some (thn (he pins s σ H _ I h) fun v s1 ⟨x, H1, I1, r1, q1⟩ => ⟨x, σ, H1, I1, r1, q1⟩)
def Po (c : TT) (t u : TS) : TS := fun D σ H => c σ H fun b H1 => if b = true then t D σ H1 else u D σ H1
theorem Pz {c : Expr} {a b : List Stmt} {tc : TT} (hc : PT X c tc) (ha : PSs X a t) (hb : PSs X b u) : PS X (.If c a b pos) (Po tc t u) := by
 intro pins s σ H D I h
 refine wpAny_If (thn (hc pins s σ H _ I h) fun d s1 ⟨H1, I1, q1⟩ => ?_)
 cases d with
 | true => exact ha pins s1 σ H1 D I1 q1
 | false => exact hb pins s1 σ H1 D I1 q1
def Oe : TS := fun _ _ _ => False
theorem Ci : PS X st Oe := fun _ _ _ _ _ _ h => h.elim
end
abbrev TG := V → St → Hp → (St → Hp → Prop) → Prop
abbrev TGs := List V → St → Hp → (St → Hp → Prop) → Prop
def PG (X : Cx) (target : Expr) (t : TG) : Prop :=
 ∀ (pins : List (Addr × Obj)) (s : Shared) (σ : St) (H : Hp) (v : V) (u : Value) (Q : St → Hp → Prop), Inv X pins σ H s → AR v u → t v σ H Q →
   wpAny (model X.prog X.w) X.A (assign target X.env u) (fun _ s' => ∃ σ' H', Inv X pins σ' H' s' ∧ Q σ' H') X.xe s
def PGs (X : Cx) (ts : List Expr) (t : TGs) : Prop :=
 ∀ (pins : List (Addr × Obj)) (s : Shared) (σ : St) (H : Hp) (vs : List V) (us : List Value) (Q : St → Hp → Prop), Inv X pins σ H s → AG vs us → t vs σ H Q →
   wpAny (model X.prog X.w) X.A (assignInOrder ((assignEach ts X.env).map (·.2)) us) (fun _ s' => ∃ σ' H', Inv X pins σ' H' s' ∧ Q σ' H') X.xe s
abbrev Pa := V → V → V → Hp → (Hp → Prop) → Prop
def Q3 (X : Cx) (t : Pa) : Prop :=
 ∀ (pins : List (Addr × Obj)) (s : Shared) (σ : St) (H : Hp) (o i v : V) (ov iv u : Value) (Q : Hp → Prop), Inv X pins σ H s → AR o ov → AR i iv → AR v u → t o i v H Q →
   wpAny (model X.prog X.w) X.A (setItem ov iv u) (fun _ s' => ∃ H', Inv X pins σ H' s' ∧ Q H') X.xe s
section
variable {X : Cx} {pos : Pos}
def Cy (i : Nat) : TG := fun v σ H Q => Q (σ.set i (some v)) H
theorem Ay {i : Nat} {x : Str} (hN : X.N.Nodup) (hi : X.N[i]? = some x) (hx : Loc X.env.scope x) (hf : X.fn x = true ∨ X.env.scope.names.lookup x = some .local := by first | exact .inl rfl | exact .inr rfl | assumption) : PG X (.Name x pos) (Cy i) := by
 intro pins s σ H v u Q I r h
 exact wpAny_assign_Name (E5 I hN hi hx r (fun s' I' => ⟨_, H, I', h⟩) hf)
def NK : TGs := fun vs σ H Q => vs = [] ∧ Q σ H
inductive FZ (t : TG) (u : TGs) (vs : List V) (σ : St) (H : Hp) (Q : (St → Hp → Prop)) : Prop
 | mk (v : _) (r : _) (h1 : vs = v :: r) (h2 : t v σ H fun σ' H' => u r σ' H' Q) : FZ t u vs σ H Q
theorem HI : PGs X [] NK := by
 intro pins s σ H vs us Q I r h
 obtain ⟨e, h⟩ := h
 subst e
 cases r
 exact assignInOrder_nil ⟨σ, H, I, h⟩
theorem CW {e : Expr} {es : List Expr} {t : TG} {u : TGs} (h1 : PG X e t) (h2 : PGs X es u)
 (hs : (assignEach (e :: es) X.env).map (·.2) = assign e X.env :: (assignEach es X.env).map (·.2) := by rfl) : PGs X (e :: es) (FZ t u) := by
 intro pins s σ H vs us Q I r h
 obtain ⟨v, vr, e1, h⟩ := h
 subst e1
 cases r with
 | cons r rr =>
   rw [hs]
   refine assignInOrder_cons (thn (h1 pins s σ H _ _ _ I r h) fun _ s1 ⟨σ1, H1, I1, q1⟩ => ?_)
   exact h2 pins s1 σ1 H1 _ _ Q I1 rr q1
inductive Lk (K : Su) (n : Nat) (t : TGs) (v : V) (σ : St) (H : Hp) (Q : (St → Hp → Prop)) : Prop
 | mk (a : _) (xs : _) (h1 : v = .ref a) (h2 : SqT K H a xs) (h3 : xs.length = n) (h4 : t xs σ H Q) : Lk K n t v σ H Q
theorem Ox {es : List Expr} {k : Nat} {t : TGs} {n : Nat} (hc : X.calm = true) (h : PGs X es t)
 (hn : (assignEach es X.env).length = n := by rfl) (hst : (assignEach es X.env).findIdx? (·.1) = none := by rfl) : PG X (.Tuple es k pos) (Lk X.K n t) := by
 intro pins s σ H v u Q I r hw
 obtain ⟨a, xs, e1, hq, hl, hw⟩ := hw
 subst e1
 cases r
 obtain ⟨its, rv, ht, hz⟩ := I.tuple hq
 refine assign_Tuple_tuple (I.ok.hd hc) ht (by simp [hn, ← hl, rv.length]) hst fun h' hx => ?_
 have I1 : Inv X pins σ H { s with heap := h' } := I.kept (t' := s.toks) fun b o e => hx b o (Sn (Heap.lt_size e)) e
 exact h pins _ σ H xs _ Q I1 (by simpa using rv) hw
def Qh (to ti : TE) (t : Pa) : TG := fun v σ H Q => to σ H fun o H1 => ti σ H1 fun i H2 => t o i v H2 fun H3 => Q σ H3
theorem EC {o i : Expr} {to ti : TE} {t : Pa} (ho : PE X o to) (hi : PE X i ti) (hs : Q3 X t)
 (ha : ∀ v, assign (.Subscript o i pos) X.env v = (do
  let ov ← holding [v] (eval o X.env)
  let iv ← holding [v, ov] (eval i X.env)
  standAt pos
  holding [v, ov, iv] (setItem ov iv v)
  release [v, ov, iv] []) := by intro _; rfl) : PG X (.Subscript o i pos) (Qh to ti t) := by
 intro pins s σ H v u Q I r h
 rw [ha]
 refine wpAny_bind (wpAny_holding (thn (ho pins s σ H _ I h) fun ov s1 ⟨x, H1, I1, r1, q1⟩ => ?_))
 refine wpAny_bind (wpAny_holding (thn (hi pins s1 σ H1 _ I1 q1) fun iv s2 ⟨y, H2, I2, r2, q2⟩ => ?_))
 refine wpAny_bind (wpAny_standAt (wpAny_bind (wpAny_holding (thn (hs pins s2 σ H2 x y v ov iv u _ I2 r1 r2 r q2) fun _ s3 ⟨H3, I3, q3⟩ => ?_))))
 exact wpAny_release ⟨σ, H3, I3, q3⟩
def Oh (te : TE) (g : TG) : TS := fun D σ H => te σ H fun x H1 => g x σ H1 D.nx
theorem EB {tg e : Expr} {te : TE} {g : TG} (he : PE X e te) (hg : PG X tg g) (hs : swapsWithSole [tg] e pos.line X.env = pure false := by rfl) (hw : swappedStores [tg] e X.env = pure none := by rfl)
 (h1 : (assignEach [tg] X.env).map (·.2) = [assign tg X.env] := by rfl) : PS X (.Assign [tg] e pos) (Oh te g) := by
 intro pins s σ H D I h
 refine wpAny_Assign_stores (thn (he pins s σ H _ I h) fun v s1 ⟨x, H1, I1, r1, q1⟩ => ?_) hs hw
 rw [h1]
 exact thn (hg pins s1 σ H1 x v _ I1 r1 q1) fun _ s2 q => q
theorem Aj {i : Nat} {x : Str} {e : Expr} {te : TE} {pos' : Pos} (hN : X.N.Nodup) (hi : X.N[i]? = some x) (hx : Loc X.env.scope x) (he : PE X e te) (hs : swapsWith e (some (.Name x pos')) pos.line X.env = pure false := by rfl) (hf : X.fn x = true ∨ X.env.scope.names.lookup x = some .local := by first | exact .inl rfl | exact .inr rfl | assumption) :
 PS X (.Assign [.Name x pos'] e pos) (Oh te (Cy i)) := by
 intro pins s σ H D I h
 refine wpAny_Assign_Name (thn (he pins s σ H _ I h) fun v s1 ⟨y, H1, I1, r1, q1⟩ => ?_) hs
 exact E5 I1 hN hi hx r1 (fun s2 I2 => ⟨_, H1, I2, q1⟩) hf
def Q9 (i j : Nat) (ta : TA) : TS := fun D σ H => ta σ H fun vs H1 => ∃ v w, vs = [v, w] ∧ D.nx ((σ.set i (some v)).set j (some w)) H1
theorem Ot {i j : Nat} {x y : Str} {a b : Expr} {ta : TA} {px py pt : Pos} {kt k2 pt2} (hc : X.calm = true) (hN : X.N.Nodup) (hi : X.N[i]? = some x) (hj : X.N[j]? = some y) (hij : i ≠ j)
 (hx : X.env.scope.names.lookup x = some .local) (hy : X.env.scope.names.lookup y = some .local) (ha : PA X [a, b] ta)
 (hw : swappedStores [.Tuple [.Name x px, .Name y py] kt pt] (.Tuple [a, b] k2 pt2) X.env = pure (some [x, y]))
 (hs : swapsWithSole [.Tuple [.Name x px, .Name y py] kt pt] (.Tuple [a, b] k2 pt2) pos.line X.env = pure false := by rfl) :
 PS X (.Assign [.Tuple [.Name x px, .Name y py] kt pt] (.Tuple [a, b] k2 pt2) pos) (Q9 i j ta) := by
 intro pins s σ H D I h
 rw [exec_Assign_arm]
 refine wpAny_bind (wpAny_standAt ?_)
 rw [hs]
 refine wpAny_bind (wpAny_pure ?_)
 rw [if_neg (by decide)]
 refine wpAny_bind (Tuple_ (thn (ha _ pins s σ H _ I h) fun us s1 ⟨vs, H1, I1, r1, q1⟩ => ?_))
 obtain ⟨v, w, e1, q1⟩ := q1
 subst e1
 obtain ⟨u1, u2, rfl, rv, rw'⟩ : ∃ u1 u2, us = [u1, u2] ∧ AR v u1 ∧ AR w u2 := by
  cases r1 with
  | cons p q =>
    cases q with
    | cons p' q' =>
      cases q'
      exact ⟨_, _, rfl, p, p'⟩
 refine wpAny_newObj_type ?_ (by show 2 ≤ sizeLine; decide)
 have I2 : Inv X pins σ H1 { s1 with heap := s1.heap.push { cls := .type "tuple", data := .seq [u1, u2].toArray } } := I1.kept (t' := s1.toks) fun b o e => Heap.get?_push_of_some _ e
 rw [hw]
 refine wpAny_bind (wpAny_pure ?_)
 show wpAny (model X.prog X.w) X.A (do rule "assign.swapped-stores"; let items ← unpackItems (.ref s1.heap.objs.size) 2 none; assignInOrder [fun v => bindName X.env y v, fun v => bindName X.env x v] items.reverse; pure Flow.next) _ _ _
 refine wpAny_bind (wpAny_rule (wpAny_bind (unpackItems_tuple (items := #[u1, u2]) (I.ok.hd hc) (IsTup.new s1.heap _) fun h' hx' => ?_)))
 have I3 := I2.kept (h' := h') (t' := s1.toks) fun b o e => hx' b o (Sn (Heap.lt_size e)) e
 show wpAny _ _ (assignInOrder [fun v => bindName X.env y v, fun v => bindName X.env x v] [u2, u1] >>= fun _ => pure Flow.next) _ _ _
 refine wpAny_bind (assignInOrder_cons (wpAny_bindName (E5 I3 hN hj (.inl hy) rw' (fun s2 I4 => ?_) (.inr hy))))
 refine assignInOrder_cons (wpAny_bindName (E5 I4 hN hi (.inl hx) rv (fun s3 I5 => assignInOrder_nil (wpAny_pure ?_)) (.inr hx)))
 rw [List.set_comm _ _ (Ne.symm hij)] at I5
 exact ⟨_, H1, I5, q1⟩
end
section
variable {X : Cx} {pos : Pos}
def Jq (c : TT) (tb : TS) : TS := fun D σ H => ∃ W : Nat → St → Hp → Prop, (∃ m, W m σ H) ∧ ∀ m σ H, W m σ H →
 c σ H fun b H1 => if b = true then ∃ N : St → Hp → Prop, (∀ σ' H', N σ' H' → ∃ m', m' < m ∧ W m' σ' H') ∧ tb { D with nx := N, ct := N, bk := D.nx } σ H1 else D.nx σ H1
theorem Ed {c : Expr} {body : List Stmt} {tc : TT} {tb : TS} (hp : PassesOwn (model X.prog X.w) X.A X.env X.xe) (hc : PT X c tc) (hb : PSs X body tb) : PS X (.While c body [] pos) (Jq tc tb) := by
 intro pins s σ H D I h
 obtain ⟨W, ⟨m0, w0⟩, turn⟩ := h
 refine wpAny_While (codeAny_whileLoop (fun n s' => ∃ σ' H', Inv X pins σ' H' s' ∧ W n σ' H') ?_ m0 ⟨σ, H, I, w0⟩)
 rintro n s1 ⟨σ1, H1, I1, w1⟩
 refine wpAny_passesOwn hp (thn (hc pins s1 σ1 H1 _ I1 (turn n σ1 H1 w1)) fun b s2 ⟨H2, I2, q2⟩ => ?_)
 cases b with
 | true =>
   obtain ⟨N, hN, q2⟩ := q2
   rw [if_pos rfl]
   refine wpAny_passesOwn hp (thn (hb pins s2 σ1 H2 _ I2 q2) fun f s3 q3 => ?_)
   cases f with
   | next =>
     obtain ⟨σ3, H3, I3, n3⟩ := q3
     obtain ⟨m', hm, w3⟩ := hN σ3 H3 n3
     exact ⟨m', hm, σ3, H3, I3, w3⟩
   | cont =>
     obtain ⟨σ3, H3, I3, n3⟩ := q3
     obtain ⟨m', hm, w3⟩ := hN σ3 H3 n3
     exact ⟨m', hm, σ3, H3, I3, w3⟩
   | brk => exact q3
   | ret v => exact q3
 | false =>
   rw [if_neg Bool.false_ne_true]
   exact wpAny_execs_nil ⟨σ1, H2, I2, q2⟩
end
structure It where
 go : Nat → Hp → Prop
 yld : Nat → Hp → V → Hp → Prop
 stop : Nat → Hp → Prop
def DH (X : Cx) (pins : List (Addr × Obj)) (H : Hp) (b : Addr) : Prop :=
 H b = none ∧ b ≠ X.env.locals ∧ b ∉ X.fs ∧ (b ∈ X.ex ∨ X.s₀.heap.objs.size ≤ b) ∧ (∀ x c, X.env.cells.lookup x = some c → c ≠ b) ∧ ∀ p ∈ X.pn ++ pins, p.1 ≠ b
theorem Inv.fpOk {X : Cx} {pins : List (Addr × Obj)} {σ : St} {H H' : Hp} {s : Shared} {b : Addr} (I : Inv X pins σ H s) (hb : s.heap.objs.size ≤ b) (hn : H' b = none) : DH X pins H' b := by
 refine ⟨hn, SJ (Sl I.lt hb), I.nofs hb, .inr (Sv I.sz hb), fun x c e z => ?_, fun p hp z => ?_⟩
 ·obtain ⟨v, q⟩ := I.cell x c e
  exact absurd (Sl q.lt (by rw [z]; exact hb)) (Sm _)
 ·exact absurd (Sl (Heap.lt_size (I.pin p hp).1) (by rw [z]; exact hb)) (Sm _)
structure Ji (P : Program) (w : World) (K : Su) (tg : Expr) (J : It) (fp : List Addr) (it : Addr) (tn : Nat → Heap → Prop) : Prop where
 mem : it ∈ fp
 obj : ∀ i h, tn i h → ∀ b ∈ fp, ∃ o, h.get? b = some o ∧ ∀ v, o.data ≠ .cell v
 keep : ∀ i h h', tn i h → (∀ b ∈ fp, ∀ o, h.get? b = some o → h'.get? b = some o) → tn i h'
 item : ∀ (X : Cx), X.prog = P → X.w = w → X.K = K → X.calm = true → ∀ (i : Nat) (pins : List (Addr × Obj)) (s : Shared) (σ : St) (H : Hp) (E : Value → Shared → Prop), Inv X pins σ H s → (∀ b ∈ fp, DH X pins H b) → tn i s.heap → J.go i H →
  wpAny (model P w) X.A (pyNext (.ref it)) (fun r s1 => ∃ u, r = some u ∧
   wpAny (model P w) X.A (letOwnedTupleGo tg (.ref it) u) (fun _ s2 => ∃ x H', Inv X pins σ H' s2 ∧ AR x u ∧ J.yld i H x H' ∧ tn (i + 1) s2.heap ∧ ∀ b ∈ fp, H' b = none) E s1) E s
 done : ∀ (X : Cx), X.prog = P → X.w = w → X.K = K → X.calm = true → ∀ (i : Nat) (pins : List (Addr × Obj)) (s : Shared) (σ : St) (H : Hp) (E : Value → Shared → Prop), Inv X pins σ H s → (∀ b ∈ fp, DH X pins H b) → tn i s.heap → J.stop i H →
  wpAny (model P w) X.A (pyNext (.ref it)) (fun r s1 => r = none ∧ Inv X pins σ H s1) E s
 self : ∀ (A : Around) (i : Nat) (s : Shared) (Q : Value → Shared → Prop) (E : Value → Shared → Prop), tn i s.heap → Q (.ref it) s → wpAny (model P w) A (pyIter (.ref it)) Q E s
abbrev TI := St → Hp → (It → Hp → Prop) → Prop
def PIE (X : Cx) (pins : List (Addr × Obj)) (σ : St) (tg : Expr) (R : It → Hp → Prop) (itv : Value) (s2 : Shared) : Prop :=
 ∃ (it : Addr) (fp : List Addr) (tn : Nat → Heap → Prop) (J : It) (H' : Hp), itv = .ref it ∧ Inv X pins σ H' s2 ∧ Ji X.prog X.w X.K tg J fp it tn ∧ tn 0 s2.heap ∧ (∀ b ∈ fp, DH X pins H' b) ∧ R J H'
def PI (X : Cx) (tg iter : Expr) (wi : TI) : Prop :=
 ∀ (pins : List (Addr × Obj)) (s : Shared) (σ : St) (H : Hp) (R : It → Hp → Prop), Inv X pins σ H s → wi σ H R →
   wpAny (model X.prog X.w) X.A (eval iter X.env) (fun v s1 => wpAny (model X.prog X.w) X.A (pyIter v) (PIE X pins σ tg R) X.xe s1) X.xe s
theorem J6 {M : Model} {A : Around} {E : Value → Shared → Prop} {s : Shared} {tg : Expr} {it : Addr} {u : Value} {o : Obj} {n : String} {vs : Array Value} {Q : Unit → Shared → Prop} (ho : s.heap.get? it = some o) (hc : o.cls = .type n) (hd : o.data = .fields vs)
 (hn : ["enumerate", "zip", "dict_itemiterator", "dict_reverseitemiterator", "odict_iterator", "itertools.zip_longest", "itertools.pairwise"].contains n = false) (hQ : Q () s) : wpAny M A (letOwnedTupleGo tg (.ref it) u) Q E s := by
 unfold letOwnedTupleGo
 cases tg <;> first
  | exact wpAny_pure hQ
  | (cases u <;> first
   | exact wpAny_pure hQ
   | (refine wpAny_bind (wpAny_load ho ?_)
      rw [hc, hd]
      show wpAny M A (if (["enumerate", "zip", "dict_itemiterator", "dict_reverseitemiterator", "odict_iterator", "itertools.zip_longest", "itertools.pairwise"].contains n && vs[0]? == some (rawInt _)) = true then _ else _) Q E s
      rw [if_neg (by intro h; rw [hn, Bool.false_and] at h; cases h)]
      exact wpAny_pure hQ))
def Itl (K : Su) (a : Addr) : It :=
 ⟨fun i H => ∃ xs x, SqL K H a xs ∧ xs[i]? = some x, fun i H x H' => H' = H ∧ ∀ xs, SqL K H a xs → xs[i]? = some x, fun i H => ∃ xs, SqL K H a xs ∧ xs.length ≤ i⟩
def Itt (K : Su) (a : Addr) : It :=
 ⟨fun i H => ∃ xs x, SqT K H a xs ∧ xs[i]? = some x, fun i H x H' => H' = H ∧ ∀ xs, SqT K H a xs → xs[i]? = some x, fun i H => ∃ xs, SqT K H a xs ∧ xs.length ≤ i⟩
def Itr (lo : Int) (n : Nat) : It := ⟨fun i _ => i < n, fun i H x H' => H' = H ∧ x = .int (lo + i), fun i _ => n ≤ i⟩
theorem KC {P : Program} {w : World} {K : Su} {tg : Expr} (a it : Addr) : Ji P w K tg (Itl K a) [it] it (fun i h => h.IsListIter it a i) where
 mem := by simp
 obj := fun i h st b hb => by
  have e : b = it := by simpa using hb
  subst e
  obtain ⟨o, e, c, d⟩ := st
  exact ⟨o, e, fun v z => by rw [d] at z; cases z⟩
 keep := fun i h h' st k => st.at fun o e => k it (by simp) o e
 item := by
  intro X hP hw hK hc i pins s σ H E I hf st hg
  subst hP hw hK
  obtain ⟨xs, x, hq, hx⟩ := hg
  obtain ⟨its, rv, p, hz⟩ := I.list hq
  obtain ⟨u, hu, ru⟩ := rv.get hx
  obtain ⟨f0, f1, f2, f3, f4, f5⟩ := hf it (by simp)
  refine wpAny_pyNext_list_item st p.isList (x := u) (by simpa using hu) fun h' st' sb => ?_
  have I1 : Inv X pins σ H { s with heap := h' } := I.turned (t' := s.toks) (fun b o hb e => (sb.2 b hb).trans e) f0 f1 f3 f4 f5
  obtain ⟨o, e, c, d⟩ := id st'
  exact ⟨u, rfl, J6 (s := { s with heap := h' }) e c d (by decide) ⟨x, H, I1, ru, ⟨rfl, fun ys hy => by rw [I.list_inj hy hq]; exact hx⟩, st', fun b hb => (hf b hb).1⟩⟩
 done := by
  intro X hP hw hK hc i pins s σ H E I hf st hg
  subst hP hw hK
  obtain ⟨xs, hq, hx⟩ := hg
  obtain ⟨its, rv, p, hz⟩ := I.list hq
  obtain ⟨f0, f1, f2, f3, f4, f5⟩ := hf it (by simp)
  have hl := rv.length
  exact wpAny_pyNext_list_end (I.ok.hd hc) st p.isList (by simp; lia) fun h' eb => ⟨rfl, I.turned (t' := s.toks) (fun b o hb e => eb b o hb e) f0 f1 f3 f4 f5⟩
 self := fun _ _ _ _ _ st h => wpAny_pyIter_listiter st h
theorem Jm {P : Program} {w : World} {K : Su} {tg : Expr} (a it : Addr) : Ji P w K tg (Itt K a) [it] it (fun i h => h.IsTupleIter it a i) where
 mem := by simp
 obj := fun i h st b hb => by
  have e : b = it := by simpa using hb
  subst e
  obtain ⟨o, e, c, d⟩ := st
  exact ⟨o, e, fun v z => by rw [d] at z; cases z⟩
 keep := fun i h h' st k => st.at fun o e => k it (by simp) o e
 item := by
  intro X hP hw hK hc i pins s σ H E I hf st hg
  subst hP hw hK
  obtain ⟨xs, x, hq, hx⟩ := hg
  obtain ⟨its, rv, p, hz⟩ := I.tuple hq
  obtain ⟨u, hu, ru⟩ := rv.get hx
  obtain ⟨f0, f1, f2, f3, f4, f5⟩ := hf it (by simp)
  refine wpAny_pyNext_tuple_item st (show s.heap.IsTuple a its.toArray from p) (x := u) (by simpa using hu) fun h' st' sb => ?_
  have I1 : Inv X pins σ H { s with heap := h' } := I.turned (t' := s.toks) (fun b o hb e => (sb.2 b hb).trans e) f0 f1 f3 f4 f5
  obtain ⟨o, e, c, d⟩ := id st'
  exact ⟨u, rfl, J6 (s := { s with heap := h' }) e c d (by decide) ⟨x, H, I1, ru, ⟨rfl, fun ys hy => by rw [I.tuple_inj hy hq]; exact hx⟩, st', fun b hb => (hf b hb).1⟩⟩
 done := by
  intro X hP hw hK hc i pins s σ H E I hf st hg
  subst hP hw hK
  obtain ⟨xs, hq, hx⟩ := hg
  obtain ⟨its, rv, p, hz⟩ := I.tuple hq
  obtain ⟨f0, f1, f2, f3, f4, f5⟩ := hf it (by simp)
  have hl := rv.length
  exact wpAny_pyNext_tuple_end (I.ok.hd hc) st (show s.heap.IsTuple a its.toArray from p) (by simp; lia) fun h' eb => ⟨rfl, I.turned (t' := s.toks) (fun b o hb e => eb b o hb e) f0 f1 f3 f4 f5⟩
 self := fun _ _ _ _ _ st h => wpAny_pyIter_tupleiter st h
theorem Jn {P : Program} {w : World} {K : Su} {tg : Expr} (it : Addr) (lo : Int) (n : Nat) : Ji P w K tg (Itr lo n) [it] it (fun i h => IsRangeIter h it (lo + (i : Nat) * 1) ((n : Int) - (i : Nat)) 1) where
 mem := by simp
 obj := fun i h st b hb => by
  have e : b = it := by simpa using hb
  subst e
  exact ⟨_, st, fun v z => by
   have z' : Data.fields _ = Data.cell v := z
   cases z'⟩
 keep := fun i h h' st k => k it (by simp) _ st
 item := by
  intro X hP hw hK hc i pins s σ H E I hf st hg
  subst hP hw hK
  obtain ⟨f0, f1, f2, f3, f4, f5⟩ := hf it (by simp)
  have W := Walks.range (prog := X.prog) (w := X.w) (I.ok.hd hc) it lo 1 n
  refine W.item i s _ _ hg st fun v h' tk hv st' kk => ?_
  obtain ⟨t, rfl⟩ := hv
  have I1 : Inv X pins σ H { s with heap := h', toks := tk } := I.turned (fun b o hb e => kk b o (by simpa using hb) e) f0 f1 f3 f4 f5
  refine ⟨_, rfl, J6 (s := { s with heap := h', toks := tk }) (n := "range_iterator") st' rfl rfl (by decide) ⟨.int (lo + i), H, I1, ⟨t, ?_⟩, ⟨rfl, rfl⟩, st', fun b hb => (hf b hb).1⟩⟩
  rw [Int.mul_one]
 done := by
  intro X hP hw hK hc i pins s σ H E I hf st hg
  subst hP hw hK
  obtain ⟨f0, f1, f2, f3, f4, f5⟩ := hf it (by simp)
  exact wpAny_pyNext_range_end (I.ok.hd hc) st (by have : n ≤ i := hg; lia) fun h' eb => ⟨rfl, I.turned (t' := s.toks) (fun b o hb e => eb b o hb e) f0 f1 f3 f4 f5⟩
 self := fun _ _ _ _ _ st h => wpAny_pyIter_rangeiter st h
end L2
namespace L2
open PySem PySem.Spec PyProof.Rows
section
variable {X : Cx} {tg : Expr}
def My (K : Su) (tl : TE) : TI := fun σ H R => tl σ H fun x H1 => ∃ a, x = .ref a ∧ (∃ xs, SqL K H1 a xs) ∧ R (Itl K a) H1
def OX (K : Su) (tl : TE) : TI := fun σ H R => tl σ H fun x H1 => ∃ a, x = .ref a ∧ (∃ xs, SqT K H1 a xs) ∧ R (Itt K a) H1
theorem K8 {l : Expr} {tl : TE} (hl : PE X l tl) : PI X tg l (My X.K tl) := by
 intro pins s σ H R I h
 refine thn (hl pins s σ H _ I h) fun v s1 ⟨x, H1, I1, r1, q1⟩ => ?_
 obtain ⟨a, e, ⟨xs, hq⟩, q⟩ := q1
 subst e
 cases r1
 obtain ⟨its, rv, p, hz⟩ := I1.list hq
 refine wpAny_pyIter_list p.isList ?_
 refine ⟨s1.heap.objs.size, [s1.heap.objs.size], _, _, H1, rfl, I1.kept (t' := s1.toks) fun b o e => Heap.get?_push_of_some _ e, KC a _, ⟨_, Heap.get?_push_size _ rfl, rfl, rfl⟩, fun b hb => ?_, q⟩
 have e : b = s1.heap.objs.size := by simpa using hb
 subst e
 exact I1.fpOk (SK _) (I1.hok.fresh (SK _))
theorem M7 {l : Expr} {tl : TE} (hl : PE X l tl) : PI X tg l (OX X.K tl) := by
 intro pins s σ H R I h
 refine thn (hl pins s σ H _ I h) fun v s1 ⟨x, H1, I1, r1, q1⟩ => ?_
 obtain ⟨a, e, ⟨xs, hq⟩, q⟩ := q1
 subst e
 cases r1
 obtain ⟨its, rv, p, hz⟩ := I1.tuple hq
 refine wpAny_pyIter_tuple (show s1.heap.IsTuple a its.toArray from p) ?_
 refine ⟨s1.heap.objs.size, [s1.heap.objs.size], _, _, H1, rfl, I1.kept (t' := s1.toks) fun b o e => Heap.get?_push_of_some _ e, Jm a _, ⟨_, Heap.get?_push_size _ rfl, rfl, rfl⟩, fun b hb => ?_, q⟩
 have e : b = s1.heap.objs.size := by simpa using hb
 subst e
 exact I1.fpOk (SK _) (I1.hok.fresh (SK _))
theorem LX {pins : List (Addr × Obj)} {σ : St} {H : Hp} {s : Shared} {R : It → Hp → Prop} {E : Value → Shared → Prop} {lo hi : Int} {t u v : Tok} {tk : Nat} (I : Inv X pins σ H s) (h1 : -(2 ^ 62) ≤ lo) (h2 : lo < 2 ^ 62) (h3 : -(2 ^ 62) ≤ hi) (h4 : hi < 2 ^ 62)
 (q : R (Itr lo (hi - lo).toNat) H) : wpAny (model X.prog X.w) X.A (pyIter (.ref s.heap.objs.size)) (PIE X pins σ tg R) E { s with heap := s.heap.push { cls := .type "range", data := .fields #[.int lo t, .int hi u, .int 1 v] }, toks := tk } := by
 refine wpAny_pyIter_range (IsRange.new ..) (small_one h1 h2 h3 h4) ?_
 have I1 : Inv X pins σ H { s with heap := s.heap.push { cls := .type "range", data := .fields #[.int lo t, .int hi u, .int 1 v] }, toks := tk } := I.kept fun b o e => Heap.get?_push_of_some _ e
 refine ⟨(s.heap.push { cls := .type "range", data := .fields #[.int lo t, .int hi u, .int 1 v] }).objs.size, [(s.heap.push { cls := .type "range", data := .fields #[.int lo t, .int hi u, .int 1 v] }).objs.size], _, _, H, rfl,
  I1.kept (t' := tk) fun b o e => Heap.get?_push_of_some _ e, Jn _ lo (hi - lo).toNat, ?_, fun b hb => ?_, q⟩
 ·have e1 : lo + ((0 : Nat) : Int) * 1 = lo := by simp
  have e2 : (((hi - lo).toNat : Nat) : Int) - ((0 : Nat) : Int) = Builtin.Range.rangeSize lo hi 1 := by rw [rangeSize_one]; split <;> lia
  show IsRangeIter _ _ (lo + ((0 : Nat) : Int) * 1) ((((hi - lo).toNat : Nat) : Int) - ((0 : Nat) : Int)) 1
  rw [e1, e2]
  exact Heap.get?_push_size _ rfl
 ·have e : b = (s.heap.push { cls := .type "range", data := .fields #[.int lo t, .int hi u, .int 1 v] }).objs.size := by simpa using hb
  subst e
  exact I1.fpOk (SK _) (I1.hok.fresh (SK _))
def PR (ta : TA) : TI := fun σ H R => ta σ H fun vs H1 => ∃ j : Int, vs = [.int j] ∧ -(2 ^ 62) ≤ j ∧ j < 2 ^ 62 ∧ R (Itr 0 j.toNat) H1
theorem BQ {a : Expr} {ta : TA} {p pos : Pos} (hg : Gl X "range") (hm : X.mg "range" = none) (ha : PA X [a] ta) (hs : starEach [a] X.env = [(false, eval a X.env)] := by rfl) : PI X tg (.Call (.Name "range" p) [a] [] pos) (PR ta) := by
 intro pins s σ H R I h
 refine Call_ (Di I hg hm boot_range (PyProof.Rows.callWith_type1 (thn (ha pos pins s σ H _ I h) fun us s1 ⟨vs, H1, I1, r1, q1⟩ => ?_) hs rfl))
 obtain ⟨j, e, q1, q2, q⟩ := q1
 subst e
 cases r1 with
 | cons r rr =>
   cases rr
   obtain ⟨t, rfl⟩ := r
   exact call_range_1 (LX I1 (by lia) (by lia) q1 q2 (by simpa using q))
def Of (wi : TI) (g : TG) (tb : TS) : TS := fun D σ H => wi σ H fun J H1 => ∃ W : Nat → Nat → St → Hp → Prop, (∃ m, W 0 m σ H1) ∧ ∀ i m σ H, W i m σ H →
 (J.stop i H ∧ D.nx σ H) ∨ (J.go i H ∧ ∃ N : St → Hp → Prop, (∀ σ' H', N σ' H' → ∃ m', m' < m ∧ W (i + 1) m' σ' H') ∧ ∀ x H', J.yld i H x H' → g x σ H' fun σ2 H2 => tb { D with nx := N, ct := N, bk := D.nx } σ2 H2)
def FI (fp : List Addr) (h : Heap) : List (Addr × Obj) := fp.filterMap fun b => (h.get? b).map fun o => (b, o)
theorem Dh {fp : List Addr} {h : Heap} {b : Addr} {o : Obj} (hb : b ∈ fp) (e : h.get? b = some o) : (b, o) ∈ FI fp h := List.mem_filterMap.mpr ⟨b, hb, by rw [e]; rfl⟩
theorem KU {fp : List Addr} {h : Heap} {p : Addr × Obj} (hp : p ∈ FI fp h) : p.1 ∈ fp ∧ h.get? p.1 = some p.2 := by
 obtain ⟨b, hb, e⟩ := List.mem_filterMap.mp hp
 cases q : h.get? b with
 | none => rw [q] at e; cases e
 | some o =>
   rw [q] at e
   have e' : (b, o) = p := Sj.inj e
   subst e'
   exact ⟨hb, q⟩
theorem Inv.pinned {pins : List (Addr × Obj)} {σ : St} {H : Hp} {s : Shared} {fp : List Addr} (I : Inv X pins σ H s) (hf : ∀ b ∈ fp, DH X pins H b) (ho : ∀ b ∈ fp, ∃ o, s.heap.get? b = some o ∧ ∀ v, o.data ≠ .cell v) : Inv X (pins ++ FI fp s.heap) σ H s :=
 I.pins_of fun p hp => (SD.mp hp).elim (fun z => I.pin p (SM _ z)) fun z => by
  obtain ⟨hb, e⟩ := KU z
  obtain ⟨f0, f1, f2, _⟩ := hf p.1 hb
  obtain ⟨o, e', d⟩ := ho p.1 hb
  rw [e] at e'; cases e'
  exact ⟨e, f0, f1, f2, d⟩
theorem Inv.unpinned {pins pl : List (Addr × Obj)} {σ : St} {H : Hp} {s : Shared} (I : Inv X (pins ++ pl) σ H s) : Inv X pins σ H s := I.pins_of fun p hp => I.pin p (SM _ (SE _ hp))
theorem Ou {iter : Expr} {body : List Stmt} {wi : TI} {g : TG} {tb : TS} {pos : Pos} (hp : PassesOwn (model X.prog X.w) X.A X.env X.xe) (hc : X.calm = true) (hi : PI X tg iter wi) (hg : PG X tg g) (hb : PSs X body tb)
 (hs : ∀ x, foldedSetIterable iter X.env x = pure x := by intro _; rfl) : PS X (.For tg iter body [] pos) (Of wi g tb) := by
 intro pins s σ H D I h
 refine wpAny_For (thn (hi pins s σ H _ I h) fun v s1 h1 => thn h1 fun itv s2 h2 => ?_) hs
 obtain ⟨it, fp, tn, J, H2, e, I2, T, st2, f2, W, ⟨m0, w0⟩, turn⟩ := h2
 subst e
 -- what stays true of the iterator's objects through the loop
 have stat : ∀ {H' : Hp}, (∀ b ∈ fp, H' b = none) → ∀ b ∈ fp, DH X pins H' b := fun hn b hb => ⟨hn b hb, (f2 b hb).2⟩
 refine codeAny_forLoop_any (fun n s' => ∃ i σ' H', Inv X pins σ' H' s' ∧ tn i s'.heap ∧ (∀ b ∈ fp, H' b = none) ∧ W i n σ' H') ?_ m0 ⟨0, σ, H2, I2, st2, fun b hb => (f2 b hb).1, w0⟩
 rintro n s3 ⟨i, σ3, H3, I3, st3, fr3, w3⟩
 rcases turn i n σ3 H3 w3 with ⟨stop, qn⟩ | ⟨go, N, hN, step⟩
 ·refine wpAny_passesOwn hp (thn (T.done X rfl rfl rfl hc i pins s3 σ3 H3 X.xe I3 (stat fr3) st3 stop) fun r s4 ⟨hr, I4⟩ => ?_)
  subst hr
  exact wpAny_execs_nil ⟨σ3, H3, I4, qn⟩
 ·refine wpAny_passesOwn hp (thn (T.item X rfl rfl rfl hc i pins s3 σ3 H3 X.xe I3 (stat fr3) st3 go) fun r s4 ⟨u, hr, h4⟩ => ?_)
  subst hr
  refine wpAny_passesOwn hp (thn h4 fun _ s5 ⟨x, H5, I5, r5, y5, st5, fr5⟩ => ?_)
  have I5' := I5.pinned (stat fr5) (T.obj _ _ st5)
  refine wpAny_passesOwn hp (thn (hg _ s5 σ3 H5 x u _ I5' r5 (step x H5 y5)) fun _ s6 ⟨σ6, H6, I6, q6⟩ => ?_)
  refine wpAny_passesOwn hp (thn (hb _ s6 σ6 H6 _ I6 q6) fun f s7 q7 => ?_)
  have again : ∀ {σ7 : St} {H7 : Hp}, Inv X (pins ++ FI fp s5.heap) σ7 H7 s7 → N σ7 H7 → ∃ m, m < n ∧ ∃ i σ' H', Inv X pins σ' H' s7 ∧ tn i s7.heap ∧ (∀ b ∈ fp, H' b = none) ∧ W i m σ' H' := fun {σ7 H7} I7 n7 => by
   obtain ⟨m', hm, w7⟩ := hN σ7 H7 n7
   refine ⟨m', hm, i + 1, σ7, H7, I7.unpinned, T.keep _ _ _ st5 fun b hb o e => (I7.pin (b, o) (SM _ (SM _ (Dh hb e)))).1, fun b hb => ?_, w7⟩
   obtain ⟨o, e, d⟩ := T.obj _ _ st5 b hb
   exact (I7.pin (b, o) (SM _ (SM _ (Dh hb e)))).2.1
  cases f with
  | next => obtain ⟨σ7, H7, I7, n7⟩ := q7; exact again I7 n7
  | cont => obtain ⟨σ7, H7, I7, n7⟩ := q7; exact again I7 n7
  | brk => obtain ⟨σ7, H7, I7, q7⟩ := q7; exact ⟨σ7, H7, I7.unpinned, q7⟩
  | ret v => obtain ⟨x7, σ7, H7, I7, r7, q7⟩ := q7; exact ⟨x7, σ7, H7, I7.unpinned, r7, q7⟩
end
theorem Gd {K : Su} {a : Addr} {xs : List V} {g : TG} {tb : TS} {D : Dp} {σ : St} {H : Hp} (Pv : Nat → St → Hp → Prop) (h0 : Pv 0 σ H) (hl : ∀ i σ H, i ≤ xs.length → Pv i σ H → SqL K H a xs)
 (hs : ∀ i x σ H, xs[i]? = some x → Pv i σ H → g x σ H fun σ2 H2 => tb { D with nx := Pv (i + 1), ct := Pv (i + 1), bk := D.nx } σ2 H2) (hd : ∀ σ H, Pv xs.length σ H → D.nx σ H) :
 ∃ W : Nat → Nat → St → Hp → Prop, (∃ m, W 0 m σ H) ∧ ∀ i m σ H, W i m σ H →
   ((Itl K a).stop i H ∧ D.nx σ H) ∨ ((Itl K a).go i H ∧ ∃ N : St → Hp → Prop, (∀ σ' H', N σ' H' → ∃ m', m' < m ∧ W (i + 1) m' σ' H') ∧ ∀ x H', (Itl K a).yld i H x H' → g x σ H' fun σ2 H2 => tb { D with nx := N, ct := N, bk := D.nx } σ2 H2) := by
 refine ⟨fun i m σ H => m = xs.length - i ∧ i ≤ xs.length ∧ Pv i σ H, ⟨xs.length, by simp, SN _, h0⟩, ?_⟩
 rintro i m σ H ⟨rfl, hi, p⟩
 have q := hl i σ H hi p
 by_cases hlt : i < xs.length
 ·refine .inr ⟨⟨xs, xs[i], q, by simp [hlt]⟩, Pv (i + 1), fun σ' H' p' => ⟨xs.length - (i + 1), by lia, rfl, hlt, p'⟩, fun x H' y => ?_⟩
  obtain ⟨e, y⟩ := y
  subst e
  exact hs i x σ _ (y xs q) p
 ·have e : i = xs.length := by lia
  subst e
  exact .inl ⟨⟨xs, q, SK _⟩, hd σ H p⟩
theorem Fn {K : Su} {a : Addr} {xs : List V} {g : TG} {tb : TS} {D : Dp} {σ : St} {H : Hp} (Pv : Nat → St → Hp → Prop) (h0 : Pv 0 σ H) (hl : ∀ i σ H, i ≤ xs.length → Pv i σ H → SqT K H a xs)
 (hs : ∀ i x σ H, xs[i]? = some x → Pv i σ H → g x σ H fun σ2 H2 => tb { D with nx := Pv (i + 1), ct := Pv (i + 1), bk := D.nx } σ2 H2) (hd : ∀ σ H, Pv xs.length σ H → D.nx σ H) :
 ∃ W : Nat → Nat → St → Hp → Prop, (∃ m, W 0 m σ H) ∧ ∀ i m σ H, W i m σ H →
   ((Itt K a).stop i H ∧ D.nx σ H) ∨ ((Itt K a).go i H ∧ ∃ N : St → Hp → Prop, (∀ σ' H', N σ' H' → ∃ m', m' < m ∧ W (i + 1) m' σ' H') ∧ ∀ x H', (Itt K a).yld i H x H' → g x σ H' fun σ2 H2 => tb { D with nx := N, ct := N, bk := D.nx } σ2 H2) := by
 refine ⟨fun i m σ H => m = xs.length - i ∧ i ≤ xs.length ∧ Pv i σ H, ⟨xs.length, by simp, SN _, h0⟩, ?_⟩
 rintro i m σ H ⟨rfl, hi, p⟩
 have q := hl i σ H hi p
 by_cases hlt : i < xs.length
 ·refine .inr ⟨⟨xs, xs[i], q, by simp [hlt]⟩, Pv (i + 1), fun σ' H' p' => ⟨xs.length - (i + 1), by lia, rfl, hlt, p'⟩, fun x H' y => ?_⟩
  obtain ⟨e, y⟩ := y
  subst e
  exact hs i x σ _ (y xs q) p
 ·have e : i = xs.length := by lia
  subst e
  exact .inl ⟨⟨xs, q, SK _⟩, hd σ H p⟩
theorem C0 {lo : Int} {n : Nat} {g : TG} {tb : TS} {D : Dp} {σ : St} {H : Hp} (Pv : Nat → St → Hp → Prop) (h0 : Pv 0 σ H)
 (hs : ∀ i σ H, i < n → Pv i σ H → g (.int (lo + i)) σ H fun σ2 H2 => tb { D with nx := Pv (i + 1), ct := Pv (i + 1), bk := D.nx } σ2 H2) (hd : ∀ σ H, Pv n σ H → D.nx σ H) :
 ∃ W : Nat → Nat → St → Hp → Prop, (∃ m, W 0 m σ H) ∧ ∀ i m σ H, W i m σ H →
   ((Itr lo n).stop i H ∧ D.nx σ H) ∨ ((Itr lo n).go i H ∧ ∃ N : St → Hp → Prop, (∀ σ' H', N σ' H' → ∃ m', m' < m ∧ W (i + 1) m' σ' H') ∧ ∀ x H', (Itr lo n).yld i H x H' → g x σ H' fun σ2 H2 => tb { D with nx := N, ct := N, bk := D.nx } σ2 H2) := by
 refine ⟨fun i m σ H => m = n - i ∧ i ≤ n ∧ Pv i σ H, ⟨n, by simp, SN _, h0⟩, ?_⟩
 rintro i m σ H ⟨rfl, hi, p⟩
 by_cases hlt : i < n
 ·refine .inr ⟨hlt, Pv (i + 1), fun σ' H' p' => ⟨n - (i + 1), by lia, rfl, hlt, p'⟩, fun x H' y => ?_⟩
  obtain ⟨e, y⟩ := y
  subst e y
  exact hs i σ _ hlt p
 ·have e : i = n := by lia
  subst e
  exact .inl ⟨SK _, hd σ H p⟩
theorem Iw {c : TT} {tb : TS} {D : Dp} {σ : St} {H : Hp} (Pv : St → Hp → Prop) (μ : St → Hp → Nat) (h0 : Pv σ H)
 (hs : ∀ σ H, Pv σ H → c σ H fun b H1 => if b = true then tb { D with nx := fun σ' H' => Pv σ' H' ∧ μ σ' H' < μ σ H, ct := fun σ' H' => Pv σ' H' ∧ μ σ' H' < μ σ H, bk := D.nx } σ H1 else D.nx σ H1)
 (mono : ∀ σ H Q Q', (∀ b H1, Q b H1 → Q' b H1) → c σ H Q → c σ H Q') : Jq c tb D σ H := by
 refine ⟨fun m σ H => m = μ σ H ∧ Pv σ H, ⟨_, rfl, h0⟩, ?_⟩
 rintro m σ H ⟨rfl, p⟩
 refine mono σ H _ _ (fun b H1 q => ?_) (hs σ H p)
 cases b with
 | true => exact ⟨_, fun σ' H' ⟨p', l⟩ => ⟨_, l, rfl, p'⟩, q⟩
 | false => exact q
end L2
namespace L2
open PySem PySem.Spec PyProof.Rows
abbrev R2 := V → V → Hp → VK → Prop
def OpR (X : Cx) (f : Value → Value → Sem Value) (r : R2) : Prop :=
 ∀ (pins : List (Addr × Obj)) (s : Shared) (σ : St) (H : Hp) (x y : V) (v u : Value) (Q : VK), Inv X pins σ H s → AR x v → AR y u → r x y H Q →
   wpAny (model X.prog X.w) X.A (f v u) (EP X pins σ Q) X.xe s
def UnR (X : Cx) (f : Value → Sem Value) (r : V → Hp → VK → Prop) : Prop :=
 ∀ (pins : List (Addr × Obj)) (s : Shared) (σ : St) (H : Hp) (x : V) (v : Value) (Q : VK), Inv X pins σ H s → AR x v → r x H Q →
   wpAny (model X.prog X.w) X.A (f v) (EP X pins σ Q) X.xe s
def D4 (X : Cx) (f : Value) (r : List V → Hp → VK → Prop) : Prop :=
 ∀ (pins : List (Addr × Obj)) (s : Shared) (σ : St) (H : Hp) (xs : List V) (us : List Value) (Q : VK), Inv X pins σ H s → AG xs us → r xs H Q →
   wpAny (model X.prog X.w) X.A (call f us) (EP X pins σ Q) X.xe s
def tOp (r : R2) (ta tb : TE) : TE := fun σ H Q => ta σ H fun x H1 => tb σ H1 fun y H2 => r x y H2 Q
def tUn (r : V → Hp → VK → Prop) (ta : TE) : TE := fun σ H Q => ta σ H fun x H1 => r x H1 Q
inductive rI (C : Int → Int → Prop) (g : Int → Int → V) (x : V) (y : V) (H : Hp) (Q : VK) : Prop
 | mk (i : _) (j : _) (h1 : x = .int i) (h2 : y = .int j) (h3 : C i j) (h4 : Q (g i j) H) : rI C g x y H Q
inductive rI0 (g : Int → Int → V) (x : V) (y : V) (H : Hp) (Q : VK) : Prop
 | mk (i : _) (j : _) (h1 : x = .int i) (h2 : y = .int j) (h3 : Q (g i j) H) : rI0 g x y H Q
inductive rU (g : Int → V) (x : V) (H : Hp) (Q : VK) : Prop
 | mk (i : _) (h1 : x = .int i) (h2 : Q (g i) H) : rU g x H Q
section
variable {X : Cx} {a b c : Expr} {ta tb tc : TE} {pos : Pos}
theorem P8 (ha : PE X a ta) (hb : PE X b tb) {pins : List (Addr × Obj)} {s : Shared} {σ : St} {H : Hp} {R : V → V → Hp → Prop} (I : Inv X pins σ H s)
 (h : ta σ H fun x H1 => tb σ H1 fun y H2 => R x y H2) {Q : Value → Shared → Prop} {f : Value → Value → Sem Value}
 (hf : ∀ v u s2 x y H2, Inv X pins σ H2 s2 → AR x v → AR y u → R x y H2 → wpAny (model X.prog X.w) X.A (f v u) Q X.xe s2) :
 wpAny (model X.prog X.w) X.A (eval a X.env) (fun v s₁ => wpAny (model X.prog X.w) X.A (eval b X.env) (fun u s₂ => wpAny (model X.prog X.w) X.A (f v u) Q X.xe s₂) X.xe s₁) X.xe s := by
 refine thn (ha pins s σ H _ I h) fun v s1 ⟨x, H1, I1, r1, q1⟩ => ?_
 refine thn (hb pins s1 σ H1 _ I1 q1) fun u s2 ⟨y, H2, I2, r2, q2⟩ => ?_
 exact hf v u s2 x y H2 I2 r1 r2 q2
theorem Ah {op : Operator} {r : R2} (ho : OpR X (binaryOp op) r) (ha : PE X a ta) (hb : PE X b tb) : PE X (.BinOp a op b pos) (tOp r ta tb) := by
 intro pins s σ H Q I h
 exact wpAny_BinOp (P8 ha hb I h fun v u s2 x y H2 I2 rx ry q => ho pins s2 σ H2 x y v u Q I2 rx ry q)
theorem Dy {op : UnaryOp} {r : V → Hp → VK → Prop} (ho : UnR X (unaryOp op) r) (ha : PE X a ta) : PE X (.UnaryOp op a pos) (tUn r ta) := by
 intro pins s σ H Q I h
 exact UnaryOp_ (thn (ha pins s σ H _ I h) fun v s1 ⟨x, H1, I1, r1, q1⟩ => ho pins s1 σ H1 x v Q I1 r1 q1)
theorem opI {f : Value → Value → Sem Value} {C : Int → Int → Prop} {g : Int → Int → Int}
 (rule : ∀ (i j : Int) (t u : Tok) (s : Shared) (Q : Value → Shared → Prop) (E : Value → Shared → Prop), C i j → Q (.int (g i j) s.toks) { s with toks := s.toks + 1 } → wpAny (model X.prog X.w) X.A (f (.int i t) (.int j u)) Q E s) :
 OpR X f (rI C fun i j => .int (g i j)) := by
 intro pins s σ H x y v u Q I rx ry h
 obtain ⟨i, j, rfl, rfl, hc, q⟩ := h
 obtain ⟨t, rfl⟩ := rx
 obtain ⟨t', rfl⟩ := ry
 exact rule i j t t' s _ _ hc ⟨.int (g i j), H, I.tok _, ⟨_, rfl⟩, q⟩
theorem PL {f : Value → Value → Sem Value} {g : Int → Int → Int}
 (rule : ∀ (i j : Int) (t u : Tok) (s : Shared) (Q : Value → Shared → Prop) (E : Value → Shared → Prop), Q (.int (g i j) s.toks) { s with toks := s.toks + 1 } → wpAny (model X.prog X.w) X.A (f (.int i t) (.int j u)) Q E s) :
 OpR X f (rI0 fun i j => .int (g i j)) := by
 intro pins s σ H x y v u Q I rx ry h
 obtain ⟨i, j, rfl, rfl, q⟩ := h
 obtain ⟨t, rfl⟩ := rx
 obtain ⟨t', rfl⟩ := ry
 exact rule i j t t' s _ _ ⟨.int (g i j), H, I.tok _, ⟨_, rfl⟩, q⟩
theorem OC {f : Value → Value → Sem Value} {g : Int → Int → Bool}
 (rule : ∀ (i j : Int) (t u : Tok) (s : Shared) (Q : Value → Shared → Prop) (E : Value → Shared → Prop), Q (.bool (g i j)) s → wpAny (model X.prog X.w) X.A (f (.int i t) (.int j u)) Q E s) :
 OpR X f (rI0 fun i j => .bl (g i j)) := by
 intro pins s σ H x y v u Q I rx ry h
 obtain ⟨i, j, rfl, rfl, q⟩ := h
 obtain ⟨t, rfl⟩ := rx
 obtain ⟨t', rfl⟩ := ry
 exact rule i j t t' s _ _ ⟨.bl (g i j), H, I, rfl, q⟩
def Pb (i j : Int) : Prop := 0 ≤ j ∧ j ≤ 1000000 ∧ i.natAbs < 2 ^ 64
theorem AK : OpR X (binaryOp .Add) (rI0 fun i j => .int (i + j)) := PL fun _ _ _ _ _ _ _ q => add_int q
theorem AX : OpR X (binaryOp .Sub) (rI0 fun i j => .int (i - j)) := PL fun _ _ _ _ _ _ _ q => sub_int q
theorem Cm : OpR X (binaryOp .Mod) (rI (fun _ j => 0 < j) fun i j => .int (i % j)) := opI fun i j _ _ _ _ _ hc q => by
 have h1 : (0 : Int) < j := hc
 exact mod_int' (by lia) (by rw [Int.fmod_eq_emod_of_nonneg i (by lia)]; exact q)
theorem Md : OpR X (binaryOp .Pow) (rI Pb fun i j => .int (i ^ j.toNat)) := opI fun _ _ _ _ _ _ _ hc q => pow_int_small hc.1 hc.2.1 hc.2.2 q
theorem unI {f : Value → Sem Value} {g : Int → Int}
 (rule : ∀ (i : Int) (t : Tok) (s : Shared) (Q : Value → Shared → Prop) (E : Value → Shared → Prop), Q (.int (g i) s.toks) { s with toks := s.toks + 1 } → wpAny (model X.prog X.w) X.A (f (.int i t)) Q E s) :
 UnR X f (rU fun i => .int (g i)) := by
 intro pins s σ H x v Q I rx h
 obtain ⟨i, rfl, q⟩ := h
 obtain ⟨t, rfl⟩ := rx
 exact rule i t s _ _ ⟨.int (g i), H, I.tok _, ⟨_, rfl⟩, q⟩
theorem Ct : UnR X (unaryOp .USub) (rU fun i => .int (-i)) := unI fun _ _ _ _ _ q => neg_int q
end
def Pr : V → V → Bool
 | .non, .non => true | .non, .int _ => true | .int _, .non => true | .non, .bl _ => true | .bl _, .non => true | .non, .str _ => true | .str _, .non => true
 | .int _, .int _ => true | .bl _, .bl _ => true | .str _, .str _ => true | .byt _, .byt _ => true
 | .int _, .str _ => true | .str _, .int _ => true | .bl _, .str _ => true | .str _, .bl _ => true
 | _, _ => false
def rEq : R2 := fun x y H Q => Pr x y = true ∧ Q (.bl (decide (x = y))) H
def rNe : R2 := fun x y H Q => Pr x y = true ∧ Q (.bl (!decide (x = y))) H
theorem Ks {i j : Int} : decide (V.int i = V.int j) = (i == j) := by
 rw [Bool.eq_iff_iff]
 simp
theorem MG {i j : Bool} : decide (V.bl i = V.bl j) = (i == j) := by
 rw [Bool.eq_iff_iff]
 simp
theorem Kr {i j : Str} : decide (V.str i = V.str j) = (i == j) := by
 rw [Bool.eq_iff_iff]
 simp
theorem Kt {i j : Array UInt8} : decide (V.byt i = V.byt j) = (i.toList == j.toList) := by
 rw [Bool.eq_iff_iff]
 cases i
 cases j
 simp
section
variable {X : Cx} {a b c : Expr} {ta tb tc : TE} {pos : Pos}
theorem AQ {pins : List (Addr × Obj)} {σ : St} {H : Hp} {s : Shared} {Q : VK} {k k' : Bool} (I : Inv X pins σ H s) (q : Q (.bl k) H) (e : k = k') : EP X pins σ Q (.bool k') s := by
 subst e
 exact ⟨.bl k, H, I, rfl, q⟩
theorem FL : OpR X (compareOp .Eq) rEq := by
 intro pins s σ H x y v u Q I rx ry h
 obtain ⟨hs, q⟩ := h
 cases x with
 | non =>
   cases rx
   cases y with
   | non => cases ry; exact PySem.EqNone.eq_none_none (AQ I q (by simp))
   | bl j => cases ry; exact PySem.EqNone.eq_none_bool (AQ I q (by simp))
   | int j => obtain ⟨t', rfl⟩ := ry; exact PySem.EqNone.eq_none_int (AQ I q (by simp))
   | str j => obtain ⟨t', rfl⟩ := ry; exact PySem.EqNone.eq_none_str (AQ I q (by simp))
   | _ => exact absurd (show false = true from hs) Bool.false_ne_true
 | bl i =>
   cases rx
   cases y with
   | non => cases ry; exact PySem.EqNone.eq_bool_none (AQ I q (by simp))
   | bl j => cases ry; exact eq_bool (AQ I q MG)
   | str j => obtain ⟨t', rfl⟩ := ry; exact PySem.EqMixed.eq_bool_str (AQ I q (by simp))
   | _ => exact absurd (show false = true from hs) Bool.false_ne_true
 | int i =>
   obtain ⟨t, rfl⟩ := rx
   cases y with
   | non => cases ry; exact PySem.EqNone.eq_int_none (AQ I q (by simp))
   | int j => obtain ⟨t', rfl⟩ := ry; exact eq_int (AQ I q Ks)
   | str j => obtain ⟨t', rfl⟩ := ry; exact PySem.EqMixed.eq_int_str (AQ I q (by simp))
   | _ => exact absurd (show false = true from hs) Bool.false_ne_true
 | str i =>
   obtain ⟨t, rfl⟩ := rx
   cases y with
   | non => cases ry; exact PySem.EqNone.eq_str_none (AQ I q (by simp))
   | bl j => cases ry; exact PySem.EqMixed.eq_str_bool (AQ I q (by simp))
   | int j => obtain ⟨t', rfl⟩ := ry; exact PySem.EqMixed.eq_str_int (AQ I q (by simp))
   | str j => obtain ⟨t', rfl⟩ := ry; exact eq_str (AQ I q Kr)
   | _ => exact absurd (show false = true from hs) Bool.false_ne_true
 | byt i =>
   obtain ⟨t, rfl⟩ := rx
   cases y with
   | byt j => obtain ⟨t', rfl⟩ := ry; exact PySem.W.eq_bytes (AQ I q Kt)
   | _ => exact absurd (show false = true from hs) Bool.false_ne_true
 | _ => cases y <;> exact absurd (show false = true from hs) Bool.false_ne_true
theorem GQ : OpR X (compareOp .NotEq) rNe := by
 intro pins s σ H x y v u Q I rx ry h
 obtain ⟨hs, q⟩ := h
 cases x with
 | non =>
   cases rx
   cases y with
   | non => cases ry; exact PySem.EqNone.ne_none_none (AQ I q (by simp))
   | bl j => cases ry; exact PySem.EqNone.ne_none_bool (AQ I q (by simp))
   | int j => obtain ⟨t', rfl⟩ := ry; exact PySem.EqNone.ne_none_int (AQ I q (by simp))
   | str j => obtain ⟨t', rfl⟩ := ry; exact PySem.EqNone.ne_none_str (AQ I q (by simp))
   | _ => exact absurd (show false = true from hs) Bool.false_ne_true
 | bl i =>
   cases rx
   cases y with
   | non => cases ry; exact PySem.EqNone.ne_bool_none (AQ I q (by simp))
   | bl j => cases ry; exact ne_bool (AQ I q (congrArg not MG))
   | str j => obtain ⟨t', rfl⟩ := ry; exact PySem.EqMixed.ne_bool_str (AQ I q (by simp))
   | _ => exact absurd (show false = true from hs) Bool.false_ne_true
 | int i =>
   obtain ⟨t, rfl⟩ := rx
   cases y with
   | non => cases ry; exact PySem.EqNone.ne_int_none (AQ I q (by simp))
   | int j => obtain ⟨t', rfl⟩ := ry; exact ne_int (AQ I q (congrArg not Ks))
   | str j => obtain ⟨t', rfl⟩ := ry; exact PySem.EqMixed.ne_int_str (AQ I q (by simp))
   | _ => exact absurd (show false = true from hs) Bool.false_ne_true
 | str i =>
   obtain ⟨t, rfl⟩ := rx
   cases y with
   | non => cases ry; exact PySem.EqNone.ne_str_none (AQ I q (by simp))
   | bl j => cases ry; exact PySem.EqMixed.ne_str_bool (AQ I q (by simp))
   | int j => obtain ⟨t', rfl⟩ := ry; exact PySem.EqMixed.ne_str_int (AQ I q (by simp))
   | str j => obtain ⟨t', rfl⟩ := ry; exact ne_str (AQ I q (congrArg not Kr))
   | _ => exact absurd (show false = true from hs) Bool.false_ne_true
 | byt i =>
   obtain ⟨t, rfl⟩ := rx
   cases y with
   | byt j => obtain ⟨t', rfl⟩ := ry; exact PySem.W.ne_bytes (AQ I q (congrArg not Kt))
   | _ => exact absurd (show false = true from hs) Bool.false_ne_true
 | _ => cases y <;> exact absurd (show false = true from hs) Bool.false_ne_true
theorem EV : OpR X (compareOp .Lt) (rI0 fun i j => .bl (decide (i < j))) := OC fun _ _ _ _ _ _ _ q => lt_int q
theorem FK : OpR X (compareOp .Gt) (rI0 fun i j => .bl (decide (j < i))) := OC fun _ _ _ _ _ _ _ q => gt_int q
theorem PJ : OpR X (compareOp .GtE) (rI0 fun i j => .bl (decide (j ≤ i))) := OC fun _ _ _ _ _ _ _ q => ge_int q
theorem AB (b : Expr) {op : CmpOp} (h : op ≠ .In := by decide) (h2 : op ≠ .NotIn := by decide) : behindInMarks op b = false := by
 have e1 : (op == CmpOp.In) = false := by cases op <;> first | rfl | exact absurd rfl h
 have e2 : (op == CmpOp.NotIn) = false := by cases op <;> first | rfl | exact absurd rfl h2
 cases b <;> simp [behindInMarks, e1, e2]
theorem Df {op : CmpOp} {r : R2} (ho : OpR X (compareOp op) r) (ha : PE X a ta) (hb : PE X b tb) (hm : behindInMarks op b = false) : PE X (.Compare a [op] [b] pos) (tOp r ta tb) := by
 intro pins s σ H Q I h
 exact wpAny_Compare1 (P8 ha hb I h fun v u s2 x y H2 I2 rx ry q => ho pins s2 σ H2 x y v u Q I2 rx ry q) hm
def Pg (t : TE) : TT := fun σ H Q => t σ H fun x H' => ∃ k, x = .bl k ∧ Q k H'
theorem AA {op : CmpOp} {r : R2} (ho : OpR X (compareOp op) r) (ha : PE X a ta) (hb : PE X b tb) (hm : behindInMarks op b = false) : PT X (.Compare a [op] [b] pos) (Pg (tOp r ta tb)) := by
 intro pins s σ H Q I h
 refine wpAny_isTrue_Compare1 (thn (ha pins s σ H _ I h) fun v s1 ⟨x, H1, I1, r1, q1⟩ => thn (hb pins s1 σ H1 _ I1 q1) fun u s2 ⟨y, H2, I2, r2, q2⟩ =>
  thn (ho pins s2 σ H2 x y v u _ I2 r1 r2 q2) fun c s3 ⟨z, H3, I3, r3, k, e, q3⟩ => ?_) hm
 subst e
 cases r3
 exact wpAny_truthy_bool ⟨H3, I3, q3⟩
theorem Ia : (sizeLine : Nat) < 2 ^ 63 := by rw [sizeLine_eq]; decide
theorem ER {x : V} {us : List Value} (r : AG [x] us) : ∃ u, us = [u] ∧ AR x u := by
 cases r with
 | cons r1 r2 => cases r2; exact ⟨_, rfl, r1⟩
theorem Pe {x y : V} {us : List Value} (r : AG [x, y] us) : ∃ u w', us = [u, w'] ∧ AR x u ∧ AR y w' := by
 cases r with
 | cons r1 r2 =>
   cases r2 with
   | cons r3 r4 => cases r4; exact ⟨_, _, rfl, r1, r3⟩
theorem Es : D4 X (.builtin "abs") (fun xs H Q => ∃ i, xs = [.int i] ∧ Q (.int (if i < 0 then -i else i)) H) := by
 intro pins s σ H xs us Q I r h
 obtain ⟨i, rfl, q⟩ := h
 obtain ⟨u, rfl, t, rfl⟩ := ER r
 exact call_abs_int fun u tk => ⟨.int (if i < 0 then -i else i), H, I.tok _, ⟨_, rfl⟩, q⟩
theorem Lp : D4 X (.type "int") (fun xs H Q => (∃ i, xs = [.int i] ∧ Q (.int i) H) ∨ ∃ k, xs = [.bl k] ∧ Q (.int (if k then 1 else 0)) H) := by
 intro pins s σ H xs us Q I r h
 rcases h with ⟨i, rfl, q⟩ | ⟨k, rfl, q⟩
 ·obtain ⟨u, rfl, t, rfl⟩ := ER r
  exact call_int_int ⟨.int i, H, I, ⟨_, rfl⟩, q⟩
 ·obtain ⟨u, rfl, r1⟩ := ER r
  cases r1
  exact call_int_bool ⟨.int (if k then 1 else 0), H, I.tok _, ⟨_, rfl⟩, q⟩
end
end L2
namespace L2
open PySem PySem.Spec PyProof.Rows
structure ObjM (h : Heap) (x dx C : Addr) (mA : Str → Option Value) : Prop where
 obj : h.get? x = some (PySem.W.instObj C dx)
 ns : h.Ns1 dx mA
 ne : dx ≠ x
section
variable {prog : Program} {w : World} {A : Around} {E : Value → Shared → Prop} {s : Shared} {K : Su} {x dx C f : Addr} {mA : Str → Option Value} {name : Str} {v : Value}
end
section
variable {P : Program} {w : World} {H H' : Hp} {h h' : Heap} {a C dx : Addr} {fs fs' : List (Str × V)}
end
structure Cls (K : Su) (C : Addr) : Prop where
 pg : PySem.W.plainGet K C Str.empty = true
 hd : PySem.W.hasDictIn K C = true
 po : PySem.W.plainOver K C = true
 sa : SO K (.ref C) "__setattr__" = some (some (.builtin "object.__setattr__"))
structure Con (K : Su) (C : Addr) (f : Str) (v : V) (u : Value) : Prop where
 at_ : SO K (.ref C) f = some (some u)
 rel : AR v u
 get : PySem.W.specialIn K u "__get__" = some none
 cp : PySem.W.copiedNames.contains f = false
structure Meth (K : Su) (C : Addr) (m : Str) (f : Addr) : Prop where
 at_ : SO K (.ref C) m = some (some (.ref f))
 fn : PySem.W.isFn K (.ref f) = true
 kp : SQ K (.ref f) = true
section
variable {X : Cx} {pins : List (Addr × Obj)} {σ : St} {H : Hp} {s : Shared} {a C dx : Addr} {fs : List (Str × V)} {f : Str} {v : V} {A : Around} {E : Value → Shared → Prop}
end
section
variable {X : Cx} {o e value : Expr} {f : Str} {pos pos' tpos : Pos} {ta tv : TE}
end
section
variable {X : Cx} {pins : List (Addr × Obj)} {σ : St} {H : Hp} {s : Shared} {A : Around} {E : Value → Shared → Prop} {Q : Value → Shared → Prop} {c : Value} {b : Bool}
inductive Fg (K : Su) (H : Hp) : V → Value → Prop where
 | non : Fg K H .non (.type "NoneType")
 | bl (x : Bool) : Fg K H (.bl x) (.type "bool")
 | int (i : Int) : Fg K H (.int i) (.type "int")
 | str (x : Str) : Fg K H (.str x) (.type "str")
 | flt (x : UInt64) : Fg K H (.flt x) (.type "float")
 | lst {a : Addr} {xs : List V} (e : H a = some (.lst xs)) : Fg K H (.ref a) (.type "list")
 | frz {a : Addr} {o : Obj} {xs : List V} (e : H a = some (.frz o (.lst xs))) : Fg K H (.ref a) (.type "list")
 | tup {a : Addr} {xs : List V} (e : H a = some (.tup xs)) : Fg K H (.ref a) (.type "tuple")
 | dK {a : Addr} {kvs : List (Key × V)} (e : H a = some (.dK kvs)) : Fg K H (.ref a) (.type "dict")
 | dT {a : Addr} {kvs : List (List Key × V)} (e : H a = some (.dT kvs)) : Fg K H (.ref a) (.type "dict")
 | ins {a C dx : Addr} {fs : List (Str × V)} (e : H a = some (.ins C dx fs)) (cl : Cls K C) (ha : SO K (.ref C) "__class__" = some (some (.builtin "object.__class__")))
  (hn : PySem.W.specialIn K (.builtin "object.__class__") "__get__" = some (some (.builtin "getset_descriptor.__get__"))) (htk : PySem.W.takesIn K (.builtin "object.__class__") = some true)
  (hm : PySem.W.mroIn K C (.type "object") = some true) : Fg K H (.ref a) (.ref C)
end
end L2
namespace L2
open PySem PySem.Spec PyProof.Rows
structure C8 (k : Nat) (A : Around) : Prop where
 hd : A.handled = none
 dp : A.depth + 3 * k + 5 < recursionLimit
 un : A.units + 16 * k + 200 < cLine
theorem C8.mono {j k : Nat} {A : Around} (r : C8 k A) (h : j ≤ k) : C8 j A := ⟨r.hd, by have := r.dp; lia, by have := r.un; lia⟩
theorem C8.deeper {k : Nat} {A : Around} (r : C8 (k + 1) A) (env : Env) : C8 k (A.deeper env) :=
 ⟨r.hd, by have := r.dp; show A.depth + 1 + 3 * k + 5 < _; lia, by have := r.un; show A.units + 3 + 16 * k + 200 < _; lia⟩
theorem C8.in1 {k : Nat} {A : Around} (r : C8 (k + 1) A) : C8 k A.in1 :=
 ⟨r.hd, by have := r.dp; show A.depth + 3 * k + 5 < _; lia, by have := r.un; show A.units + 1 + 16 * k + 200 < _; lia⟩
theorem C8.depth {k : Nat} {A : Around} (r : C8 k A) : A.depth < recursionLimit := by have := r.dp; lia
theorem C8.units {k : Nat} {A : Around} (r : C8 k A) : A.units + 64 < cLine := by have := r.un; lia
def Pl : TA := fun _ H Q => Q [] H
def NU (ta : TE) (tr : TA) : TA := fun σ H Q => ta σ H fun x H1 => tr σ H1 fun xs H2 => Q (x :: xs) H2
section
variable {X : Cx} {e : Expr} {es : List Expr} {te : TE} {t : TA} {pos : Pos}
theorem Ab : PA X [] Pl := fun _ _ _ _ H Q I h => Calls.spliced_nil ⟨[], H, I, .nil, h⟩
theorem A0 (ha : PE X e te) (hr : PA X es t) (hs : starEach (e :: es) X.env = (false, eval e X.env) :: starEach es X.env := by rfl) : PA X (e :: es) (NU te t) := by
 intro pos pins s σ H Q I h
 rw [hs]
 show wpAny _ _ (spliced ((false, eval e X.env) :: backTo pos (starEach es X.env))) _ _ s
 refine Calls.spliced_cons (thn (ha pins s σ H _ I h) fun u s1 ⟨x, H1, I1, r1, q1⟩ => ?_)
 exact thn (hr pos pins s1 σ H1 _ I1 q1) fun us s2 ⟨xs, H2, I2, r2, q2⟩ => ⟨x :: xs, H2, I2, .cons r1 r2, q2⟩
def Q7 (t : TA) : TE := fun σ H Q => t σ H fun xs H1 => xs.length ≤ sizeLine ∧ ∀ p, H1 p = none → Q (.ref p) (upd H1 p (.tup xs))
def Qb (t : TA) : TE := fun σ H Q => t σ H fun xs H1 => xs.length ≤ sizeLine ∧ ∀ p, H1 p = none → Q (.ref p) (upd H1 p (.lst xs))
theorem AO {x1} (h : PA X es t) : PE X (.Tuple es x1 pos) (Q7 t) := by
 intro pins s σ H Q I hq
 refine wpAny_Tuple_spliced (thn (h pos pins s σ H _ I hq) fun us s1 ⟨xs, H1, I1, r, z, q⟩ => ⟨by rw [← r.length]; exact z, ?_⟩)
 have hf : H1 s1.heap.objs.size = none := I1.hok.fresh (SK _)
 refine ⟨.ref s1.heap.objs.size, upd H1 s1.heap.objs.size (.tup xs), I1.laid (t' := s1.toks) (fun b u e => Heap.get?_push_of_some _ e) (SK _) ?_, rfl, q _ hf⟩
 exact ⟨z, us, r, ⟨_, Heap.get?_push_size _ rfl, rfl, _, rfl⟩⟩
theorem AS (h : PA X es t) : PE X (.List es pos) (Qb t) := by
 intro pins s σ H Q I hq
 refine wpAny_List_spliced (thn (h pos pins s σ H _ I hq) fun us s1 ⟨xs, H1, I1, r, z, q⟩ => ⟨by rw [← r.length]; exact z, ?_⟩)
 have hf : H1 s1.heap.objs.size = none := I1.hok.fresh (SK _)
 refine ⟨.ref s1.heap.objs.size, upd H1 s1.heap.objs.size (.lst xs), I1.laid (t' := s1.toks) (fun b u e => Heap.get?_push_of_some _ e) (SK _) ?_, rfl, q _ hf⟩
 exact ⟨z, us, 0, r, Heap.get?_push_size _ rfl⟩
end
abbrev Sp := List V → Hp → VK → XK → Prop
abbrev CXT := List Env → Hp → Shared → XK → Value → Shared → Prop
structure Ls (P : Program) (w : World) (K : Su) (mg : Str → Option Value) (base : Heap) (A : Around) (outer : List Env) (s : Shared) (H : Hp) : Prop where
 frames : A.frames = some outer
 mod : Mod K mg base
 bs : ∀ b o, base.get? b = some o → s.heap.get? b = some o ∧ H b = none
 bsz : base.objs.size ≤ s.heap.objs.size
 funs : s.heap.FunFrames base outer
 frf : ∀ b ∈ frs outer, H b = none
 hok : HOk P w H s.heap
 bare : AllBare s.gens
def CE (outer : List Env) (P : Program) (w : World) (H : Hp) (s : Shared) (Q : VK) (u : Value) (s' : Shared) : Prop :=
 ∃ v H', s'.os = s.os ∧ AllBare s'.gens ∧ Un (frs outer) [] H H' s.heap s'.heap ∧ HOk P w H' s'.heap ∧ AR v u ∧ Q v H'
def CR (CX : CXT) (outer : List Env) (P : Program) (w : World) (H : Hp) (s : Shared) (Q : VK) (E : XK) (r : Result) (s' : Shared) : Prop :=
 match r with
 | .ok (.ret u) => CE outer P w H s Q u s'
 | .ok _ => False
 | .error e => CX outer H s E e s'
structure AH (P : Program) (w : World) (K : Su) (mg : Str → Option Value) (base : Heap) (CX : CXT) (k : Nat) (f : Addr) (fd : FuncData) (ps : List Str) (sp : Sp) : Prop where
 len : ∀ vs H Q E, sp vs H Q E → vs.length = ps.length
 run : ∀ (A : Around) (outer : List Env) (s : Shared) (H : Hp) (args : Args) (us : List Value) (vs : List V) (Q : VK) (E : XK), C8 k A → Ls P w K mg base A outer s H → BindsTo s fd args (ps.zip us) → AG vs us → sp vs H Q E →
  codeAny (model P w) A (.call (.ref f) args) (CR CX outer P w H s Q E) s
section
variable {X : Cx} {pins : List (Addr × Obj)} {σ : St} {H : Hp} {s s' : Shared}
theorem Inv.env0 (I : Inv X pins σ H s) : Ls X.prog X.w X.K X.mg X.base X.A X.stack s H :=
 ⟨I.ok.frames, I.ok.mod, I.bs, Sv I.ok.bsz I.sz, I.stack, I.stkFree, I.hok, I.bare⟩
theorem Inv.after {Q : VK} {u : Value} (I : Inv X pins σ H s) (h : CE X.stack X.prog X.w H s Q u s') : EP X pins σ Q u s' := by
 obtain ⟨v, H', os, bare, un, hok, r, q⟩ := h
 obtain ⟨hh, g, d, t, os'⟩ := s'
 obtain rfl : os' = s.os := os
 exact ⟨v, H', I.call (h' := hh) (g' := g) (d' := d) (t' := t) (ch := []) un hok bare (fun b z => absurd z (by simp)), r, q⟩
end
def NV (sp : Sp) (dvs : List V) (E : XK) (t : TA) : TE := fun σ H Q => t σ H fun vs H1 => sp (vs ++ dvs) H1 Q E
def Ca (K : Su) (fd : FuncData) (ps : List Str) (ds : List Value) : Prop :=
 ∀ (s : Shared) (us : List Value), K.In s.heap → (us ++ ds).length = ps.length → BindsTo s fd ⟨us, []⟩ (ps.zip (us ++ ds))
theorem Ca.all {K : Su} {fd : FuncData} {ps : List Str} (h : ∀ us : List Value, us.length = ps.length → bindArgs fd ⟨us, []⟩ = pure (ps.zip us)) : Ca K fd ps [] := fun s us _ hl => by
 rw [SR] at hl ⊢
 exact .of_eq (h us hl)
def K0 (CX : CXT) (X : Cx) (E : XK) : Prop := ∀ (pins : List (Addr × Obj)) (σ : St) (H : Hp) (s : Shared) (e : Value) (s' : Shared), Inv X pins σ H s → CX X.stack H s E e s' → X.xe e s'
section
variable {X : Cx} {CX : CXT} {k : Nat} {f C : Addr} {fd : FuncData} {ps : List Str} {sp : Sp} {dvs : List V} {ds : List Value} {E : XK} {x m : Str} {p pos apos : Pos} {e o : Expr} {es : List Expr} {ta : TE} {t : TA}
theorem Oi {pins : List (Addr × Obj)} {σ : St} {H : Hp} {s : Shared} {Q : VK} {us : List Value} {vs : List V} (F : AH X.prog X.w X.K X.mg X.base CX k f fd ps sp) (hr : C8 k X.A) (hb : Ca X.K fd ps ds) (hd : AG dvs ds) (hx : K0 CX X E)
 (I : Inv X pins σ H s) (r : AG vs us) (h : sp (vs ++ dvs) H Q E) : wpAny (model X.prog X.w) X.A (call (.ref f) us) (EP X pins σ Q) X.xe s := by
 have r2 : AG (vs ++ dvs) (us ++ ds) := r.append hd
 have hl : (us ++ ds).length = ps.length := by rw [← r2.length]; exact F.len _ _ _ _ h
 refine wpAny_call (codeAny_mono (F.run X.A X.stack s H ⟨us, []⟩ (us ++ ds) (vs ++ dvs) Q E hr I.env0 (hb s us I.kIn hl) r2 h) fun r s' hq => ?_)
 cases r with
 | error e => exact hx pins σ H s e s' I hq
 | ok fl =>
   cases fl with
   | ret u => exact I.after hq
   | next => exact False.elim hq
   | brk => exact False.elim hq
   | cont => exact False.elim hq
theorem Nt (F : AH X.prog X.w X.K X.mg X.base CX k f fd ps sp) (hr : C8 k X.A) (hg : Gl X x) (hm : X.mg x = some (.ref f)) (hk : SQ X.K (.ref f) = true) (hb : Ca X.K fd ps ds) (hd : AG dvs ds) (hx : K0 CX X E)
 (ha : PA X (e :: es) t) (hdb : (x == ("__debug__" : Str)) = false := by decide) (he : starEach (e :: es) X.env = (false, eval e X.env) :: starEach es X.env := by rfl) (hpl : (backTo pos (starEach es X.env)).any (·.1) = false := by rfl) :
 PE X (.Call (.Name x p) (e :: es) [] pos) (NV sp dvs E t) := by
 intro pins s σ H Q I h
 refine wpAny_Call_Name_kw (Kf I hg hm ?_ hdb)
 refine PySem.W.callWith_K (h₀ := X.base) I.ok.mod.kin hk (thn (ha pos pins s σ H _ I h) fun us s1 ⟨vs, H1, I1, r, q⟩ => ⟨I1.kIn, ?_⟩) he hpl
 exact Oi F hr hb hd hx I1 r q
structure Mk (K : Su) (C f : Addr) : Prop where
 makes : PySem.W.makesIn K C = true
 init : SO K (.ref C) "__init__" = some (some (.ref f))
 fn : PySem.W.isFn K (.ref f) = true
 kp : SQ K (.ref C) = true
end
section
variable {X : Cx} {CX : CXT} {k : Nat} {f C : Addr} {fd : FuncData} {ps ks : List Str} {sp : Sp} {E : XK} {x m : Str} {p pos apos kpos : Pos} {e o : Expr} {es : List Expr} {kws : List Keyword} {te ta : TE} {t tk : TA} {nm : Option Str}
structure Qq (K : Su) (fd : FuncData) (ps ks : List Str) (g : List Value → List Value → List Value) (gV : List V → List V → List V) : Prop where
 to : ∀ (s : Shared) (us ws : List Value), K.In s.heap → (g us ws).length = ps.length → BindsTo s fd ⟨us, ks.zip ws⟩ (ps.zip (g us ws))
 rel : ∀ {vs : List V} {us : List Value} {zs : List V} {ws : List Value}, AG vs us → AG zs ws → AG (gV vs zs) (g us ws)
variable {g : List Value → List Value → List Value} {gV : List V → List V → List V}
end
structure Ao (N P : List Str) (sc : Scope) : Prop where
 kind : sc.kind = .function
 co : sc.isCoroutine = false
 gen : sc.isGenerator = false
 nd : N.Nodup
 pre : N.take P.length = P
 par : ∀ x ∈ P, sc.names.lookup x = some .local ∨ sc.names.lookup x = some .cell
 nofree : ∀ y ∈ sc.names, y.2 ≠ .free
theorem GZ {kindOf : Str → Option NameKind} {x : Str} : ∀ {binds : List (Str × Value)} {m : Str → Option Value}, (∀ v, (x, v) ∉ binds) → bindL kindOf binds m x = m x
 | [], _, _ => rfl
 | (n, v) :: r, m, h => by
   unfold bindL
   rw [GZ fun w hw => h w (Sz _ hw)]
   split
   ·have : x ≠ n := by rintro rfl; exact h v Sy
    simp [this]
   ·rfl
theorem Hb {kindOf : Str → Option NameKind} {x : Str} : ∀ {binds : List (Str × Value)} {m : Str → Option Value}, (∀ v, (x, v) ∉ binds) → bindC kindOf binds m x = m x
 | [], _, _ => rfl
 | (n, v) :: r, m, h => by
   unfold bindC
   rw [Hb fun w hw => h w (Sz _ hw)]
   split
   ·rfl
   ·have : x ≠ n := by rintro rfl; exact h v Sy
    simp [this]
theorem Ha {kindOf : Str → Option NameKind} {x : Str} {v : Value} : ∀ {P : List Str} {vs : List Value} {i : Nat} {m : Str → Option Value}, P.Nodup → P[i]? = some x → vs[i]? = some v → kindOf x = some .local →
 bindL kindOf (P.zip vs) m x = some v
 | [], _, _, _, _, h, _, _ => by simp at h
 | _ :: _, [], _, _, _, _, h, _ => by simp at h
 | p :: P, w :: vs, 0, m, nd, h1, h2, hk => by
   simp at h1 h2; subst h1; subst h2
   show bindL kindOf ((p, w) :: P.zip vs) m p = _
   unfold bindL
   rw [GZ fun v hv => (SS.mp nd).1 (SU hv).1, if_pos hk]
   simp
 | p :: P, w :: vs, i + 1, m, nd, h1, h2, hk => by
   show bindL kindOf ((p, w) :: P.zip vs) m x = _
   unfold bindL
   exact Ha (i := i) (SS.mp nd).2 (by simpa using h1) (by simpa using h2) hk
theorem Hc {kindOf : Str → Option NameKind} {x : Str} {v : Value} : ∀ {P : List Str} {vs : List Value} {i : Nat} {m : Str → Option Value}, P.Nodup → P[i]? = some x → vs[i]? = some v → kindOf x ≠ some .local →
 bindC kindOf (P.zip vs) m x = some v
 | [], _, _, _, _, h, _, _ => by simp at h
 | _ :: _, [], _, _, _, _, h, _ => by simp at h
 | p :: P, w :: vs, 0, m, nd, h1, h2, hk => by
   simp at h1 h2; subst h1; subst h2
   show bindC kindOf ((p, w) :: P.zip vs) m p = _
   unfold bindC
   rw [Hb fun v hv => (SS.mp nd).1 (SU hv).1, if_neg hk]
   simp
 | p :: P, w :: vs, i + 1, m, nd, h1, h2, hk => by
   show bindC kindOf ((p, w) :: P.zip vs) m x = _
   unfold bindC
   exact Hc (i := i) (SS.mp nd).2 (by simpa using h1) (by simpa using h2) hk
def E6 (N : List Str) (vs : List V) : St := vs.map some ++ SV (N.length - vs.length) none
def JX (CX : CXT) (P : Program) (w : World) (K : Su) (mg : Str → Option Value) (base : Heap) (N : List Str) (qual : Str) (scope : Scope) (f : Addr) (cd : Value) (A : Around) (outer : List Env) (s : Shared) (H : Hp) (E : XK) : Cx where
 prog := P
 w := w
 K := K
 mg := mg
 base := base
 A := A.deeper (envOfC qual scope s.heap.objs.size f cd)
 N := N
 s₀ := s
 H₀ := H
 env := envOfC qual scope s.heap.objs.size f cd
 outer := outer
 stack := envOfC qual scope s.heap.objs.size f cd :: outer
 ex := []
 calm := true
 fn := fun _ => true
 pn := []
 xe := fun e s' => wpAny (model P w) (A.deeper (envOfC qual scope s.heap.objs.size f cd)) (leaving (envOfC qual scope s.heap.objs.size f cd) e) (fun _ s'' => CX outer H s E e s'') (fun e' s'' => CX outer H s E e' s'') s'
theorem Jd {sc : Scope} {n : Nat} {x : Str} (h : sc.names.lookup x = some .cell) : ∃ c, (cellsFrom n sc.names []).lookup x = some c := by
 have q := PySem.W.cellsFrom_some sc.names n [] (.inl h)
 exact Option.isSome_iff_exists.mp q
theorem Li {CX : CXT} {P : Program} {w : World} {K : Su} {mg : Str → Option Value} {base : Heap} {N ps : List Str} {qual : Str} {scope : Scope} {f : Addr} {cd : Value} {A : Around} {outer : List Env} {s s1 : Shared} {H : Hp} {E : XK} {us : List Value} {vs : List V}
 (S : Ao N ps scope) (hd : A.handled = none) (e0 : Ls P w K mg base A outer s H) (hl : vs.length = ps.length) (r : AG vs us)
 (x : InCallC s s.heap.objs.size (bindL (envOfC qual scope s.heap.objs.size f cd).kindOf (ps.zip us) fun _ => none) (cellsFrom (s.heap.objs.size + 1) scope.names []) (bindC (envOfC qual scope s.heap.objs.size f cd).kindOf (ps.zip us) fun _ => none) s1) :
 Inv (JX CX P w K mg base N qual scope f cd A outer s H E) [] (E6 N vs) H s1 := by
 have hpl : ps.length ≤ N.length := by have := congrArg SW S.pre; rw [SX] at this; lia
 obtain ⟨h1, tk, rfl, hk⟩ := x.done
 have noA : ∀ b : Addr, b ∉ (JX CX P w K mg base N qual scope f cd A outer s H E).ex := fun b z => absurd (show b ∈ ([] : List Addr) from z) (by simp)
 refine ⟨⟨e0.mod, S.kind, rfl, rfl, SK _, fun y z c h1 h2 => ?_, fun y hy => ?_, fun y c _ h => ?_, fun _ => hd, Around.frames_deeper e0.frames, .inr ⟨rfl, rfl⟩, fun b z => absurd z (noA b), e0.bs, e0.bsz, fun b _ _ => noA b, fun b z => absurd z (noA b), e0.funs, e0.frf⟩,
  rfl, e0.bare, Un.kept hk, ⟨_, x.toInCall.ns, fun i y v h1 h2 h3 => ?_⟩, fun y c h => ⟨_, x.cell y c h⟩, e0.hok.fresh (SK _), fun y c h => ?_, fun p hp => absurd (show p ∈ ([] : List (Addr × Obj)) from hp) (by simp), e0.hok.kept hk, ?_⟩
 ·exact name_of_addr x.apart (PySem.mem_of_lookup h1) (PySem.mem_of_lookup h2)
 ·have hy : scope.names.lookup y = some .cell ∨ scope.names.lookup y = some .free := hy
  rcases hy with hy | hy
  ·exact Jd hy
  ·exact absurd rfl (S.nofree _ (PySem.mem_of_lookup hy))
 ·exact Sw (x.above y c (PySem.mem_of_lookup h))
 ·have hi : i < vs.length := by
   unfold E6 at h2
   by_cases hi : i < vs.length
   ·exact hi
   ·rw [SY (by simpa using hi)] at h2
    rw [T1] at h2
    split at h2 <;> cases h2
  have ha : vs[i]? = some v := by
   unfold E6 at h2
   rw [T2 (by simpa using hi), T3] at h2
   cases e : vs[i]? with
   | none => rw [e] at h2; cases h2
   | some a => rw [e] at h2; cases h2; rfl
  obtain ⟨u, hu, rv⟩ := r.get ha
  have hp : ps[i]? = some y := by
   rw [← S.pre, List.getElem?_take_of_lt (by lia)]; exact h1
  have ndP : ps.Nodup := by rw [← S.pre]; exact S.nd.sublist (T4 _ _)
  refine ⟨u, rv, ?_⟩
  rcases S.par y (T5 hp) with k | k
  ·exact .inl ⟨k, Ha ndP hp hu k⟩
  ·obtain ⟨c, e⟩ := Jd (n := s.heap.objs.size + 1) k
   refine .inr ⟨.inl k, c, e, ?_⟩
   have q := x.cell y c e
   rw [Hc ndP hp hu (by show scope.names.lookup y ≠ _; rw [k]; decide)] at q
   exact q
 ·exact e0.hok.fresh (Sw (x.above y c (PySem.mem_of_lookup h)))
 ·unfold E6
  show _ = N.length
  rw [T6, T7, T8]
  lia
theorem O1 {CX : CXT} {P : Program} {w : World} {K : Su} {mg : Str → Option Value} {base : Heap} {k : Nat} {f : Addr} {name qual : Str} {params : Arguments} {body : List Stmt} {scope : Scope} {dV kV doc pm cdv ct oc : Value} {an od : Option Addr}
 {osl : Array (Option Value)} {N ps : List Str} {sp : Sp} (lk : K.lookup f = some ⟨oc, od, .func (T9 name qual params body scope dV kV doc pm an cdv ct), osl⟩) (hcd : Tc K cdv qual = true) (S : Ao N ps scope)
 (len : ∀ vs H Q E, sp vs H Q E → vs.length = ps.length)
 (hbody : ∀ (A : Around) (outer : List Env) (s : Shared) (H : Hp) (vs : List V) (Q : VK) (E : XK), C8 k (A.deeper (envOfC qual scope s.heap.objs.size f cdv)) → sp vs H Q E →
  ∃ t, PSs (JX CX P w K mg base N qual scope f cdv A outer s H E) body t ∧ t { nx := fun _ H' => Q .non H', rt := Q } (E6 N vs) H) :
 AH P w K mg base CX (k + 1) f (T9 name qual params body scope dV kV doc pm an cdv ct) ps sp := by
 refine ⟨len, fun A outer s H args us vs Q E hr e0 hb r hsp => ?_⟩
 have hl := len _ _ _ _ hsp
 have KX : K.In s.heap := e0.mod.kin.keeps fun b o e => (e0.bs b o e).1
 have lim : s.heap.NoLimit := e0.mod.nolimit.keeps fun b o e => (e0.bs b o e).1
 have hkind : ∀ y ∈ ps.zip us, scope.names.lookup y.1 = some .local ∨ (scope.names.lookup y.1 = some .cell ∧ ((cellsFrom (s.heap.objs.size + 1) scope.names []).lookup y.1).isSome = true) := fun ⟨n, v⟩ hy => by
  rcases S.par n (SU hy).1 with q | q
  ·exact .inl q
  ·exact .inr ⟨q, PySem.W.cellsFrom_some _ _ _ (.inl q)⟩
 refine codeAny_call_function hr.depth (KX _ _ lk) rfl S.co S.gen rfl (PySem.W.codeRec_of KX hcd) (hb _ _ _ _ ?_)
 refine wpAny_newFunctionEnv_cells S.kind hkind fun env he s1 x => ?_
 subst he
 refine ⟨lim.keeps x.toInCall.keep, codeAny_func ?_⟩
 obtain ⟨t, ht, hq⟩ := hbody A outer s H vs Q E (hr.deeper _) hsp
 have I : Inv (JX CX P w K mg base N qual scope f cdv A outer s H E) [] (E6 N vs) H s1 := Li S hr.hd e0 hl r x
 refine wpAny_mono (ht [] s1 (E6 N vs) H _ I hq) (fun fl s' hs => ?_) fun e s' hs => hs
 have fin : ∀ {σ' : St} {H' : Hp} {v : V} {u : Value}, Inv (JX CX P w K mg base N qual scope f cdv A outer s H E) [] σ' H' s' → AR v u → Q v H' → CE outer P w H s Q u s' :=
  fun {σ' H' v u} J rv q => ⟨v, H', J.os, J.bare, J.base, J.hok, rv, q⟩
 cases fl with
 | ret u =>
   obtain ⟨v, σ', H', J, rv, q⟩ := hs
   exact fin J rv q
 | next =>
   obtain ⟨σ', H', J, q⟩ := hs
   exact fin (v := V.non) (u := Value.none) J rfl q
 | brk =>
   obtain ⟨_, _, _, q⟩ := hs
   exact False.elim q
 | cont =>
   obtain ⟨_, _, _, q⟩ := hs
   exact False.elim q
end L2
namespace L2
open PySem PySem.Spec PyProof.Rows
section
variable {X : Cx} {x : Str} {p pos : Pos} {e : Expr} {es : List Expr} {t : TA} {id T : String} {r : List V → Hp → VK → Prop}
def tCB (r : List V → Hp → VK → Prop) (t : TA) : TE := fun σ H Q => t σ H fun vs H1 => r vs H1 Q
theorem Av (hc : D4 X (.builtin id) r) (hg : Gl X x) (hm : X.mg x = none) (hv : bootBuiltins x = some (.builtin id)) (ha : PA X (e :: es) t) (hn : x ≠ "__name__" := by decide) (hdb : (x == ("__debug__" : Str)) = false := by decide)
 (he : starEach (e :: es) X.env = (false, eval e X.env) :: starEach es X.env := by rfl) (hpl : (backTo pos (starEach es X.env)).any (·.1) = false := by rfl) : PE X (.Call (.Name x p) (e :: es) [] pos) (tCB r t) := by
 intro pins s σ H Q I h
 refine wpAny_Call_Name_kw (Di I hg hm hv ?_ hn hdb)
 exact PyProof.Rows.callWith_builtin1 (thn (ha pos pins s σ H _ I h) fun us s1 ⟨vs, H1, I1, r1, q1⟩ => hc pins s1 σ H1 vs us Q I1 r1 q1) he hpl
theorem DO (hc : D4 X (.type T) r) (hg : Gl X x) (hm : X.mg x = none) (hv : bootBuiltins x = some (.type T)) (ha : PA X (e :: es) t) (hn : x ≠ "__name__" := by decide) (hdb : (x == ("__debug__" : Str)) = false := by decide)
 (he : starEach (e :: es) X.env = (false, eval e X.env) :: starEach es X.env := by rfl) (hpl : (backTo pos (starEach es X.env)).any (·.1) = false := by rfl) : PE X (.Call (.Name x p) (e :: es) [] pos) (tCB r t) := by
 intro pins s σ H Q I h
 refine wpAny_Call_Name_kw (Di I hg hm hv ?_ hn hdb)
 exact PyProof.Rows.callWith_type1 (thn (ha pos pins s σ H _ I h) fun us s1 ⟨vs, H1, I1, r1, q1⟩ => hc pins s1 σ H1 vs us Q I1 r1 q1) he hpl
end
end L2
namespace HT
open PySem PyProof.Rows
section
open PySem.SeqAt
open PySem.AutoSeq1 (wpAny_loadPart')
open PySem.MeetsSeq PySem.MeetsSeq2 PySem.MeetsSeq3
end
section
variable {prog : Program} {w : World} {A : Around} {E : Value → Shared → Prop} {s : Shared}
def sIx (n d : Nat) : Option Int → Nat
 | none => d
 | some v => if v < 0 then (v + (n : Int)).toNat else min v.toNat n
theorem sIx_nat (n d k : Nat) : sIx n d (some (k : Int)) = min k n := by
 show (if (k : Int) < 0 then ((k : Int) + (n : Int)).toNat else min (k : Int).toNat n) = min k n
 rw [if_neg (by lia), Td]
theorem clip_eq (v : Int) (n d : Nat) : (if v < 0 then max (v + (n : Int)) 0 else min v (n : Int)) = ((sIx n d (some v) : Nat) : Int) := by
 show (if v < 0 then max (v + (n : Int)) 0 else min v (n : Int)) = (((if v < 0 then (v + (n : Int)).toNat else min v.toNat n) : Nat) : Int)
 by_cases hv : v < 0
 ·rw [if_pos hv, if_pos hv, Int.toNat_eq_max]
 ·rw [if_neg hv, if_neg hv]
  obtain ⟨k, rfl⟩ := Int.eq_ofNat_of_zero_le (Int.not_lt.mp hv)
  rw [Td]
  rcases Nat.le_total k n with h | h
  ·rw [Te h, Int.min_eq_left (Int.ofNat_le.mpr h)]
  ·rw [Tf h, Int.min_eq_right (Int.ofNat_le.mpr h)]
end
end HT
namespace L2
open PySem PySem.Spec PyProof.Rows
abbrev TO := St → Hp → (Option Int → Hp → Prop) → Prop
def PO (X : Cx) (e : Option Expr) (t : TO) : Prop :=
 ∀ (pins : List (Addr × Obj)) (s : Shared) (σ : St) (H : Hp) (Q : Option Int → Hp → Prop), Inv X pins σ H s → t σ H Q →
   wpAny (model X.prog X.w) X.A (evalPart e X.env) (fun u s' => ∃ o H', Inv X pins σ H' s' ∧ IsPart u o ∧ Q o H') X.xe s
def N6 : TO := fun _ H Q => Q none H
def Pk (t : TE) : TO := fun σ H Q => t σ H fun x H1 => ∃ i, x = .int i ∧ Q (some i) H1
section
variable {X : Cx} {e : Expr} {te : TE} {lo hi : Option Expr} {tl th : TO} {pos p2 : Pos}
theorem Ce : PO X none N6 := by
 intro pins s σ H Q I h
 rw [evalPart_none]
 exact wpAny_pure ⟨none, H, I, .none, h⟩
theorem Cd (h : PE X e te) : PO X (some e) (Pk te) := by
 intro pins s σ H Q I hw
 rw [evalPart_some]
 refine thn (h pins s σ H _ I hw) fun u s1 ⟨x, H1, I1, r1, q1⟩ => ?_
 obtain ⟨i, rfl, q⟩ := q1
 obtain ⟨t, rfl⟩ := r1
 exact ⟨some i, H1, I1, .int i t, q⟩
def SlR (X : Cx) (r : V → Option Int → Option Int → Hp → VK → Prop) : Prop :=
 ∀ (pins : List (Addr × Obj)) (s : Shared) (σ : St) (H : Hp) (x : V) (v vl vu : Value) (lo hi : Option Int) (sl : Addr) (Q : VK), Inv X pins σ H s → AR x v → s.heap.IsSliceOf sl vl vu .none → IsPart vl lo → IsPart vu hi → r x lo hi H Q →
   ∃ T id, typeLookup (.type T) "__getitem__" = pure (some (.builtin id)) ∧ s.TypeIs v T ∧ wpAny (model X.prog X.w) X.A (getItem v (.ref sl)) (EP X pins σ Q) X.xe s
def tSl (r : V → Option Int → Option Int → Hp → VK → Prop) (te : TE) (tl th : TO) : TE := fun σ H Q => te σ H fun x H1 => tl σ H1 fun l H2 => th σ H2 fun u H3 => r x l u H3 Q
theorem BW {r : V → Option Int → Option Int → Hp → VK → Prop} (hr : SlR X r) (he : PE X e te) (hl : PO X lo tl) (hu : PO X hi th) : PE X (.Subscript e (.Slice lo hi none p2) pos) (tSl r te tl th) := by
 intro pins s σ H Q I h
 refine Subscript_ (thn (he pins s σ H _ I h) fun v s1 ⟨x, H1, I1, r1, q1⟩ => ?_)
 refine wpAny_Slice (thn (hl pins s1 σ H1 _ I1 q1) fun vl s2 ⟨l, H2, I2, pl, q2⟩ => thn (hu pins s2 σ H2 _ I2 q2) fun vu s3 ⟨u, H3, I3, pu, q3⟩ => ?_)
 rw [evalPart_none]
 refine wpAny_pure ?_
 have I4 : Inv X pins σ H3 { s3 with heap := s3.heap.push { cls := .type "slice", data := .fields #[vl, vu, .none] } } := I3.kept (t' := s3.toks) fun b ob q => Heap.get?_push_of_some _ q
 obtain ⟨T, id, hT, ht, hg⟩ := hr pins { s3 with heap := s3.heap.push { cls := .type "slice", data := .fields #[vl, vu, .none] } } σ H3 x v vl vu l u s3.heap.objs.size Q I4 r1 (Heap.IsSliceOf.new ..) pl pu q3
 show wpAny (model X.prog X.w) X.A (subscriptTail e (.Slice lo hi none p2) v (.ref s3.heap.objs.size)) (EP X pins σ Q) X.xe { s3 with heap := s3.heap.push { cls := .type "slice", data := .fields #[vl, vu, .none] } }
 exact tail_any (ops := [.ref s3.heap.objs.size, v]) ht hT hg (by with_unfolding_all rfl)
def CA (xs : List V) (lo hi : Option Int) : List V := (xs.drop (HT.sIx xs.length 0 lo)).take (HT.sIx xs.length xs.length hi - HT.sIx xs.length 0 lo)
theorem J9 (xs : List V) (lo hi : Option Int) : (CA xs lo hi).length ≤ xs.length := by
 unfold CA
 rw [SX, Tg]
 exact Sv (Nat.min_le_right _ _) (Nat.sub_le _ _)
end
end L2
namespace L2
open PySem PySem.Spec PyProof.Rows
def ixN (n : Nat) (i : Int) : Option Nat := if 0 ≤ i then (if i < n then some i.toNat else none) else if -(n : Int) ≤ i then some (i + n).toNat else none
def atI {α : Type} (xs : List α) (i : Int) : Option α := (ixN xs.length i).bind fun j => xs[j]?
theorem Kj {n : Nat} {i : Int} {j : Nat} (h : ixN n i = some j) : seqIndex? i n = some j ∧ j < n ∧ -(n : Int) ≤ i ∧ i < n := by
 unfold ixN at h
 by_cases h0 : 0 ≤ i
 ·rw [if_pos h0] at h
  by_cases h1 : i < n
  ·rw [if_pos h1] at h
   have e : i.toNat = j := Sj.inj h
   exact ⟨by rw [seqIndex_of h0 h1, e], by lia, by lia, h1⟩
  ·rw [if_neg h1] at h; cases h
 ·rw [if_neg h0] at h
  by_cases h1 : -(n : Int) ≤ i
  ·rw [if_pos h1] at h
   have e : (i + n).toNat = j := Sj.inj h
   exact ⟨by rw [seqIndex_neg (by lia) h1, e], by lia, h1, by lia⟩
  ·rw [if_neg h1] at h; cases h
theorem Ky {α : Type} {xs : List α} {i : Int} {v : α} (h : atI xs i = some v) : ∃ j, seqIndex? i xs.length = some j ∧ xs[j]? = some v ∧ j < xs.length ∧ -(xs.length : Int) ≤ i ∧ i < xs.length := by
 unfold atI at h
 cases e : ixN xs.length i with
 | none => rw [e] at h; cases h
 | some j =>
   rw [e] at h
   obtain ⟨h1, h2, h3, h4⟩ := Kj e
   exact ⟨j, h1, h, h2, h3, h4⟩
theorem Bv {α : Type} {xs : List α} {j : Nat} {v : α} (h : xs[j]? = some v) : atI xs (j : Int) = some v := by
 have hj : j < xs.length := (SF.mp h).1
 have e : ixN xs.length (j : Int) = some j := by
  unfold ixN
  rw [if_pos (by lia), if_pos (by lia)]; simp
 unfold atI; rw [e]; exact h
def NT (b : Expr) : Prop := ∀ o i, subscripted b false o i = operate [o, i] (getItem o i)
def IxR (X : Cx) (r : R2) : Prop :=
 ∀ (value slice : Expr) (pins : List (Addr × Obj)) (s : Shared) (σ : St) (H : Hp) (x y : V) (v u : Value) (Q : VK), Inv X pins σ H s → AR x v → AR y u → r x y H Q →
   subscripted slice false v u = operate [v, u] (getItem v u) → wpAny (model X.prog X.w) X.A (subscriptTail value slice v u) (EP X pins σ Q) X.xe s
def MtR (X : Cx) (id : String) (r : V → List V → Hp → VK → Prop) : Prop :=
 ∀ (pins : List (Addr × Obj)) (s : Shared) (σ : St) (H : Hp) (x : V) (xs : List V) (v : Value) (us : List Value) (Q : VK), Inv X pins σ H s → AR x v → AG xs us → r x xs H Q →
   wpAny (model X.prog X.w) X.A (call (.builtin id) (v :: us)) (EP X pins σ Q) X.xe s
section
variable {X : Cx} {a b : Expr} {ta tb : TE} {pos : Pos}
theorem Ai {r : R2} (hr : IxR X r) (ha : PE X a ta) (hb : PE X b tb) (hs : NT b) : PE X (.Subscript a b pos) (tOp r ta tb) := by
 intro pins s σ H Q I h
 exact Subscript_ (P8 ha hb I h fun v u s2 x y H2 I2 rx ry q => hr a b pins s2 σ H2 x y v u Q I2 rx ry q (hs _ _))
inductive Oq (K : Su) (x : V) (y : V) (H : Hp) (Q : VK) : Prop
 | mk (p : _) (xs : _) (i : _) (v : _) (h1 : x = .ref p) (h2 : y = .int i) (h3 : SqL K H p xs) (h4 : atI xs i = some v) (h5 : Q v H) : Oq K x y H Q
inductive Oo (K : Su) (x : V) (y : V) (H : Hp) (Q : VK) : Prop
 | mk (p : _) (xs : _) (i : _) (v : _) (h1 : x = .ref p) (h2 : y = .int i) (h3 : SqT K H p xs) (h4 : atI xs i = some v) (h5 : Q v H) : Oo K x y H Q
theorem NG : IxR X (Oq X.K) := by
 intro value slice pins s σ H x y v u Q I rx ry h hs
 obtain ⟨p, xs, i, z, rfl, rfl, hq, he, q⟩ := h
 cases rx
 obtain ⟨t, rfl⟩ := ry
 obtain ⟨its, r, pl, hz⟩ := I.list hq
 obtain ⟨j, h1, h2, h3, h4, h5⟩ := Ky he
 obtain ⟨w, ew, rw'⟩ := r.get h2
 have hl := r.length
 have hn := Ia
 have fin : EP X pins σ Q w s := ⟨z, H, I, rw', q⟩
 by_cases h0 : 0 ≤ i
 ·have hj : i.toNat = j := by
   rw [seqIndex_of h0 h5] at h1
   exact Sj.inj h1
  exact item_listR pl.isList h0 (by lia) (by rw [hj]; simpa using ew) fin hs
 ·have hj : (i + (its.toArray.size : Int)).toNat = j := by
   rw [seqIndex_neg (by lia) h4] at h1
   rw [Th, ← hl]
   exact Sj.inj h1
  exact subscriptTail_builtinR (x := w) pl.isList.typeIs slot_list_getitem.lookup
   (wpAny_getItem_list_neg (Q := fun r s' => r = w ∧ EP X pins σ Q r s') pl.isList (by lia) (by rw [Th] <;> lia) (by lia) (by rw [hj]; simpa using ew) ⟨rfl, fin⟩) hs
theorem OT : IxR X (Oo X.K) := by
 intro value slice pins s σ H x y v u Q I rx ry h hs
 obtain ⟨p, xs, i, z, rfl, rfl, hq, he, q⟩ := h
 cases rx
 obtain ⟨t, rfl⟩ := ry
 obtain ⟨its, r, pl, hz⟩ := I.tuple hq
 obtain ⟨j, h1, h2, h3, h4, h5⟩ := Ky he
 obtain ⟨w, ew, rw'⟩ := r.get h2
 have hl := r.length
 have hn := Ia
 have fin : EP X pins σ Q w s := ⟨z, H, I, rw', q⟩
 exact subscriptTail_builtinR (x := w) pl.typeIs slot_tuple_getitem.lookup
  (getItem_tuple (j := j) (Q := fun r s' => r = w ∧ EP X pins σ Q r s') pl (by lia) (by lia) (by rw [Th, ← hl]; exact h1) (by simpa using ew) ⟨rfl, fin⟩) hs
theorem JN (its : List Value) (n j : Nat) (u : Value) : Obj.mapSeq (·.setIfInBounds j u) { cls := .type "list", data := .seq its.toArray n } = { cls := .type "list", data := .seq (its.set j u).toArray n } := by
 simp [Obj.mapSeq]
theorem Inv.lst {pins : List (Addr × Obj)} {σ : St} {H : Hp} {s : Shared} {p : Addr} {xs : List V} (I : Inv X pins σ H s) (h : H p = some (.lst xs)) :
 ∃ (its : List Value) (n : Nat), AG xs its ∧ s.heap.get? p = some { cls := .type "list", data := .seq its.toArray n } ∧ xs.length ≤ sizeLine := by
 obtain ⟨z, its, n, r, e⟩ := I.hok p _ h
 exact ⟨its, n, r, e, z⟩
theorem Inv.lstUpd {pins : List (Addr × Obj)} {σ : St} {H : Hp} {s : Shared} {p : Addr} {xs ys : List V} {its its' : List Value} {n n' : Nat} {f : Obj → Obj} (I : Inv X pins σ H s) (h : H p = some (.lst xs))
 (ho : s.heap.get? p = some { cls := .type "list", data := .seq its.toArray n }) (hf : f { cls := .type "list", data := .seq its.toArray n } = { cls := .type "list", data := .seq its'.toArray n' }) (r : AG ys its') (hz : ys.length ≤ sizeLine) (t : Nat) :
 Inv X pins σ (upd H p (.lst ys)) { s with heap := s.heap.update p f, toks := t } := by
 have e : (s.heap.update p f).get? p = some { cls := .type "list", data := .seq its'.toArray n' } := by
  rw [Heap.get?_update_self f ho (by rw [hf] <;> rfl), hf]
 refine I.write (x := p) (e := p) (by rw [h]; trivial) (.inl rfl) (fun b u hb q => (Heap.get?_update_other _ _ (Ne.symm hb)).trans q) ⟨_, e⟩ ?_
 exact ⟨hz, its', n', r, e⟩
inductive NW (o : V) (i : V) (v : V) (H : Hp) (Q : (Hp → Prop)) : Prop
 | mk (p : _) (xs : _) (k : _) (j : _) (h1 : o = .ref p) (h2 : i = .int k) (h3 : H p = some (.lst xs)) (h4 : ixN xs.length k = some j) (h5 : Q (upd H p (.lst (xs.set j v)))) : NW o i v H Q
theorem CT : Q3 X NW := by
 intro pins s σ H o i v ov iv u Q I ro ri rv h
 obtain ⟨p, xs, k, j, rfl, rfl, hp, hj, q⟩ := h
 cases ro
 obtain ⟨t, rfl⟩ := ri
 obtain ⟨its, n, r, ho, hz⟩ := I.lst hp
 obtain ⟨h1, h2, h3, h4⟩ := Kj hj
 have hl := r.length
 have hn := Ia
 have I' : Inv X pins σ (upd H p (.lst (xs.set j v))) { s with heap := s.heap.update p (Obj.mapSeq (·.setIfInBounds j u)) } :=
  I.lstUpd hp ho (JN its n j u) (r.set rv j) (by rw [Ti]; exact hz) s.toks
 by_cases h0 : 0 ≤ k
 ·have hk : k.toNat = j := by
   rw [seqIndex_of h0 h4] at h1
   exact Sj.inj h1
  exact PySem.W.ki_setAt ho h0 (by lia) (by rw [Th, ← hl]; exact h4) (by rw [hk]; exact ⟨_, I', q⟩)
 ·have hk : (k + (its.toArray.size : Int)).toNat = j := by
   rw [seqIndex_neg (by lia) h3] at h1
   rw [Th, ← hl]
   exact Sj.inj h1
  exact PySem.W.ki_setBack ho (by lia) (by rw [Th, ← hl]; exact h3) (by lia) (by rw [hk]; exact ⟨_, I', q⟩)
theorem Hv (lo hi : Option Int) (n : Nat) : (sliceBounds lo hi none n).1 = ((HT.sIx n 0 lo : Nat) : Int) ∧ (sliceBounds lo hi none n).2.1 = ((HT.sIx n n hi : Nat) : Int) ∧ (sliceBounds lo hi none n).2.2 = 1 := by
 have key : ∀ (i : Int) (d : Nat), max 0 (min (if i < 0 then i + (n : Int) else i) (n : Int)) = ((HT.sIx n d (some i) : Nat) : Int) := by
  intro i d
  rw [← HT.clip_eq]
  by_cases h : i < 0
  ·rw [if_pos h, if_pos h, Int.min_eq_left (by lia), Int.max_comm]
  ·rw [if_neg h, if_neg h, Int.max_eq_right (Int.le_min.mpr ⟨by lia, by lia⟩)]
 refine ⟨?_, ?_, rfl⟩
 ·cases lo with
  | none => simp [sliceBounds, HT.sIx]
  | some i => exact key i 0
 ·cases hi with
  | none => simp [sliceBounds, HT.sIx]
  | some i => exact key i n
theorem Gm (its : List Value) (lo hi : Option Int) : slicePick its.toArray lo hi none = ((its.drop (HT.sIx its.length 0 lo)).take (HT.sIx its.length its.length hi - HT.sIx its.length 0 lo)).toArray := by
 obtain ⟨h1, h2, h3⟩ := Hv lo hi its.toArray.size
 unfold slicePick
 rw [h1, h2, h3]
 simp only [sliceRange_one, pick_run, Th] <;> rfl
inductive Om (K : Su) (x : V) (lo : Option Int) (hi : Option Int) (H : Hp) (Q : VK) : Prop
 | mk (a : _) (xs : _) (h1 : x = .ref a) (h2 : SqL K H a xs) (h3 : ∀ p, H p = none → Q (.ref p) (upd H p (.lst (CA xs lo hi)))) : Om K x lo hi H Q
theorem Na : SlR X (Om X.K) := by
 intro pins s σ H x v vl vu lo hi sl Q I rx hs pl pu h
 obtain ⟨a, xs, rfl, hx, q⟩ := h
 cases rx
 obtain ⟨its, r, ht, hz⟩ := I.list hx
 have hlen := r.length
 refine ⟨"list", _, slot_list_getitem.lookup, ht.isList.typeIs, ?_⟩
 refine wpAny_getItem_list_slice ht.isList hs pl pu .none (by simp) ?_ (by rw [Th] <;> lia)
 rw [Gm, ← hlen]
 refine ⟨.ref s.heap.objs.size, _, I.laid (t' := s.toks) (o := .lst (CA xs lo hi)) (fun b ob q => Heap.get?_push_of_some _ q) (SK _) ?_, rfl, q _ (I.hok.fresh (SK _))⟩
 exact ⟨Sv (J9 xs lo hi) hz, _, 0, (r.drop (HT.sIx xs.length 0 lo)).take (HT.sIx xs.length xs.length hi - HT.sIx xs.length 0 lo), Heap.get?_push_size _ rfl⟩
theorem Im : D4 X (.builtin "len") (fun xs H Q => ∃ p ys, xs = [.ref p] ∧ (SqL X.K H p ys ∨ SqT X.K H p ys) ∧ Q (.int ys.length) H) := by
 intro pins s σ H xs us Q I r h
 obtain ⟨p, ys, rfl, hq, q⟩ := h
 obtain ⟨u, rfl, rx⟩ := ER r
 cases rx
 have hn := Ia
 rcases hq with hq | hq
 ·obtain ⟨its, r', pl, hz⟩ := I.list hq
  have hlen := r'.length
  exact Calls.call_len_list pl.isList (by simp only [Th] <;> lia) ⟨.int ys.length, H, I.tok _, ⟨s.toks + 1, by rw [Th, hlen]⟩, q⟩
 ·obtain ⟨its, r', pl, hz⟩ := I.tuple hq
  have hlen := r'.length
  exact len_tuple pl (by simp only [Th] <;> lia) ⟨.int ys.length, H, I.tok _, ⟨s.toks + 1, by rw [Th, hlen]⟩, q⟩
theorem Il : D4 X (.type "list") (fun xs H Q => ∃ p ys, xs = [.ref p] ∧ (SqL X.K H p ys ∨ SqT X.K H p ys) ∧ ∀ l, H l = none → Q (.ref l) (upd H l (.lst ys))) := by
 intro pins s σ H xs us Q I r h
 obtain ⟨p, ys, rfl, hq, q⟩ := h
 obtain ⟨u, rfl, rx⟩ := ER r
 cases rx
 have fin : ∀ (its : List Value), AG ys its → ys.length ≤ sizeLine → ∀ (h' : Heap) (c' : Nat), (∀ b o', s.heap.get? b = some o' → h'.get? b = some o') →
  h'.get? s.heap.objs.size = some { cls := .type "list", dict := none, data := .seq its.toArray c', slots := #[] } → EP X pins σ Q (.ref s.heap.objs.size) { s with heap := h' } := fun its r' hz h' c' kp e =>
  ⟨.ref s.heap.objs.size, _, I.laid (t' := s.toks) kp (SK _) (show BX X.prog X.w _ h' _ (.lst ys) from ⟨hz, its, c', r', e⟩), rfl, q _ (I.hok.fresh (SK _))⟩
 rcases hq with hq | hq
 ·obtain ⟨its, r', pl, hz⟩ := I.list hq
  have hlen := r'.length
  obtain ⟨o, ho, hc, n, hd⟩ := pl.isList
  exact call_list_seq p (.inl rfl) ho hc hd (fun h' c' kp e => fin its r' hz h' c' kp e) (by simp only [Th] <;> lia)
 ·obtain ⟨its, r', pl, hz⟩ := I.tuple hq
  have hlen := r'.length
  obtain ⟨o, ho, hc, n, hd⟩ := pl
  exact call_list_seq p (.inr rfl) ho hc hd (fun h' c' kp e => fin its r' hz h' c' kp e) (by simp only [Th] <;> lia)
theorem GC : D4 X (.type "tuple") (fun xs H Q => ∃ p ys, xs = [.ref p] ∧ ((SqL X.K H p ys ∧ ∀ l, H l = none → Q (.ref l) (upd H l (.tup ys))) ∨ (SqT X.K H p ys ∧ Q (.ref p) H))) := by
 intro pins s σ H xs us Q I r h
 obtain ⟨p, ys, rfl, h⟩ := h
 obtain ⟨u, rfl, rx⟩ := ER r
 cases rx
 rcases h with ⟨hq, q⟩ | ⟨hq, q⟩
 ·obtain ⟨its, r', pl, hz⟩ := I.list hq
  have hlen := r'.length
  refine call_tuple_list pl.isList (fun h' kp => ?_) (by simp only [Th] <;> lia)
  have I1 : Inv X pins σ H { s with heap := h' } := I.kept (t' := s.toks) kp
  have I2 : Inv X pins σ (upd H h'.objs.size (.tup ys)) { s with heap := h'.push { cls := .type "tuple", data := .seq its.toArray } } :=
   I1.laid (t' := s.toks) (fun b o e => Heap.get?_push_of_some _ e) (SK _) (show BX X.prog X.w _ _ _ (.tup ys) from ⟨hz, its, r', IsTup.new _ _⟩)
  exact ⟨.ref h'.objs.size, _, I2, rfl, q _ (I1.hok.fresh (SK _))⟩
 ·obtain ⟨its, r', pl, hz⟩ := I.tuple hq
  exact call_tuple_same pl ⟨.ref p, H, I, rfl, q⟩
def tyV (K : Su) (T : String) (x : V) (H : Hp) : Prop := match x with
 | .str _ => T = "str"
 | .int _ => T = "int"
 | .ref p => (T = "list" ∧ ∃ xs, SqL K H p xs) ∨ (T = "tuple" ∧ ∃ o, K.lookup p = some o ∧ o.cls = .type "tuple" ∧ o.dict = none) ∨
  (T = "dict" ∧ ((∃ kvs, H p = some (.dK kvs)) ∨ ∃ kvs, H p = some (.dT kvs))) ∨ (T = "set" ∧ ∃ S n, H p = some (.set S n))
 | _ => False
theorem Oa {pins : List (Addr × Obj)} {σ : St} {H : Hp} {s : Shared} {T : String} {x : V} {v : Value} (I : Inv X pins σ H s) (r : AR x v) (ty : tyV X.K T x H) :
 s.TypeIs v T ∧ ∀ a, v = .ref a → ∃ ob, s.heap.get? a = some ob ∧ ob.dict = none := by
 cases x with
 | str z =>
   obtain ⟨t, rfl⟩ := r
   cases (show T = "str" from ty)
   exact ⟨typeIs_str s z t, fun _ e => nomatch e⟩
 | int i =>
   obtain ⟨t, rfl⟩ := r
   cases (show T = "int" from ty)
   exact ⟨typeIs_int s i t, fun _ e => nomatch e⟩
 | ref p =>
   cases r
   rcases ty with ⟨rfl, xs, hq⟩ | ⟨rfl, o, hk, hc, hd⟩ | ⟨rfl, hk⟩ | ⟨rfl, S, n, hk⟩
   ·obtain ⟨its, _, pl, _⟩ := I.list hq
    refine ⟨pl.isList.typeIs, fun a e => ?_⟩
    cases e
    obtain ⟨o, n, e, c, hd, _⟩ := pl
    exact ⟨o, e, hd⟩
   ·refine ⟨⟨o, I.kIn p o hk, hc⟩, fun a e => ?_⟩
    cases e
    exact ⟨o, I.kIn _ o hk, hd⟩
   ·have z : ∃ o, s.heap.get? p = some o ∧ o.ExactDict := by
     rcases hk with ⟨kvs, hk⟩ | ⟨kvs, hk⟩
     ·obtain ⟨_, _, _, _, o, _, _, e, ex, _⟩ := I.hok p _ hk
      exact ⟨o, e, ex⟩
     ·obtain ⟨_, _, _, _, o, _, _, e, ex, _⟩ := I.hok p _ hk
      exact ⟨o, e, ex⟩
    obtain ⟨o, e, ex⟩ := z
    refine ⟨⟨o, e, ex.1⟩, fun a e2 => ?_⟩
    cases e2
    exact ⟨o, e, ex.2.1⟩
   ·obtain ⟨o, _, _, _, e, ex, _⟩ := I.hok p _ hk
    refine ⟨⟨o, e, ex.1⟩, fun a e2 => ?_⟩
    cases e2
    exact ⟨o, e, ex.2.1⟩
 | _ => exact False.elim ty
def tBM (K : Su) (T : String) (r : V → List V → Hp → VK → Prop) (to : TE) (t : TA) : TE := fun σ H Q => to σ H fun x H1 => tyV K T x H1 ∧ t σ H1 fun xs H2 => r x xs H2 Q
variable {o e : Expr} {es : List Expr} {to : TE} {t : TA} {name : Str} {apos cpos : Pos} {T id : String} {r : V → List V → Hp → VK → Prop}
theorem PF (pa : PlainAttrs T) (slot : Slot T name id) (hty : typeOf (.builtin id) = pure (.type "method_descriptor")) (hm : MtR X id r) (ho : PE X o to) (ha : PA X (e :: es) t)
 (hbase : attributeBase o name X.env (eval o X.env) = eval o X.env := by rfl)
 (hfew : ((backTo cpos (starEach (e :: es) X.env)).all (fun x => !x.1) && (backToKw cpos (keywordEach [] X.env)).all (fun x => x.1.isSome)
  && decide ((e :: es).length + ([] : List Keyword).length + (if ([] : List Keyword).isEmpty then 0 else 1) < 30)) = true := by rfl)
 (hline : (apos.endLine == cpos.line) = true := by rfl) (hs : starEach (e :: es) X.env = (false, eval e X.env) :: starEach es X.env := by rfl) (hplain : (backTo cpos (starEach es X.env)).any (·.1) = false := by rfl) {K : Su} (eK : X.K = K := by rfl) :
 PE X (.Call (.Attribute o name apos) (e :: es) [] cpos) (tBM K T r to t) := by
 subst eK
 intro pins s σ H Q I h
 refine wpAny_Call_method_late hbase hfew hline rfl (thn (ho pins s σ H _ I h) fun v s1 ⟨x, H1, I1, r1, ty, q1⟩ => ?_)
 obtain ⟨h1, h2⟩ := Oa I1 r1 ty
 refine ⟨T, id, pa, slot, hty, h1, h2, ?_⟩
 have hA := ha cpos pins s1 σ H1 _ I1 q1
 rw [hs] at hA ⊢
 refine Calls.callWith_builtin (by show (false || (backTo cpos (starEach es X.env)).any (·.1)) = false; rw [hplain] <;> rfl) (Calls.evalArgs_plain ?_)
 exact thn hA fun us s2 ⟨vs, H2, I2, r2, q2⟩ => hm pins s2 σ H2 x vs v us Q I2 r1 r2 q2
end
end L2
namespace L2
open PySem PySem.Spec PyProof.Rows
def MtM (X : Cx) (id : String) (r : V → List V → Hp → VK → Prop) : Prop :=
 ∀ (pins : List (Addr × Obj)) (s : Shared) (σ : St) (H : Hp) (x : V) (xs : List V) (v : Value) (us : List Value) (Q : VK), Inv X pins σ H s → AR x v → AG xs us → r x xs H Q →
   wpAny (model X.prog X.w) X.A (call (.builtin id) (v :: us)) (EP X pins σ Q) X.xe s
theorem AG.one {x : V} {us : List Value} (h : AG [x] us) : ∃ u, us = [u] ∧ AR x u := by
 cases h with
 | cons r t => cases t; exact ⟨_, rfl, r⟩
theorem AG.two : ∀ {x y : V} {us : List Value}, AG [x, y] us → ∃ u v, us = [u, v] ∧ AR x u ∧ AR y v
 | _, _, _, .cons r (.cons q .nil) => ⟨_, _, rfl, r, q⟩
theorem AG.rep {xs : List V} {us : List Value} (h : AG xs us) : ∀ k : Nat, AG (SV k xs).flatten (SV k us).flatten
 | 0 => .nil
 | k + 1 => by
   rw [Tj, Tj, Tn, Tn]
   exact AG.append h (AG.rep h k)
theorem GX (its : List Value) : ∀ (k : Nat) (acc : List Value),
 List.foldl (fun x1 x2 => x1 ++ x2) acc.toArray (SV k its.toArray) = (acc ++ (SV k its).flatten).toArray
 | 0, acc => by simp
 | k + 1, acc => by
   have e : acc.toArray ++ its.toArray = (acc ++ its).toArray := by simp
   have e2 : (acc ++ its) ++ (SV k its).flatten = acc ++ (SV (k + 1) its).flatten := by
    rw [Tj, Tn, To]
   rw [← e2, ← GX its k (acc ++ its), ← e, Tj, List.foldl_cons]
section
variable {X : Cx} {pins : List (Addr × Obj)} {σ : St} {H : Hp} {s : Shared} {l b : Addr} {xs ys zs : List V}
theorem Inv.lset {its its' : List Value} {n : Nat} {f : Array Value → Array Value} {t' : Nat} (I : Inv X pins σ H s) (hH : H l = some (.lst xs))
 (e : s.heap.get? l = some { cls := .type "list", data := .seq its.toArray n }) (hf : f its.toArray = its'.toArray) (hv : AG ys its') (hz : ys.length ≤ sizeLine) :
 Inv X pins σ (upd H l (.lst ys)) { s with heap := s.heap.update l (Obj.mapSeq f), toks := t' } := by
 have q := PySem.IsL.update e f
 rw [hf] at q
 refine I.write (x := l) (e := l) (by rw [hH]; exact trivial) (.inl rfl) (fun b' u hb hu => (Heap.get?_update_other s.heap (Obj.mapSeq f) (Ne.symm hb)).trans hu) ⟨_, q⟩ ?_
 exact ⟨hz, its', _, hv, q⟩
theorem Inv.lnew {its : List Value} {t' : Nat} (I : Inv X pins σ H s) (hv : AG ys its) (hz : ys.length ≤ sizeLine) :
 Inv X pins σ (upd H s.heap.objs.size (.lst ys)) { s with heap := s.heap.push { cls := .type "list", data := .seq its.toArray }, toks := t' } :=
 I.laid (fun _ _ q => Heap.get?_push_of_some _ q) (SK _) ⟨hz, its, 0, hv, Heap.get?_push_size _ rfl⟩
theorem Inv.fresh (I : Inv X pins σ H s) : H s.heap.objs.size = none := I.hok.fresh (SK _)
theorem Inv.lstM (I : Inv X pins σ H s) (hH : H l = some (.lst xs)) : xs.length ≤ sizeLine ∧ ∃ (its : List Value) (n : Nat), AG xs its ∧ xs.length = its.length ∧ s.heap.get? l = some { cls := .type "list", data := .seq its.toArray n } := by
 obtain ⟨z, its, n, r, e⟩ := I.hok l _ hH
 exact ⟨z, its, n, r, r.length, e⟩
theorem IX {n : Nat} (h : n ≤ sizeLine) : Builtin.List.listTooLong n = false := by
 unfold Builtin.List.listTooLong
 exact decide_eq_false (by lia)
end
section
variable {X : Cx}
inductive K6 (x : V) (vs : List V) (H : Hp) (Q : VK) : Prop
 | mk (l : _) (xs : _) (y : _) (h1 : x = .ref l) (h2 : vs = [y]) (h3 : H l = some (.lst xs)) (h4 : xs.length < sizeLine) (h5 : Q .non (upd H l (.lst (xs ++ [y])))) : K6 x vs H Q
theorem DR : MtM X "list.append" K6 := by
 intro pins s σ H x vs v us Q I rx rv h
 obtain ⟨l, xs, y, rfl, rfl, hH, hz, q⟩ := h
 cases rx
 obtain ⟨u, rfl, ru⟩ := rv.one
 obtain ⟨z, its, n, r, hl, e⟩ := I.lstM hH
 refine call_meets F.slot_list_append ⟨_, e, rfl⟩ F.entry_list_append (F.args_list_append_2 _ _) (PySem.list_append l its.toArray n u (by rw [Th]; lia)) ⟨e, ?_⟩
 refine ⟨.non, _, I.lset (its' := its ++ [u]) hH e (by simp) (r.append (.cons ru .nil)) ?_, rfl, q⟩
 rw [T6, Tp]
 lia
inductive K5 (x : V) (vs : List V) (H : Hp) (Q : VK) : Prop
 | mk (l : _) (b : _) (xs : _) (zs : _) (h1 : x = .ref l) (h2 : vs = [.ref b]) (h3 : H l = some (.lst xs)) (h4 : H b = some (.lst zs)) (h5 : xs.length + zs.length ≤ sizeLine) (h6 : Q .non (upd H l (.lst (xs ++ zs)))) : K5 x vs H Q
theorem La : MtM X "list.extend" K5 := by
 intro pins s σ H x vs v us Q I rx rv h
 obtain ⟨l, b, xs, zs, rfl, rfl, hH, hB, hz, q⟩ := h
 cases rx
 obtain ⟨u, rfl, ru⟩ := rv.one
 cases ru
 obtain ⟨z, its, n, r, hl, e⟩ := I.lstM hH
 obtain ⟨z2, its2, n2, r2, hl2, e2⟩ := I.lstM hB
 have hsz : its.toArray.size + its2.toArray.size ≤ sizeLine := by rw [Th, Th]; lia
 have hlong : ¬ (!its.toArray.isEmpty && Builtin.List.listTooLong (its.toArray.size + its2.toArray.size)) = true := by
  rw [IX hsz, Bool.and_false]
  exact Bool.false_ne_true
 refine call_meets F.slot_list_extend ⟨_, e, rfl⟩ F.entry_list_extend (F.args_list_extend_2 _ _)
  (AutoSeq1.list_extend_list_list_0 l its.toArray n b its2.toArray n2 hlong (by rw [Th]; lia) (by lia)) ⟨e, e2, ?_⟩
 refine ⟨.non, _, I.lset (its' := its ++ its2) hH e (by simp) (r.append r2) ?_, rfl, q⟩
 rw [T6]
 lia
inductive Py (x : V) (y : V) (H : Hp) (Q : VK) : Prop
 | mk (l : _) (b : _) (xs : _) (zs : _) (h1 : x = .ref l) (h2 : y = .ref b) (h3 : H l = some (.lst xs)) (h4 : H b = some (.lst zs)) (h5 : xs.length + zs.length ≤ sizeLine) (h6 : ∀ p, H p = none → Q (.ref p) (upd H p (.lst (xs ++ zs)))) : Py x y H Q
theorem Dz : OpR X (binaryOp .Add) Py := by
 intro pins s σ H x y v u Q I rx ry h
 obtain ⟨l, b, xs, zs, rfl, rfl, hH, hB, hz, q⟩ := h
 cases rx
 cases ry
 obtain ⟨z, its, n, r, hl, e⟩ := I.lstM hH
 obtain ⟨z2, its2, n2, r2, hl2, e2⟩ := I.lstM hB
 refine PySem.P.add_list e e2 ?_ (by rw [Th, Th]; lia)
 have ea : its.toArray ++ its2.toArray = (its ++ its2).toArray := by simp
 rw [ea]
 exact ⟨.ref _, _, I.lnew (t' := s.toks) (r.append r2) (by rw [T6]; lia), rfl, q _ I.fresh⟩
inductive Px (x : V) (y : V) (H : Hp) (Q : VK) : Prop
 | mk (l : _) (k : _) (xs : _) (h1 : x = .ref l) (h2 : y = .int k) (h3 : H l = some (.lst xs)) (h4 : -(2 ^ 63) ≤ k) (h5 : k < 2 ^ 63) (h6 : xs.length * k.toNat ≤ sizeLine) (h7 : ∀ p, H p = none → Q (.ref p) (upd H p (.lst (SV k.toNat xs).flatten))) : Px x y H Q
theorem Kd {α : Type} (xs : List α) (k : Nat) : (SV k xs).flatten.length = k * xs.length := by
 induction k with
 | zero => simp
 | succ k ih => rw [Tj, Tn, T6, ih, Nat.succ_mul, Nat.add_comm]
theorem EE : OpR X (binaryOp .Mult) Px := by
 intro pins s σ H x y v u Q I rx ry h
 obtain ⟨l, k, xs, rfl, rfl, hH, h1, h2, hz, q⟩ := h
 cases rx
 obtain ⟨t, rfl⟩ := ry
 obtain ⟨z, its, n, r, hl, e⟩ := I.lstM hH
 have hlen : its.toArray.size * k.toNat ≤ sizeLine := by rw [Th, ← hl]; exact hz
 have hcap : ¬ its.toArray.size * k.toNat > (2 ^ 63 - 1) / 8 := by
  have : (sizeLine : Nat) ≤ (2 ^ 63 - 1) / 8 := by decide
  lia
 have hfit : ¬ (!Builtin.List.listFitsIndex k) = true := by
  rw [fitsIndex_both h1 h2]
  exact Bool.false_ne_true
 have hlong : ¬ Builtin.List.listTooLong (its.toArray.size * k.toNat) = true := by
  rw [IX hlen]
  exact Bool.false_ne_true
 have hnew : List.foldl (fun x1 x2 => x1 ++ x2) #[] (SV (if its.toArray.isEmpty = true then 0 else k.toNat) its.toArray) = (SV k.toNat its).flatten.toArray := by
  have f0 : ∀ m : Nat, List.foldl (fun x1 x2 => x1 ++ x2) #[] (SV m its.toArray) = (SV m its).flatten.toArray := fun m => by
   have := GX its m []
   rw [List.nil_append] at this
   exact this
  rw [f0]
  cases its with
  | nil => simp
  | cons a r' => rw [if_neg (by simp)]
 refine wpAny_binaryOp_repeat_ref (T := "list") (U := "int") (by decide) ⟨_, e, rfl⟩ (fun s' => typeIs_int s' k t) noFill_list_mul F.fills_int_mul F.slot_int_rmul repeat_list F.slot_int_index.lookup
  (call_meets F.slot_int_rmul (typeIs_int s k t) F.entry_int_rmul (F.args_int_rmul_2 _ _) (int___rmul___int_list k t l its.toArray n)
   ⟨e, rfl, ⟨_, e, rfl⟩, call_meets F.slot_list_mul ⟨_, e, rfl⟩ F.entry_list_mul (F.args_list_mul_2 _ _) (AutoListH.list___mul___list_int_3 l its.toArray n k t hfit hcap hlong) ⟨e, ?_⟩⟩)
 rw [hnew]
 exact ⟨.ref _, _, I.lnew (t' := s.toks) (r.rep k.toNat) (by rw [Kd, Nat.mul_comm]; exact hz), rfl, q _ I.fresh⟩
end
section
variable {prog : Program} {w : World} {A : Around} {E : Value → Shared → Prop} {s : Shared}
set_option maxRecDepth 100000 in
end
section
variable {X : Cx}
end
end L2
namespace Att
open PySem PySem.W PySem.Calls PyProof.Rows
theorem ints_of_wellAll {P : Params} {h : Heap} : ∀ (ns : List Int) (vs : List Value), WellAll P h vs (ns.map WData.int) → IntsAre vs ns := by
 intro ns
 induction ns with
 | nil =>
   intro vs w
   rw [List.map_nil] at w
   cases w
   exact .nil
 | cons n ns ih =>
   intro vs w
   rw [Tq] at w
   cases w with
   | cons a b =>
     cases a
     exact .cons _ _ (ih _ b)
theorem script_of {l : OpenLaw} {n : Nat} (hn : l.most = some n) {P : Params} {h : Heap} {args : List WData} {vals : List Value}
 (hpre : l.row.toRowW.claim.pre args = true) (hwl : WellAll P h vals args) :
 ∃ a vs ns, vals = [Value.ref a] ∧ args = [WData.list (ns.map WData.int)] ∧ h.get? a = some { cls := .type "list", data := .seq vs.toArray } ∧ IntsAre vs ns ∧ ns.length ≤ n := by
 have hsh : WShape.hasAll [] args [.list .int] = true := (pre_splitW hpre).1
 have hc : l.pre.holds [] { args := args } = true := (pre_splitW hpre).2
 obtain ⟨d, r, rfl, h1, h2⟩ := hasAllW_cons hsh
 obtain rfl := hasAllW_nil h2
 obtain ⟨xs, rfl, h3⟩ := hasW_list h1
 obtain ⟨ns, rfl⟩ := items_int h3
 have hlen : ns.length ≤ n := by
  unfold OpenLaw.pre at hc
  have h4 : (WTm.not (.lt (.lit (.int (n : Int))) (.len (.arg 0)))).holds [] { args := [.list (ns.map .int)] } = true := by
   have h4 := (holds_andW hc).1
   rw [hn] at h4
   exact h4
  have h5 := condW_of h4 (w_not (w_lt w_lit (w_len_list (w_arg rfl))))
  rw [T7] at h5
  refine Nat.le_of_not_lt fun q => ?_
  have q' : (n : Int) < ((ns.length : Nat) : Int) := by lia
  first
   | (rw [decide_eq_true q'] at h5; exact absurd h5 (by decide))
   | (simp at h5; lia)
 cases hwl with
 | cons w1 w2 =>
   cases w2
   cases w1 with
   | list ho hall => exact ⟨_, _, ns, rfl, rfl, ho, ints_of_wellAll ns _ hall, hlen⟩
theorem post_true (l : OpenLaw) (args : List WData) : l.row.toRowW.claim.post args (.bool true) args = true :=
 postW_of (r := l.row.toRowW) (X := (true == true))
  (show WShape.has [] (.bool true) .bool = true by first | rfl | decide | simp [WShape.has, WShape.arms, WShape.armsAll])
  (show (WTm.eq .res (.lit (.bool true))).value [] { args := args, res := some (.bool true), after := args } = some (.bool (true == true)) from w_eq_bool (w_res rfl) w_lit) rfl
theorem attach_call {l : OpenLaw} {n : Nat} {q : Program} {loose : List Str} {XP : (Str → Option Value) → Heap → Prop} {YP : World → Heap → Prop} {d : DefRec}
 (hn : l.most = some n) (hdf : d.params.defaults = [])
 (call : ∀ (w : World) (s₀ s₁ : Shared) (mg mb : Str → Option Value) (fa : Addr) (o : Obj) (pm cd doc : Value) (a : Addr) (vs : List Value) (ns : List Int),
  Ground q loose [] XP w s₀ mg mb s₁.heap → YP w s₁.heap →
  s₁.heap.get? fa = some o → o.data = .func (docDef d.name d.params d.body d.scope pm cd doc) → s₁.heap.CodeRec cd d.name → mg d.name = some (.ref fa) →
  s₁.heap.get? a = some { cls := .type "list", data := .seq vs.toArray } → IntsAre vs ns → ns.length ≤ n → s₁.gens = #[] →
  codeAny (model l.prog w) callerA (.call (.ref fa) ⟨[.ref a], []⟩) (fun r s' => r = .ok (.ret (.bool true)) ∧ OldK s₁.heap s'.heap ∧ s'.os = s₁.os ∧ AllBare s'.gens) s₁) :
 WalkO q loose XP YP l.row.toRowW d [] (fun f vs => PySem.call f vs) := by
 intro w s₀ s₁ mg mb G Y fa o pm cd doc dV kV ho hd hcd hD hmg hg args vals as hpre hlay hrd hwl hlo
 obtain rfl : dV = .none := Dflts.none hD hdf
 obtain rfl : kV = .none := Dflts.noKw hD
 obtain ⟨a, vs, ns, rfl, rfl, hobj, hints, hlen⟩ := script_of hn hpre hwl
 refine enter_call (codeAny_mono (call w s₀ s₁ mg mb fa o pm cd doc a vs ns G Y ho (fd_plain hd) hcd hmg hobj hints hlen hg) fun r s' hq => ?_)
 obtain ⟨rfl, h2, h3, h4⟩ := hq
 exact ⟨.inl ⟨.bool true, .bool true, [], rfl, fun _ => rfl, .bool true, post_true l _, fun _ => ⟨List.Pairwise.nil, fun _ hm => (nomatch hm)⟩⟩, h2, h3, h4⟩
section
variable {prog : Program} {w : World} {A : Around} {E : Value → Shared → Prop} {s : Shared} {K : Frag}
end
end Att
namespace L2
open PySem PySem.Spec PyProof.Rows
theorem KA {vs : List Value} {ns : List Int} (h : IntsAre vs ns) : AG (ns.map V.int) vs := by
 induction h with
 | nil => exact .nil
 | cons n t h ih => exact .cons ⟨t, rfl⟩ ih
end L2
namespace L2
open PySem PySem.Spec PyProof.Rows
end L2
namespace L2
open PySem PySem.Spec PyProof.Rows
def Am (s : Stmt) : Arguments := match s with
 | .FunctionDef _ a _ _ _ _ _ _ _ _ => a
 | _ => { posonlyargs := [], args := [], vararg := none, kwonlyargs := [], kw_defaults := [], kwarg := none, defaults := [] }
def Al (s : Stmt) : List Stmt := match s with
 | .FunctionDef _ _ b _ _ _ _ _ _ _ => b
 | _ => []
def Ae (s : Stmt) : Scope := match s with
 | .FunctionDef _ _ _ _ _ _ sc _ _ _ => sc
 | _ => { kind := .function, names := [], isGenerator := false, isCoroutine := false }
abbrev CX0 : CXT := fun _ _ _ _ _ _ => False
abbrev E0 : XK := fun _ _ _ => False
theorem PH {X : Cx} : K0 CX0 X E0 := fun _ _ _ _ _ _ _ h => h.elim
structure Fun (K : Su) (x qual : Str) (st : Stmt) (f : Addr) (fd : FuncData) : Prop where
 ex : ∃ (oc : Value) (od : Option Addr) (kV doc pm : Value) (an : Option Addr) (cdv ct : Value) (osl : Array (Option Value)),
  fd = T9 x qual (Am st) (Al st) (Ae st) .none kV doc pm an cdv ct ∧ K.lookup f = some ⟨oc, od, .func fd, osl⟩ ∧ Tc K cdv qual = true
 kp : SQ K (.ref f) = true
section
variable {P : Program} {w : World} {K : Su} {mg : Str → Option Value} {base : Heap}
theorem Fun.ok {x qual : Str} {st : Stmt} {f : Addr} {fd : FuncData} {N ps : List Str} {k : Nat} {sp : Sp} (F : Fun K x qual st f fd) (S : Ao N ps (Ae st)) (len : ∀ vs H Q E, sp vs H Q E → vs.length = ps.length)
 (hbody : ∀ (cdv : Value) (A : Around) (outer : List Env) (s : Shared) (H : Hp) (vs : List V) (Q : VK) (E : XK), C8 k (A.deeper (envOfC qual (Ae st) s.heap.objs.size f cdv)) → sp vs H Q E →
  ∃ t, PSs (JX CX0 P w K mg base N qual (Ae st) f cdv A outer s H E).nox (Al st) t ∧ t { nx := fun _ H' => Q .non H', rt := Q } (E6 N vs) H) : AH P w K mg base CX0 (k + 1) f fd ps sp := by
 obtain ⟨oc, od, kV, doc, pm, an, cdv, ct, osl, rfl, lk, hcd⟩ := F.ex
 refine O1 lk hcd S len fun A outer s H vs Q E hr hsp => ?_
 obtain ⟨t, h, q⟩ := hbody cdv A outer s H vs Q E hr hsp
 exact ⟨t, h.nox, q⟩
theorem Fun.binds {x qual : Str} {st : Stmt} {f : Addr} {fd : FuncData} {ps : List Str} (F : Fun K x qual st f fd)
 (h : ∀ (kV doc pm : Value) (an : Option Addr) (cdv ct : Value) (us : List Value), us.length = ps.length → bindArgs (T9 x qual (Am st) (Al st) (Ae st) .none kV doc pm an cdv ct) ⟨us, []⟩ = pure (ps.zip us)) : Ca K fd ps [] := by
 obtain ⟨oc, od, kV, doc, pm, an, cdv, ct, osl, rfl, lk, hcd⟩ := F.ex
 exact .all (h kV doc pm an cdv ct)
theorem Ax {x qual : Str} {st : Stmt} {f : Addr} {oc : Value} {od an : Option Addr} {osl : Array (Option Value)} {kV doc pm cdv ct : Value} (l : K.lookup f = some ⟨oc, od, .func (T9 x qual (Am st) (Al st) (Ae st) .none kV doc pm an cdv ct), osl⟩)
 (c : Tc K cdv qual = true) (k : SQ K (.ref f) = true) : Fun K x qual st f (T9 x qual (Am st) (Al st) (Ae st) .none kV doc pm an cdv ct) := ⟨⟨oc, od, kV, doc, pm, an, cdv, ct, osl, rfl, l, c⟩, k⟩
end
theorem AN {n : Nat} (h : n ≤ 1000) : n < sizeLine := Tr h (by decide)
section
variable {X : Cx}
theorem pv (i : Nat) {x : Str} {pos : Pos} (hN : X.N[i]? = some x := by rfl) (hv : Vis X.env.scope x := by first | exact Or.inl rfl | exact Or.inr (Or.inl rfl) | exact Or.inr (Or.inr rfl)) (hd : (x == ("__debug__" : Str)) = false := by decide)
 (hcd : (x == ("__classdict__" : Str)) = false := by decide) : PE X (.Name x pos) (LG i) := Oy hN hv hd hcd
end
theorem JT {A B : Prop} (h : B) : if false = true then A else B := by
 rw [if_neg Bool.false_ne_true]
 exact h
theorem Qg {A B : Prop} (h : A) : if true = true then A else B := by
 rw [if_pos rfl]
 exact h
theorem JU {c A B : Prop} [Decidable c] (h1 : c → A) (h2 : ¬ c → B) : if c then A else B := by
 by_cases h : c
 ·rw [if_pos h]
  exact h1 h
 ·rw [if_neg h]
  exact h2 h
def Af (H H' : Hp) : Prop := ∀ b o, H b = some o → H' b = some o
theorem Af.refl (H : Hp) : Af H H := fun _ _ h => h
theorem Af.trans {H H1 H2 : Hp} (a : Af H H1) (b : Af H1 H2) : Af H H2 := fun c o h => b c o (a c o h)
theorem Af.free {H H' : Hp} (e : Af H H') {l : Addr} (h : H' l = Option.none) : H l = Option.none := by
 cases q : H l with
 | none => rfl
 | some o =>
   rw [e l o q] at h
   cases h
theorem Af.seq {K : Su} {H H' : Hp} {a : Addr} {xs : List V} (e : Af H H') (h : SqL K H a xs) : SqL K H' a xs := by
 rcases h with (h | ⟨o, h⟩) | h
 ·exact .inl (.inl (e _ _ h))
 ·exact .inl (.inr ⟨o, e _ _ h⟩)
 ·exact .inr h
end L2
namespace L2
open PySem PySem.Spec PyProof.Rows
section
variable {κ : Type} [DecidableEq κ]
end
theorem PN {P : Program} {w : World} {k : Key} {u : Value} (r : AR (kV k) u) : (CK P w).is k u = true := by
 cases k with
 | inl i => obtain ⟨t, e⟩ := (show ∃ t, u = Value.int i t from r); subst e; exact J3 P w i t
 | inr x => obtain ⟨t, e⟩ := (show ∃ t, u = Value.str x t from r); subst e; exact J2 P w x t
theorem GS {P : Program} {w : World} : ∀ {ks : List Key} {us : List Value}, AG (ks.map kV) us → ItemsAre (CK P w) ks us
 | [], _, r => by rw [List.map_nil] at r; cases r; exact .nil
 | k :: ks, _, r => by
   rw [Tq] at r
   cases r with
   | cons h t => exact .cons (PN h) (GS t)
section
variable {P : Program} {w : World} {H : Hp} {h : Heap} {a : Addr}
end
section
variable {X : Cx} {pins : List (Addr × Obj)} {σ : St} {H : Hp} {s : Shared} {a : Addr} {y v : V} {u r : Value} {o : Option V} {A : Around} {E : Value → Shared → Prop}
theorem Inv.big (I : Inv X pins σ H s) : sysModules < s.heap.objs.size := by
 have h : mainGlobals < s.heap.objs.size := (I.mod.glob.keeps I.bk).lt
 exact Ts (by decide) h
end
section
variable {X : Cx} {pins : List (Addr × Obj)} {σ : St} {H : Hp} {s : Shared} {a : Addr} {kvs : List (Key × V)} {k : Key} {u : Value} {A : Around} {E : Value → Shared → Prop}
end
section
variable {X : Cx} {o i e value : Expr} {pos pos' tpos : Pos} {td ty tv : TE}
end
theorem MD {P : Program} {w : World} {H : Hp} (h : Heap) (hb : sysModules < h.objs.size) : BX P w H (h.push { cls := .type "dict", data := .dict #[] }) h.objs.size (.dT []) :=
 ⟨SN _, beq_eq_false_iff_ne.mpr (Ne.symm (Sn hb)), [], .nil, _, #[], 0, Heap.get?_push_size _ rfl, ⟨rfl, rfl, rfl⟩, rfl, rfl, List.nodup_nil⟩
def Og : TE := fun _ H Q => ∀ p, H p = none → Q (.ref p) (upd H p (.dT []))
section
variable {X : Cx} {pos : Pos}
theorem Mb : PE X (.Dict [] [] pos) Og := fun pins s σ H Q I h =>
 wpAny_Dict_empty ⟨.ref s.heap.objs.size, _, I.laid (a := s.heap.objs.size) (o := .dT []) (t' := s.toks) (fun _ _ q => Heap.get?_push_of_some _ q) (SK _) (MD s.heap I.big), rfl, h _ (I.hok.fresh (SK _))⟩
end
structure M1 (X : Cx) (o : Expr) (m : Str) (apos : Pos) (e : Expr) (cpos : Pos) : Prop where
 base : attributeBase o m X.env (eval o X.env) = eval o X.env
 few : ((backTo cpos (starEach [e] X.env)).all (fun x => !x.1) && (backToKw cpos (keywordEach [] X.env)).all (fun x => x.1.isSome)
  && decide (([e] : List Expr).length + ([] : List Keyword).length + (if ([] : List Keyword).isEmpty then 0 else 1) < 30)) = true
 line : (apos.endLine == cpos.line) = true
 trees : backTo cpos (starEach [e] X.env) = [(false, eval e X.env)]
structure M2 (X : Cx) (o : Expr) (m : Str) (apos : Pos) (e f : Expr) (cpos : Pos) : Prop where
 base : attributeBase o m X.env (eval o X.env) = eval o X.env
 few : ((backTo cpos (starEach [e, f] X.env)).all (fun x => !x.1) && (backToKw cpos (keywordEach [] X.env)).all (fun x => x.1.isSome)
  && decide (([e, f] : List Expr).length + ([] : List Keyword).length + (if ([] : List Keyword).isEmpty then 0 else 1) < 30)) = true
 line : (apos.endLine == cpos.line) = true
 trees : backTo cpos (starEach [e, f] X.env) = [(false, eval e X.env), (false, eval f X.env)]
section
variable {X : Cx} {pins : List (Addr × Obj)} {σ : St} {H : Hp} {s : Shared} {a : Addr} {y d : V} {u r : Value} {o : Option V} {A : Around} {E : Value → Shared → Prop}
end
section
variable {X : Cx} {o e f : Expr} {apos cpos : Pos} {td ty tx : TE}
end
section
variable {X : Cx} {pins : List (Addr × Obj)} {σ : St} {H : Hp} {s : Shared} {a : Addr} {kvs : List (Key × V)} {A : Around} {E : Value → Shared → Prop}
end
section
variable {X : Cx} {pins : List (Addr × Obj)} {σ : St} {H : Hp} {s : Shared} {a : Addr} {y : V} {u : Value} {A : Around} {E : Value → Shared → Prop}
end
end L2
namespace Nm
def msr (a b : Int) : Int := if b < 0 then -(Tt a b : Int) else (Tt a b : Int)
theorem gcd_pos {a b : Int} (hb : b ≠ 0) : 0 < Tt a b := Nat.pos_of_ne_zero fun h => hb (Int.gcd_eq_zero_iff.mp h).2
theorem msr_ne {a b : Int} (hb : b ≠ 0) : msr a b ≠ 0 := by
 have := gcd_pos (a := a) hb
 unfold msr; split <;> lia
theorem fdiv_neg_dvd {a g : Int} (h : g ∣ a) : a.fdiv (-g) = -(a / g) := by
 obtain ⟨k, rfl⟩ := h
 by_cases hg : g = 0
 ·subst hg; simp
 ·rw [Int.mul_ediv_cancel_left _ hg, show g * k = -g * -k by rw [Int.neg_mul_neg], Tu _ (by lia)]
theorem fdiv_dvd {a g : Int} (h : g ∣ a) : a.fdiv g = a / g := by
 obtain ⟨k, rfl⟩ := h
 by_cases hg : g = 0
 ·subst hg; simp
 ·rw [Int.mul_ediv_cancel_left _ hg, Tu _ hg]
theorem top_msr {a b : Int} (hb : b ≠ 0) : a.fdiv (msr a b) = (Tv a b).num := by
 rw [Rat.num_divInt, Int.gcd_comm b a]
 have d : (Tt a b : Int) ∣ a := Tw ..
 unfold msr
 split
 ·rename_i h
  rw [fdiv_neg_dvd d, Int.sign_eq_neg_one_of_neg h, Int.neg_mul, Tx, Int.neg_ediv_of_dvd d]
 ·rw [fdiv_dvd d, Int.sign_eq_one_of_pos (by lia), Tx]
theorem bottom_msr {a b : Int} (hb : b ≠ 0) : b.fdiv (msr a b) = (Tv a b).den := by
 rw [Rat.den_divInt, if_neg hb, Int.gcd_comm b a]
 have d : (Tt a b : Int) ∣ b := Tz ..
 rw [Int.natCast_ediv]
 unfold msr
 split
 ·rename_i h
  rw [fdiv_neg_dvd d, ← Int.neg_ediv_of_dvd d, Int.ofNat_natAbs_of_nonpos (by lia)]
 ·rw [fdiv_dvd d, Int.natAbs_of_nonneg (by lia)]
theorem gcd_turn (x y : Int) : Tt y (x % y) = Tt x y := by
 have e : x % y + y * (x / y) = x := Int.emod_add_mul_ediv x y
 have h : Tt (x % y + y * (x / y)) y = Tt (x % y) y := Int.gcd_add_mul_left_left ..
 rw [e] at h
 rw [h, Int.gcd_comm]
theorem abs_if (i : Int) : (if i < 0 then -i else i) = (i.natAbs : Int) := by split <;> lia
theorem num_mul (q : Rat) : ((q.num : Int) : Rat) = q * ((q.den : Int) : Rat) := by
 have hd : ((q.den : Nat) : Int) ≠ 0 := by have := q.den_pos; lia
 have h1 : q = (q.num : Rat) / ((q.den : Int) : Rat) := by
  have := Rat.num_divInt_den q
  rw [TC] at this
  exact this.symm
 have h0 : (((q.den : Int)) : Rat) ≠ 0 := fun z => hd (by exact_mod_cast z)
 conv => rhs; lhs; rw [h1]
 rw [TF h0]
theorem den_ne (q : Rat) : ((q.den : Nat) : Int) ≠ 0 := by have := q.den_pos; lia
theorem cast_ne {a : Int} (h : a ≠ 0) : (a : Rat) ≠ 0 := fun z => h (by exact_mod_cast z)
theorem div_eq {t b : Int} {q : Rat} (hb : b ≠ 0) (h : (t : Rat) = q * (b : Rat)) : Tv t b = q := by
 rw [TC, h, Rat.mul_div_cancel (cast_ne hb)]
theorem plus_eq (p q : Rat) : Tv (p.num * q.den + q.num * p.den) (p.den * q.den) = p + q :=
 div_eq (TH (den_ne p) (den_ne q)) (by rw [Rat.intCast_add, TJ, TJ, TJ, num_mul p, num_mul q]; grind)
theorem minus_eq (p q : Rat) : Tv (p.num * q.den - q.num * p.den) (p.den * q.den) = p - q :=
 div_eq (TH (den_ne p) (den_ne q)) (by rw [TK, TJ, TJ, TJ, num_mul p, num_mul q]; grind)
theorem times_eq (p q : Rat) : Tv (p.num * q.num) (p.den * q.den) = p * q :=
 div_eq (TH (den_ne p) (den_ne q)) (by rw [TJ, TJ, num_mul p, num_mul q]; grind)
theorem pow_add (x : Rat) (m : Nat) : ∀ n : Nat, x ^ (m + n) = x ^ m * x ^ n
 | 0 => by rw [TL, TM]; grind
 | n + 1 => by rw [← Nat.add_assoc, TN, TN, pow_add x m n]; grind
end Nm
namespace Cv
def ev : List Rat → Rat → Rat
 | [], _ => 0
 | q :: r, x => q + x * ev r x
def strip : List Rat → List Rat
 | [] => []
 | q :: r => if strip r = [] ∧ q = 0 then [] else q :: strip r
theorem ev_strip (x : Rat) : ∀ qs, ev (strip qs) x = ev qs x
 | [] => rfl
 | q :: r => by
   have ih := ev_strip x r
   unfold strip
   split
   ·rename_i h
    rw [h.1] at ih
    show (0 : Rat) = q + x * ev r x
    rw [← ih, h.2]; show (0 : Rat) = 0 + x * 0; grind
   ·show q + x * ev (strip r) x = _
    rw [ih]; rfl
theorem strip_length : ∀ qs, (strip qs).length ≤ qs.length
 | [] => SK _
 | q :: r => by
   have ih := strip_length r
   unfold strip
   split
   ·exact SN _
   ·exact Nat.succ_le_succ ih
theorem strip_last : ∀ qs, strip qs ≠ [] → (strip qs)[(strip qs).length - 1]? ≠ some 0
 | [], h => absurd rfl h
 | q :: r, h => by
   have ih := strip_last r
   unfold strip at h ⊢
   split at h
   ·exact absurd rfl h
   ·rename_i hc
    rw [if_neg hc]
    by_cases e : strip r = []
    ·rw [e]
     intro z
     have z' : q = 0 := by simpa using z
     exact hc ⟨e, z'⟩
    ·have hl : 0 < (strip r).length := TQ.mpr e
     rw [TR, show (strip r).length + 1 - 1 = ((strip r).length - 1) + 1 by lia, TU]
     exact ih e
theorem strip_mem : ∀ qs q, q ∈ strip qs → q ∈ qs
 | [], _, h => h
 | p :: r, q, h => by
   unfold strip at h
   split at h
   ·cases h
   ·rcases SA.mp h with e | e
    ·exact e ▸ Sy
    ·exact Sz _ (strip_mem r q e)
theorem take_strip : ∀ (qs : List Rat) (w : Nat), (∀ j q, w ≤ j → qs[j]? = some q → q = 0) → (w = 0 ∨ ∃ q, qs[w - 1]? = some q ∧ q ≠ 0) → qs.take w = strip qs
 | [], w, _, _ => by simp [strip]
 | p :: r, 0, h, _ => by
   have ih := take_strip r 0 (fun j q _ e => h (j + 1) q (by lia) (by simpa using e)) (.inl rfl)
   have hp : p = 0 := h 0 p (SK _) rfl
   unfold strip
   rw [← ih, if_pos ⟨rfl, hp⟩]; rfl
 | p :: r, w + 1, h, h2 => by
   have hz : ∀ j q, w ≤ j → r[j]? = some q → q = 0 := fun j q hj e => h (j + 1) q (by lia) (by simpa using e)
   by_cases hw : w = 0
   ·subst hw
    have ih := take_strip r 0 hz (.inl rfl)
    rcases h2 with z | ⟨q, e, hq⟩
    ·exact absurd z (by lia)
    ·have e' : p = q := by simpa using e
     subst e'
     unfold strip
     rw [← ih, if_neg (fun z => hq z.2)]; rfl
   ·have ih := take_strip r w hz (by
     rcases h2 with z | ⟨q, e, hq⟩
     ·exact absurd z (by lia)
     ·refine .inr ⟨q, ?_, hq⟩
      rw [show w + 1 - 1 = (w - 1) + 1 by lia, TU] at e
      exact e)
    have hne : strip r ≠ [] := by
     rw [← ih]
     rcases h2 with z | ⟨q, e, hq⟩
     ·exact absurd z (by lia)
     ·rw [show w + 1 - 1 = (w - 1) + 1 by lia, TU] at e
      intro z
      have hl : 0 < (r.take w).length := by
       rw [SX]
       have := (SF.mp e).1
       lia
      rw [z] at hl; simp at hl
    unfold strip
    rw [← ih, if_neg (fun z => hne (by rw [← ih]; exact z.1))]; rfl
def pw : List Rat → Rat → Rat → Rat
 | [], _, _ => 0
 | q :: r, x, p => q * p + pw r x (p * x)
theorem ev_scale (c x : Rat) : ∀ qs, ev (qs.map (· * c)) x = ev qs x * c
 | [] => by show (0 : Rat) = 0 * c; grind
 | q :: r => by
   show q * c + x * ev (r.map (· * c)) x = (q + x * ev r x) * c
   rw [ev_scale c x r]; grind
theorem ev_snoc (x q : Rat) : ∀ l : List Rat, ev (l ++ [q]) x = ev l x + q * x ^ l.length
 | [] => by show q + x * 0 = 0 + q * x ^ 0; rw [TM]; grind
 | p :: r => by
   show p + x * ev (r ++ [q]) x = (p + x * ev r x) + q * x ^ (r.length + 1)
   rw [ev_snoc x q r, TN]; grind
theorem strip_zeros : ∀ (qs : List Rat) (n : Nat), strip (qs ++ SV n 0) = strip qs
 | [], 0 => rfl
 | [], n + 1 => by
   have ih := strip_zeros [] n
   show strip (0 :: SV n 0) = []
   unfold strip
   have e : strip (SV n 0) = [] := by simpa [strip] using ih
   rw [if_pos ⟨e, rfl⟩]
 | q :: r, n => by
   have ih := strip_zeros r n
   show strip (q :: (r ++ SV n 0)) = strip (q :: r)
   unfold strip
   rw [ih]
theorem ev_set (x d : Rat) : ∀ (l : List Rat) (i : Nat) (v : Rat), l[i]? = some v → ev (l.set i (v + d)) x = ev l x + d * x ^ i
 | [], _, _, h => by simp at h
 | q :: r, 0, v, h => by
   have e : q = v := by simpa using h
   subst e
   show (q + d) + x * ev r x = (q + x * ev r x) + d * x ^ 0
   rw [TM]; grind
 | q :: r, i + 1, v, h => by
   show q + x * ev (r.set i (v + d)) x = (q + x * ev r x) + d * x ^ (i + 1)
   rw [ev_set x d r i v (by simpa using h), TN]; grind
theorem ev_zeros (x : Rat) : ∀ n, ev (SV n 0) x = 0
 | 0 => rfl
 | n + 1 => by
   show (0 : Rat) + x * ev (SV n 0) x = 0
   rw [ev_zeros x n]; grind
def evI (ts : List Int) (x : Rat) : Rat := ev (ts.map fun t : Int => (t : Rat)) x
theorem evI_set (x : Rat) (l : List Int) (i : Nat) (v d : Int) (h : l[i]? = some v) : evI (l.set i (v + d)) x = evI l x + (d : Rat) * x ^ i := by
 unfold evI
 rw [TV, Rat.intCast_add]
 exact ev_set x _ _ i _ (by rw [T3, h]; rfl)
theorem evI_zeros (x : Rat) (n : Nat) : evI (SV n 0) x = 0 := by
 unfold evI
 rw [List.map_replicate]
 exact ev_zeros x n
theorem evI_take_succ (x : Rat) (l : List Int) (i : Nat) (v : Int) (h : l[i]? = some v) : evI (l.take (i + 1)) x = evI (l.take i) x + (v : Rat) * x ^ i := by
 have hi : i < l.length := (SF.mp h).1
 unfold evI
 rw [TX, h]
 show ev ((l.take i ++ [v]).map _) x = _
 rw [TY]
 show ev (_ ++ [(v : Rat)]) x = _
 rw [ev_snoc, T7, SX, Te (by lia)]
theorem evI_cons (x : Rat) (t : Int) (l : List Int) : evI (t :: l) x = (t : Rat) + x * evI l x := rfl
theorem evI_scale (x : Rat) (c : Int) (l : List Int) : evI (l.map (c * ·)) x = (c : Rat) * evI l x := by
 induction l with
 | nil => show (0 : Rat) = _ * 0; grind
 | cons t l ih => rw [Tq, evI_cons, evI_cons, ih, TJ]; grind
theorem evI_last (x : Rat) (l : List Int) (t : Int) (h : l[l.length - 1]? = some t) : evI l x = evI (l.take (l.length - 1)) x + (t : Rat) * x ^ (l.length - 1) := by
 have hl : l.length - 1 < l.length := (SF.mp h).1
 have := evI_take_succ x l (l.length - 1) t h
 rw [show l.length - 1 + 1 = l.length by lia, TZ] at this
 exact this
def quot (c : Rat) : List Rat → List Rat
 | [] => []
 | [_] => []
 | _ :: b :: l => ev (b :: l) c :: quot c (b :: l)
theorem quot_ev (c x : Rat) : ∀ l : List Rat, ev l x = ev l c + (x - c) * ev (quot c l) x
 | [] => by show (0 : Rat) = 0 + _ * 0; grind
 | [a] => by show a + x * 0 = a + c * 0 + (x - c) * 0; grind
 | a :: b :: l => by
   have h := quot_ev c x (b :: l)
   show a + x * ev (b :: l) x = a + c * ev (b :: l) c + (x - c) * (ev (b :: l) c + x * ev (quot c (b :: l)) x)
   rw [h]; grind
theorem quot_length (c : Rat) : ∀ l : List Rat, (quot c l).length = l.length - 1
 | [] => rfl
 | [_] => rfl
 | _ :: b :: l => by
   show (quot c (b :: l)).length + 1 = _
   rw [quot_length c (b :: l)]
   simp
theorem ev_none (x : Rat) : ∀ l : List Rat, (∀ q ∈ l, q = 0) → ev l x = 0
 | [], _ => rfl
 | a :: l, h => by
   show a + x * ev l x = 0
   rw [h a Sy, ev_none x l fun q hq => h q (Sz _ hq)]
   grind
theorem ident : ∀ (n : Nat) (l : List Rat), l.length ≤ n → ∀ s : Nat, (∀ k : Nat, s ≤ k → ev l (k : Rat) = 0) → ∀ q ∈ l, q = 0
 | 0, l, hl, _, _ => by
   have e : l = [] := U0 (by lia)
   rw [e]
   exact fun q h => nomatch h
 | n + 1, [], _, _, _ => fun q h => nomatch h
 | n + 1, a :: t, hl, s, h => by
   have hs := h s (SK _)
   have hq : ∀ q ∈ quot (s : Rat) (a :: t), q = 0 := ident n _ (by rw [quot_length]; simp at hl ⊢; lia) (s + 1) fun k hk => by
    have e := quot_ev (s : Rat) (k : Rat) (a :: t)
    rw [h k (by lia), hs] at e
    have e2 : ((k : Rat) - (s : Rat)) * ev (quot (s : Rat) (a :: t)) (k : Rat) = 0 := by grind
    rcases U1.mp e2 with z | z
    ·have z2 : (k : Rat) = (s : Rat) := by grind
     have z3 : k = s := by exact_mod_cast z2
     lia
    ·exact z
   have hall : ∀ x, ev (a :: t) x = 0 := fun x => by
    rw [quot_ev (s : Rat) x (a :: t), hs, ev_none x _ hq]; grind
   have ha : a = 0 := by
    have := hall 0
    show a = 0
    have e : ev (a :: t) 0 = a + 0 * ev t 0 := rfl
    rw [e] at this
    grind
   have ht : ∀ q ∈ t, q = 0 := ident n t (by simp at hl; lia) 1 fun k hk => by
    have e := hall (k : Rat)
    have e1 : ev (a :: t) (k : Rat) = a + (k : Rat) * ev t (k : Rat) := rfl
    rw [e1, ha] at e
    have e2 : (k : Rat) * ev t (k : Rat) = 0 := by grind
    rcases U1.mp e2 with z | z
    ·have z3 : k = 0 := by exact_mod_cast z
     lia
    ·exact z
   intro q hq'
   rcases SA.mp hq' with z | z
   ·rw [z]; exact ha
   ·exact ht q z
def dif : List Rat → List Rat → List Rat
 | [], m => m.map (· * (-1))
 | a :: l, m => (a - m.headD 0) :: dif l m.tail
theorem ev_head (x : Rat) (m : List Rat) : ev m x = m.headD 0 + x * ev m.tail x := by
 cases m with
 | nil => show (0 : Rat) = 0 + x * 0; grind
 | cons b m => rfl
theorem dif_ev (x : Rat) : ∀ l m : List Rat, ev (dif l m) x = ev l x - ev m x
 | [], m => by
   show ev (m.map (· * (-1))) x = 0 - ev m x
   rw [ev_scale]; grind
 | a :: l, m => by
   show (a - m.headD 0) + x * ev (dif l m.tail) x = (a + x * ev l x) - ev m x
   rw [dif_ev x l m.tail, ev_head x m]; grind
theorem dif_none : ∀ l m : List Rat, l.length = m.length → (∀ q ∈ dif l m, q = 0) → l = m
 | [], [], _, _ => rfl
 | [], _ :: _, e, _ => nomatch e
 | _ :: _, [], e, _ => nomatch e
 | a :: l, b :: m, e, h => by
   have h1 : a - b = 0 := h _ Sy
   have h2 := dif_none l m (by simpa using e) fun q hq => h q (Sz _ hq)
   rw [h2, show a = b by grind]
theorem same_of (l m : List Rat) (e : l.length = m.length) (h : ∀ x, ev l x = ev m x) : l = m :=
 dif_none l m e (ident _ _ (SK _) 0 fun k _ => by rw [dif_ev, h]; grind)
end Cv
namespace L2
open PySem PySem.Spec PyProof.Rows
theorem Dl {env : Env} : ∀ (names : List (Str × NameKind)) (acc : List (Str × Addr)), (∀ x ∈ names, x.2 = .free → ∃ c, env.cells.lookup x.1 = some c) →
 ∃ cl : List (Str × Addr), (forIn (m := Sem) names acc fun x r => do
  if x.2 == .free then pure (ForInStep.yield ((x.1, ← cellOf env x.1) :: r)) else pure (ForInStep.yield r)) = pure cl ∧
  (∀ p ∈ cl, p ∈ acc ∨ env.cells.lookup p.1 = some p.2) ∧ (∀ p ∈ acc, p ∈ cl) ∧ ∀ x ∈ names, x.2 = .free → ∃ c, (x.1, c) ∈ cl
 | [], acc, _ => ⟨acc, rfl, fun _ h => .inl h, fun _ h => h, fun _ h => nomatch h⟩
 | x :: r, acc, h => by
   by_cases hk : x.2 = .free
   ·obtain ⟨c, hc⟩ := h x Sy hk
    obtain ⟨cl, e, h1, h2, h3⟩ := Dl r ((x.1, c) :: acc) fun y hy => h y (Sz _ hy)
    refine ⟨cl, ?_, fun p hp => ?_, fun p hp => h2 p (Sz _ hp), fun y hy hf => ?_⟩
    ·rw [U2]
     have z : (x.2 == NameKind.free) = true := by rw [hk]; rfl
     have cell : cellOf env x.1 = pure c := by unfold cellOf; rw [hc]
     simp only [z, if_true, cell]
     exact e
    ·rcases h1 p hp with q | q
     ·rcases SA.mp q with rfl | q
      ·exact .inr hc
      ·exact .inl q
     ·exact .inr q
    ·rcases SA.mp hy with rfl | hy
     ·exact ⟨c, h2 _ Sy⟩
     ·exact h3 y hy hf
   ·obtain ⟨cl, e, h1, h2, h3⟩ := Dl r acc fun y hy => h y (Sz _ hy)
    refine ⟨cl, ?_, h1, h2, fun y hy hf => ?_⟩
    ·rw [U2]
     have z : (x.2 == NameKind.free) = false := by
      cases e : x.2 <;> first | rfl | exact absurd e hk
     simp only [z, Bool.false_eq_true, if_false]
     exact e
    ·rcases SA.mp hy with rfl | hy
     ·exact absurd hf hk
     ·exact h3 y hy hf
theorem DV {x : Str} {c : Addr} : ∀ {cl : List (Str × Addr)}, (x, c) ∈ cl → ∃ c', cl.lookup x = some c'
 | [], h => nomatch h
 | (y, d) :: r, h => by
   by_cases e : x = y
   ·subst e; exact ⟨d, by simp⟩
   ·rcases SA.mp h with q | q
    ·cases q; exact absurd rfl e
    ·obtain ⟨c', q'⟩ := DV q
     refine ⟨c', ?_⟩
     have : (x == y) = false := by simpa using e
     rw [U3, this]
     exact q'
theorem DW {scope : Scope} {env : Env} (h : ∀ x ∈ scope.names, x.2 = .free → ∃ c, env.cells.lookup x.1 = some c) :
 ∃ cl : List (Str × Addr), closureFor scope env = pure cl ∧ (∀ x c, cl.lookup x = some c → env.cells.lookup x = some c) ∧ ∀ x ∈ scope.names, x.2 = .free → ∃ c, cl.lookup x.1 = some c := by
 obtain ⟨cl, e, h1, _, h3⟩ := Dl scope.names [] h
 refine ⟨cl, ?_, fun x c q => ?_, fun x hx hf => ?_⟩
 ·unfold closureFor
  simp only [bind_pure]
  exact e
 ·rcases h1 _ (PySem.mem_of_lookup q) with z | z
  ·exact nomatch z
  ·exact z
 ·obtain ⟨c, hc⟩ := h3 x hx hf
  exact DV hc
theorem Co {env : Env} : ∀ {names : List (Str × NameKind)} {x : Str}, names.lookup x = some .free →
 (names.map fun (n, k) => if (k == NameKind.free && env.scope.kind == .function && env.kindOf n == some .cell) then (n, NameKind.cell) else (n, k)).lookup x = some .cell ∨
 (names.map fun (n, k) => if (k == NameKind.free && env.scope.kind == .function && env.kindOf n == some .cell) then (n, NameKind.cell) else (n, k)).lookup x = some .free
 | [], _, h => by simp at h
 | (n, k) :: r, x, h => by
   have ih := @Co env r x
   show U4 x ((if (k == NameKind.free && env.scope.kind == .function && env.kindOf n == some .cell) = true then (n, NameKind.cell) else (n, k)) :: _) = _ ∨ U4 x ((if (k == NameKind.free && env.scope.kind == .function && env.kindOf n == some .cell) = true then (n, NameKind.cell) else (n, k)) :: _) = _
   cases hx : x == n with
   | true =>
     simp only [U3, hx] at h
     cases h
     by_cases hc : (NameKind.free == NameKind.free && env.scope.kind == .function && env.kindOf n == some .cell) = true
     ·rw [if_pos hc]; simp [U3, hx]
     ·rw [if_neg hc]; simp [U3, hx]
   | false =>
     simp only [U3, hx] at h
     by_cases hc : (k == NameKind.free && env.scope.kind == .function && env.kindOf n == some .cell) = true
     ·rw [if_pos hc]; simp only [U3, hx]; exact ih h
     ·rw [if_neg hc]; simp only [U3, hx]; exact ih h
theorem Ec {env : Env} {x : Str} : ∀ {names : List (Str × NameKind)}, (∀ y ∈ names, y.2 ≠ .cell) →
 ((names.map fun (n, k) => if (k == NameKind.free && env.scope.kind == .function && env.kindOf n == some .cell) then (n, NameKind.cell) else (n, k)).lookup x = some .cell ∨
  (names.map fun (n, k) => if (k == NameKind.free && env.scope.kind == .function && env.kindOf n == some .cell) then (n, NameKind.cell) else (n, k)).lookup x = some .free) → (x, NameKind.free) ∈ names
 | [], _, h => by simp at h
 | (n, k) :: r, hc, h => by
   have ih := @Ec env x r fun y hy => hc y (Sz _ hy)
   have hk : k ≠ .cell := hc (n, k) Sy
   change U4 x ((if (k == NameKind.free && env.scope.kind == .function && env.kindOf n == some .cell) = true then (n, NameKind.cell) else (n, k)) :: _) = _ ∨ U4 x ((if (k == NameKind.free && env.scope.kind == .function && env.kindOf n == some .cell) = true then (n, NameKind.cell) else (n, k)) :: _) = _ at h
   cases hx : x == n with
   | true =>
     have e : x = n := by simpa using hx
     subst e
     by_cases hq : (k == NameKind.free && env.scope.kind == .function && env.kindOf x == some .cell) = true
     ·have : k = .free := by
       cases k <;> first | rfl | (simp at hq)
      subst this; exact Sy
     ·rw [if_neg hq] at h
      simp only [U3, hx] at h
      rcases h with h | h
      ·cases h; exact absurd rfl hk
      ·cases h; exact Sy
   | false =>
     refine Sz _ (ih ?_)
     by_cases hq : (k == NameKind.free && env.scope.kind == .function && env.kindOf n == some .cell) = true
     ·rw [if_pos hq] at h; simpa only [U3, hx] using h
     ·rw [if_neg hq] at h; simpa only [U3, hx] using h
def BD (X : Cx) (N : List Str) (scope : Scope) (cl : List (Str × Addr)) (C : Addr) (s : Shared) (H : Hp) (fp : List Addr) : Cx :=
 { prog := X.prog, w := X.w, K := X.K, mg := X.mg, base := X.base, A := X.A, N := N, s₀ := s, H₀ := H, env := compEnvC scope cl C X.env, outer := X.stack, stack := X.stack, ex := fp,
   fn := fun _ => false, calm := X.calm, pn := [], xe := fun _ _ => False }
def cS (nt : Nat) (js : List Nat) (σ : St) : St := SV nt none ++ js.map fun i => σ.getD i none
abbrev Ek (ys : List Value) : Obj := { cls := .type "list", data := .seq ys.toArray ys.length }
theorem Ik {prog : Program} {w : World} {A : Around} {R : Result → Shared → Prop} {s : Shared} {elt target iter : Expr} {ifs : List Expr} {scope : Scope} {pos : Pos} {it acc : Value} {env : Env} (I : Nat → Shared → Prop)
 (turn : ∀ n s, I n s → wpAny (model prog w) A (pyNext it) (fun r s₁ => match r with
  | none => R (.ok .next) s₁
  | some v => wpAny (model prog w) A (letOwnedTupleGo target it v) (fun _ s₁' => wpAny (model prog w) A (assign target env v) (fun _ s₂ =>
   wpAny (model prog w) A (forIn ifs true fun c r => if r = true then do let ok ← isTrue c env (eval c env); pure (ForInStep.yield ok) else pure (ForInStep.yield r)) (fun ok s₃ =>
    if ok = true then wpAny (model prog w) A (eval elt env) (fun x s₄ =>
     wpAny (model prog w) A (call (.builtin "list.append") [acc, x]) (fun _ s₅ => ∃ m, m < n ∧ I m s₅) (fun _ _ => False) s₄) (fun _ _ => False) s₃
    else ∃ m, m < n ∧ I m s₃) (fun _ _ => False) s₂) (fun _ _ => False) s₁') (fun _ _ => False) s₁) (fun _ _ => False) s)
 (n : Nat) (h : I n s) :
 codeAny (model prog w) A (.compLoop (.ListComp elt [⟨target, iter, ifs, 0⟩] scope pos) 0 it acc env) R s := by
 refine codeAny_loop rfl I (fun n s hI => ?_) n h
 show wpAny _ A ((compTurn (.ListComp elt [⟨target, iter, ifs, 0⟩] scope pos) 0 it acc env).onRaise (fun x => do noteFrame x env; theTreesLotGoes x)) _ _ s
 refine wpAny_noted ?_
 rw [compTurn_list]
 refine wpAny_bind (wpAny_standAt (wpAny_bind (wpAny_mono (turn n s hI) (fun r s₁ h₁ => ?_) fun _ _ h' => h'.elim)))
 cases r with
 | none => exact wpAny_pure h₁
 | some v =>
   refine wpAny_bind (wpAny_mono h₁ (fun _ s₁' h₁' => ?_) fun _ _ h' => h'.elim)
   refine wpAny_bind (wpAny_mono h₁' (fun _ s₂ h₂ => wpAny_bind (wpAny_mono h₂ (fun ok s₃ h₃ => ?_) fun _ _ h' => h'.elim)) fun _ _ h' => h'.elim)
   cases ok with
   | false => exact wpAny_pure ⟨rfl, h₃⟩
   | true =>
     exact wpAny_bind (wpAny_bind (wpAny_mono h₃ (fun x s₄ h₄ => wpAny_bind (wpAny_mono h₄ (fun _ s₅ h₅ => wpAny_pure (wpAny_pure ⟨rfl, h₅⟩)) fun _ _ h' => h'.elim)) fun _ _ h' => h'.elim))
def PTs (X : Cx) (ifs : List Expr) (t : TT) : Prop :=
 ∀ (pins : List (Addr × Obj)) (s : Shared) (σ : St) (H : Hp) (Q : Bool → Hp → Prop), Inv X pins σ H s → t σ H Q →
   wpAny (model X.prog X.w) X.A (forIn ifs true fun c r => if r = true then do let ok ← isTrue c X.env (eval c X.env); pure (ForInStep.yield ok) else pure (ForInStep.yield r)) (TP X pins σ Q) X.xe s
def KI : TT := fun _ H Q => Q true H
theorem Bp {X : Cx} : PTs X [] KI := fun _ _ _ H _ I h => wpAny_tests_nil ⟨H, I, h⟩
theorem HD {X : Cx} {c : Expr} {t : TT} (h : PT X c t) : PTs X [c] t := fun pins s σ H Q I q => wpAny_tests_one (h pins s σ H Q I q)
structure LcW (J : It) (n nt : Nat) (js : List Nat) (σ : St) (g : TG) (tc : TT) (te : TE) (Fin : List V → Hp → Prop) (W : Nat → List V → Hp → Prop) : Prop where
 go : ∀ i zs H, i < n → W i zs H → J.go i H ∧ zs.length < sizeLine
 step : ∀ i zs H x H', i < n → W i zs H → J.yld i H x H' → g x (cS nt js σ) H' fun σ2 H2 => tc σ2 H2 fun b H3 => if b = true then te σ2 H3 fun y H4 => W (i + 1) (zs ++ [y]) H4 else W (i + 1) zs H3
 stop : ∀ zs H, W n zs H → J.stop n H ∧ zs.length ≤ sizeLine ∧ Fin zs H
@[irreducible] def tLC (wi : TI) (nt : Nat) (js : List Nat) (g : TG) (tc : TT) (te : TE) : TE := fun σ H Q => wi σ H fun J H1 =>
 ∃ (n : Nat) (W : Nat → List V → Hp → Prop), W 0 [] H1 ∧ LcW J n nt js σ g tc te (fun zs H' => ∀ p, H' p = none → Q (.ref p) (upd H' p (.lst zs))) W
theorem C6 {wi : TI} {nt : Nat} {js : List Nat} {g : TG} {tc : TT} {te : TE} {σ : St} {H : Hp} {Q : VK}
 (h : wi σ H fun J H1 => ∃ (n : Nat) (W : Nat → List V → Hp → Prop), W 0 [] H1 ∧ LcW J n nt js σ g tc te (fun zs H' => ∀ p, H' p = none → Q (.ref p) (upd H' p (.lst zs))) W) : tLC wi nt js g tc te σ H Q := by
 unfold tLC; exact h
theorem O0 {wi : TI} {nt : Nat} {js : List Nat} {g : TG} {tc : TT} {te : TE} {σ : St} {H : Hp} {Q : VK} (h : tLC wi nt js g tc te σ H Q) :
 wi σ H fun J H1 => ∃ (n : Nat) (W : Nat → List V → Hp → Prop), W 0 [] H1 ∧ LcW J n nt js σ g tc te (fun zs H' => ∀ p, H' p = none → Q (.ref p) (upd H' p (.lst zs))) W := by
 unfold tLC at h; exact h
structure Ba (X : Cx) (N : List Str) (nt : Nat) (js : List Nat) (scope : Scope) : Prop where
 kind : scope.kind = .function
 nocell : ∀ y ∈ scope.names, y.2 ≠ .cell
 names : ∀ y ∈ scope.names, y.2 = .local → scope.names.lookup y.1 = some .local
 free : ∀ y ∈ scope.names, y.2 = .free → X.env.kindOf y.1 = some .cell ∨ X.env.kindOf y.1 = some .free
 len : N.length = nt + js.length
 outer : ∀ j i, js[j]? = some i → ∃ x, N[nt + j]? = some x ∧ X.N[i]? = some x ∧ scope.names.lookup x = some .free
def Kv (NX : List Str) (sc : Scope) (N : List Str) (nt : Nat) (js : List Nat) (scope : Scope) : Bool :=
 decide (scope.kind = .function) && scope.names.all (fun y => decide (y.2 ≠ .cell)) && scope.names.all (fun y => decide (y.2 ≠ .local) || decide (scope.names.lookup y.1 = some .local)) &&
 scope.names.all (fun y => decide (y.2 ≠ .free) || (decide (sc.names.lookup y.1 = some .cell) || decide (sc.names.lookup y.1 = some .free))) && decide (N.length = nt + js.length) &&
 (So js.length).all fun j => match js[j]?, N[nt + j]? with
  | some i, some x => decide (NX[i]? = some x) && decide (scope.names.lookup x = some .free)
  | _, _ => false
theorem Ba.look {X : Cx} {NX N : List Str} {sc scope : Scope} {nt : Nat} {js : List Nat} (hN : X.N = NX) (hs : X.env.scope = sc) (h : Kv NX sc N nt js scope = true) : Ba X N nt js scope := by
 unfold Kv at h
 simp only [Bool.and_eq_true, U5, Bool.or_eq_true, decide_eq_true_eq] at h
 obtain ⟨⟨⟨⟨⟨h1, h2⟩, h3⟩, h4⟩, h5⟩, h6⟩ := h
 refine ⟨h1, h2, fun y hy hl => (h3 y hy).resolve_left fun z => z hl, fun y hy hf => ?_, h5, fun j i e => ?_⟩
 ·have q := (h4 y hy).resolve_left fun z => z hf
  rw [← hs] at q
  exact q
 ·have hj : j < js.length := (SF.mp e).1
  have q := h6 j (Ss.mpr hj)
  rw [e] at q
  cases en : N[nt + j]? with
  | none => rw [en] at q; cases q
  | some x =>
    rw [en] at q
    simp only [Bool.and_eq_true, decide_eq_true_eq] at q
    exact ⟨x, rfl, by rw [hN]; exact q.1, q.2⟩
section
variable {X : Cx} {N : List Str} {nt : Nat} {js : List Nat} {scope : Scope} {cl : List (Str × Addr)}
theorem HOk.track {P : Program} {w : World} {H : Hp} {h : Heap} {a : Addr} {o : HO} (x : HOk P w H h) (hn : H a = none) (new : BX P w (upd H a o) h a o) : HOk P w (upd H a o) h := fun b u e => by
 by_cases hb : b = a
 ·subst hb; rw [Aa] at e; cases e; exact new
 ·rw [Aq hb] at e
  exact (x b u e).stay (fun c v _ q => q) (fun c q => by rw [Aq (Aw q hn)]; exact q) fun c xs q => by rw [Aq (Aw q hn)]; exact q
theorem Mt {pins : List (Addr × Obj)} {σ : St} {H : Hp} {s : Shared} {C D : Addr} {h' : Heap} {tk : Nat} {fp : List Addr} {m : Str → Option Value} (I : Inv X pins σ H s) (ok : Ba X N nt js scope)
 (hcl : ∀ x c, cl.lookup x = some c → X.env.cells.lookup x = some c) (hcl2 : ∀ x ∈ scope.names, x.2 = .free → ∃ c, cl.lookup x.1 = some c)
 (hf : ∀ b ∈ fp, DH X pins H b) (ho : ∀ b ∈ fp, ∃ o, s.heap.get? b = some o ∧ ∀ v, o.data ≠ .cell v)
 (hD : s.heap.objs.size ≤ D) (hC : s.heap.objs.size ≤ C) (hDC : D ≠ C) (k : ∀ b o, s.heap.get? b = some o → h'.get? b = some o) (hn : h'.Ns C m) (hd : h'.get? D = some (Ek [])) :
 Inv (BD X N scope cl C s H fp) [(D, Ek [])] (cS nt js σ) H { s with heap := h', toks := tk } := by
 have lt : ∀ b ∈ fp, b < s.heap.objs.size := fun b hb => by obtain ⟨o, e, _⟩ := ho b hb; exact Heap.lt_size e
 have frlt : ∀ b ∈ frs X.stack, b < s.heap.objs.size := fun b hb => by
  obtain ⟨_, o, e, _⟩ := I.stack.mem hb
  exact Heap.lt_size e
 refine ⟨⟨I.ok.mod, ok.kind, I.ok.glob, I.ok.blt, hC, fun x y c h1 h2 => I.ok.inj x y c (hcl x c h1) (hcl y c h2), fun x hx => ?_, fun x c hx => absurd hx Bool.false_ne_true, I.ok.hd, I.ok.frames, .inl rfl, fun b hb => ⟨?_, fun x c e => (hf b hb).2.2.2.2.1 x c (hcl x c e)⟩, I.bs,
  Sv I.ok.bsz I.sz, fun b o e hb => ?_, fun b hb hs => ?_, I.stack, I.stkFree⟩, rfl, I.bare, Un.kept k, ⟨m, hn, fun j x v h1 h2 h3 => ?_⟩, fun x c e => ?_, I.hok.fresh hC, fun x c e => I.freeC x c (hcl x c e), fun p hp => ?_, I.hok.kept k, ?_⟩
 ·obtain ⟨c, hc⟩ := hcl2 (x, .free) (Ec ok.nocell hx) rfl
  exact ⟨c, hc⟩
 ·exact Sn (Sl (lt b hb) hC)
 ·rcases (hf b hb).2.2.2.1 with z | z
  ·exact I.ok.noex b o e z
  ·exact absurd (Sl (Heap.lt_size e) (Sv I.ok.bsz z)) (Sm _)
 ·rcases SA.mp (I.stkSub b hs) with z | z
  ·exact (hf b hb).2.1 z
  ·exact (hf b hb).2.2.1 z
 ·change N[j]? = some x at h1
  unfold cS at h2
  by_cases hj : j < nt
  ·rw [T2 (by simpa using hj), T1] at h2
   rw [if_pos hj] at h2; cases h2
  ·rw [SY (by simpa using Nat.not_lt.mp hj), T8, T3] at h2
   cases ei : js[j - nt]? with
   | none => rw [ei] at h2; cases h2
   | some i =>
     rw [ei] at h2
     obtain ⟨y, e1, e2, e3⟩ := ok.outer _ i ei
     rw [show nt + (j - nt) = j by lia, h1] at e1
     cases e1
     have hv : σ[i]? = some (some v) := by
      simp only [Option.map_some, Sj.injEq] at h2
      rw [U6] at h2
      cases eσ : σ[i]? with
      | none => rw [eσ] at h2; cases h2
      | some z => rw [eσ] at h2; simp at h2; rw [h2]
     obtain ⟨m₀, _, hl⟩ := I.loc
     have kf := ok.free (x, .free) (PySem.mem_of_lookup e3) rfl
     obtain ⟨u, r, l⟩ := hl i x v e2 hv (kf.elim (fun z => .inr (.inl z)) fun z => .inr (.inr z))
     refine ⟨u, r, .inr ⟨Co e3, ?_⟩⟩
     rcases l with ⟨kl, _⟩ | ⟨_, c, ec, ⟨oc, hoc, hod⟩⟩
     ·rcases kf with z | z <;> (rw [z] at kl; cases kl)
     ·obtain ⟨c', hc'⟩ := hcl2 (x, .free) (PySem.mem_of_lookup e3) rfl
      have e' := hcl x c' hc'
      rw [ec] at e'
      cases e'
      exact ⟨c, hc', oc, k _ _ hoc, hod⟩
 ·obtain ⟨v, oc, hoc, hod⟩ := I.cell x c (hcl x c e)
  exact ⟨v, oc, k _ _ hoc, hod⟩
 ·have e : p = (D, Ek []) := by
   have hp' : p ∈ [(D, Ek [])] := hp
   simpa using hp'
  subst e
  refine ⟨hd, I.hok.fresh hD, hDC, fun hb => absurd (Sl (frlt D hb) hD) (Sm _), fun v z => by cases z⟩
 ·show (cS nt js σ).length = N.length
  unfold cS
  rw [T6, T8, T7, ok.len]
end
end L2
namespace L2
open PySem PySem.Spec PyProof.Rows
def Jj (g : TG) (nt : Nat) : Prop := ∀ x σ H Q, g x σ H Q → g x σ H fun σ2 H2 => (σ2.length = σ.length ∧ σ2.drop nt = σ.drop nt) ∧ Q σ2 H2
theorem AD {i nt : Nat} (h : i < nt) : Jj (Cy i) nt := fun x σ H Q q => ⟨⟨Ti, by
 apply U7
 intro k
 rw [U8, U8, SH (by lia)]⟩, q⟩
section
variable {X : Cx} {N : List Str} {nt : Nat} {js : List Nat} {scope : Scope} {elt iter tg : Expr} {ifs : List Expr} {pos : Pos} {g : TG} {tc : TT} {te : TE} {wi : TI}
theorem Kw {σ σ2 : St} (hl : σ2.length = (cS nt js σ).length) (hd : σ2.drop nt = (cS nt js σ).drop nt) : ∀ (i : Nat) v, (cS nt js σ)[i]? = some (some v) → σ2[i]? = some (some v) := fun i v e => by
 by_cases hi : i < nt
 ·unfold cS at e
  rw [T2 (by simpa using hi), T1, if_pos hi] at e
  cases e
 ·have q : ((cS nt js σ).drop nt)[i - nt]? = some (some v) := by rw [U8, show nt + (i - nt) = i by lia]; exact e
  rw [← hd, U8, show nt + (i - nt) = i by lia] at q
  exact q
set_option maxHeartbeats 4000000 in
theorem Ja {pins : List (Addr × Obj)} {σ : St} {H : Hp} {s₂ : Shared} {cl : List (Str × Addr)} {J : It} {fp : List Addr} {it : Addr} {tn : Nat → Heap → Prop} {E : Value → Shared → Prop} {Fin : List V → Hp → Prop} {W : Nat → List V → Hp → Prop} {nn : Nat}
 {RR : Value → Addr → Result → Shared → Prop} (hcalm : X.calm = true) (ok : Ba X N nt js scope)
 (hcl : ∀ x c, cl.lookup x = some c → X.env.cells.lookup x = some c) (hcl2 : ∀ x ∈ scope.names, x.2 = .free → ∃ c, cl.lookup x.1 = some c)
 (hg : ∀ cl C s H fp, PG (BD X N scope cl C s H fp) tg g) (hk : Jj g nt) (hc : ∀ cl C s H fp, PTs (BD X N scope cl C s H fp) ifs tc) (he : ∀ cl C s H fp, PE (BD X N scope cl C s H fp) elt te)
 (I : Inv X pins σ H s₂) (T : Ji X.prog X.w X.K tg J fp it tn) (st : tn 0 s₂.heap) (hf : ∀ b ∈ fp, DH X pins H b) (w0 : W 0 [] H) (lw : LcW J nn nt js σ g tc te Fin W)
 (hRR : ∀ D C s' H' zs m, Inv X pins σ (upd H' D (.lst zs)) s' → s'.heap.Ns C m → H' D = none → (upd H' D (.lst zs)) C = none → C ≠ X.env.locals → X.s₀.heap.objs.size ≤ C → (∀ x c, X.env.cells.lookup x = some c → c ≠ C) →
  (∀ p ∈ X.pn ++ pins, p.1 ≠ C) → Fin zs H' → RR (.ref D) C (.ok .next) s') :
 wpAny (model X.prog X.w) X.A (newList []) (fun acc s₃ => wpAny (model X.prog X.w) X.A (newFunctionEnv scope X.env.globals cl [] X.env.qual none .none (some X.env)) (fun cenv s₄ =>
  codeAny (model X.prog X.w) X.A (.compStart (.ListComp elt [⟨tg, iter, ifs, 0⟩] scope pos) 0 (.ref it) acc { cenv with scope := relabel scope X.env }) (RR acc cenv.locals) s₄) E s₃) E s₂ := by
 refine wpAny_newObj_type (wpAny_newFunctionEnv ok.nocell (by intro y hy; simp at hy) (fun h₁ hns₁ hsb₁ => ?_) ok.kind)
 dsimp only at hns₁ hsb₁ ⊢
 generalize hH2 : s₂.heap.push { cls := .type "list", dict := none, data := .seq ([] : List Value).toArray } = H2 at hns₁ hsb₁ ⊢
 have hC : H2.objs.size = s₂.heap.objs.size + 1 := by rw [← hH2, Heap.size_push]
 have hDC : s₂.heap.objs.size ≠ H2.objs.size := by rw [hC]; exact Sn (U9 _)
 have hCle : s₂.heap.objs.size ≤ H2.objs.size := by rw [hC]; exact Nat.le_succ _
 have below : ∀ b, b < s₂.heap.objs.size → b ≠ H2.objs.size ∧ b ≠ s₂.heap.objs.size := fun b hb => ⟨by rw [hC]; exact Sn (Ua hb), Sn hb⟩
 have old : ∀ b o, s₂.heap.get? b = some o → h₁.get? b = some o := fun b o e => hsb₁.extBut b o (below b (Heap.lt_size e)).1 (Heap.get?_push_of_some _ (hH2 ▸ Heap.get?_push_of_some _ e))
 have hacc : h₁.get? s₂.heap.objs.size = some (Ek []) := hsb₁.extBut _ _ hDC (Heap.get?_push_of_some _ (hH2 ▸ Heap.get?_push_size _ rfl))
 have ho := T.obj 0 _ st
 have lt : ∀ b ∈ fp, b < s₂.heap.objs.size := fun b hb => by obtain ⟨o, e, _⟩ := ho b hb; exact Heap.lt_size e
 have loop : ∀ s₃ : Shared, s₃ = { s₂ with heap := h₁, toks := s₂.toks + ([] : List (Str × Value)).length } →
  codeAny (model X.prog X.w) X.A (.compLoop (.ListComp elt [⟨tg, iter, ifs, 0⟩] scope pos) 0 (.ref it) (.ref s₂.heap.objs.size) (compEnvC scope cl H2.objs.size X.env)) (RR (.ref s₂.heap.objs.size) H2.objs.size) s₃ := by
  rintro s₃ rfl
  have I0 : Inv (BD X N scope cl H2.objs.size s₂ H fp) [(s₂.heap.objs.size, Ek [])] (cS nt js σ) H { s₂ with heap := h₁, toks := s₂.toks + ([] : List (Str × Value)).length } :=
   Mt I ok hcl hcl2 hf ho (SK _) hCle hDC old hns₁ hacc
  have fpy : ∀ {H' : Hp} {ys : List Value}, (∀ b ∈ fp, H' b = none) → ∀ b ∈ fp, DH (BD X N scope cl H2.objs.size s₂ H fp) [(s₂.heap.objs.size, Ek ys)] H' b := fun {H' ys} hn b hb =>
   ⟨hn b hb, (below b (lt b hb)).1, I0.ok.exfs b hb, .inl hb, (I0.ok.exf b hb).2, fun p hp => by
    have hp' : p ∈ [(s₂.heap.objs.size, Ek ys)] := hp
    have e : p = (s₂.heap.objs.size, Ek ys) := by simpa using hp'
    rw [e]; exact Ne.symm (below b (lt b hb)).2⟩
  refine Ik (fun n s' => ∃ i zs ys H', n = nn - i ∧ i ≤ nn ∧ Inv (BD X N scope cl H2.objs.size s₂ H fp) [(s₂.heap.objs.size, Ek ys)] (cS nt js σ) H' s' ∧ AG zs ys ∧ tn i s'.heap ∧ (∀ b ∈ fp, H' b = none) ∧ W i zs H') ?_ nn
   ⟨0, [], [], H, rfl, SN _, I0, .nil, T.keep 0 _ _ st (fun b _ o e => old b o e), fun b hb => (hf b hb).1, w0⟩
  rintro n s' ⟨i, zs, ys, H', hn0, hile, I', rv, st', fr', w'⟩
  by_cases hlt : i < nn
  case neg =>
   have hie : i = nn := Nat.le_antisymm hile (Nat.not_lt.mp hlt)
   rw [hie] at w' st'
   obtain ⟨stop, zl, fin⟩ := lw.stop zs H' w'
   refine thn (T.done (BD X N scope cl H2.objs.size s₂ H fp) rfl rfl rfl hcalm nn _ s' _ H' (fun _ _ => False) I' (fpy fr') st' stop) fun r s4 ⟨hr, I4⟩ => ?_
   subst hr
   have zD := (I4.pin (s₂.heap.objs.size, Ek ys) (SM _ (Ub.mpr rfl)))
   have u := I4.base
   have u2 : Un (frs X.stack) fp H (upd H' s₂.heap.objs.size (.lst zs)) s₂.heap s4.heap :=
    ⟨u.keep, u.slot, fun b o q n hx => by rw [Aq (Sn (Heap.lt_size q))]; exact u.free b o q n hx, u.there, fun b xs q => by rw [Aq (Aw (u.tups b xs q) zD.2.1)]; exact u.tups b xs q,
     fun b o xs q => by rw [Aq (Aw (u.frzs b o xs q) zD.2.1)]; exact u.frzs b o xs q, fun b ps q => by
      obtain ⟨more, e⟩ := u.tbls b ps q
      exact ⟨more, by rw [Aq (Aw e zD.2.1)]; exact e⟩⟩
   have hok2 : HOk X.prog X.w (upd H' s₂.heap.objs.size (.lst zs)) s4.heap := HOk.track I4.hok zD.2.1 ⟨zl, ys, _, rv, zD.1⟩
   have I5 : Inv X pins σ (upd H' s₂.heap.objs.size (.lst zs)) s4 := I.call' I4.os u2 hok2 I4.bare fun b hb => ⟨(hf b hb).2.2.2.1, (hf b hb).2.1, (hf b hb).2.2.2.2.1, (hf b hb).2.2.2.2.2⟩
   obtain ⟨m, hn, _⟩ := I4.loc
   refine hRR _ _ s4 H' zs m I5 hn zD.2.1 ?_ ?_ (Sv I.sz hCle) ?_ ?_ fin
   ·rw [Aq (Ne.symm hDC)]; exact I4.free
   ·exact SJ (Sl I.lt hCle)
   ·intro x c e z
    obtain ⟨v, q⟩ := I.cell x c e
    exact absurd (Sl q.lt (by rw [z]; exact hCle)) (Sm _)
   ·intro p hp z
    exact absurd (Sl (Heap.lt_size (I.pin p hp).1) (by rw [z]; exact hCle)) (Sm _)
  case pos =>
   obtain ⟨go, zl⟩ := lw.go i zs H' hlt w'
   have step := lw.step i zs H'
   refine thn (T.item (BD X N scope cl H2.objs.size s₂ H fp) rfl rfl rfl hcalm i _ s' _ H' (fun _ _ => False) I' (fpy fr') st' go) fun r s4 ⟨u, hr, h4⟩ => ?_
   subst hr
   refine thn h4 fun _ s5 ⟨x, H5, I5, r5, y5, st5, fr5⟩ => ?_
   have I5' := I5.pinned (fpy fr5) (T.obj _ _ st5)
   refine thn (hg cl _ s₂ H fp _ s5 _ H5 x u _ I5' r5 (hk _ _ _ _ (step x H5 hlt w' y5))) fun _ s6 ⟨σ6, H6, I6, ⟨hl6, hd6⟩, q6⟩ => ?_
   refine thn (hc cl _ s₂ H fp _ s6 σ6 H6 _ I6 q6) fun okb s7 ⟨H7, I7, q7⟩ => ?_
   have frs' : ∀ {H8 : Hp} {σ8 : St} {s8 : Shared}, Inv (BD X N scope cl H2.objs.size s₂ H fp) ([(s₂.heap.objs.size, Ek ys)] ++ FI fp s5.heap) σ8 H8 s8 → tn (i + 1) s8.heap ∧ ∀ b ∈ fp, H8 b = none := fun {H8 σ8 s8} I8 =>
    ⟨T.keep _ _ _ st5 fun b hb o e => (I8.pin (b, o) (SM _ (SM _ (Dh hb e)))).1, fun b hb => by
     obtain ⟨o, e, d⟩ := T.obj _ _ st5 b hb
     exact (I8.pin (b, o) (SM _ (SM _ (Dh hb e)))).2.1⟩
   cases okb with
   | false =>
     rw [if_neg Bool.false_ne_true] at q7 ⊢
     obtain ⟨a1, a2⟩ := frs' I7
     exact ⟨nn - (i + 1), by rw [hn0]; exact Nat.sub_lt_sub_left hlt (U9 i), i + 1, zs, ys, H7, rfl, hlt, I7.unpinned.weak (by rw [hl6]) (Kw hl6 hd6), rv, a1, a2, q7⟩
   | true =>
     rw [if_pos rfl] at q7 ⊢
     refine thn (he cl _ s₂ H fp _ s7 σ6 H7 _ I7 q7) fun v s8 ⟨y, H8, I8, r8, q8⟩ => ?_
     have zD := (I8.pin (s₂.heap.objs.size, Ek ys) (SM _ (SE _ (Ub.mpr rfl))))
     have ylen : ys.length < sizeLine := by rw [← rv.length]; exact zl
     obtain ⟨a1, a2⟩ := frs' I8
     refine append_at (hsz := by rw [Th]; exact Sw ylen) zD.1 fun h9 hs9 hD9 => ?_
     have I8u : Inv (BD X N scope cl H2.objs.size s₂ H fp) [] (cS nt js σ) H8 s8 := (I8.pins_of (pins' := []) fun p hp => nomatch hp).weak (by rw [hl6]) (Kw hl6 hd6)
     have I9 : Inv (BD X N scope cl H2.objs.size s₂ H fp) [] (cS nt js σ) H8 { s8 with heap := h9 } := I8u.turned (t' := s8.toks) (it := s₂.heap.objs.size) (fun b o hb e => hs9.extBut b o hb e) zD.2.1 hDC (.inr (SK _))
      (fun x c e z => by
       obtain ⟨v, q⟩ := I.cell x c (hcl x c e)
       exact absurd (Sl q.lt (by rw [z]; exact SK _)) (Sm _)) (fun p hp => nomatch hp)
     refine ⟨nn - (i + 1), by rw [hn0]; exact Nat.sub_lt_sub_left hlt (U9 i), i + 1, zs ++ [y], ys ++ [v], H8, rfl, hlt, I9.pins_of (fun p hp => ?_), rv.snoc r8, T.keep _ _ _ a1 fun b hb o e => hs9.extBut b o (below b (lt b hb)).2 e, a2, q8⟩
     have e : p = (s₂.heap.objs.size, Ek (ys ++ [v])) := by simpa using hp
     subst e
     refine ⟨?_, zD.2.1, hDC, zD.2.2.2.1, fun v z => by cases z⟩
     rw [hD9]
     show some ({ cls := .type "list", data := .seq (ys.toArray.push v) (ys.length + 1) } : Obj) = some { cls := .type "list", data := .seq (ys ++ [v]).toArray (ys ++ [v]).length }
     rw [T6, Tp, List.push_toArray]
 exact codeAny_compStart_list (loop _ rfl) (T.self _ 0 _ _ _ (T.keep 0 _ _ st (fun b _ o e => old b o e)) (loop _ rfl))
theorem Cj (hcalm : X.calm = true) (ok : Ba X N nt js scope) (hi : PI X tg iter wi) (hg : ∀ cl C s H fp, PG (BD X N scope cl C s H fp) tg g) (hk : Jj g nt) (hc : ∀ cl C s H fp, PTs (BD X N scope cl C s H fp) ifs tc)
 (he : ∀ cl C s H fp, PE (BD X N scope cl C s H fp) elt te) (hs : ∀ x, foldedSetIterable iter X.env x = pure x := by intro _; rfl) : PE X (.ListComp elt [⟨tg, iter, ifs, 0⟩] scope pos) (tLC wi nt js g tc te) := by
 intro pins s σ H Q I h
 obtain ⟨cl, hclos, hcl, hcl2⟩ := DW (scope := scope) (env := X.env) fun x hx hf => I.ok.has x.1 (ok.free x hx hf)
 rw [eval_ListComp]
 refine wpAny_comprehension_free (use := none) rfl hs hclos ok.kind ok.names ?_
 refine thn (hi pins s σ H _ I (O0 h)) fun v s1 h1 => thn h1 fun itv s2 h2 => ?_
 obtain ⟨it, fp, tn, J, H2, e, I2, T, st2, f2, nn, W, w0, lw⟩ := h2
 subst e
 refine Ja (RR := fun acc C => compPost (model X.prog X.w) X.A X.xe none (EP X pins σ Q) acc C) hcalm ok hcl hcl2 hg hk hc he I2 T st2 f2 w0 lw ?_
 intro D C s' H' zs m I3 hn hDn hCn hCL hC0 hCc hCp fin
 exact ⟨m, hn, fun h'' hs'' => ⟨.ref D, _, I3.turned (t' := s'.toks) (it := C) (fun b o hb e => hs''.extBut b o hb e) hCn hCL (.inr hC0) hCc hCp, rfl, fin D hDn⟩⟩
theorem M5 {i : Nat} {y : Str} {py spos : Pos} (hcalm : X.calm = true) (hN : X.N.Nodup) (hi' : X.N[i]? = some y) (hy : X.env.kindOf y = some .local) (ok : Ba X N nt js scope) (hi : PI X tg iter wi) (hg : ∀ cl C s H fp, PG (BD X N scope cl C s H fp) tg g) (hk : Jj g nt)
 (hc : ∀ cl C s H fp, PTs (BD X N scope cl C s H fp) ifs tc) (he : ∀ cl C s H fp, PE (BD X N scope cl C s H fp) elt te)
 (hsw : swapsWith (.ListComp elt [⟨tg, iter, ifs, 0⟩] scope pos) (some (.Name y py)) spos.line X.env = pure true) (hs : ∀ x, foldedSetIterable iter X.env x = pure x := by intro _; rfl) :
 PS X (.Assign [.Name y py] (.ListComp elt [⟨tg, iter, ifs, 0⟩] scope pos) spos) (Oh (tLC wi nt js g tc te) (Cy i)) := by
 intro pins s σ H D₀ I h
 obtain ⟨cl, hclos, hcl, hcl2⟩ := DW (scope := scope) (env := X.env) fun x hx hf => I.ok.has x.1 (ok.free x hx hf)
 rw [exec_Assign_Name_used _ _ _ _ hsw]
 refine wpAny_bind (wpAny_standAt (wpAny_bind ?_))
 show wpAny _ X.A (do let _ ← comprehension (.ListComp elt [⟨tg, iter, ifs, 0⟩] scope pos) scope X.env _ (newList []) false (eval iter X.env) (some (assign (.Name y py) X.env))) _ _ s
 refine wpAny_bind (wpAny_mono (wpAny_comprehension_free (use := some (assign (.Name y py) X.env)) (Q := fun _ s' => SP X pins D₀ .next s') rfl hs hclos ok.kind ok.names
  (thn (hi pins s σ H _ I (O0 (show tLC wi nt js g tc te σ H fun x H1 => Cy i x σ H1 D₀.nx from h))) fun v s1 h1 => thn h1 fun itv s2 h2 => ?_)) (fun _ s' hq => wpAny_pure (wpAny_pure hq)) fun _ _ e => e)
 obtain ⟨it, fp, tn, J, H2, e, I2, T, st2, f2, nn, W, w0, lw⟩ := h2
 subst e
 refine Ja (RR := fun acc C => compPost (model X.prog X.w) X.A X.xe (some (assign (.Name y py) X.env)) (fun _ s' => SP X pins D₀ .next s') acc C) hcalm ok hcl hcl2 hg hk hc he I2 T st2 f2 w0 lw ?_
 intro D C s' H' zs m I3 hn hDn hCn hCL hC0 hCc hCp fin
 show wpAny _ X.A (assign (.Name y py) X.env (.ref D)) _ _ _
 refine wpAny_assign_Name (GH (v := .ref D) I3 hN hi' (.inl hy) rfl (fun s3 I4 hsb => ?_) (.inr hy))
 obtain ⟨a, hsb, ha⟩ := hsb
 have haC : C ≠ a := by
  rcases ha with z | z
  ·rw [z]; exact hCL
  ·exact Ne.symm (hCc y a z)
 refine ⟨m, hn.sameBut hsb haC, fun h'' hs'' => ?_⟩
 exact ⟨_, _, I4.turned (t' := s3.toks) (it := C) (fun b o hb e => hs''.extBut b o hb e) hCn hCL (.inr hC0) hCc hCp, fin D hDn⟩
end
end L2
namespace L2
open PySem PySem.Spec PyProof.Rows
def Bd (n : Nat) (x : Int) : Prop := x.natAbs < 2 ^ n
theorem Bd.bits {n : Nat} {x : Int} (h : Bd n x) : Builtin.Int.intBits x ≤ n := PySem.intBits_le_iff.mpr h
def MX (i j : Int) : Prop := ∃ m n, Bd m i ∧ Bd n j ∧ m + n ≤ 134217728
theorem MX.ok {i j : Int} (h : MX i j) : IntMulOk i j := by
 obtain ⟨m, n, h1, h2, h3⟩ := h
 exact PySem.IntMulOk.of_le h1.bits h2.bits h3
section
variable {X : Cx}
theorem BL {k : Nat} (hr : C8 k X.A) (hT : X.prog.given.tree = none) (hk : 32 ≤ k := by decide)
 (hst : ∃ (env : Env) (l : List Env), X.stack = env :: l ∧ env.scope.isGenerator = false ∧ env.scope.isCoroutine = false ∧ env.builtins = builtinsNs ∧ env.globals = mainGlobals := by exact ⟨_, _, rfl, rfl, rfl, rfl, rfl⟩) :
 OpR X (binaryOp .FloorDiv) (rI (fun _ j => j ≠ 0) fun i j => .int (i.fdiv j)) := by
 intro pins s σ H x y v u Q I rx ry h
 obtain ⟨i, j, rfl, rfl, hc, q⟩ := h
 obtain ⟨t, rfl⟩ := rx
 obtain ⟨t', rfl⟩ := ry
 obtain ⟨env, l, e1, e2, e3, e4, e5⟩ := hst
 have hd : X.A.depth + Builtin.pylongFrames < recursionLimit := by
  have := hr.dp
  have e : Builtin.pylongFrames ≤ 101 := by decide
  lia
 refine floordiv_int hc ⟨.int (i.fdiv j), H, I.tok _, ⟨_, rfl⟩, q⟩ (.inr (PySem.PylongRoom.of I.nolimit hd (PySem.SeerAt.of (I.ok.mod.seer.keeps I.bk) hT (by rw [I.ok.frames, e1]) e2 e3 e4 e5)))
end
structure Fd (P : Program) (w : World) (K : Su) (mg : Str → Option Value) (base : Heap) (n : Nat) (x : Str) (ps : List Str) (sp : Sp) : Prop where
 ex : ∃ (f : Addr) (fd : FuncData), AH P w K mg base CX0 n f fd ps sp ∧ Ca K fd ps [] ∧ SQ K (.ref f) = true ∧ mg x = some (.ref f)
theorem Ak {X : Cx} {n k : Nat} {x : Str} {ps : List Str} {sp : Sp} {e : Expr} {es : List Expr} {t : TA} {p pos : Pos} (F : Fd X.prog X.w X.K X.mg X.base n x ps sp) (hr : C8 k X.A) (hg : Gl X x) (ha : PA X (e :: es) t) (hn : n ≤ k := by decide)
 (hdb : (x == ("__debug__" : Str)) = false := by decide) (he : starEach (e :: es) X.env = (false, eval e X.env) :: starEach es X.env := by rfl) (hpl : (backTo pos (starEach es X.env)).any (·.1) = false := by rfl) :
 PE X (.Call (.Name x p) (e :: es) [] pos) (NV sp [] E0 t) := by
 obtain ⟨f, fd, F1, F2, F3, F4⟩ := F.ex
 exact Nt F1 (hr.mono hn) hg F4 F3 F2 .nil PH ha hdb he hpl
inductive Rds (K : Su) (H : Hp) : V → PyData → Prop where
 | non : Rds K H .non .none
 | bl (b : Bool) : Rds K H (.bl b) (.bool b)
 | int (i : Int) : Rds K H (.int i) (.int i)
 | str (x : Str) : Rds K H (.str x) (.str x)
 | lst {a : Addr} {xs : List V} {ds : List PyData} : SqL K H a xs → xs.length = ds.length → (∀ (i : Nat) x d, xs[i]? = some x → ds[i]? = some d → Rds K H x d) → Rds K H (.ref a) (.list ds)
 | tup {a : Addr} {xs : List V} {ds : List PyData} : SqT K H a xs → xs.length = ds.length → (∀ (i : Nat) x d, xs[i]? = some x → ds[i]? = some d → Rds K H x d) → Rds K H (.ref a) (.tuple ds)
theorem Dx {h : Heap} : ∀ {us : List Value} {xs : List V} {ds : List PyData}, AG xs us → xs.length = ds.length → (∀ (i : Nat) x d u, xs[i]? = some x → ds[i]? = some d → AR x u → ∃ as, Reads h u d as) → ∃ as, ReadsAll h us ds as
 | [], _, [], .nil, _, _ => ⟨[], .nil⟩
 | [], _, _ :: _, .nil, hl, _ => by simp at hl
 | _ :: _, _, [], .cons _ _, hl, _ => by simp at hl
 | u :: us, x :: xs, d :: ds, .cons r t, hl, hr => by
   obtain ⟨a1, r1⟩ := hr 0 x d u rfl rfl r
   obtain ⟨a2, r2⟩ := Dx (us := us) (xs := xs) (ds := ds) t (by simpa using hl) fun i x' d' u' e1 e2 q => hr (i + 1) x' d' u' (by simpa using e1) (by simpa using e2) q
   exact ⟨_, .cons r1 r2⟩
theorem CV {X : Cx} {pins : List (Addr × Obj)} {σ : St} {H : Hp} {s : Shared} (I : Inv X pins σ H s) {x : V} {d : PyData} (r : Rds X.K H x d) : ∀ {u : Value}, AR x u → ∃ as, Reads s.heap u d as := by
 induction r with
 | non => intro u ru; cases ru; exact ⟨_, .none⟩
 | bl b => intro u ru; cases ru; exact ⟨_, .bool b⟩
 | int i => intro u ru; obtain ⟨t, rfl⟩ := ru; exact ⟨_, .int i t⟩
 | str z => intro u ru; obtain ⟨t, rfl⟩ := ru; exact ⟨_, .str z t⟩
 | lst q hl _ ih =>
   intro u ru
   cases ru
   obtain ⟨its, rv, ⟨o, n, e, c, _, dd⟩, _⟩ := I.list q
   obtain ⟨as, ra⟩ := Dx rv hl fun i x d u e1 e2 rr => ih i x d e1 e2 rr
   exact ⟨_, .list e c dd (by simpa using ra)⟩
 | tup q hl _ ih =>
   intro u ru
   cases ru
   obtain ⟨its, rv, ⟨o, e, c, n, dd⟩, _⟩ := I.tuple q
   obtain ⟨as, ra⟩ := Dx rv hl fun i x d u e1 e2 rr => ih i x d e1 e2 rr
   exact ⟨_, .tuple e c dd (by simpa using ra)⟩
section
variable {X : Cx}
@[irreducible] def F0 (K : Su) (neg : Bool) : R2 := fun x y H Q => ∃ d e, Rds K H x d ∧ Rds K H y e ∧ SeqAt.shaped d = true ∧ SeqAt.shaped e = true ∧ Q (.bl (if neg then !PyData.eqv d e else PyData.eqv d e)) H
theorem Ii {K : Su} {neg : Bool} {x y : V} {H : Hp} {Q : VK} (h : ∃ d e, Rds K H x d ∧ Rds K H y e ∧ SeqAt.shaped d = true ∧ SeqAt.shaped e = true ∧ Q (.bl (if neg then !PyData.eqv d e else PyData.eqv d e)) H) : F0 K neg x y H Q := by
 unfold F0; exact h
theorem OB (hu : X.A.units + 64 < cLine) : OpR X (compareOp .Eq) (F0 X.K false) := by
 intro pins s σ H x y v u Q I rx ry h
 unfold F0 at h
 obtain ⟨d, e, r1, r2, h1, h2, q⟩ := h
 obtain ⟨as, q1⟩ := CV I r1 rx
 obtain ⟨bs, q2⟩ := CV I r2 ry
 exact SeqAt.compareEq_shaped q1 q2 h1 h2 hu ⟨.bl _, H, I, rfl, q⟩
theorem OA (hu : X.A.units + 64 < cLine) : OpR X (compareOp .NotEq) (F0 X.K true) := by
 intro pins s σ H x y v u Q I rx ry h
 unfold F0 at h
 obtain ⟨d, e, r1, r2, h1, h2, q⟩ := h
 obtain ⟨as, q1⟩ := CV I r1 rx
 obtain ⟨bs, q2⟩ := CV I r2 ry
 exact SeqAt.compareNe_shaped q1 q2 h1 h2 hu ⟨.bl _, H, I, rfl, q⟩
end
end L2
namespace L2
open PySem PySem.Spec PyProof.Rows
theorem AJ : bootBuiltins "len" = some (.builtin "len") := by decide +kernel
theorem Io : bootBuiltins "abs" = some (.builtin "abs") := by decide +kernel
theorem NO : bootBuiltins "list" = some (.type "list") := by decide +kernel
theorem Je : bootBuiltins "tuple" = some (.type "tuple") := by decide +kernel
theorem P7 : bootBuiltins "int" = some (.type "int") := by decide +kernel
theorem Jf : bootBuiltins "reversed" = some (.type "reversed") := by decide +kernel
def Fx (H : Hp) (L : List (Addr × HO)) : Prop := ∀ p ∈ L, H p.1 = some p.2
def Mv (a : Addr) (H H' : Hp) : Prop := ∀ b o, b ≠ a → H b = some o → H' b = some o
theorem Mv.refl (a : Addr) (H : Hp) : Mv a H H := fun _ _ _ h => h
theorem Mv.trans {a : Addr} {H H1 H2 : Hp} (x : Mv a H H1) (y : Mv a H1 H2) : Mv a H H2 := fun b o n h => y b o n (x b o n h)
theorem Mv.new {a p : Addr} {H : Hp} {o : HO} (h : H p = none) : Mv a H (upd H p o) := fun b u _ q => by rw [Aq (Aw q h)]; exact q
theorem Kx {ns : List Int} {k : Int} (h0 : 0 ≤ k) (h : k < (ns.length : Int)) : ∃ v : Int, atI (ns.map V.int) k = some (.int v) := by
 have hk : k.toNat < ns.length := by lia
 have ek : k = ((k.toNat : Nat) : Int) := by lia
 have q : atI (ns.map V.int) ((k.toNat : Nat) : Int) = some (.int ns[k.toNat]) := Bv (by rw [T3, Uc hk] <;> rfl)
 rw [← ek] at q
 exact ⟨_, q⟩
def nT (q : Rat) : HO := .tup [.int q.num, .int q.den]
def Pen (H : Hp) (a : Addr) : Prop := ∃ c0 c1 c2 : Int, H a = some (.lst [.int c0, .int c1, .int c2])
theorem Pen.same {H : Hp} {a p : Addr} {o : HO} (x : Pen H a) (h : H p = none) : Pen (upd H p o) a := by
 obtain ⟨c0, c1, c2, e⟩ := x
 exact ⟨c0, c1, c2, by rw [Aq (Aw e h)]; exact e⟩
theorem Pen.put {H : Hp} {a : Addr} {c0 c1 c2 : Int} : Pen (upd H a (.lst [.int c0, .int c1, .int c2])) a := ⟨c0, c1, c2, Aa⟩
def B0 (i j : Int) : Prop := (-(2 ^ 64) < i ∧ i < 2 ^ 64) ∨ (-(2 ^ 64) < j ∧ j < 2 ^ 64) ∨ MX i j
theorem B0.ok {i j : Int} (h : B0 i j) : IntMulOk i j := by
 rcases h with ⟨h1, h2⟩ | ⟨h1, h2⟩ | h
 ·exact .of_left (intBits_le_64 h1 h2)
 ·exact .of_right (intBits_le_64 h1 h2)
 ·exact h.ok
theorem Ap {X : Cx} : OpR X (binaryOp .Mult) (rI B0 fun i j => .int (i * j)) := opI fun _ _ _ _ _ _ _ hc q => mul_int q hc.ok
def CD (a : Addr) (H H' : Hp) : Prop := ∀ b, b ≠ a → H' b = H b
theorem CD.mv {a : Addr} {H H' : Hp} (x : CD a H H') : Mv a H H' := fun b o n h => by rw [x b n]; exact h
theorem CD.put {a : Addr} {H : Hp} {o : HO} : CD a H (upd H a o) := fun b n => Aq n
theorem Pen.ne {H : Hp} {a p : Addr} {o : HO} (x : Pen H a) (h : H p = some o) (hd : ∀ c0 c1 c2 : Int, o ≠ .lst [.int c0, .int c1, .int c2]) : p ≠ a := by
 obtain ⟨c0, c1, c2, e⟩ := x
 exact EX h e (hd c0 c1 c2)
structure Lg (a : Addr) (H : Hp) (L : List (Addr × HO)) : Prop where
 fx : Fx H L
 ne : ∀ x ∈ L, x.1 ≠ a
 pen : Pen H a
theorem Kb (q : Rat) : ∀ c0 c1 c2 : Int, nT q ≠ .lst [.int c0, .int c1, .int c2] := fun _ _ _ z => by cases z
theorem NP {xs : List Int} {i : Int} (h0 : 0 ≤ i) (h : i < (xs.length : Int)) : ∃ v : Int, atI (xs.map V.int) i = some (.int v) ∧ v ∈ xs := by
 have hk : i.toNat < xs.length := by lia
 have ek : i = ((i.toNat : Nat) : Int) := by lia
 have q : atI (xs.map V.int) ((i.toNat : Nat) : Int) = some (.int xs[i.toNat]) := Bv (by rw [T3, Uc hk] <;> rfl)
 rw [← ek] at q
 exact ⟨_, q, Ud hk⟩
theorem LJ {K : Su} {H : Hp} {a p : Addr} {xs : List V} {o : HO} (hS : SqL K H a xs) (hp : H p = none) : SqL K (upd H p o) a xs := by
 have st : ∀ u, H a = some u → upd H p o a = some u := fun u e => by rw [Aq (Aw e hp)]; exact e
 rcases hS with (h | ⟨o, h⟩) | h
 ·exact .inl (.inl (st _ h))
 ·exact .inl (.inr ⟨o, st _ h⟩)
 ·exact .inr h
inductive Hq (vs : List V) (H : Hp) (Q : VK) (E_3 : XK) : Prop
 | mk (a : Addr) (m : Int) (h1 : vs = [.ref a, .int m]) (h2 : Pen H a) (h3 : 1 ≤ m) (h4 : m < 1073741824) (h5 : ∀ (d : Int) (H' : Hp), 0 ≤ d → d < m → CD a H H' → Pen H' a → Q (.int d) H') : Hq vs H Q E_3
inductive LO (K : Su) (vs : List V) (H : Hp) (Q : VK) (E_3 : XK) : Prop
 | mk (a : Addr) (ns : List Int) (k : Int) (h1 : vs = [.ref a, .int k]) (h2 : SqL K H a (ns.map V.int)) (h3 : ns.length ≤ 63) (h4 : 0 ≤ k) (h5 : k < 2 ^ 62) (h6 : ∀ (p : Addr) (c0 c1 : Int), H p = none → Q (.ref p) (upd H p (.lst [.int c0, .int c1, .int 0]))) : LO K vs H Q E_3
inductive CQ (vs : List V) (H : Hp) (Q : VK) (E_3 : XK) : Prop
 | mk (t b : Int) (h1 : vs = [.int t, .int b]) (h2 : b ≠ 0) (h3 : ∀ p, H p = none → Q (.ref p) (upd H p (nT (Tv t b)))) : CQ vs H Q E_3
inductive IB (vs : List V) (H : Hp) (Q : VK) (E_3 : XK) : Prop
 | mk (a b : Int) (h1 : vs = [.int a, .int b]) (h2 : Q (.int (Tt a b)) H) : IB vs H Q E_3
inductive IA (n : Nat) (vs : List V) (H : Hp) (Q : VK) (E_3 : XK) : Prop
 | mk (a : _) (h1 : vs = [.ref a]) (h2 : Pen H a) (h3 : ∀ (q : Rat) (r : Addr) (H' : Hp), Mv a H H' → Pen H' a → H' r = some (nT q) → Bd n q.num → Bd n q.den → Q (.ref r) H') : IA n vs H Q E_3
def mu (i : Nat) (σ : St) : Nat := match σ[i]? with | some (some (.int y)) => y.toNat | _ => 0
theorem Bd.mono {m n : Nat} {x : Int} (h : Bd m x) (hmn : m ≤ n) : Bd n x := Sl h (Ue (by decide) hmn)
theorem Bd.num {n : Nat} {t b : Int} (h : Bd n t) : Bd n (Tv t b).num := by
 unfold Bd at *
 by_cases hb : b = 0
 ·subst hb; simp; exact Nat.pos_of_ne_zero (by simp)
 ·rw [← Nm.top_msr hb]
  exact Tr (PySem.natAbs_fdiv_le t _) h
theorem Bd.den {n : Nat} {t b : Int} (hb : b ≠ 0) (h : Bd n b) : Bd n (Tv t b).den := by
 unfold Bd at *
 rw [← Nm.bottom_msr hb]
 exact Tr (PySem.natAbs_fdiv_le b _) h
end L2
namespace L2
open PySem PySem.Spec PyProof.Rows
def He (K : Su) (a : Addr) (xs : List V) : It :=
 ⟨fun i H => SqL K H a xs ∧ i < xs.length, fun i H x H' => H' = H ∧ xs[xs.length - 1 - i]? = some x, fun i _ => xs.length = i⟩
theorem LB {P : Program} {w : World} {K : Su} {tg : Expr} (a it : Addr) (xs : List V) : Ji P w K tg (He K a xs) [it] it (fun i h => i ≤ xs.length ∧ h.IsRevIter it a ((xs.length : Int) - 1 - (i : Int))) where
 mem := by simp
 obj := fun i h st b hb => by
  have e : b = it := by simpa using hb
  subst e
  obtain ⟨_, o, e, c, d⟩ := st
  exact ⟨o, e, fun v z => by rw [d] at z; cases z⟩
 keep := fun i h h' st k => ⟨st.1, st.2.at fun o e => k it (by simp) o e⟩
 item := by
  intro X hP hw hK hc i pins s σ H E I hf st hg
  subst hP hw hK
  obtain ⟨hq, hi⟩ := hg
  obtain ⟨its, rv, p, hz⟩ := I.list hq
  have hl := rv.length
  have hx : xs[xs.length - 1 - i]? = some (xs[xs.length - 1 - i]'(by lia)) := Uc (by lia)
  obtain ⟨u, hu, ru⟩ := rv.get hx
  obtain ⟨f0, f1, f2, f3, f4, f5⟩ := hf it (by simp)
  have e : (xs.length : Int) - 1 - (i : Int) = ((xs.length - 1 - i : Nat) : Int) := by lia
  have st2 := st.2
  rw [e] at st2
  refine wpAny_pyNext_rev_item st2 p.isList (x := u) (by simpa using hu) fun h' st' sb => ?_
  have I1 : Inv X pins σ H { s with heap := h' } := I.turned (t' := s.toks) (fun b o hb e => (sb.2 b hb).trans e) f0 f1 f3 f4 f5
  obtain ⟨o, e', c, d⟩ := id st'
  have e2 : ((xs.length - 1 - i : Nat) : Int) - 1 = (xs.length : Int) - 1 - ((i + 1 : Nat) : Int) := by lia
  rw [e2] at st'
  exact ⟨u, rfl, J6 (s := { s with heap := h' }) e' c d (by decide) ⟨_, H, I1, ru, ⟨rfl, hx⟩, ⟨hi, st'⟩, fun b hb => (hf b hb).1⟩⟩
 done := by
  intro X hP hw hK hc i pins s σ H E I hf st hg
  subst hP hw hK
  obtain ⟨f0, f1, f2, f3, f4, f5⟩ := hf it (by simp)
  have hg' : xs.length = i := hg
  have st2 := st.2
  rw [show (xs.length : Int) - 1 - (i : Int) = -1 by lia] at st2
  exact wpAny_pyNext_rev_end (I.ok.hd hc) st2 fun h' eb => ⟨rfl, I.turned (t' := s.toks) (fun b o hb e => eb b o hb e) f0 f1 f3 f4 f5⟩
 self := fun _ _ _ _ _ st h => wpAny_pyIter_revIter st.2 h
section
variable {X : Cx} {tg : Expr}
def PU (K : Su) (tl : TE) : TI := fun σ H R => tl σ H fun x H1 => ∃ v, [x] = [v] ∧ ∃ a xs, v = .ref a ∧ SqL K H1 a xs ∧ R (He K a xs) H1
theorem Ow {l : Expr} {tl : TE} {p pos : Pos} (hg : Gl X "reversed") (hm : X.mg "reversed" = none) (hl : PE X l tl) (hs : starEach [l] X.env = [(false, eval l X.env)] := by rfl) : PI X tg (.Call (.Name "reversed" p) [l] [] pos) (PU X.K tl) := by
 intro pins s σ H R I h
 have ha : PA X [l] (NU tl Pl) := A0 hl Ab (by rw [hs]; rfl)
 refine Call_ (Di I hg hm Jf (PyProof.Rows.callWith_type1 (thn (ha pos pins s σ H (fun vs H1 => ∃ x, vs = [x] ∧ ∃ a xs, x = .ref a ∧ SqL X.K H1 a xs ∧ R (He X.K a xs) H1) I h) fun us s1 ⟨vs, H1, I1, r1, q1⟩ => ?_) hs rfl))
 obtain ⟨x, e0, a, xs, e, hq, q⟩ := q1
 subst e0
 subst e
 cases r1 with
 | cons r rr =>
   cases rr
   cases r
   obtain ⟨its, rv, p, hz⟩ := I1.list hq
   refine call_reversed_list p.isList ?_
   have I2 : Inv X pins σ H1 { s1 with heap := s1.heap.push (revObj a ((its.toArray.size : Int) - 1)) } := I1.kept (t' := s1.toks) fun b o e => Heap.get?_push_of_some _ e
   have st : ({ s1 with heap := s1.heap.push (revObj a ((its.toArray.size : Int) - 1)) } : Shared).heap.IsRevIter s1.heap.objs.size a ((xs.length : Int) - 1 - ((0 : Nat) : Int)) := by
    refine ⟨_, Heap.get?_push_size _ rfl, rfl, ?_⟩
    have e : ((its.toArray.size : Nat) : Int) - 1 = (xs.length : Int) - 1 - ((0 : Nat) : Int) := by rw [Th, ← rv.length]; simp
    show Data.fields #[.ref a, rawInt _] = _
    rw [e]
   refine wpAny_pyIter_revIter st ?_
   refine ⟨s1.heap.objs.size, [s1.heap.objs.size], _, _, H1, rfl, I2, LB a _ xs, ⟨SN _, st⟩, fun b hb => ?_, q⟩
   have e : b = s1.heap.objs.size := by simpa using hb
   subst e
   exact I1.fpOk (SK _) (I1.hok.fresh (SK _))
end
theorem Ko {K : Su} {a : Addr} {xs : List V} {g : TG} {tb : TS} {D : Dp} {σ : St} {H : Hp} (Pv : Nat → St → Hp → Prop) (h0 : Pv 0 σ H) (hl : ∀ i σ H, i ≤ xs.length → Pv i σ H → SqL K H a xs)
 (hs : ∀ i x σ H, i < xs.length → xs[xs.length - 1 - i]? = some x → Pv i σ H → g x σ H fun σ2 H2 => tb { D with nx := Pv (i + 1), ct := Pv (i + 1), bk := D.nx } σ2 H2) (hd : ∀ σ H, Pv xs.length σ H → D.nx σ H) :
 ∃ W : Nat → Nat → St → Hp → Prop, (∃ m, W 0 m σ H) ∧ ∀ i m σ H, W i m σ H →
   ((He K a xs).stop i H ∧ D.nx σ H) ∨ ((He K a xs).go i H ∧ ∃ N : St → Hp → Prop, (∀ σ' H', N σ' H' → ∃ m', m' < m ∧ W (i + 1) m' σ' H') ∧ ∀ x H', (He K a xs).yld i H x H' → g x σ H' fun σ2 H2 => tb { D with nx := N, ct := N, bk := D.nx } σ2 H2) := by
 refine ⟨fun i m σ H => m = xs.length - i ∧ i ≤ xs.length ∧ Pv i σ H, ⟨xs.length, by simp, SN _, h0⟩, ?_⟩
 rintro i m σ H ⟨rfl, hi, p⟩
 have q := hl i σ H hi p
 by_cases hlt : i < xs.length
 ·refine .inr ⟨⟨q, hlt⟩, Pv (i + 1), fun σ' H' p' => ⟨xs.length - (i + 1), by lia, rfl, hlt, p'⟩, fun x H' y => ?_⟩
  obtain ⟨e, y⟩ := y
  subst e
  exact hs i x σ _ hlt y p
 ·have e : i = xs.length := by lia
  subst e
  exact .inl ⟨rfl, hd σ H p⟩
end L2
namespace L2
open PySem PySem.Spec PyProof.Rows
theorem SqT.same {K : Su} {H H' : Hp} {a : Addr} {xs : List V} (h : SqT K H a xs) (e : Af H H') : SqT K H' a xs := by
 rcases h with (h | ⟨o, h⟩) | h
 ·exact .inl (.inl (e _ _ h))
 ·exact .inl (.inr ⟨o, e _ _ h⟩)
 ·exact .inr h
theorem Af.new {H : Hp} {p : Addr} {o : HO} (h : H p = none) : Af H (upd H p o) := fun b u q => by rw [Aq (Aw q h)]; exact q
theorem Af.mv {H H' : Hp} {a : Addr} (h : Af H H') : Mv a H H' := fun b o _ q => h b o q
theorem Paired.get {α β : Type} {F : α → β → Prop} : ∀ {l₁ : List α} {l₂ : List β} {i : Nat} {a : α}, Paired F l₁ l₂ → l₁[i]? = some a → ∃ b, l₂[i]? = some b ∧ F a b
 | _, _, _, _, .nil, e => by simp at e
 | _, _, 0, _, .cons h _, e => by simp at e; subst e; exact ⟨_, rfl, h⟩
 | _, _, i + 1, _, .cons _ t, e => by
   obtain ⟨b, h1, h2⟩ := Paired.get (i := i) t (by simpa using e)
   exact ⟨b, by simpa using h1, h2⟩
theorem Paired.get' {α β : Type} {F : α → β → Prop} : ∀ {l₁ : List α} {l₂ : List β} {i : Nat} {b : β}, Paired F l₁ l₂ → l₂[i]? = some b → ∃ a, l₁[i]? = some a ∧ F a b
 | _, _, _, _, .nil, e => by simp at e
 | _, _, 0, _, .cons h _, e => by simp at e; subst e; exact ⟨_, rfl, h⟩
 | _, _, i + 1, _, .cons _ t, e => by
   obtain ⟨b, h1, h2⟩ := Paired.get' (i := i) t (by simpa using e)
   exact ⟨b, by simpa using h1, h2⟩
theorem Paired.take {α β : Type} {F : α → β → Prop} : ∀ {l₁ : List α} {l₂ : List β} (n : Nat), Paired F l₁ l₂ → Paired F (l₁.take n) (l₂.take n)
 | _, _, 0, _ => by simp; exact .nil
 | _, _, _ + 1, .nil => .nil
 | _, _, n + 1, .cons h t => .cons h (Paired.take n t)
theorem Paired.append {α β : Type} {F : α → β → Prop} {l₁ l₁' : List α} {l₂ l₂' : List β} (a : Paired F l₁ l₂) (b : Paired F l₁' l₂') : Paired F (l₁ ++ l₁') (l₂ ++ l₂') := by
 induction a with
 | nil => exact b
 | cons h t ih => exact .cons h ih
def Az (K : Su) (H : Hp) (x : V) (q : Rat) : Prop := ∃ r, x = .ref r ∧ SqT K H r [.int q.num, .int q.den]
abbrev Au (K : Su) (H : Hp) : List V → List Rat → Prop := Paired (Az K H)
theorem Az.of {K : Su} {H : Hp} {r : Addr} {q : Rat} (h : H r = some (nT q)) : Az K H (.ref r) q := ⟨r, rfl, SqT.of h⟩
theorem Az.same {K : Su} {H H' : Hp} {x : V} {q : Rat} (h : Az K H x q) (e : Af H H') : Az K H' x q := by
 obtain ⟨r, rfl, h⟩ := h
 exact ⟨r, rfl, h.same e⟩
theorem Au.same {K : Su} {H H' : Hp} {xs : List V} {qs : List Rat} (h : Au K H xs qs) (e : Af H H') : Au K H' xs qs := Paired.mapP h fun _ _ z => z.same e
theorem SqT.mv {K : Su} {H H' : Hp} {a p : Addr} {xs : List V} (h : SqT K H a xs) (pn : Pen H p) (m : Mv p H H') : SqT K H' a xs := by
 obtain ⟨c0, c1, c2, e⟩ := pn
 rcases h with (h | ⟨o, h⟩) | h
 ·exact .inl (.inl (m _ _ (EX h e (fun z => by cases z)) h))
 ·exact .inl (.inr ⟨o, m _ _ (EX h e (fun z => by cases z)) h⟩)
 ·exact .inr h
theorem Az.mv {K : Su} {H H' : Hp} {x : V} {q : Rat} {p : Addr} (h : Az K H x q) (pn : Pen H p) (m : Mv p H H') : Az K H' x q := by
 obtain ⟨r, rfl, h⟩ := h
 exact ⟨r, rfl, h.mv pn m⟩
theorem Au.mv {K : Su} {H H' : Hp} {xs : List V} {qs : List Rat} {p : Addr} (h : Au K H xs qs) (pn : Pen H p) (m : Mv p H H') : Au K H' xs qs := Paired.mapP h fun _ _ z => z.mv pn m
theorem SqT.put {K : Su} {H : Hp} {a p : Addr} {xs ys : List V} {o : HO} (h : SqT K H a xs) (hp : H p = some (.lst ys)) : SqT K (upd H p o) a xs := by
 rcases h with (h | ⟨u, h⟩) | h
 ·exact .inl (.inl (by rw [Aq (EX h hp (fun z => by cases z))]; exact h))
 ·exact .inl (.inr ⟨u, by rw [Aq (EX h hp (fun z => by cases z))]; exact h⟩)
 ·exact .inr h
theorem Az.put {K : Su} {H : Hp} {x : V} {q : Rat} {p : Addr} {ys : List V} {o : HO} (h : Az K H x q) (hp : H p = some (.lst ys)) : Az K (upd H p o) x q := by
 obtain ⟨r, rfl, h⟩ := h
 exact ⟨r, rfl, h.put hp⟩
theorem Au.put {K : Su} {H : Hp} {xs : List V} {qs : List Rat} {p : Addr} {ys : List V} {o : HO} (h : Au K H xs qs) (hp : H p = some (.lst ys)) : Au K (upd H p o) xs qs := Paired.mapP h fun _ _ z => z.put hp
def Crv (K : Su) (H : Hp) (r : Addr) (qs : List Rat) : Prop := ∃ xs, SqT K H r xs ∧ Au K H xs qs
theorem Crv.same {K : Su} {H H' : Hp} {r : Addr} {qs : List Rat} (h : Crv K H r qs) (e : Af H H') : Crv K H' r qs := let ⟨xs, a, b⟩ := h; ⟨xs, a.same e, b.same e⟩
theorem Crv.mv {K : Su} {H H' : Hp} {r p : Addr} {qs : List Rat} (h : Crv K H r qs) (pn : Pen H p) (m : Mv p H H') : Crv K H' r qs := let ⟨xs, a, b⟩ := h; ⟨xs, a.mv pn m, b.mv pn m⟩
def nD (q : Rat) : PyData := .tuple [.int q.num, .int q.den]
theorem Az.rds {K : Su} {H : Hp} {x : V} {q : Rat} (h : Az K H x q) : Rds K H x (nD q) := by
 obtain ⟨r, rfl, h⟩ := h
 refine .tup h rfl fun i x d e1 e2 => ?_
 match i with
 | 0 => simp at e1 e2; subst e1; subst e2; exact .int _
 | 1 => simp at e1 e2; subst e1; subst e2; exact .int _
 | i + 2 => simp at e1
theorem JM (p q : Rat) : PyData.eqv (nD p) (nD q) = decide (p = q) := by
 show (p.num == q.num && (((p.den : Int) == (q.den : Int)) && true)) = _
 rw [Bool.and_true, Bool.eq_iff_iff]
 simp only [Bool.and_eq_true, beq_iff_eq, decide_eq_true_eq]
 constructor
 ·rintro ⟨h1, h2⟩
  exact Rat.ext h1 (Int.ofNat.inj h2)
 ·rintro rfl
  exact ⟨rfl, rfl⟩
theorem DQ : ∀ ps qs : List Rat, PyData.eqvAll (ps.map nD) (qs.map nD) = decide (ps = qs)
 | [], [] => rfl
 | [], _ :: _ => rfl
 | _ :: _, [] => rfl
 | p :: ps, q :: qs => by
   show (PyData.eqv (nD p) (nD q) && PyData.eqvAll (ps.map nD) (qs.map nD)) = _
   rw [JM, DQ ps qs, Bool.eq_iff_iff]
   simp
theorem EK (q : Rat) : SeqAt.shaped (nD q) = true := by rfl
theorem Au.rds {K : Su} {H : Hp} {xs : List V} {qs : List Rat} (h : Au K H xs qs) : ∀ (i : Nat) x d, xs[i]? = some x → (qs.map nD)[i]? = some d → Rds K H x d := fun i x d e1 e2 => by
 obtain ⟨q, hq, hn⟩ := Paired.get h e1
 rw [T3, hq] at e2
 cases e2
 exact hn.rds
theorem Au.rdsT {K : Su} {H : Hp} {r : Addr} {xs : List V} {qs : List Rat} (h : Au K H xs qs) (s : SqT K H r xs) : Rds K H (.ref r) (.tuple (qs.map nD)) := .tup s (by rw [h.length, T7]) h.rds
theorem Au.rdsL {K : Su} {H : Hp} {r : Addr} {xs : List V} {qs : List Rat} (h : Au K H xs qs) (s : SqL K H r xs) : Rds K H (.ref r) (.list (qs.map nD)) := .lst s (by rw [h.length, T7]) h.rds
theorem Ej : ∀ qs : List Rat, PyData.canLayAll0 (qs.map nD) = true
 | [] => rfl
 | q :: r => by
   show (PyData.canLay0 (nD q) && PyData.canLayAll0 (r.map nD)) = true
   rw [Ej r]; rfl
theorem CZ : ∀ qs : List Rat, PyData.depthAll (qs.map nD) ≤ 1
 | [] => SN _
 | q :: r => by
   have ih := CZ r
   show max (PyData.depth (nD q)) (PyData.depthAll (r.map nD)) ≤ 1
   exact Nat.max_le.mpr ⟨SK _, ih⟩
theorem Fl (qs : List Rat) : SeqAt.shaped (.list (qs.map nD)) = true := by
 show (PyData.canLayAll0 (qs.map nD) && decide (PyData.depthAll (qs.map nD) + 1 ≤ 64)) = true
 rw [Ej, Bool.true_and]
 exact decide_eq_true (by have := CZ qs; lia)
theorem Kc (qs : List Rat) : SeqAt.shaped (.tuple (qs.map nD)) = true := Fl qs
theorem eqN {K : Su} {H : Hp} {x y : V} {p q : Rat} {Q : VK} {neg : Bool} (h1 : Az K H x p) (h2 : Az K H y q) (h : Q (.bl (if neg then !decide (p = q) else decide (p = q))) H) : F0 K neg x y H Q :=
 Ii ⟨_, _, h1.rds, h2.rds, EK _, EK _, by rw [JM]; exact h⟩
theorem eqT {K : Su} {H : Hp} {a b : Addr} {ps qs : List Rat} {Q : VK} {neg : Bool} (h1 : Crv K H a ps) (h2 : Crv K H b qs) (h : Q (.bl (if neg then !decide (ps = qs) else decide (ps = qs))) H) : F0 K neg (.ref a) (.ref b) H Q := by
 obtain ⟨xs, s1, n1⟩ := h1
 obtain ⟨ys, s2, n2⟩ := h2
 refine Ii ⟨_, _, n1.rdsT s1, n2.rdsT s2, Kc _, Kc _, ?_⟩
 have e : PyData.eqv (.tuple (ps.map nD)) (.tuple (qs.map nD)) = decide (ps = qs) := DQ ps qs
 rw [e]; exact h
theorem eqL {K : Su} {H : Hp} {a b : Addr} {xs ys : List V} {ps qs : List Rat} {Q : VK} {neg : Bool} (s1 : SqL K H a xs) (n1 : Au K H xs ps) (s2 : SqL K H b ys) (n2 : Au K H ys qs) (h : Q (.bl (if neg then !decide (ps = qs) else decide (ps = qs))) H) : F0 K neg (.ref a) (.ref b) H Q := by
 refine Ii ⟨_, _, n1.rdsL s1, n2.rdsL s2, Fl _, Fl _, ?_⟩
 have e : PyData.eqv (.list (ps.map nD)) (.list (qs.map nD)) = decide (ps = qs) := DQ ps qs
 rw [e]; exact h
theorem Pd {c : TT} {tb : TS} {D : Dp} {σ : St} {H : Hp} (Pv : St → Hp → Prop) (μ : St → Hp → Nat) (h0 : Pv σ H)
 (hs : ∀ σ H, Pv σ H → c σ H fun b H1 => if b = true then ∃ N : St → Hp → Prop, (∀ σ' H', N σ' H' → ∃ m', m' < μ σ H ∧ (m' = μ σ' H' ∧ Pv σ' H')) ∧ tb { D with nx := N, ct := N, bk := D.nx } σ H1 else D.nx σ H1) : Jq c tb D σ H := by
 refine ⟨fun m σ H => m = μ σ H ∧ Pv σ H, ⟨_, rfl, h0⟩, ?_⟩
 rintro m σ H ⟨rfl, p⟩
 exact hs σ H p
theorem Pc {tb : TS} {D : Dp} {σ : St} {H1 : Hp} {m : Nat} {Pv : St → Hp → Prop} {μ : St → Hp → Nat}
 (h : tb { D with nx := fun σ' H' => Pv σ' H' ∧ μ σ' H' < m, ct := fun σ' H' => Pv σ' H' ∧ μ σ' H' < m, bk := D.nx } σ H1) :
 ∃ N : St → Hp → Prop, (∀ σ' H', N σ' H' → ∃ m', m' < m ∧ (m' = μ σ' H' ∧ Pv σ' H')) ∧ tb { D with nx := N, ct := N, bk := D.nx } σ H1 :=
 ⟨_, fun _ _ ⟨p, l⟩ => ⟨_, l, rfl, p⟩, h⟩
def RB (n : Nat) (q : Rat) : Prop := Bd n q.num ∧ Bd n (q.den : Int)
theorem Bd.mul {m n : Nat} {x y : Int} (h1 : Bd m x) (h2 : Bd n y) : Bd (m + n) (x * y) := by
 unfold Bd at *
 rw [Int.natAbs_mul, Nat.pow_add]
 exact Nat.mul_lt_mul'' h1 h2
theorem Bd.add {n : Nat} {x y : Int} (h1 : Bd n x) (h2 : Bd n y) : Bd (n + 1) (x + y) := by
 unfold Bd at *
 rw [Nat.pow_succ, Nat.mul_two]
 exact Tr (Int.natAbs_add_le x y) (Nat.add_lt_add h1 h2)
theorem Bd.sub {n : Nat} {x y : Int} (h1 : Bd n x) (h2 : Bd n y) : Bd (n + 1) (x - y) := by
 rw [Ug]
 exact Bd.add h1 (by unfold Bd; rw [Int.natAbs_neg]; exact h2)
theorem Bd.fdiv {n : Nat} {x y : Int} (h : Bd n x) : Bd n (x.fdiv y) := Tr (PySem.natAbs_fdiv_le x y) h
theorem B0.bd {m n : Nat} {x y : Int} (h1 : Bd m x) (h2 : Bd n y) (h : m + n ≤ 134217728 := by lia) : B0 x y := .inr (.inr ⟨m, n, h1, h2, h⟩)
theorem RB.mono {m n : Nat} {q : Rat} (h : RB m q) (hmn : m ≤ n) : RB n q := ⟨h.1.mono hmn, h.2.mono hmn⟩
theorem RB.div {m n : Nat} {t b : Int} (h1 : Bd n t) (h2 : Bd n b) (hb : b ≠ 0) : RB n (Tv t b) := ⟨Bd.num h1, Bd.den hb h2⟩
theorem Iy : ∀ {us : List Value} {xs : List V}, us.map Lq = xs.map some → (∀ u ∈ us, ∀ x, Lq u = some x → AR x u) → AG xs us
 | [], [], _, _ => .nil
 | [], _ :: _, e, _ => by simp at e
 | _ :: _, [], e, _ => by simp at e
 | u :: us, x :: xs, e, h => by
   simp only [Tq, List.cons.injEq] at e
   exact .cons (h u Sy x e.1) (Iy e.2 fun v hv => h v (Sz _ hv))
theorem MS {u : Value} {x : V} (h : Lq u = some x) : AR x u := by
 cases u <;> first | (cases h; rfl) | (cases h; exact ⟨_, rfl⟩) | cases h
theorem Ll {K : Su} {H : Hp} {a : Addr} {o : Obj} {vs : Array Value} {n : Nat} {q : Rat} (hk : K.lookup a = some o) (hc : o.cls = .type "tuple") (hd : o.data = .seq vs n) (e : vs.toList.map Lq = [some (.int q.num), some (.int (q.den : Int))]) : SqT K H a [.int q.num, .int q.den] := by
 refine .inr ⟨o, vs, n, hk, hc, hd, ?_, Iy e fun u _ x h => MS h⟩
 have hl := congrArg SW e
 simp at hl
 rw [hl]; decide
theorem RB.plus {m n : Nat} {p q : Rat} (h1 : RB m p) (h2 : RB n q) : RB (m + n + 1) (p + q) := by
 rw [← Nm.plus_eq]
 refine ⟨Bd.num (Bd.add (h1.1.mul h2.2) ((h2.1.mul h1.2).mono (by lia))), Bd.den (TH (Nm.den_ne p) (Nm.den_ne q)) ((h1.2.mul h2.2).mono (by lia))⟩
theorem RB.minus {m n : Nat} {p q : Rat} (h1 : RB m p) (h2 : RB n q) : RB (m + n + 1) (p - q) := by
 rw [← Nm.minus_eq]
 refine ⟨Bd.num (Bd.sub (h1.1.mul h2.2) ((h2.1.mul h1.2).mono (by lia))), Bd.den (TH (Nm.den_ne p) (Nm.den_ne q)) ((h1.2.mul h2.2).mono (by lia))⟩
theorem RB.times {m n : Nat} {p q : Rat} (h1 : RB m p) (h2 : RB n q) : RB (m + n) (p * q) := by
 rw [← Nm.times_eq]
 exact ⟨Bd.num (h1.1.mul h2.1), Bd.den (TH (Nm.den_ne p) (Nm.den_ne q)) (h1.2.mul h2.2)⟩
theorem RB.zero {n : Nat} (h : 1 ≤ n) : RB n 0 := ⟨(show Bd 1 0 by unfold Bd; decide).mono h, (show Bd 1 1 by unfold Bd; decide).mono h⟩
theorem RB.one {n : Nat} (h : 1 ≤ n) : RB n 1 := ⟨(show Bd 1 1 by unfold Bd; decide).mono h, (show Bd 1 1 by unfold Bd; decide).mono h⟩
inductive CS (K : Su) (g : Rat → Rat → Rat) (vs : List V) (H : Hp) (Q : VK) (E_3 : XK) : Prop
 | mk (x y : V) (p q : Rat) (m n : Nat) (h1 : vs = [x, y]) (h2 : Az K H x p) (h3 : Az K H y q) (h4 : RB m p) (h5 : RB n q) (h6 : m + n ≤ 100000000) (h7 : ∀ r, H r = none → Q (.ref r) (upd H r (nT (g p q)))) : CS K g vs H Q E_3
end L2
namespace L2
open PySem PySem.Spec PyProof.Rows
def Sq (b : Bool) (K : Su) (H : Hp) (a : Addr) (xs : List V) : Prop := match b with
 | true => SqL K H a xs
 | false => SqT K H a xs
theorem KO {X : Cx} {tg l : Expr} {w1 w2 : TI} (h1 : PI X tg l w1) (h2 : PI X tg l w2) : PI X tg l (fun σ H R => w1 σ H R ∨ w2 σ H R) := fun pins s σ H R I h => by
 rcases h with h | h
 ·exact h1 pins s σ H R I h
 ·exact h2 pins s σ H R I h
abbrev OY (K : Su) (tl : TE) : TI := fun σ H R => My K tl σ H R ∨ OX K tl σ H R
theorem NL {K : Su} {b : Bool} {a : Addr} {n : Nat} {xs : List V} {g : TG} {tb : TS} {D : Dp} {σ : St} {H : Hp} (hσ : σ[n]? = some (some (.ref a))) (Pv : Nat → St → Hp → Prop) (h0 : Pv 0 σ H) (hl : ∀ i σ H, i ≤ xs.length → Pv i σ H → Sq b K H a xs)
 (hs : ∀ i x σ H, xs[i]? = some x → Pv i σ H → g x σ H fun σ2 H2 => tb { D with nx := Pv (i + 1), ct := Pv (i + 1), bk := D.nx } σ2 H2) (hd : ∀ σ H, Pv xs.length σ H → D.nx σ H) :
 Of (OY K (LG n)) g tb D σ H := by
 have q := hl 0 σ H (SN _) h0
 cases b with
 | true => exact .inl ⟨_, hσ, a, rfl, ⟨xs, q⟩, Gd Pv h0 hl hs hd⟩
 | false => exact .inr ⟨_, hσ, a, rfl, ⟨xs, q⟩, Fn Pv h0 hl hs hd⟩
theorem JQ {K : Su} {b : Bool} {a : Addr} {n : Nat} {js : List Nat} {xs : List V} {te : TE} {σ : St} {H : Hp} {Q : VK} (hσ : σ[n]? = some (some (.ref a))) (Pv : Nat → List V → Hp → Prop) (h0 : Pv 0 [] H)
 (hl : ∀ i zs H, i ≤ xs.length → Pv i zs H → Sq b K H a xs ∧ zs.length = i) (hz : xs.length ≤ sizeLine)
 (hs : ∀ i x zs H, xs[i]? = some x → Pv i zs H → te ((cS 1 js σ).set 0 (some x)) H fun y H4 => Pv (i + 1) (zs ++ [y]) H4) (fin : ∀ zs H', Pv xs.length zs H' → ∀ p, H' p = none → Q (.ref p) (upd H' p (.lst zs))) :
 tLC (OY K (LG n)) 1 js (Cy 0) KI te σ H Q := by
 have q := (hl 0 [] H (SN _) h0).1
 cases b with
 | true =>
   refine C6 (.inl ⟨_, hσ, a, rfl, ⟨xs, q⟩, xs.length, Pv, h0, ⟨?_, ?_, ?_⟩⟩)
   ·intro i zs H' hi p
    have hle := Sw hi
    obtain ⟨h1, h2⟩ := hl i zs H' hle p
    exact ⟨⟨xs, xs[i], h1, by simp [hi]⟩, by lia⟩
   ·rintro i zs H' x H1 hi p ⟨rfl, y⟩
    have hle := Sw hi
    have hx := y xs (hl i zs _ hle p).1
    exact hs i x zs _ hx p
   ·intro zs H' p
    have hle := SK xs.length
    obtain ⟨h1, h2⟩ := hl _ zs H' hle p
    exact ⟨⟨xs, h1, SK _⟩, by lia, fin zs H' p⟩
 | false =>
   refine C6 (.inr ⟨_, hσ, a, rfl, ⟨xs, q⟩, xs.length, Pv, h0, ⟨?_, ?_, ?_⟩⟩)
   ·intro i zs H' hi p
    have hle := Sw hi
    obtain ⟨h1, h2⟩ := hl i zs H' hle p
    exact ⟨⟨xs, xs[i], h1, by simp [hi]⟩, by lia⟩
   ·rintro i zs H' x H1 hi p ⟨rfl, y⟩
    have hle := Sw hi
    have hx := y xs (hl i zs _ hle p).1
    exact hs i x zs _ hx p
   ·intro zs H' p
    have hle := SK xs.length
    obtain ⟨h1, h2⟩ := hl _ zs H' hle p
    exact ⟨⟨xs, h1, SK _⟩, by lia, fin zs H' p⟩
section
variable {X : Cx} (K : Su)
theorem ixT (e : X.K = K := by rfl) : IxR X (Oo K) := by subst e; exact OT
theorem ixL (e : X.K = K := by rfl) : IxR X (Oq K) := by subst e; exact NG
theorem eqD (hu : X.A.units + 64 < cLine) (e : X.K = K := by rfl) : OpR X (compareOp .Eq) (F0 K false) := by subst e; exact OB hu
theorem neD (hu : X.A.units + 64 < cLine) (e : X.K = K := by rfl) : OpR X (compareOp .NotEq) (F0 K true) := by subst e; exact OA hu
theorem slL (e : X.K = K := by rfl) : SlR X (Om K) := by subst e; exact Na
inductive TyX (K : Su) (H : Hp) : V → Value → Prop where
 | of {x : V} {t : Value} (h : Fg K H x t) : TyX K H x t
 | tup {a : Addr} {xs : List V} (h : SqT K H a xs) : TyX K H (.ref a) (.type "tuple")
 | lst {a : Addr} {xs : List V} (h : SqL K H a xs) : TyX K H (.ref a) (.type "list")
inductive PY (xs : List V) (H : Hp) (Q : VK) : Prop
 | mk (p : _) (ys : _) (h1 : xs = [.ref p]) (h2 : (SqL K H p ys ∨ SqT K H p ys)) (h3 : Q (.int ys.length) H) : PY xs H Q
theorem BV (e : X.K = K := by rfl) : D4 X (.builtin "len") (PY K) := by subst e; exact fun pins s σ H xs us Q I r ⟨p, ys, h1, h2, h3⟩ => Im pins s σ H xs us Q I r ⟨p, ys, h1, h2, h3⟩
inductive O3 (xs : List V) (H : Hp) (Q : VK) : Prop
 | mk (p : _) (ys : _) (h1 : xs = [.ref p]) (h2 : (SqL K H p ys ∨ SqT K H p ys)) (h3 : ∀ l, H l = none → Q (.ref l) (upd H l (.lst ys))) : O3 xs H Q
theorem PM (e : X.K = K := by rfl) : D4 X (.type "list") (O3 K) := by subst e; exact fun pins s σ H xs us Q I r ⟨p, ys, h1, h2, h3⟩ => Il pins s σ H xs us Q I r ⟨p, ys, h1, h2, h3⟩
inductive MJ (xs : List V) (H : Hp) (Q : VK) : Prop
 | mk (p : _) (ys : _) (h1 : xs = [.ref p]) (h2 : ((SqL K H p ys ∧ ∀ l, H l = none → Q (.ref l) (upd H l (.tup ys))) ∨ (SqT K H p ys ∧ Q (.ref p) H))) : MJ xs H Q
theorem Ob (e : X.K = K := by rfl) : D4 X (.type "tuple") (MJ K) := by subst e; exact fun pins s σ H xs us Q I r ⟨p, ys, h1, h2⟩ => GC pins s σ H xs us Q I r ⟨p, ys, h1, h2⟩
variable {tg l : Expr} {tl : TE}
theorem piL (hl : PE X l tl) (e : X.K = K := by rfl) : PI X tg l (My K tl) := by subst e; exact K8 hl
theorem piT (hl : PE X l tl) (e : X.K = K := by rfl) : PI X tg l (OX K tl) := by subst e; exact M7 hl
theorem piS (hl : PE X l tl) (e : X.K = K := by rfl) : PI X tg l (OY K tl) := by subst e; exact KO (K8 hl) (M7 hl)
theorem NY {p pos : Pos} (hg : Gl X "reversed") (hm : X.mg "reversed" = none) (hl : PE X l tl) (hs : starEach [l] X.env = [(false, eval l X.env)] := by rfl) (e : X.K = K := by rfl) : PI X tg (.Call (.Name "reversed" p) [l] [] pos) (PU K tl) := by subst e; exact Ow hg hm hl hs
theorem pgT {es : List Expr} {k : Nat} {t : TGs} {n : Nat} {pos : Pos} (hc : X.calm = true) (h : PGs X es t) (hn : (assignEach es X.env).length = n := by rfl) (hst : (assignEach es X.env).findIdx? (·.1) = none := by rfl) (e : X.K = K := by rfl) : PG X (.Tuple es k pos) (Lk K n t) := by subst e; exact Ox hc h hn hst
end
end L2
namespace L2
open PySem PySem.Spec PyProof.Rows
inductive MT (K : Su) (H : Hp) : V → Bool → Prop where
 | int (i : Int) : MT K H (.int i) true
 | bl (b : Bool) : MT K H (.bl b) false
 | oth {x : V} {t : Value} (ty : TyX K H x t) (h : PySem.W.kitOne K t (.type "int") = some false) : MT K H x false
theorem OL {lo : Int} {n : Nat} {js : List Nat} {te : TE} {σ : St} {H : Hp} {Fin : List V → Hp → Prop} (Pv : Nat → List V → Hp → Prop) (h0 : Pv 0 [] H) (hl : ∀ i zs H, i ≤ n → Pv i zs H → zs.length = i) (hz : n ≤ sizeLine)
 (hs : ∀ i zs H, i < n → Pv i zs H → te ((cS 1 js σ).set 0 (some (.int (lo + i)))) H fun y H4 => Pv (i + 1) (zs ++ [y]) H4) (fin : ∀ zs H', Pv n zs H' → Fin zs H') :
 ∃ (n' : Nat) (W : Nat → List V → Hp → Prop), W 0 [] H ∧ LcW (Itr lo n) n' 1 js σ (Cy 0) KI te Fin W := by
 refine ⟨n, Pv, h0, ⟨?_, ?_, ?_⟩⟩
 ·intro i zs H' hi p
  have := hl i zs H' (Sw hi) p
  exact ⟨hi, by lia⟩
 ·rintro i zs H' x H1 hi p ⟨rfl, rfl⟩
  exact hs i zs _ hi p
 ·intro zs H' p
  have := hl n zs H' (SK _) p
  exact ⟨SK _, by lia, fin zs H' p⟩
theorem DF {α : Type} {xs : List α} {v : α} (h : xs[xs.length - 1]? = some v) : atI xs (-1) = some v := by
 have hl : xs.length - 1 < xs.length := (SF.mp h).1
 have e : ixN xs.length (-1) = some (xs.length - 1) := by
  unfold ixN
  rw [if_neg (by decide), if_pos (by lia)]
  congr 1
  lia
 unfold atI
 rw [e]
 exact h
def Bi (qs : List Rat) : Prop := qs = [] ∨ ∃ q, qs[qs.length - 1]? = some q ∧ q ≠ 0
theorem AI (qs : List Rat) : Bi (Cv.strip qs) := by
 by_cases h : Cv.strip qs = []
 ·exact .inl h
 ·have hl : 0 < (Cv.strip qs).length := TQ.mpr h
  have e := Uc (l := Cv.strip qs) (i := (Cv.strip qs).length - 1) (by lia)
  refine .inr ⟨_, e, fun z => Cv.strip_last qs h ?_⟩
  rw [e, z]
theorem Pen.sm {H H' : Hp} {p : Addr} (h : Pen H p) (e : Af H H') : Pen H' p := let ⟨c0, c1, c2, z⟩ := h; ⟨c0, c1, c2, e _ _ z⟩
theorem IF {K : Su} {H : Hp} {x : V} {q : Rat} (h : Az K H x q) : ∀ n : Nat, Au K H (SV n [x]).flatten (SV n q)
 | 0 => .nil
 | n + 1 => by
   rw [Tj, Tn, Tj]
   exact .cons h (IF h n)
theorem CN {ns : List Int} {i : Nat} {t : Int} {k : Int} (h : ns[i]? = some t) (e : k = (i : Int)) : atI (ns.map V.int) k = some (.int t) := by
 subst e
 exact Bv (by rw [T3, h]; rfl)
theorem En {n i : Nat} {k : Int} (h : i < n) (e : k = (i : Int)) : ixN n k = some i := by
 subst e
 unfold ixN
 rw [if_pos (by lia), if_pos (by lia), Td]
theorem Af.put {H H' : Hp} {p : Addr} {o : HO} (h : Af H H') (hp : H p = none) : Af H (upd H' p o) := fun b u q => by rw [Aq (Aw q hp)]; exact h b u q
def Up (c M : Nat) (t : Int) : Prop := t.natAbs ≤ c * 2 ^ M
theorem Up.bd {c k M : Nat} {t : Int} (h : Up c M t) (hc : c < 2 ^ k) : Bd (M + k) t := by
 unfold Up at h
 unfold Bd
 rw [Nat.pow_add, Nat.mul_comm (2 ^ M)]
 exact Tr h (Nat.mul_lt_mul_of_pos_right hc (Nat.pow_pos (by decide)))
theorem Up.add {c M : Nat} {t d : Int} (h : Up c M t) (hd : Bd M d) : Up (c + 1) M (t + d) := by
 unfold Up at *
 unfold Bd at hd
 rw [Uh, Ui]
 exact Sv (Int.natAbs_add_le t d) (Nat.add_le_add h (Sw hd))
theorem Up.mono {c c' M : Nat} {t : Int} (h : Up c M t) (hc : c ≤ c') : Up c' M t := Sv h (Uj _ hc)
end L2
namespace L2
open PySem PySem.Spec PyProof.Rows
def CX1 (P : Program) (w : World) : CXT := fun outer H s E e s' => ∃ (ea : Addr) (cls a0 : Value) (B : Heap) (H' : Hp), e = .ref ea ∧ s'.os = s.os ∧ AllBare s'.gens ∧ Un (frs outer) [] H H' s.heap s'.heap ∧ HOk P w H' s'.heap ∧
 Heap.FlyingW B outer ea cls a0 s'.heap ∧ (∀ b o, s.heap.get? b = some o → b ∉ frs outer → ∃ o', B.get? b = some o') ∧ (∀ b u, H' b = some u → ∃ o', B.get? b = some o') ∧ E cls none H'
section
variable {X : Cx} {pins : List (Addr × Obj)} {σ : St} {H H' : Hp} {s s' : Shared} {B : Heap}
end
section
variable {P : Program} {w : World} {K : Su} {mg : Str → Option Value} {base : Heap} {N : List Str} {qual : Str} {scope : Scope} {f : Addr} {cd : Value} {A : Around} {outer : List Env} {s : Shared} {H : Hp} {E : XK}
end
structure XCls (K : Su) (x : Str) (C : Addr) : Prop where
 ns : Uk K mainGlobals x = some (some (.ref C))
 ob : ∃ bm N nm q bs hdct sn sub ab col dd k0 k1 k2 k3 k5, K.lookup C = some (excClassObj nm q C N bs bm hdct sn sub ab col dd k0 k1 k2 k3 k5 "ValueError.__new__")
 ex : PySem.W.excIn K C [.type "ValueError", .type "Exception", .type "BaseException", .type "object"] "ValueError.__new__" = true
section
variable {X : Cx} {pins : List (Addr × Obj)} {σ : St} {H H' : Hp} {s s' : Shared} {B : Heap}
end
section
open PySem.W PySem.Builtin PySem.Builtin.ObjectAttr PySem.Builtin.Getset_descriptor
variable {prog : Program} {w : World} {A : Around} {E : Value → Shared → Prop} {s : Shared} {K : Su} {x D : Addr}
structure XTy (K : Su) (D : Addr) : Prop where
 ga : findIn K (.ref D) "__getattribute__" = some (some (.builtin "BaseException.__getattribute__"))
 gt : findIn K (.ref D) "__getattr__" = some none
 ca : findIn K (.ref D) "__class__" = some (some (.builtin "object.__class__"))
 gg : specialIn K (.builtin "object.__class__") "__get__" = some (some (.builtin "getset_descriptor.__get__"))
 tk : takesIn K (.builtin "object.__class__") = some true
 ob : mroIn K D (.type "object") = some true
 be : mroIn K D (.type "BaseException") = some true
 cl : ∃ c d cd sl, K.lookup D = some ⟨c, d, .cls cd, sl⟩
end
section
open PySem.W
variable {X : Cx} (K : Su)
end
section
variable {P : Program} {w : World} {K : Su} {mg : Str → Option Value} {base : Heap}
end
structure FdX (P : Program) (w : World) (K : Su) (mg : Str → Option Value) (base : Heap) (n : Nat) (x : Str) (ps : List Str) (sp : Sp) : Prop where
 ex : ∃ (f : Addr) (fd : FuncData), AH P w K mg base (CX1 P w) n f fd ps sp ∧ Ca K fd ps [] ∧ SQ K (.ref f) = true ∧ mg x = some (.ref f)
end L2
namespace L2
open PySem PySem.Spec PyProof.Rows
def Itd (lo : Int) (n : Nat) : It := ⟨fun i _ => i < n, fun i H x H' => H' = H ∧ x = .int (lo - i), fun i _ => n ≤ i⟩
theorem KD {P : Program} {w : World} {K : Su} {tg : Expr} (it : Addr) (lo : Int) (n : Nat) : Ji P w K tg (Itd lo n) [it] it (fun i h => IsRangeIter h it (lo + (i : Nat) * (-1)) ((n : Int) - (i : Nat)) (-1)) where
 mem := by simp
 obj := fun i h st b hb => by
  have e : b = it := by simpa using hb
  subst e
  exact ⟨_, st, fun v z => by
   have z' : Data.fields _ = Data.cell v := z
   cases z'⟩
 keep := fun i h h' st k => k it (by simp) _ st
 item := by
  intro X hP hw hK hc i pins s σ H E I hf st hg
  subst hP hw hK
  obtain ⟨f0, f1, f2, f3, f4, f5⟩ := hf it (by simp)
  refine (Walks.range (prog := X.prog) (w := X.w) (I.ok.hd hc) it lo (-1) n).item i s _ _ hg st fun v h' tk hv st' kk => ?_
  obtain ⟨t, rfl⟩ := hv
  have I1 : Inv X pins σ H { s with heap := h', toks := tk } := I.turned (fun b o hb e => kk b o (by simpa using hb) e) f0 f1 f3 f4 f5
  refine ⟨_, rfl, J6 (s := { s with heap := h', toks := tk }) (n := "range_iterator") st' rfl rfl (by decide) ⟨.int (lo - i), H, I1, ⟨t, ?_⟩, ⟨rfl, rfl⟩, st', fun b hb => (hf b hb).1⟩⟩
  rw [show lo + (i : Int) * -1 = lo - i by lia]
 done := by
  intro X hP hw hK hc i pins s σ H E I hf st hg
  subst hP hw hK
  obtain ⟨f0, f1, f2, f3, f4, f5⟩ := hf it (by simp)
  exact wpAny_pyNext_range_end (I.ok.hd hc) st (by have : n ≤ i := hg; lia) fun h' eb => ⟨rfl, I.turned (t' := s.toks) (fun b o hb e => eb b o hb e) f0 f1 f3 f4 f5⟩
 self := fun _ _ _ _ _ st h => wpAny_pyIter_rangeiter st h
theorem GJ (a b : Int) : Builtin.Range.rangeSize a b (-1) = (((a - b).toNat : Nat) : Int) := by
 unfold Builtin.Range.rangeSize
 rw [if_neg (by decide)]
 split
 ·rw [show -(-1 : Int) = 1 by decide, Int.ediv_one]; lia
 ·lia
section
variable {X : Cx} {tg : Expr}
def PV (ta : TA) : TI := fun σ H R => ta σ H fun vs H1 => ∃ i j : Int, vs = [.int i, .int j, .int (-1)] ∧ (-1000000 ≤ i ∧ i ≤ 1000000 ∧ -1000000 ≤ j ∧ j ≤ 1000000) ∧ R (Itd i (i - j).toNat) H1
theorem K9 {a b c : Expr} {ta : TA} {p pos : Pos} (hg : Gl X "range") (hm : X.mg "range" = none) (ha : PA X [a, b, c] ta) (hs : starEach [a, b, c] X.env = [(false, eval a X.env), (false, eval b X.env), (false, eval c X.env)] := by rfl)
 (hs2 : starEach [b, c] X.env = [(false, eval b X.env), (false, eval c X.env)] := by rfl) : PI X tg (.Call (.Name "range" p) [a, b, c] [] pos) (PV ta) := by
 intro pins s σ H R I h
 refine Call_ (Di I hg hm boot_range (PyProof.Rows.callWith_type1 (thn (ha pos pins s σ H _ I h) fun us s1 ⟨vs, H1, I1, r1, q1⟩ => ?_) (by rw [hs, hs2]) (by rw [hs2]; rfl)))
 obtain ⟨i, j, e, ⟨q1, q2, q3, q4⟩, q⟩ := q1
 subst e
 cases r1 with
 | cons r rr =>
   cases rr with
   | cons r' rr =>
     cases rr with
     | cons r3 rr =>
       cases rr
       obtain ⟨t, rfl⟩ := r
       obtain ⟨t', rfl⟩ := r'
       obtain ⟨t3, rfl⟩ := r3
       have sm : Builtin.Range.small i j (-1) = true := by
        unfold Builtin.Range.small
        rw [GJ]
        simp only [Builtin.Range.rangeFitsLong, Bool.and_eq_true, Bool.or_eq_true, decide_eq_true_eq, beq_iff_eq]
        rw [if_neg (by decide)]
        simp only [Bool.and_eq_true, decide_eq_true_eq]
        lia
       refine call_range_3 (by decide) ?_ (.inl (PyProof.noPylong_small (by lia)))
       refine wpAny_pyIter_range (IsRange.new ..) sm ?_
       have I2 : Inv X pins σ H1 { s1 with heap := s1.heap.push { cls := .type "range", data := .fields #[.int i t, .int j t', .int (-1) t3] }, toks := s1.toks } := I1.kept fun b o e => Heap.get?_push_of_some _ e
       refine ⟨_, [_], _, _, H1, rfl, I2.kept (t' := s1.toks) fun b o e => Heap.get?_push_of_some _ e, KD _ i (i - j).toNat, ?_, fun b hb => ?_, q⟩
       ·show IsRangeIter _ _ (i + ((0 : Nat) : Int) * (-1)) ((((i - j).toNat : Nat) : Int) - ((0 : Nat) : Int)) (-1)
        rw [show i + ((0 : Nat) : Int) * (-1) = i by lia, show (((i - j).toNat : Nat) : Int) - ((0 : Nat) : Int) = Builtin.Range.rangeSize i j (-1) by rw [GJ]; lia]
        exact Heap.get?_push_size _ rfl
       ·have e := Ub.mp hb
        subst e
        exact I2.fpOk (SK _) (I2.hok.fresh (SK _))
end
theorem J7 {lo : Int} {n : Nat} {g : TG} {tb : TS} {D : Dp} {σ : St} {H : Hp} (Pv : Nat → St → Hp → Prop) (h0 : Pv 0 σ H)
 (hs : ∀ i σ H, i < n → Pv i σ H → g (.int (lo - i)) σ H fun σ2 H2 => tb { D with nx := Pv (i + 1), ct := Pv (i + 1), bk := D.nx } σ2 H2) (hd : ∀ σ H, Pv n σ H → D.nx σ H) :
 ∃ W : Nat → Nat → St → Hp → Prop, (∃ m, W 0 m σ H) ∧ ∀ i m σ H, W i m σ H →
   ((Itd lo n).stop i H ∧ D.nx σ H) ∨ ((Itd lo n).go i H ∧ ∃ N : St → Hp → Prop, (∀ σ' H', N σ' H' → ∃ m', m' < m ∧ W (i + 1) m' σ' H') ∧ ∀ x H', (Itd lo n).yld i H x H' → g x σ H' fun σ2 H2 => tb { D with nx := N, ct := N, bk := D.nx } σ2 H2) := by
 refine ⟨fun i m σ H => m = n - i ∧ i ≤ n ∧ Pv i σ H, ⟨n, by simp, SN _, h0⟩, ?_⟩
 rintro i m σ H ⟨rfl, hi, p⟩
 by_cases hlt : i < n
 ·refine .inr ⟨hlt, Pv (i + 1), fun σ' H' p' => ⟨n - (i + 1), by lia, rfl, hlt, p'⟩, fun x H' y => ?_⟩
  obtain ⟨rfl, rfl⟩ := y
  exact hs i σ _ hlt p
 ·have e : i = n := by lia
  subst e
  exact .inl ⟨SK _, hd σ H p⟩
theorem Cw {K : Su} {a : Addr} {js : List Nat} {xs : List V} {te : TE} {σ : St} {H : Hp} {Fin : List V → Hp → Prop} (Pv : Nat → List V → Hp → Prop) (h0 : Pv 0 [] H)
 (hl : ∀ i zs H, i ≤ xs.length → Pv i zs H → SqL K H a xs ∧ zs.length = i) (hz : xs.length ≤ sizeLine)
 (hs : ∀ i x zs H, xs[i]? = some x → Pv i zs H → te ((cS 1 js σ).set 0 (some x)) H fun y H4 => Pv (i + 1) (zs ++ [y]) H4) (fin : ∀ zs H', Pv xs.length zs H' → Fin zs H') :
 ∃ (n' : Nat) (W : Nat → List V → Hp → Prop), W 0 [] H ∧ LcW (Itl K a) n' 1 js σ (Cy 0) KI te Fin W := by
 refine ⟨xs.length, Pv, h0, ⟨?_, ?_, ?_⟩⟩
 ·intro i zs H' hi p
  obtain ⟨h1, h2⟩ := hl i zs H' (Sw hi) p
  exact ⟨⟨xs, xs[i], h1, by simp [hi]⟩, by lia⟩
 ·rintro i zs H' x H1 hi p ⟨rfl, y⟩
  exact hs i x zs _ (y xs (hl i zs _ (Sw hi) p).1) p
 ·intro zs H' p
  obtain ⟨h1, h2⟩ := hl _ zs H' (SK _) p
  exact ⟨⟨xs, h1, SK _⟩, by lia, fin zs H' p⟩
theorem MH (xs : List V) : CA xs none (some (-1)) = xs.take (xs.length - 1) := by
 unfold CA
 have e1 : HT.sIx xs.length 0 none = 0 := rfl
 have e2 : HT.sIx xs.length xs.length (some (-1)) = xs.length - 1 := by
  show (if (-1 : Int) < 0 then ((-1 : Int) + (xs.length : Int)).toNat else min (-1 : Int).toNat xs.length) = xs.length - 1
  rw [if_pos (by decide)]
  lia
 rw [e1, e2, Ul, Um]
theorem Bd.pow {L : Nat} {b : Int} (h : Bd L b) : ∀ n : Nat, Bd (L * n + 1) (b ^ n)
 | 0 => by rw [Uo]; exact (show Bd 1 1 by unfold Bd; decide).mono (by lia)
 | n + 1 => by
   rw [Uq]
   exact ((Bd.pow h n).mul h).mono (by rw [Ur]; lia)
theorem FX {lead : Int} {ts : List Int} (i : Nat) {t : Int} (h : ts[i]? = some t) : (((ts.take i).map (lead * ·)).map V.int) ++ [V.int (lead * t)] = ((ts.take (i + 1)).map (lead * ·)).map V.int := by
 rw [TX, h, TY, TY]
 rfl
end L2
namespace L2
open PySem PySem.Spec PyProof.Rows
theorem Bd.neg {n : Nat} {x : Int} (h : Bd n x) : Bd n (-x) := by unfold Bd at *; rw [Int.natAbs_neg]; exact h
theorem Nj {a c b : Rat} (hb : b ≠ 0) (h : a * b = c * b) : a = c := by
 have h2 : a * b * b⁻¹ = c * b * b⁻¹ := by rw [h]
 rw [Us, Us, Ut _ hb, Uu, Uu] at h2
 exact h2
theorem ME {b : Int} (hb : b ≠ 0) (t : Int) : Tv t b * (b : Rat) = (t : Rat) := by
 rw [TC]
 exact TF (Nm.cast_ne hb)
theorem Ig {b : Int} (hb : b ≠ 0) (x : Rat) : ∀ ts : List Int, Cv.ev (ts.map fun t => Tv t b) x * (b : Rat) = Cv.evI ts x
 | [] => by show (0 : Rat) * _ = 0; grind
 | t :: ts => by
   have ih := Ig hb x ts
   have e := ME hb t
   show (Tv t b + x * Cv.ev (ts.map fun t => Tv t b) x) * (b : Rat) = (t : Rat) + x * Cv.evI ts x
   rw [← ih, ← e]
   grind
theorem Ij {α : Type} {l : List α} {n i : Nat} {v : α} (hn : l.length = n) (hi : i < n) (h : l[n - 1 - i]? = some v) : l.drop (n - (i + 1)) = v :: l.drop (n - i) := by
 have hlt : n - (i + 1) < l.length := by rw [hn]; exact Nat.sub_lt (Tr (SN _) hi) (Uv i)
 rw [Uw hlt, show n - (i + 1) + 1 = n - i from Nat.succ_pred_eq_of_pos (Nat.sub_pos_of_lt hi)]
 congr 1
 have e : l[n - (i + 1)]? = some v := by rw [show n - (i + 1) = n - 1 - i by rw [Nat.sub_sub, Nat.add_comm]]; exact h
 rw [Uc hlt] at e
 exact Sj.inj e
theorem Mv.put' {a l : Addr} {H H' : Hp} {o : HO} (m : Mv a H H') (hl : H l = none) : Mv a H (upd H' l o) := fun b u n q => by rw [Aq (Aw q hl)]; exact m b u n q
theorem Pen.put' {H : Hp} {a l : Addr} {o : HO} (h : Pen H a) (la : l ≠ a) : Pen (upd H l o) a := let ⟨x0, x1, x2, ex⟩ := h; ⟨x0, x1, x2, by rw [Aq (Ne.symm la)]; exact ex⟩
theorem Pen.ne' {H : Hp} {a l : Addr} (h : Pen H a) (hl : H l = none) : l ≠ a := let ⟨_, _, _, ex⟩ := h; (Aw ex hl).symm
def Qn (K : Su) (H : Hp) (x : V) (rs : List Rat) : Prop := ∃ a ys, x = .ref a ∧ SqL K H a ys ∧ Au K H ys rs
abbrev Rows (K : Su) (H : Hp) : List V → List (List Rat) → Prop := Paired (Qn K H)
end L2
namespace L2
open PySem PySem.Spec PyProof.Rows
section
variable {X : Cx}
@[irreducible] def LZ (K : Su) (neg : Bool) : R2 := fun x y H Q => ∃ p ds d, y = .ref p ∧ Rds K H (.ref p) (.list ds) ∧ Rds K H x d ∧ SeqAt.shaped (.list ds) = true ∧ SeqAt.shaped d = true ∧ Q (.bl (if neg then !(ds.any fun y => PyData.eqv y d) else ds.any fun y => PyData.eqv y d)) H
theorem OW {K : Su} {neg : Bool} {x y : V} {H : Hp} {Q : VK} (h : ∃ p ds d, y = .ref p ∧ Rds K H (.ref p) (.list ds) ∧ Rds K H x d ∧ SeqAt.shaped (.list ds) = true ∧ SeqAt.shaped d = true ∧ Q (.bl (if neg then !(ds.any fun y => PyData.eqv y d) else ds.any fun y => PyData.eqv y d)) H) : LZ K neg x y H Q := by
 unfold LZ; exact h
theorem inD (K : Su) {k : Nat} (hr : C8 k X.A) (e : X.K = K := by rfl) : OpR X (compareOp .In) (LZ K false) := by
 subst e
 intro pins s σ H x y v u Q I rx ry h
 unfold LZ at h
 obtain ⟨p, ds, d, rfl, r1, r2, h1, h2, q⟩ := h
 cases ry
 obtain ⟨as, q1⟩ := CV I r1 (u := .ref p) rfl
 obtain ⟨bs, q2⟩ := CV I r2 rx
 exact SeqAt.in_list_reads q1 q2 (SeqAt.canLay_of_shaped h1) (SeqAt.canLay_of_shaped h2) (PyProof.Rows.room_in_shaped h2 (by have := hr.un; lia)) ⟨.bl _, H, I, rfl, q⟩
end
theorem MP (q : Rat) : ∀ qs : List Rat, ((qs.map nD).any fun y => PyData.eqv y (nD q)) = decide (q ∈ qs)
 | [] => by simp
 | c :: r => by
   rw [Tq, List.any_cons, JM, MP q r, Bool.eq_iff_iff]
   simp only [Bool.or_eq_true, decide_eq_true_eq, SA]
   constructor
   ·rintro (h | h)
    ·exact .inl h.symm
    ·exact .inr h
   ·rintro (h | h)
    ·exact .inl h.symm
    ·exact .inr h
theorem inN {K : Su} {H : Hp} {x : V} {a : Addr} {xs : List V} {q : Rat} {qs : List Rat} {Q : VK} {neg : Bool} (h1 : Az K H x q) (s2 : SqL K H a xs) (n2 : Au K H xs qs) (h : Q (.bl (if neg then !decide (q ∈ qs) else decide (q ∈ qs))) H) : LZ K neg x (.ref a) H Q :=
 OW ⟨a, _, _, rfl, n2.rdsL s2, h1.rds, Fl _, EK _, by rw [MP]; exact h⟩
structure Gj where
 x : Rat
 k : Int
 n : Rat
deriving DecidableEq
end L2
namespace L2
open PySem PySem.Spec PyProof.Rows
section
variable {X : Cx} {e : Expr} {te : TE}
end
def Ip (t : TGs) (nt : Nat) : Prop := ∀ (vs : List V) (σ : St) (H : Hp) (Q : St → Hp → Prop) (σ0 : St), (σ.length = σ0.length ∧ σ.drop nt = σ0.drop nt) → t vs σ H Q → t vs σ H fun σ2 H2 => (σ2.length = σ0.length ∧ σ2.drop nt = σ0.drop nt) ∧ Q σ2 H2
theorem Fo {nt : Nat} : Ip NK nt := fun _ _ _ _ _ r ⟨e, q⟩ => ⟨e, r, q⟩
theorem CG {i nt : Nat} {u : TGs} (h : i < nt) (hu : Ip u nt) : Ip (FZ (Cy i) u) nt := fun vs σ H Q σ0 r ⟨v, rs, e, q⟩ => ⟨v, rs, e, hu rs (σ.set i (some v)) H Q σ0 ⟨by rw [Ti]; exact r.1, by
 rw [← r.2]
 apply U7
 intro k
 rw [U8, U8, SH (by lia)]⟩ q⟩
theorem GI {K : Su} {n nt : Nat} {t : TGs} (h : Ip t nt) : Jj (Lk K n t) nt := fun _ σ H Q ⟨a, xs, e, s, l, q⟩ => ⟨a, xs, e, s, l, h xs σ H Q σ ⟨rfl, rfl⟩ q⟩
end L2
namespace L2
def AU : List Rat → List Rat → List Rat
 | [], m => m
 | a :: l, [] => a :: l
 | a :: l, b :: m => (a + b) :: AU l m
theorem Jg (l : List Rat) : AU l [] = l := by cases l <;> rfl
theorem AZ (x : Rat) : ∀ l m, Cv.ev (AU l m) x = Cv.ev l x + Cv.ev m x
 | [], m => by show _ = 0 + _; grind [AU]
 | a :: l, [] => by show _ = _ + 0; rw [AU]; grind
 | a :: l, b :: m => by
   have ih := AZ x l m
   show (a + b) + x * Cv.ev (AU l m) x = (a + x * Cv.ev l x) + (b + x * Cv.ev m x)
   rw [ih]; grind
theorem Br : ∀ l m, (AU l m).length = max l.length m.length
 | [], m => by show m.length = max 0 m.length; lia
 | a :: l, [] => by show l.length + 1 = max (l.length + 1) 0; lia
 | a :: l, b :: m => by
   have ih := Br l m
   show (AU l m).length + 1 = max (l.length + 1) (m.length + 1)
   lia
theorem Jh : ∀ (l m : List Rat) (i : Nat), l.length ≤ i → (AU l m)[i]? = m[i]?
 | [], m, i, _ => rfl
 | a :: l, [], i, h => by rw [Jg, Ux h]; rfl
 | a :: l, b :: m, 0, h => by simp at h
 | a :: l, b :: m, i + 1, h => by
   have ih := Jh l m i (by simpa using h)
   show (AU l m)[i]? = m[i]?
   exact ih
def C9 : List Rat → List Rat → List Rat
 | [], _ => []
 | a :: l, m => AU (m.map (· * a)) (0 :: C9 l m)
theorem AF (x : Rat) (m : List Rat) : ∀ l, Cv.ev (C9 l m) x = Cv.ev l x * Cv.ev m x
 | [] => by show (0 : Rat) = 0 * _; grind
 | a :: l => by
   have ih := AF x m l
   show Cv.ev (AU (m.map (· * a)) (0 :: C9 l m)) x = (a + x * Cv.ev l x) * _
   rw [AZ, Cv.ev_scale]
   show _ + (0 + x * Cv.ev (C9 l m) x) = _
   rw [ih]; grind
theorem By (m : List Rat) (hm : 1 ≤ m.length) : ∀ l, 1 ≤ l.length → (C9 l m).length = l.length + m.length - 1
 | [], h => by simp at h
 | [a], _ => by
   show (AU (m.map (· * a)) [0]).length = 1 + m.length - 1
   rw [Br, T7]
   show max m.length 1 = _
   lia
 | a :: b :: l, _ => by
   have ih := By m hm (b :: l) (by simp)
   show (AU (m.map (· * a)) (0 :: C9 (b :: l) m)).length = l.length + 1 + 1 + m.length - 1
   rw [Br, T7]
   show max m.length ((C9 (b :: l) m).length + 1) = _
   rw [ih]
   show max m.length (l.length + 1 + m.length - 1 + 1) = _
   lia
theorem EL (m : List Rat) (u : Rat) (hu : m[m.length - 1]? = some u) : ∀ (l : List Rat) (v : Rat), l[l.length - 1]? = some v → (C9 l m)[l.length + m.length - 2]? = some (u * v)
 | [], v, h => by simp at h
 | [a], v, h => by
   have hm : m.length - 1 < m.length := (SF.mp hu).1
   have e : a = v := by simpa using h
   subst e
   show (AU (m.map (· * a)) [0])[1 + m.length - 2]? = _
   cases m with
   | nil => simp at hm
   | cons b m' =>
     rw [show 1 + (b :: m').length - 2 = m'.length by simp only [TR]; lia]
     have hu' : (b :: m')[m'.length]? = some u := hu
     cases m' with
     | nil =>
       have e : b = u := by simpa using hu'
       subst e
       show some (b * a + 0) = some (b * a)
       congr 1; grind
     | cons c m'' =>
       show (AU ((c :: m'').map (· * a)) [])[m''.length]? = _
       rw [Jg, T3]
       have hu2 : (c :: m'')[m''.length]? = some u := hu'
       rw [hu2]; rfl
 | a :: b :: l, v, h => by
   have hm : m.length - 1 < m.length := (SF.mp hu).1
   have ih := EL m u hu (b :: l) v h
   show (AU (m.map (· * a)) (0 :: C9 (b :: l) m))[l.length + 1 + 1 + m.length - 2]? = _
   rw [Jh _ _ _ (by rw [T7]; lia)]
   rw [show l.length + 1 + 1 + m.length - 2 = (l.length + 1 + m.length - 2) + 1 by lia]
   exact ih
theorem DD {l m : List Rat} (hl : Bi l) (hm : Bi m) (nl : l ≠ []) (nm : m ≠ []) : Bi (C9 l m) := by
 rcases hl with h | ⟨v, hv, v0⟩
 ·exact absurd h nl
 rcases hm with h | ⟨u, hu, u0⟩
 ·exact absurd h nm
 have l1 : 1 ≤ l.length := TQ.mpr nl
 have m1 : 1 ≤ m.length := TQ.mpr nm
 refine .inr ⟨u * v, ?_, fun z => ?_⟩
 ·rw [By m m1 l l1, show l.length + m.length - 1 - 1 = l.length + m.length - 2 by lia]
  exact EL m u hu l v hv
 ·rcases U1.mp z with z | z
  ·exact u0 z
  ·exact v0 z
theorem Kl {l m : List Rat} (hm : Bi m) (hle : l.length ≤ m.length) (h : ∀ x, Cv.ev l x = Cv.ev m x) : l = m := by
 have e : l ++ SV (m.length - l.length) 0 = m := by
  refine Cv.same_of _ _ (by rw [T6, T8]; lia) fun x => ?_
  rw [← Cv.ev_strip, Cv.strip_zeros, Cv.ev_strip]
  exact h x
 by_cases hlt : l.length < m.length
 ·rcases hm with hm | ⟨q, hq, q0⟩
  ·rw [hm] at hlt; simp at hlt
  ·exfalso
   rw [← e, T6, T8, SY (by lia), T1, if_pos (by lia)] at hq
   exact q0 (Sj.inj hq).symm
 ·rw [show m.length - l.length = 0 by lia, List.replicate_zero, SR] at e
  exact e
theorem AW {l m : List Rat} (hl : Bi l) (hm : Bi m) (h : ∀ x, Cv.ev l x = Cv.ev m x) : l = m := by
 by_cases hle : l.length ≤ m.length
 ·exact Kl hm hle h
 ·exact (Kl hl (by lia) fun x => (h x).symm).symm
theorem div_one {ps os rs os' rs' : List Rat} (hp : Bi ps) (np : ps ≠ []) (ho : Bi os) (ho' : Bi os') (hr : Bi rs) (hr' : Bi rs') (l : rs.length < ps.length) (l' : rs'.length < ps.length)
 (h : ∀ x, Cv.ev os x * Cv.ev ps x + Cv.ev rs x = Cv.ev os' x * Cv.ev ps x + Cv.ev rs' x) : os = os' ∧ rs = rs' := by
 have key : Cv.strip (AU os (os'.map (· * (-1)))) = [] := by
  by_cases hD : Cv.strip (AU os (os'.map (· * (-1)))) = []
  ·exact hD
  exfalso
  have gD := AI (AU os (os'.map (· * (-1))))
  have gM := DD gD hp hD np
  have gE := AI (AU rs' (rs.map (· * (-1))))
  have e := AW gM gE fun x => by
   rw [AF, Cv.ev_strip, Cv.ev_strip, AZ, AZ, Cv.ev_scale, Cv.ev_scale]
   have := h x
   grind
  have p1 : 1 ≤ ps.length := TQ.mpr np
  have d1 : 1 ≤ (Cv.strip (AU os (os'.map (· * (-1))))).length := TQ.mpr hD
  have len := By ps p1 _ d1
  rw [e] at len
  have le := Cv.strip_length (AU rs' (rs.map (· * (-1))))
  rw [Br, T7] at le
  lia
 have eo : os = os' := AW ho ho' fun x => by
  have z : Cv.ev (Cv.strip (AU os (os'.map (· * (-1))))) x = 0 := by rw [key]; rfl
  rw [Cv.ev_strip, AZ, Cv.ev_scale] at z
  grind
 subst eo
 refine ⟨rfl, AW hr hr' fun x => ?_⟩
 have := h x
 grind
open PySem PySem.Spec PyProof.Rows
theorem OK {K : Su} {a : Addr} {js : List Nat} {xs : List V} {te : TE} {σ : St} {H : Hp} {Fin : List V → Hp → Prop} (Pv : Nat → List V → Hp → Prop) (h0 : Pv 0 [] H)
 (hl : ∀ i zs H, i ≤ xs.length → Pv i zs H → SqT K H a xs ∧ zs.length = i) (hz : xs.length ≤ sizeLine)
 (hs : ∀ i x zs H, xs[i]? = some x → Pv i zs H → te ((cS 1 js σ).set 0 (some x)) H fun y H4 => Pv (i + 1) (zs ++ [y]) H4) (fin : ∀ zs H', Pv xs.length zs H' → Fin zs H') :
 ∃ (n' : Nat) (W : Nat → List V → Hp → Prop), W 0 [] H ∧ LcW (Itt K a) n' 1 js σ (Cy 0) KI te Fin W := by
 refine ⟨xs.length, Pv, h0, ⟨?_, ?_, ?_⟩⟩
 ·intro i zs H' hi p
  obtain ⟨h1, h2⟩ := hl i zs H' (Sw hi) p
  exact ⟨⟨xs, xs[i], h1, by simp [hi]⟩, by lia⟩
 ·rintro i zs H' x H1 hi p ⟨rfl, y⟩
  exact hs i x zs _ (y xs (hl i zs _ (Sw hi) p).1) p
 ·intro zs H' p
  obtain ⟨h1, h2⟩ := hl _ zs H' (SK _) p
  exact ⟨⟨xs, h1, SK _⟩, by lia, fin zs H' p⟩
end L2
namespace L2
def ch : Nat → Nat → Nat
 | _, 0 => 1
 | 0, _ + 1 => 0
 | n + 1, k + 1 => ch n k + ch n (k + 1)
def goL (a b : Rat) : Rat → List Rat → List Rat
 | p, [] => [a * p]
 | p, c :: r => (a * p + b * c) :: goL a b c r
def CB (a b : Rat) : List Rat → List Rat
 | [] => []
 | q :: r => match CB a b r with
   | [] => [q]
   | c :: s => (q + b * c) :: goL a b c s
theorem O2 (a b x : Rat) : ∀ (l : List Rat) (p : Rat), Cv.ev (goL a b p l) x = a * p + (a * x + b) * Cv.ev l x
 | [], p => by show a * p + x * 0 = a * p + (a * x + b) * 0; grind
 | c :: r, p => by
   show (a * p + b * c) + x * Cv.ev (goL a b c r) x = a * p + (a * x + b) * (c + x * Cv.ev r x)
   rw [O2 a b x r c]; grind
theorem GU (a b : Rat) : ∀ (l : List Rat) (p : Rat), (goL a b p l).length = l.length + 1
 | [], _ => rfl
 | c :: r, p => by show (goL a b c r).length + 1 = r.length + 1 + 1; rw [GU a b r c]
theorem C7 (a b x : Rat) : ∀ l, Cv.ev (CB a b l) x = Cv.ev l (a * x + b)
 | [] => rfl
 | q :: r => by
   have ih := C7 a b x r
   show Cv.ev (match CB a b r with | [] => [q] | c :: s => (q + b * c) :: goL a b c s) x = q + (a * x + b) * Cv.ev r (a * x + b)
   rw [← ih]
   cases CB a b r with
   | nil => show q + x * 0 = q + (a * x + b) * 0; grind
   | cons c s =>
     show (q + b * c) + x * Cv.ev (goL a b c s) x = q + (a * x + b) * (c + x * Cv.ev s x)
     rw [O2]; grind
end L2
namespace L2
def sd : List Rat → List Rat
 | [] => []
 | [_] => []
 | _ :: p :: r => AU (0 :: sd (p :: r)) (CB 1 1 (p :: r))
end L2
namespace L2
open PySem PySem.Spec PyProof.Rows PySem.SeqAt
end L2
namespace L2
def dL : List Rat → List Rat
 | [] => []
 | _ :: r => AU r (0 :: dL r)
def ty (x : Rat) : List Rat → List Rat
 | [] => []
 | q :: r => AU (q :: ty x r) ((ty x r).map (· * x))
theorem getD_addL : ∀ (l m : List Rat) (k : Nat), (AU l m).getD k 0 = l.getD k 0 + m.getD k 0
 | [], m, k => by show m.getD k 0 = 0 + m.getD k 0; grind
 | a :: l, [], k => by show (a :: l).getD k 0 = (a :: l).getD k 0 + 0; grind
 | a :: l, b :: m, 0 => rfl
 | a :: l, b :: m, k + 1 => getD_addL l m k
theorem getD_scale (y : Rat) (l : List Rat) (k : Nat) : (l.map (· * y)).getD k 0 = l.getD k 0 * y := by
 rw [U6, U6, T3]
 cases l[k]? with
 | none => show (0 : Rat) = 0 * y; grind
 | some t => rfl
theorem Jb {l m : List Rat} (h : ∀ k : Nat, Cv.ev l ((k : Nat) : Rat) = Cv.ev m ((k : Nat) : Rat)) (k : Nat) : l.getD k 0 = m.getD k 0 := by
 have z := Cv.ident _ (AU l (m.map (· * (-1)))) (SK _) 0 fun k _ => by
  rw [AZ, Cv.ev_scale, h k]; grind
 have e : (AU l (m.map (· * (-1)))).getD k 0 = 0 := by
  rw [U6]
  cases q : (AU l (m.map (· * (-1))))[k]? with
  | none => rfl
  | some t => exact z t (T5 q)
 rw [getD_addL, getD_scale] at e
 grind
def quo (c : Rat) : List Rat → List Rat
 | [] => []
 | _ :: r => AU r ((quo c r).map (· * c))
theorem FF (c x : Rat) : ∀ l, Cv.ev l x = Cv.ev l c + (x - c) * Cv.ev (quo c l) x
 | [] => by show (0 : Rat) = 0 + _ * 0; grind
 | q :: r => by
   have ih := FF c x r
   show q + x * Cv.ev r x = (q + c * Cv.ev r c) + (x - c) * Cv.ev (AU r ((quo c r).map (· * c))) x
   rw [AZ, Cv.ev_scale]
   have h : (x - c) * (Cv.ev r x + Cv.ev (quo c r) x * c) = x * Cv.ev r x - c * (Cv.ev r x - (x - c) * Cv.ev (quo c r) x) := by grind
   rw [h, show Cv.ev r x - (x - c) * Cv.ev (quo c r) x = Cv.ev r c by grind]
   grind
theorem E3 (c : Rat) : ∀ l, (quo c l).length = l.length - 1
 | [] => rfl
 | q :: r => by
   have ih := E3 c r
   show (AU r ((quo c r).map (· * c))).length = r.length
   rw [Br, T7, ih]
   lia
end L2
namespace L2
def prL : List Rat → List Rat
 | [] => [1]
 | o :: os => C9 [-o, 1] (prL os)
def prV (x : Rat) : List Rat → Rat
 | [] => 1
 | o :: os => (x - o) * prV x os
theorem Cb (x : Rat) : ∀ os, Cv.ev (prL os) x = prV x os
 | [] => by show (1 : Rat) + x * 0 = 1; grind
 | o :: os => by
   show Cv.ev (C9 [-o, 1] (prL os)) x = _
   rw [AF, Cb x os]
   show (-o + x * (1 + x * 0)) * prV x os = (x - o) * prV x os
   grind
theorem JD {x : Rat} : ∀ {os : List Rat}, x ∈ os → prV x os = 0
 | o :: os, h => by
   show (x - o) * prV x os = 0
   rcases SA.mp h with e | e
   ·rw [e]; grind
   ·rw [JD e]; grind
end L2
namespace L2
open PySem PySem.Spec PyProof.Rows
theorem Kg {K : Su} {a : Addr} {js : List Nat} {xs : List V} {tc : TT} {te : TE} {σ : St} {H : Hp} {Fin : List V → Hp → Prop} (Pv : Nat → List V → Hp → Prop) (h0 : Pv 0 [] H)
 (hl : ∀ i zs H, i ≤ xs.length → Pv i zs H → SqL K H a xs ∧ zs.length ≤ i) (hz : xs.length ≤ sizeLine)
 (hs : ∀ i x zs H, xs[i]? = some x → Pv i zs H → tc ((cS 1 js σ).set 0 (some x)) H fun b H3 => if b = true then te ((cS 1 js σ).set 0 (some x)) H3 fun y H4 => Pv (i + 1) (zs ++ [y]) H4 else Pv (i + 1) zs H3) (fin : ∀ zs H', Pv xs.length zs H' → Fin zs H') :
 ∃ (n' : Nat) (W : Nat → List V → Hp → Prop), W 0 [] H ∧ LcW (Itl K a) n' 1 js σ (Cy 0) tc te Fin W := by
 refine ⟨xs.length, Pv, h0, ⟨?_, ?_, ?_⟩⟩
 ·intro i zs H' hi p
  obtain ⟨h1, h2⟩ := hl i zs H' (Sw hi) p
  exact ⟨⟨xs, xs[i], h1, by simp [hi]⟩, by lia⟩
 ·rintro i zs H' x H1 hi p ⟨rfl, y⟩
  exact hs i x zs _ (y xs (hl i zs _ (Sw hi) p).1) p
 ·intro zs H' p
  obtain ⟨h1, h2⟩ := hl _ zs H' (SK _) p
  exact ⟨⟨xs, h1, SK _⟩, by lia, fin zs H' p⟩
end L2
namespace PySem
open Sem (wp)
open Builtin
set_option maxRecDepth 100000
end PySem
namespace L2
open PySem PySem.Spec PyProof.Rows
variable {X : Cx}
end L2
namespace L2
open PySem PySem.Spec PyProof.Rows
end L2
namespace L2
open PySem PySem.Spec PyProof.Rows
def kQ (q : Rat) : List Key := [.inl q.num, .inl (q.den : Int)]
theorem OS {p q : Rat} (h : kQ p = kQ q) : p = q := by
 unfold kQ at h
 injection h with h1 h2
 injection h2 with h2 _
 injection h1 with h1
 injection h2 with h2
 exact Rat.ext h1 (Int.ofNat.inj h2)
def Eu (H : Hp) (x : V) (q : Rat) : Prop := ∃ r, x = .ref r ∧ H r = some (nT q)
abbrev AM (H : Hp) : List V → List Rat → Prop := Paired (Eu H)
theorem Eu.num {K : Su} {H : Hp} {x : V} {q : Rat} (h : Eu H x q) : Az K H x q := let ⟨r, e, h⟩ := h; ⟨r, e, SqT.of h⟩
theorem Eu.same {H H' : Hp} {x : V} {q : Rat} (h : Eu H x q) (e : Af H H') : Eu H' x q := let ⟨r, z, h⟩ := h; ⟨r, z, e _ _ h⟩
theorem Eu.mv {H H' : Hp} {x : V} {q : Rat} {p : Addr} (h : Eu H x q) (pn : Pen H p) (m : Mv p H H') : Eu H' x q := let ⟨r, z, h⟩ := h; ⟨r, z, m r _ (pn.ne h (Kb q)) h⟩
theorem Eu.put {H : Hp} {x : V} {q : Rat} {p : Addr} {ys : List V} {o : HO} (h : Eu H x q) (hp : H p = some (.lst ys)) : Eu (upd H p o) x q := let ⟨r, z, h⟩ := h; ⟨r, z, by rw [Aq (EX h hp (fun z => by cases z))]; exact h⟩
theorem AM.nums {K : Su} {H : Hp} {xs : List V} {qs : List Rat} (h : AM H xs qs) : Au K H xs qs := Paired.mapP h fun _ _ z => z.num
theorem AM.same {H H' : Hp} {xs : List V} {qs : List Rat} (h : AM H xs qs) (e : Af H H') : AM H' xs qs := Paired.mapP h fun _ _ z => z.same e
theorem AM.mv {H H' : Hp} {xs : List V} {qs : List Rat} {p : Addr} (h : AM H xs qs) (pn : Pen H p) (m : Mv p H H') : AM H' xs qs := Paired.mapP h fun _ _ z => z.mv pn m
theorem AM.put {H : Hp} {xs : List V} {qs : List Rat} {p : Addr} {ys : List V} {o : HO} (h : AM H xs qs) (hp : H p = some (.lst ys)) : AM (upd H p o) xs qs := Paired.mapP h fun _ _ z => z.put hp
def PtT (K : Su) (H : Hp) (x : V) (ps : List Rat) : Prop := ∃ a us p, x = .ref a ∧ SqT K H a us ∧ Au K H us ps ∧ us[0]? = some (.ref p) ∧ H p = some (nT (ps.getD 0 0))
abbrev Et (K : Su) (H : Hp) : List V → List (List Rat) → Prop := Paired (PtT K H)
section
variable {K : Su} {H H' : Hp} {x : V} {ps : List Rat} {xs : List V} {pss : List (List Rat)} {p : Addr} {ys : List V} {o : HO}
theorem PtT.same (h : PtT K H x ps) (e : Af H H') : PtT K H' x ps := let ⟨a, us, b, z, h1, h2, h3, h4⟩ := h; ⟨a, us, b, z, h1.same e, h2.same e, h3, e _ _ h4⟩
theorem Et.same (h : Et K H xs pss) (e : Af H H') : Et K H' xs pss := Paired.mapP h fun _ _ z => z.same e
end
def TlT (K : Su) (H : Hp) (v : V) (t : Gj) : Prop := ∃ a p rn, v = .ref a ∧ SqT K H a [.ref p, .int t.k, rn] ∧ H p = some (nT t.x) ∧ Az K H rn t.n
abbrev Gk (K : Su) (H : Hp) : List V → List Gj → Prop := Paired (TlT K H)
section
variable {K : Su} {H H' : Hp} {x : V} {t : Gj} {xs : List V} {ts : List Gj} {p : Addr} {ys : List V} {o : HO}
theorem TlT.same (h : TlT K H x t) (e : Af H H') : TlT K H' x t := let ⟨a, b, rn, z, h1, h2, h3⟩ := h; ⟨a, b, rn, z, h1.same e, e _ _ h2, h3.same e⟩
theorem TlT.put (h : TlT K H x t) (hp : H p = some (.lst ys)) : TlT K (upd H p o) x t := let ⟨a, b, rn, z, h1, h2, h3⟩ := h; ⟨a, b, rn, z, h1.put hp, by rw [Aq (EX h2 hp (fun z => by cases z))]; exact h2, h3.put hp⟩
theorem Gk.same (h : Gk K H xs ts) (e : Af H H') : Gk K H' xs ts := Paired.mapP h fun _ _ z => z.same e
theorem Gk.put (h : Gk K H xs ts) (hp : H p = some (.lst ys)) : Gk K (upd H p o) xs ts := Paired.mapP h fun _ _ z => z.put hp
end
end L2
namespace L2
theorem BK : ∀ os, (prL os).length = os.length + 1
 | [] => rfl
 | o :: os => by
   have ih := BK os
   show (AU ((prL os).map (· * -o)) (0 :: AU ((prL os).map (· * 1)) (0 :: C9 [] (prL os)))).length = _
   have e : C9 [] (prL os) = [] := rfl
   rw [Br, T7, TR, Br, T7, e, ih]
   simp only [TR, Uy]
   lia
def nwT (T : Nat → Nat → Rat) (x : Nat → Rat) (j : Nat) : Nat → List Rat
 | 0 => []
 | n + 1 => AU (nwT T x j n) ((prL ((So n).map fun i => x (j + i))).map (· * T n j))
def prF (x : Nat → Rat) (j n : Nat) (X : Rat) : Rat := prV X ((So n).map fun i => x (j + i))
theorem K7 (X : Rat) : ∀ (l m : List Rat), prV X (l ++ m) = prV X l * prV X m
 | [], m => by show prV X m = 1 * prV X m; grind
 | a :: l, m => by
   show (X - a) * prV X (l ++ m) = (X - a) * prV X l * prV X m
   rw [K7 X l m]; grind
theorem FH (x : Nat → Rat) (j n : Nat) (X : Rat) : prF x j (n + 1) X = prF x j n X * (X - x (j + n)) := by
 unfold prF
 rw [Uz, TY, K7]
 show _ * ((X - x (j + n)) * 1) = _
 grind
theorem GP (x : Nat → Rat) (j : Nat) (X : Rat) : ∀ n, prF x j (n + 1) X = (X - x j) * prF x (j + 1) n X
 | 0 => by show (X - x (j + 0)) * 1 = (X - x j) * 1; rw [TL]
 | n + 1 => by
   rw [FH, GP x j X n, FH, show j + (n + 1) = j + 1 + n by lia]; grind
theorem EJ (T : Nat → Nat → Rat) (x : Nat → Rat) (j n : Nat) (X : Rat) : Cv.ev (nwT T x j (n + 1)) X = Cv.ev (nwT T x j n) X + T n j * prF x j n X := by
 show Cv.ev (AU _ _) X = _
 rw [AZ, Cv.ev_scale, Cb]
 show _ + prV X _ * _ = _ + _ * prV X _
 grind
def MU (T : Nat → Nat → Rat) (x : Nat → Rat) (N : Nat) : Prop := ∀ k j, j + k + 1 < N → T (k + 1) j * (x (j + k + 1) - x j) = T k (j + 1) - T k j
theorem IV {T : Nat → Nat → Rat} {x : Nat → Rat} {N : Nat} (h : MU T x N) (X : Rat) : ∀ n j, j + n < N → Cv.ev (nwT T x j (n + 1)) X = Cv.ev (nwT T x (j + 1) n) X + T n j * prF x (j + 1) n X
 | 0, j, _ => by
   rw [EJ]
   show Cv.ev [] X + T 0 j * 1 = Cv.ev [] X + T 0 j * 1
   rfl
 | n + 1, j, hj => by
   have ih := IV h X n j (by lia)
   have hk := h n j (by lia)
   rw [EJ, ih, EJ T x (j + 1) n, GP, FH x (j + 1) n, show j + 1 + n = j + n + 1 by lia]
   grind
theorem Mg {T : Nat → Nat → Rat} {x : Nat → Rat} {N : Nat} (h : MU T x N) : ∀ n j i, j + n ≤ N → i < n → Cv.ev (nwT T x j n) (x (j + i)) = T 0 (j + i)
 | n + 1, j, i, hj, hi => by
   have IH := Mg h n
   by_cases hin : i < n
   ·rw [EJ, IH j i (by lia) hin]
    have : prF x j n (x (j + i)) = 0 := JD (UA.mpr ⟨i, Ss.mpr hin, rfl⟩)
    rw [this]; grind
   ·have e : i = n := by lia
    subst e
    match i, hj, IH with
    | 0, _, _ =>
      rw [EJ]
      show (0 : Rat) + T 0 j * 1 = T 0 j
      grind
    | i + 1, hj, IH =>
      rw [IV h _ (i + 1) j (by lia)]
      have ih := IH (j + 1) i (by lia) (by lia)
      rw [show j + 1 + i = j + (i + 1) by lia] at ih
      rw [ih]
      have : prF x (j + 1) (i + 1) (x (j + (i + 1))) = 0 := JD (UA.mpr ⟨i, Ss.mpr (by lia), by show x (j + 1 + i) = _; rw [show j + 1 + i = j + (i + 1) by lia]⟩)
      rw [this]; grind
end L2
namespace HT
open PySem PyProof.Rows
open PySem.SeqAt
open PySem.AutoSeq1 (wpAny_loadPart')
open PySem.MeetsSeq PySem.MeetsSeq2 PySem.MeetsSeq3
end HT
namespace L2
open PySem PySem.Spec PyProof.Rows
section
variable {X : Cx} {K : Su}
end
theorem Gf (xs : List V) (v : Nat) : CA xs none (some (v : Int)) = xs.take v := by
 unfold CA
 have e1 : HT.sIx xs.length 0 none = 0 := rfl
 have e2 : HT.sIx xs.length xs.length (some (v : Int)) = min v xs.length := HT.sIx_nat _ _ v
 rw [e1, e2, Ul, Um]
 by_cases h : v ≤ xs.length
 ·rw [Te h]
 ·rw [Tf (by lia), UB (SK _), UB (by lia)]
end L2
namespace L2
open PySem PySem.Spec PyProof.Rows PySem.SeqAt
section
variable {X : Cx}
end
theorem DE (xs : List V) (v : Nat) : CA xs (some (v : Int)) none = xs.drop v := by
 unfold CA
 have e1 : HT.sIx xs.length 0 (some (v : Int)) = min v xs.length := HT.sIx_nat _ _ v
 have e2 : HT.sIx xs.length xs.length none = xs.length := rfl
 rw [e1, e2]
 by_cases h : v ≤ xs.length
 ·rw [Te h, UB (by rw [Tg]; exact SK _)]
 ·rw [Tf (by lia), UC, UD, UE (by lia)]
end L2
namespace L2
open PySem PySem.Spec PyProof.Rows
theorem MK : bootBuiltins "zip" = some (.type "zip") := by decide +kernel
section
variable {X : Cx} {pins : List (Addr × Obj)} {σ : List (Option V)} {H : Hp} {s : Shared} {h' : Heap}
theorem Inv.turnedL {t' : Nat} {ch : List Addr} (I : Inv X pins σ H s) (k : ∀ b o, b ∉ ch → s.heap.get? b = some o → h'.get? b = some o) (hf : ∀ b ∈ ch, DH X pins H b) : Inv X pins σ H { s with heap := h', toks := t' } := by
 have nit : ∀ b u, H b = some u → b ∉ ch := fun b u e z => by rw [(hf b z).1] at e; cases e
 refine I.step (g' := s.gens) (d' := s.drawn) (ch := ch) (fun b hb => ?_) (fun b o _ _ hc e _ => k b o hc e) (fun b o _ _ hc e _ => ⟨o.slots, k b o hc e⟩) (fun _ _ _ _ n => n)
  (fun b o hc e => ⟨o, k b o hc e⟩) (fun _ _ e => e) (fun _ _ _ e => e) (fun b ps e => ⟨#[], by rw [e]; simp⟩) (fun m hm => ?_) (fun b u e => ?_) I.bare
 ·obtain ⟨_, hL, _, h1, h2, h3⟩ := hf b hb
  exact ⟨h1, hL, h2, h3⟩
 ·obtain ⟨o, es, ep, ho, r⟩ := hm
  exact ⟨o, es, ep, k _ o (fun z => (hf _ z).2.1 rfl) ho, r⟩
 ·refine (I.hok b u e).stay (fun c v hc q => k c v ?_ q) (fun _ q => q) fun _ _ q => q
  rcases hc with z | z
  ·rw [z]; exact nit b u e
  ·exact nit c _ z
end
def Itz (K : Su) (a b : Addr) (xs ys : List V) : It :=
 ⟨fun i H => SqL K H a xs ∧ SqL K H b ys ∧ i < min xs.length ys.length,
  fun i H x H' => ∃ T x1 y1, xs[i]? = some x1 ∧ ys[i]? = some y1 ∧ H T = none ∧ x = .ref T ∧ H' = upd H T (.tup [x1, y1]),
  fun i H => SqL K H a xs ∧ SqL K H b ys ∧ min xs.length ys.length ≤ i⟩
theorem LA {P : Program} {w : World} {K : Su} {elts : List Expr} {kk} {pos : Pos} {a b z TI TO i1 i2 : Addr} (D : ZipApart z TI TO i1 i2 a b) (xs ys : List V) :
 Ji P w K (.Tuple elts kk pos) (Itz K a b xs ys) [z, TI, TO, i1, i2] z (fun i h => IsZip h z TI TO .none ∧ IsPair h TI (.ref i1) (.ref i2) ∧ (∃ u v, IsPair h TO u v) ∧ h.IsListIter i1 a i ∧ h.IsListIter i2 b i) where
 mem := by simp
 obj := fun i h st c hc => by
  obtain ⟨hz, hTI, ⟨u, v, hTO⟩, ⟨o1, e1, _, d1⟩, ⟨o2, e2, _, d2⟩⟩ := st
  have hc' : c = z ∨ c = TI ∨ c = TO ∨ c = i1 ∨ c = i2 := by simpa using hc
  rcases hc' with rfl | rfl | rfl | rfl | rfl
  ·exact ⟨_, hz, fun v z => by cases z⟩
  ·exact ⟨_, hTI, fun v z => by cases z⟩
  ·exact ⟨_, hTO, fun v z => by cases z⟩
  ·exact ⟨o1, e1, fun v z => by rw [d1] at z; cases z⟩
  ·exact ⟨o2, e2, fun v z => by rw [d2] at z; cases z⟩
 keep := fun i h h' st k => by
  obtain ⟨hz, hTI, ⟨u, v, hTO⟩, h1, h2⟩ := st
  exact ⟨k z (by simp) _ hz, k TI (by simp) _ hTI, ⟨u, v, k TO (by simp) _ hTO⟩, h1.at fun o e => k i1 (by simp) o e, h2.at fun o e => k i2 (by simp) o e⟩
 item := by
  intro X hP hw hK hc i pins s σ H E I hf st hg
  subst hP hw hK
  obtain ⟨hq1, hq2, hi⟩ := hg
  obtain ⟨its1, rv1, p1, _⟩ := I.list hq1
  obtain ⟨its2, rv2, p2, _⟩ := I.list hq2
  have hx : xs[i]? = some (xs[i]'(by lia)) := Uc (by lia)
  have hy : ys[i]? = some (ys[i]'(by lia)) := Uc (by lia)
  obtain ⟨u1, hu1, ru1⟩ := rv1.get hx
  obtain ⟨u2, hu2, ru2⟩ := rv2.get hy
  generalize xs[i]'(by lia) = x1 at hx ru1
  generalize ys[i]'(by lia) = y1 at hy ru2
  obtain ⟨hz, hTI, ⟨ta, tb, hTO⟩, h1, h2⟩ := st
  refine wpAny_pyNext_zip_item D hz hTI hTO h1 h2 p1.isList p2.isList (x := u1) (y := u2) (by simpa using hu1) (by simpa using hu2) fun h' a1 a2 a3 a4 a5 a6 a7 => ?_
  refine ⟨_, rfl, wpAny_letOwnedTupleGo_zip (s := { s with heap := h' }) a1 fun h'' b1 b2 => ?_⟩
  have lz : z < s.heap.objs.size := Heap.lt_size hz
  have lTI : TI < s.heap.objs.size := Heap.lt_size hTI
  have lTO : TO < s.heap.objs.size := Heap.lt_size hTO
  have l1 : i1 < s.heap.objs.size := by obtain ⟨_, e, _⟩ := h1; exact Heap.lt_size e
  have l2 : i2 < s.heap.objs.size := by obtain ⟨_, e, _⟩ := h2; exact Heap.lt_size e
  have I1 : Inv X pins σ (upd H s.heap.objs.size (.tup [x1, y1])) { s with heap := s.heap.push { cls := .type "tuple", data := .seq #[u1, u2] } } :=
   I.laid (t' := s.toks) (o := .tup [x1, y1]) (fun b ob q => Heap.get?_push_of_some _ q) (SK _) ⟨by show 2 ≤ sizeLine; decide, [u1, u2], .cons ru1 (.cons ru2 .nil), IsTup.new _ _⟩
  have hfp : ∀ c ∈ [z, TI, TO, i1, i2], DH X pins (upd H s.heap.objs.size (.tup [x1, y1])) c := fun c hc => by
   obtain ⟨f0, fr⟩ := hf c hc
   have hlt : c < s.heap.objs.size := by
    have hc' : c = z ∨ c = TI ∨ c = TO ∨ c = i1 ∨ c = i2 := by simpa using hc
    rcases hc' with rfl | rfl | rfl | rfl | rfl <;> assumption
   exact ⟨by rw [Aq (Sn hlt)]; exact f0, fr⟩
  have I2 := I1.turnedL (h' := h'') (t' := s.toks) (ch := [z, TO, i1, i2]) (fun c o hcn e => by
   have hcn' : c ≠ z ∧ c ≠ TO ∧ c ≠ i1 ∧ c ≠ i2 := by simpa using hcn
   obtain ⟨c1, c2, c3, c4⟩ := hcn'
   refine b2.extBut _ _ c1 ?_
   by_cases hcs : c = s.heap.objs.size
   ·subst hcs
    have e' : (s.heap.push { cls := .type "tuple", data := .seq #[u1, u2] }).get? s.heap.objs.size = some o := e
    rw [Heap.get?_push_size _ rfl] at e'
    cases e'
    exact a5
   ·have e' : (s.heap.push { cls := .type "tuple", data := .seq #[u1, u2] }).get? c = some o := e
    refine a7 c o c1 c2 c3 c4 ?_
    rw [Heap.get?_push_ne _ _ _ hcs] at e'
    exact e') (fun c hc => hfp c (by
     have hc' : c = z ∨ c = TO ∨ c = i1 ∨ c = i2 := by simpa using hc
     rcases hc' with rfl | rfl | rfl | rfl <;> simp))
  refine ⟨.ref s.heap.objs.size, upd H s.heap.objs.size (.tup [x1, y1]), I2, rfl, ⟨_, x1, y1, hx, hy, I.hok.fresh (SK _), rfl, rfl⟩, ⟨b1, ?_, ⟨_, _, b2.extBut _ _ D.TOz a2⟩, a3.extBut b2.extBut D.i1z, a4.extBut b2.extBut D.i2z⟩, fun c hc => (hfp c hc).1⟩
  exact b2.extBut _ _ D.TIz (a7 _ _ D.TIz D.TITO D.TIi1 D.TIi2 hTI)
 done := by
  intro X hP hw hK hc i pins s σ H E I hf st hg
  subst hP hw hK
  obtain ⟨hq1, hq2, hi⟩ := hg
  obtain ⟨its1, rv1, p1, _⟩ := I.list hq1
  obtain ⟨its2, rv2, p2, _⟩ := I.list hq2
  have e1 := rv1.length
  have e2 := rv2.length
  obtain ⟨hz, hTI, ⟨ta, tb, hTO⟩, h1, h2⟩ := st
  refine wpAny_pyNext_zip_end (I.ok.hd hc) D hz hTI hTO h1 h2 p1.isList p2.isList ?_ fun h' k => ⟨rfl, I.turnedL (t' := s.toks) (ch := [z, TO, i1, i2]) (fun c o hcn e => by
   have hcn' : c ≠ z ∧ c ≠ TO ∧ c ≠ i1 ∧ c ≠ i2 := by simpa using hcn
   exact k c o hcn'.1 hcn'.2.1 hcn'.2.2.1 hcn'.2.2.2 e) fun c hc => hf c (by
    have hc' : c = z ∨ c = TO ∨ c = i1 ∨ c = i2 := by simpa using hc
    rcases hc' with rfl | rfl | rfl | rfl <;> simp)⟩
  by_cases h : xs.length ≤ i
  ·exact .inl (by rw [UG]; simp; lia)
  ·exact .inr (by rw [UG]; simp; lia)
 self := fun _ _ _ _ _ st h => wpAny_pyIter_zip st.1 h
section
variable {X : Cx}
def PQ (K : Su) (ta : TA) : TI := fun σ H R => ta σ H fun vs H1 => ∃ a b xs ys, vs = [.ref a, .ref b] ∧ SqL K H1 a xs ∧ SqL K H1 b ys ∧ R (Itz K a b xs ys) H1
theorem Ov {elts : List Expr} {kk} {pos' : Pos} {e1 e2 : Expr} {ta : TA} {p pos : Pos} (hg : Gl X "zip") (hm : X.mg "zip" = none) (ha : PA X [e1, e2] ta) (hs : starEach [e1, e2] X.env = [(false, eval e1 X.env), (false, eval e2 X.env)] := by rfl) (hs2 : starEach [e2] X.env = [(false, eval e2 X.env)] := by rfl) :
 PI X (.Tuple elts kk pos') (.Call (.Name "zip" p) [e1, e2] [] pos) (PQ X.K ta) := by
 intro pins s σ H R I h
 refine Call_ (Di I hg hm MK (PyProof.Rows.callWith_type1 (thn (ha pos pins s σ H _ I h) fun us s1 ⟨vs, H1, I1, r1, q1⟩ => ?_) (by rw [hs, hs2]) (by rw [hs2]; rfl)))
 obtain ⟨a, b, xs, ys, e, hq1, hq2, q⟩ := q1
 subst e
 cases r1 with
 | cons r rr =>
   cases rr with
   | cons r' rr =>
     cases rr
     cases r
     cases r'
     obtain ⟨its1, rv1, p1, _⟩ := I1.list hq1
     obtain ⟨its2, rv2, p2, _⟩ := I1.list hq2
     have la : a < s1.heap.objs.size := by obtain ⟨_, e, _⟩ := p1.isList; exact Heap.lt_size e
     have lb : b < s1.heap.objs.size := by obtain ⟨_, e, _⟩ := p2.isList; exact Heap.lt_size e
     refine call_zip_2 p1.isList p2.isList fun h' hz hTI hTO hi1 hi2 hsz hk => ?_
     refine wpAny_pyIter_zip (s := { s1 with heap := h' }) hz ?_
     have D := zipApart_new la lb
     refine ⟨s1.heap.objs.size + 4, [s1.heap.objs.size + 4, s1.heap.objs.size + 2, s1.heap.objs.size + 3, s1.heap.objs.size, s1.heap.objs.size + 1], _, _, H1, rfl, I1.kept (t' := s1.toks) hk, LA D xs ys, ⟨hz, hTI, ⟨_, _, hTO⟩, hi1, hi2⟩, fun c hc => ?_, q⟩
     have hge : s1.heap.objs.size ≤ c := by
      have hc' : c = s1.heap.objs.size + 4 ∨ c = s1.heap.objs.size + 2 ∨ c = s1.heap.objs.size + 3 ∨ c = s1.heap.objs.size ∨ c = s1.heap.objs.size + 1 := by simpa using hc
      rcases hc' with rfl | rfl | rfl | rfl | rfl
      ·exact UH _ _
      ·exact UH _ _
      ·exact UH _ _
      ·exact SK _
      ·exact UH _ _
     exact I1.fpOk hge (I1.hok.fresh hge)
theorem M8 (K : Su) {elts : List Expr} {kk} {pos' : Pos} {e1 e2 : Expr} {ta : TA} {p pos : Pos} (hg : Gl X "zip") (hm : X.mg "zip" = none) (ha : PA X [e1, e2] ta) (hs : starEach [e1, e2] X.env = [(false, eval e1 X.env), (false, eval e2 X.env)] := by rfl) (hs2 : starEach [e2] X.env = [(false, eval e2 X.env)] := by rfl) (e : X.K = K := by rfl) :
 PI X (.Tuple elts kk pos') (.Call (.Name "zip" p) [e1, e2] [] pos) (PQ K ta) := by subst e; exact Ov hg hm ha hs hs2
end
theorem Km {K : Su} {a b : Addr} {xs ys : List V} {g : TG} {tb : TS} {D : Dp} {σ : St} {H : Hp} (Pv : Nat → St → Hp → Prop) (h0 : Pv 0 σ H) (hl : ∀ i σ H, i ≤ min xs.length ys.length → Pv i σ H → SqL K H a xs ∧ SqL K H b ys)
 (hs : ∀ i x y T σ H, xs[i]? = some x → ys[i]? = some y → H T = none → Pv i σ H → g (.ref T) σ (upd H T (.tup [x, y])) fun σ2 H2 => tb { D with nx := Pv (i + 1), ct := Pv (i + 1), bk := D.nx } σ2 H2) (hd : ∀ σ H, Pv (min xs.length ys.length) σ H → D.nx σ H) :
 ∃ W : Nat → Nat → St → Hp → Prop, (∃ m, W 0 m σ H) ∧ ∀ i m σ H, W i m σ H →
   ((Itz K a b xs ys).stop i H ∧ D.nx σ H) ∨ ((Itz K a b xs ys).go i H ∧ ∃ N : St → Hp → Prop, (∀ σ' H', N σ' H' → ∃ m', m' < m ∧ W (i + 1) m' σ' H') ∧ ∀ x H', (Itz K a b xs ys).yld i H x H' → g x σ H' fun σ2 H2 => tb { D with nx := N, ct := N, bk := D.nx } σ2 H2) := by
 refine ⟨fun i m σ H => m = min xs.length ys.length - i ∧ i ≤ min xs.length ys.length ∧ Pv i σ H, ⟨min xs.length ys.length, by simp, SN _, h0⟩, ?_⟩
 rintro i m σ H ⟨rfl, hi, p⟩
 obtain ⟨q1, q2⟩ := hl i σ H hi p
 by_cases hlt : i < min xs.length ys.length
 ·refine .inr ⟨⟨q1, q2, hlt⟩, Pv (i + 1), fun σ' H' p' => ⟨min xs.length ys.length - (i + 1), by lia, rfl, hlt, p'⟩, fun x H' y => ?_⟩
  obtain ⟨T, x1, y1, hx, hy, hT, rfl, rfl⟩ := y
  exact hs i x1 y1 T σ _ hx hy hT p
 ·have e : i = min xs.length ys.length := by lia
  subst e
  exact .inl ⟨⟨q1, q2, SK _⟩, hd σ H p⟩
end L2
namespace L2
open PySem PySem.Spec PyProof.Rows
namespace St
open SetTable
def it (mask : Nat) : Nat → Nat → Nat
 | 0, i => i
 | n + 1, i => it mask n ((i * 5 + 1) % (mask + 1))
theorem cover7 : ∀ i : Fin 8, ∀ e : Fin 8, ∃ m : Fin 8, it 7 m.val i.val = e.val := by decide +kernel
theorem cover31 : ∀ i : Fin 32, ∀ e : Fin 32, ∃ m : Fin 32, it 31 m.val i.val = e.val := by decide +kernel
theorem cover {mask : Nat} (hm : mask = 7 ∨ mask = 31) {i e : Nat} (hi : i < mask + 1) (he : e < mask + 1) : ∃ m, m ≤ mask ∧ it mask m i = e := by
 rcases hm with rfl | rfl
 ·obtain ⟨m, h⟩ := cover7 ⟨i, hi⟩ ⟨e, he⟩
  exact ⟨m.val, by lia, h⟩
 ·obtain ⟨m, h⟩ := cover31 ⟨i, hi⟩ ⟨e, he⟩
  exact ⟨m.val, by lia, h⟩
def bs (mask : Nat) (b : Nat) : Nat → Nat × Nat
 | 0 => (b % (mask + 1), b)
 | n + 1 => leap mask (bs mask b n).1 (bs mask b n).2
theorem bs_pert (mask b : Nat) : ∀ n, (bs mask b n).2 = b / 32 ^ n
 | 0 => by show b = b / 1; rw [Nat.div_one]
 | n + 1 => by
   show (bs mask b n).2 / 32 = _
   rw [bs_pert mask b n, Nat.div_div_eq_div_mul, Nat.pow_succ]
theorem bs_lt (mask b : Nat) : ∀ n, (bs mask b n).1 < mask + 1
 | 0 => Nat.mod_lt _ (Uv _)
 | _ + 1 => Nat.mod_lt _ (Uv _)
theorem bits_lt (h : Int) : bits h < 2 ^ 64 := by
 unfold bits
 have h1 : (0 : Int) ≤ h % 2 ^ 64 := UI _ (by decide)
 have h2 : h % 2 ^ 64 < 2 ^ 64 := UJ _ (by decide)
 lia
theorem bs_late {mask b n : Nat} (hb : b < 2 ^ 64) (hn : 13 ≤ n) : (bs mask b n).2 = 0 := by
 rw [bs_pert]
 refine Nat.div_eq_of_lt (Sl hb ?_)
 exact Sv (by decide : 2 ^ 64 ≤ 32 ^ 13) (Ue (by decide) hn)
theorem bs_cyc {mask b : Nat} (hb : b < 2 ^ 64) : ∀ m n, 13 ≤ n → (bs mask b (n + m)).1 = it mask m (bs mask b n).1
 | 0, n, _ => rfl
 | m + 1, n, hn => by
   have ih := bs_cyc (mask := mask) hb m (n + 1) (by lia)
   rw [show n + (m + 1) = n + 1 + m by lia, ih]
   show it mask m (leap mask (bs mask b n).1 (bs mask b n).2).1 = it mask m (((bs mask b n).1 * 5 + 1) % (mask + 1))
   rw [bs_late hb hn]
   rfl
theorem bs_hits {mask b e : Nat} (hm : mask = 7 ∨ mask = 31) (hb : b < 2 ^ 64) (he : e < mask + 1) : ∃ n, n ≤ 13 + mask ∧ (bs mask b n).1 = e := by
 obtain ⟨m, h1, h2⟩ := cover hm (bs_lt mask b 13) he
 exact ⟨13 + m, by lia, by rw [bs_cyc hb m 13 (SK _)]; exact h2⟩
def base (mask i pert : Nat) : Probe := { j := i, more := runEnd mask i - i, i, perturb := pert, dummy := none }
def advs (t : SetTable) : Nat → Probe → Probe
 | 0, p => p
 | n + 1, p => advs t n (t.advance p)
theorem advs_add (t : SetTable) : ∀ m n p, advs t (m + n) p = advs t n (advs t m p)
 | 0, n, p => by rw [UK]; rfl
 | m + 1, n, p => by rw [show m + 1 + n = (m + n) + 1 by lia]; exact advs_add t m n _
theorem run_le (mask i : Nat) : runEnd mask i - i ≤ 9 := by unfold runEnd; split <;> lia
theorem advs_run (t : SetTable) : ∀ (r j i pert : Nat), advs t (r + 1) { j := j, more := r, i := i, perturb := pert, dummy := none } = base t.mask (leap t.mask i pert).1 (leap t.mask i pert).2
 | 0, j, i, pert => rfl
 | r + 1, j, i, pert => by
   have ih := advs_run t r (j + 1) i pert
   show advs t (r + 1) (t.advance { j := j, more := r + 1, i := i, perturb := pert, dummy := none }) = _
   rw [← ih]
   rfl
theorem reach (t : SetTable) (h : Int) : ∀ n, ∃ k, k ≤ 10 * n ∧ advs t k (t.probeStart h) = base t.mask (bs t.mask (bits h) n).1 (bs t.mask (bits h) n).2
 | 0 => ⟨0, SK _, rfl⟩
 | n + 1 => by
   obtain ⟨k, hk, e⟩ := reach t h n
   refine ⟨k + (runEnd t.mask (bs t.mask (bits h) n).1 - (bs t.mask (bits h) n).1 + 1), ?_, ?_⟩
   ·have := run_le t.mask (bs t.mask (bits h) n).1
    lia
   ·rw [advs_add, e]
    exact advs_run t _ _ _ _
theorem slot_empty {t : SetTable} (hd : t.dummies = #[]) {e : Nat} (he : ∀ i : Nat, t.place[i]? ≠ some e) : t.slot e = .empty := by
 unfold slot
 have h1 : (t.place[below t.place e]? == some e) = false := by
  rw [beq_eq_false_iff_ne]; exact he _
 have h2 : has t.dummies e = false := by
  rw [hd]; unfold has; rfl
 simp only [h1, h2]
 rfl
theorem slot_cases {t : SetTable} (hd : t.dummies = #[]) (j : Nat) : t.slot j = .empty ∨ ∃ i, t.slot j = .live i ∧ t.place[i]? = some j := by
 by_cases h : t.place[below t.place j]? = some j
 ·refine .inr ⟨below t.place j, ?_, h⟩
  unfold slot
  have h1 : (t.place[below t.place j]? == some j) = true := by rw [h]; exact beq_self_eq_true _
  simp only [h1]
  rfl
 ·refine .inl ?_
  unfold slot
  have h1 : (t.place[below t.place j]? == some j) = false := by rw [beq_eq_false_iff_ne]; exact h
  have h2 : has t.dummies j = false := by rw [hd]; unfold has; rfl
  simp only [h1, h2]
  rfl
def Hit (t : SetTable) (k : Nat) (p : Probe) : Prop := t.slot (advs t k p).j = .empty
theorem adv_dummy (t : SetTable) {p : Probe} (h : p.dummy = none) : (t.advance p).dummy = none := by
 unfold advance
 split
 ·exact h
 ·exact h
theorem go_hit {t : SetTable} (hd : t.dummies = #[]) {ha : Nat → Int} {h : Int} : ∀ (fuel k : Nat) (p : Probe), k < fuel → p.dummy = none → Hit t k p →
 (∃ j, probe.go t ha h fuel p = some (.empty j none)) ∨ ∃ j i next k', probe.go t ha h fuel p = some (.candidate j i next) ∧ t.slot j = .live i ∧ t.place[i]? = some j ∧ next.dummy = none ∧ Hit t k' next ∧ k' < k
 | fuel + 1, k, p, hk, hp, hh => by
   unfold probe.go
   rcases slot_cases hd p.j with z | ⟨i, z, zp⟩
   ·rw [z]
    exact .inl ⟨p.j, by simp only [hp]⟩
   ·rw [z]
    have hk0 : ∃ k', k = k' + 1 := by
     cases k with
     | zero => unfold Hit at hh; rw [show advs t 0 p = p from rfl, z] at hh; cases hh
     | succ k' => exact ⟨k', rfl⟩
    obtain ⟨k', rfl⟩ := hk0
    have hh' : Hit t k' (t.advance p) := hh
    by_cases hq : (ha i == h) = true
    ·refine .inr ⟨p.j, i, t.advance p, k', ?_, z, zp, adv_dummy t hp, hh', by lia⟩
     simp only [hq]
     rfl
    ·have hq' : (ha i == h) = false := by simpa using hq
     simp only [hq']
     rcases go_hit hd fuel k' (t.advance p) (by lia) (adv_dummy t hp) hh' with ⟨j, e⟩ | ⟨j, i', nx, k2, e, r1, r2, r3, r4, r5⟩
     ·exact .inl ⟨j, e⟩
     ·exact .inr ⟨j, i', nx, k2, e, r1, r2, r3, r4, by lia⟩
theorem nd_le : ∀ {l m : List Nat}, l.Nodup → (∀ x, x ∈ l → x ∈ m) → l.length ≤ m.length
 | [], m, _, _ => SN _
 | a :: l, m, hn, hs => by
   rw [SS] at hn
   have ha := hs a Sy
   have ih := nd_le (l := l) (m := m.erase a) hn.2 fun x hx => (List.mem_erase_of_ne (fun e : x = a => hn.1 (e ▸ hx))).mpr (hs x (Sz _ hx))
   rw [List.length_erase_of_mem ha] at ih
   have := List.length_pos_of_mem ha
   rw [TR]; lia
theorem start_hit {t : SetTable} (hm : t.mask = 7 ∨ t.mask = 31) (hd : t.dummies = #[]) (hs : t.place.size ≤ t.mask) (h : Int) : ∃ k, k < 10 * turns t.mask ∧ Hit t k (t.probeStart h) := by
 have he : ∃ e, e < t.mask + 1 ∧ ∀ i : Nat, t.place[i]? ≠ some e := by
  refine Classical.byContradiction fun hn => ?_
  have hall : ∀ e, e < t.mask + 1 → e ∈ t.place.toList := fun e he => by
   refine Classical.byContradiction fun hne => hn ⟨e, he, fun i hi => hne ?_⟩
   exact T5 (by rw [Array.getElem?_toList]; exact hi)
  have hsub : (So (t.mask + 1)).Subset t.place.toList := fun e he => hall e (Ss.mp he)
  have hlen := nd_le (List.nodup_range (n := t.mask + 1)) hsub
  rw [UL, SI] at hlen
  lia
 obtain ⟨e, he1, he2⟩ := he
 obtain ⟨n, hn, hb⟩ := bs_hits (b := bits h) hm (bits_lt h) he1
 obtain ⟨k, hk, hr⟩ := reach t h n
 refine ⟨k, ?_, ?_⟩
 ·unfold turns; lia
 ·unfold Hit
  rw [hr]
  show t.slot (bs t.mask (bits h) n).1 = _
  rw [hb]
  exact slot_empty hd he2
end St
end L2
namespace L2
open PySem PySem.Spec PyProof.Rows
namespace St
open SetTable
section
variable {prog : Program} {w : World} {K : Type} [DecidableEq K] (knd : KeyKind prog w K)
def IsN (h : Heap) (ks : List K) (a : Addr) : Prop := ∃ o items n, h.get? a = some o ∧ o.cls = .type "tuple" ∧ o.data = .seq items n ∧ ItemsAre knd ks items.toList ∧ ∀ v ∈ items.toList, ∃ k t, v = .int k t
variable {knd}
theorem IsN.key {h : Heap} {ks : List K} {a : Addr} (x : IsN knd h ks a) : IsTupleKey knd h ks a := let ⟨o, i, n, h1, h2, h3, h4, _⟩ := x; ⟨o, i, n, h1, h2, h3, h4⟩
theorem IsN.keep {h h' : Heap} {ks : List K} {a : Addr} (x : IsN knd h ks a) (k : ∀ o, h.get? a = some o → h'.get? a = some o) : IsN knd h' ks a := let ⟨o, i, n, h1, h2⟩ := x; ⟨o, i, n, k o h1, h2⟩
variable {A : Around} {E : Value → Shared → Prop} {s : Shared}
theorem wpAny_seqItemsQ {M : Model} {a : Addr} {o : Obj} {items n} {Q : Option (Array Value) → Shared → Prop} (ho : s.heap.get? a = some o) (hd : o.data = .seq items n) (h : Q (some items) s) : wpAny M A (seqItems? (.ref a)) Q E s := by
 unfold seqItems?
 refine wpAny_bind (wpAny_load ho ?_)
 rw [hd]
 exact wpAny_pure h
theorem hashByValue_n {ks : List K} {a : Addr} {Q : Bool → Shared → Prop} (hk : IsN knd s.heap ks a) (h : Q true s) : wpAny (model prog w) A (hashByValue 8 (.ref a)) Q E s := by
 have hT := hk.key.typeIs
 obtain ⟨o, items, n, ho, _, hd, hi, hall⟩ := hk
 unfold hashByValue
 refine wpAny_bind (wpAny_specialOf hT F.slot_tuple_hash.lookup ?_)
 show wpAny _ _ (seqItems? (.ref a) >>= _) _ _ s
 refine wpAny_bind (wpAny_seqItemsQ ho hd ?_)
 refine wpAny_bind ?_
 show wpAny _ _ (forIn items _ _) _ _ s
 rw [← UM]
 refine wpAny_forIn_list _ (fun Cr r s' => r.1 = none ∧ s' = s ∧ ∀ v ∈ Cr, ∃ k t, v = Value.int k t) _ ?_ ?_ _ _ ⟨rfl, rfl, hall⟩
 ·rintro v Cr r s' ⟨hr, rfl, hall⟩
  obtain ⟨k, t, rfl⟩ := hall v Sy
  refine wpAny_bind (m := hashByValue 7 (.int k t)) (wpAny_pure ?_)
  simp only [Bool.not_true, Bool.false_eq_true, if_false]
  exact wpAny_pure ⟨rfl, rfl, fun u hu' => hall u (Sz _ hu')⟩
 ·rintro ⟨r1, r2⟩ s' ⟨hr, rfl, _⟩
  simp only at hr
  subst hr
  exact wpAny_pure h
theorem ofClass_n {ks : List K} {a : Addr} {Q : Bool → Shared → Prop} (hk : IsN knd s.heap ks a) (h : Q false s) : wpAny (model prog w) A (ofAClassStatement 8 (.ref a)) Q E s := by
 have hT := hk.key.typeIs
 obtain ⟨o, items, n, ho, _, hd, hi, hall⟩ := hk
 unfold ofAClassStatement
 refine wpAny_bind (wpAny_typeOf hT ?_)
 refine wpAny_bind (m := pure true) (wpAny_pure ?_)
 simp only [Bool.not_true, Bool.false_eq_true, if_false]
 refine wpAny_bind (wpAny_seqItemsQ ho hd ?_)
 refine wpAny_bind ?_
 show wpAny _ _ (forIn items _ _) _ _ s
 rw [← UM]
 refine wpAny_forIn_list _ (fun Cr r s' => r.1 = none ∧ s' = s ∧ ∀ v ∈ Cr, ∃ k t, v = Value.int k t) _ ?_ ?_ _ _ ⟨rfl, rfl, hall⟩
 ·rintro v Cr r s' ⟨hr, rfl, hall⟩
  obtain ⟨k, t, rfl⟩ := hall v Sy
  refine wpAny_bind (m := ofAClassStatement 7 (.int k t)) (wpAny_pure ?_)
  simp only [Bool.false_eq_true, if_false]
  exact wpAny_pure ⟨rfl, rfl, fun u hu' => hall u (Sz _ hu')⟩
 ·rintro ⟨r1, r2⟩ s' ⟨hr, rfl, _⟩
  simp only at hr
  subst hr
  exact wpAny_pure h
def Ns (knd : KeyKind prog w K) (h : Heap) (l : List Value) (ks : List K) : Prop := ∀ v ∈ l, ∃ b k', v = .ref b ∧ IsN knd h k' b ∧ k' ≠ ks
theorem unseen {ks : List K} {x : Addr} {Q : Bool → Shared → Prop} (hx : IsN knd s.heap ks x) {l : List Value} (hl : Ns knd s.heap l ks) (h : Q false s) : wpAny (model prog w) A (searchCouldBeSeen (.ref x) l) Q E s := by
 unfold searchCouldBeSeen
 refine wpAny_bind ?_
 refine wpAny_forIn_list _ (fun Cr r s' => r.1 = none ∧ s' = s ∧ Ns knd s.heap Cr ks) _ ?_ ?_ _ _ ⟨rfl, rfl, hl⟩
 ·rintro v Cr r s' ⟨hr, rfl, hall⟩
  obtain ⟨b, k', rfl, hb, hne⟩ := hall v Sy
  have hrest : Ns knd s'.heap Cr ks := fun u hu' => hall u (Sz _ hu')
  have hxb : (x == b) = false := by
   rw [beq_eq_false_iff_ne]
   intro e
   subst e
   exact hne (hb.key.inj hx.key)
  have hc : ((match (Value.ref x), (Value.ref b) with | .ref a, .ref b => a == b | _, _ => false) || (carriedByValue (.ref x) && carriedByValue (.ref b))) = false := by
   show ((x == b) || (false && false)) = false
   rw [hxb]; rfl
  show wpAny _ _ (if ((match (Value.ref x), (Value.ref b) with | .ref a, .ref b => a == b | _, _ => false) || (carriedByValue (.ref x) && carriedByValue (.ref b))) = true then _ else _) _ _ _
  rw [if_neg (by rw [hc]; exact Bool.false_ne_true)]
  refine wpAny_bind (wpAny_eqIsQuiet_tuple hx.key ?_)
  simp only [Bool.not_true, Bool.false_eq_true, if_false]
  refine wpAny_bind (wpAny_eqIsQuiet_tuple hb.key ?_)
  simp only [Bool.not_true, Bool.false_eq_true, if_false]
  refine wpAny_bind (ofClass_n hx ?_)
  simp only [Bool.false_eq_true, if_false]
  refine wpAny_bind (ofClass_n hb ?_)
  simp only [Bool.false_eq_true, if_false]
  exact wpAny_pure ⟨rfl, rfl, hrest⟩
 ·rintro ⟨r1, r2⟩ s' ⟨hr, rfl, _⟩
  simp only at hr
  subst hr
  exact wpAny_pure h
theorem search_free {S : Addr} {o : Obj} {es : Array (Int × Value)} {ep : Nat} {t : SetTable} (ho : s.heap.get? S = some o) (hd : o.data = .set es ep t) (hf : t.fits es.size = true) (hm : t.mask = 7 ∨ t.mask = 31) (hdm : t.dummies = #[])
 {x : Addr} {ks : List K} (hx : IsN knd s.heap ks x) (hes : ∀ e ∈ es.toList, ∃ b k', e.2 = Value.ref b ∧ IsN knd s.heap k' b ∧ k' ≠ ks) (hu : A.units < cLine) {h : Int} {Q : SetFound → Shared → Prop} (hQ : ∀ j, Q (.free j false) s) :
 ∀ (k F : Nat) (stand : Option Probe), k < F → k < 10 * turns t.mask → (stand.getD (t.probeStart h)).dummy = none → Hit t k (stand.getD (t.probeStart h)) → wpAny (model prog w) A (setSearchFrom S (.ref x) h true F stand) Q E s := by
 intro k
 induction k using Nat.strongRecOn with
 | ind k ih =>
   intro F stand hF hk hdn hh
   obtain ⟨F', rfl⟩ : ∃ F', F = F' + 1 := ⟨F - 1, by lia⟩
   unfold setSearchFrom
   refine wpAny_bind (wpAny_setState_of ho hd hf ?_)
   dsimp only
   have hgw : t.gaveWay = false := by
    unfold gaveWay
    rcases hm with z | z <;> rw [z] <;> rfl
   rw [hgw]
   simp only [Bool.false_eq_true, if_false]
   have bad : ∀ {ha : Nat → Int}, (∀ met, t.probe ha h (stand.getD (t.probeStart h)) = some met → False) → False := fun {ha} hn => by
    rcases go_hit (ha := ha) (h := h) hdm (10 * turns t.mask) k _ hk hdn hh with ⟨j, e⟩ | ⟨j, i, next, k', e, _⟩
    ·exact hn _ e
    ·exact hn _ e
   split
   ·next met heq =>
    rcases go_hit hdm (10 * turns t.mask) k _ hk hdn hh with ⟨j, e⟩ | ⟨j, i, next, k', e, r1, r2, r3, r4, r5⟩
    ·have e2 := Sj.inj (e.symm.trans heq)
     subst e2
     exact wpAny_pure (hQ j)
    ·have e2 := Sj.inj (e.symm.trans heq)
     subst e2
     dsimp only
     have hps : t.place.size = es.size := by
      unfold fits at hf
      rw [Bool.and_eq_true] at hf
      exact eq_of_beq hf.1
     have hil : i < es.size := by
      have := (Array.getElem?_eq_some_iff.mp r2).1
      lia
     obtain ⟨h0, y, hei⟩ : ∃ h0 y, es[i]? = some (h0, y) := ⟨es[i].1, es[i].2, UN hil⟩
     obtain ⟨b, kb, eb, hb, hne⟩ := hes (h0, y) (T5 (by rw [Array.getElem?_toList]; exact hei))
     have eb : y = .ref b := eb
     subst eb
     have hNs : Ns knd s.heap (List.map (fun x => x.snd) (Array.filter (fun x => x.fst == h) es).toList) ks := fun v hv => by
      obtain ⟨e0, he0, rfl⟩ := UA.mp hv
      rw [Array.toList_filter] at he0
      obtain ⟨b', k2, q1, q2, q3⟩ := hes e0 (Sr.mp he0).1
      exact ⟨b', k2, q1, q2, q3⟩
     have hsm : t.sameMemory t.moves t.mask = some true := by unfold sameMemory; rw [if_pos (beq_self_eq_true _)]
     rcases Bool.eq_false_or_eq_true t.led with hl | hl
     ·simp only [hl, Bool.not_true, Bool.false_eq_true, if_false]
      rw [hei]
      dsimp only
      refine wpAny_bind (wpAny_holding (wpAny_eqBool_tuple hu hb.key hx.key ?_))
      rw [decide_eq_false hne]
      refine wpAny_bind (wpAny_setState_of ho hd hf ?_)
      simp only [Bool.and_false, Bool.false_eq_true, if_false, hsm, if_true, r1, hei]
      refine wpAny_bind (wpAny_isSame_ref_self ?_)
      simp only [if_true]
      refine wpAny_bind (wpAny_pure ?_)
      simp only [Bool.false_eq_true, if_false]
      exact ih k' r5 F' (some next) (by lia) (by lia) r3 r4
     ·simp only [hl, Bool.not_false, if_true]
      refine wpAny_bind (unseen hx hNs ?_)
      simp only [Bool.false_eq_true, if_false]
      rw [hei]
      dsimp only
      refine wpAny_bind (wpAny_holding (wpAny_eqBool_tuple hu hb.key hx.key ?_))
      rw [decide_eq_false hne]
      refine wpAny_bind (wpAny_setState_of ho hd hf ?_)
      simp only [Bool.and_false, Bool.false_eq_true, if_false, hsm, if_true, r1, hei]
      refine wpAny_bind (wpAny_isSame_ref_self ?_)
      simp only [if_true]
      refine wpAny_bind (wpAny_pure ?_)
      simp only [Bool.false_eq_true, if_false]
      exact ih k' r5 F' (some next) (by lia) (by lia) r3 r4
   ·next heq => exact (bad heq).elim
end
end St
end L2
namespace L2
open PySem PySem.Spec PyProof.Rows
namespace St
open SetTable
theorem free_ok {owner : Array (Option Nat)} {b e : Nat} (he : owner.getD e (some 0) = none) : ∀ (fuel m n : Nat), m < fuel → (bs 31 b (n + m)).1 = e →
 ∃ j, layClean.free 31 owner fuel (bs 31 b n).1 (bs 31 b n).2 = some j ∧ owner.getD j (some 0) = none
 | fuel + 1, m, n, hm, hb => by
   unfold layClean.free
   split
   ·next k hk =>
    have := List.find?_some hk
    exact ⟨_, rfl, Option.isNone_iff_eq_none.mp this⟩
   ·next hk =>
    cases m with
    | zero =>
      exfalso
      rw [List.find?_eq_none] at hk
      have h0 : (0 : Nat) ∈ So (runEnd 31 (bs 31 b n).1 + 1 - (bs 31 b n).1) := Ss.mpr (by unfold runEnd; split <;> lia)
      have h1 := hk 0 h0
      rw [TL] at hb h1
      rw [hb, he] at h1
      exact h1 rfl
    | succ m =>
      obtain ⟨j, h1, h2⟩ := free_ok he fuel m (n + 1) (by lia) (by rw [show n + 1 + m = n + (m + 1) by lia]; exact hb)
      exact ⟨j, h1, h2⟩
def lv (owner : Array (Option Nat)) (j : Nat) : Option (Nat × Nat) := (owner.getD j none).map (j, ·)
theorem lv_set {owner : Array (Option Nat)} {j k : Nat} (hj : owner.getD j (some 0) = none) (hs : owner.size = 32) : (((So 32).filterMap (lv (owner.setIfInBounds j (some k)))).map (·.2)).Perm (k :: ((So 32).filterMap (lv owner)).map (·.2)) ∧ j < 32 := by
 have hjl : j < 32 := by
  refine Nat.lt_of_not_le fun hle => ?_
  rw [UO, UG (by lia)] at hj
  cases hj
 refine ⟨?_, hjl⟩
 have hsplit : So 32 = So j ++ j :: (So 32).drop (j + 1) := by
  have h1 : (So 32)[j]? = some j := UP hjl
  obtain ⟨hlt, hg⟩ := SF.mp h1
  have h2 := (UQ j (So 32)).symm
  rw [Uw hlt, hg, List.take_range, Te (by lia)] at h2
  exact h2
 have hne1 : ∀ a ∈ So j, lv (owner.setIfInBounds j (some k)) a = lv owner a := fun a ha => by
  have : a ≠ j := by have := Ss.mp ha; lia
  unfold lv
  rw [UO, UO, UR (Ne.symm this)]
 have hne2 : ∀ a ∈ (So 32).drop (j + 1), lv (owner.setIfInBounds j (some k)) a = lv owner a := fun a ha => by
  have : a ≠ j := by
   obtain ⟨i, hi⟩ := List.getElem?_of_mem ha
   rw [U8] at hi
   have hi2 := (SF.mp hi)
   obtain ⟨hl, hi3⟩ := hi2
   rw [List.getElem_range] at hi3
   lia
  unfold lv
  rw [UO, UO, UR (Ne.symm this)]
 have hnew : lv (owner.setIfInBounds j (some k)) j = some (j, k) := by
  unfold lv
  rw [UO, Array.getElem?_setIfInBounds_self_of_lt (by lia)]; rfl
 have hold : lv owner j = none := by
  unfold lv
  rw [UO] at hj ⊢
  have hlt : j < owner.size := by lia
  rw [UN hlt] at hj ⊢
  show (owner[j]).map _ = none
  have hj' : owner[j] = none := hj
  rw [hj']; rfl
 have hcong : ∀ {l : List Nat}, (∀ a ∈ l, lv (owner.setIfInBounds j (some k)) a = lv owner a) → l.filterMap (lv (owner.setIfInBounds j (some k))) = l.filterMap (lv owner) := fun {l} h => by
  induction l with
  | nil => rfl
  | cons a l ih =>
    rw [Sx, Sx, h a Sy, ih fun b hb => h b (Sz _ hb)]
 rw [hsplit, List.filterMap_append, List.filterMap_append, List.filterMap_cons_some hnew, List.filterMap_cons_none hold, hcong hne1, hcong hne2, TY, TY, Tq]
 exact List.perm_middle
def Own (owner : Array (Option Nat)) (k : Nat) : Prop := owner.size = 32 ∧ (((So 32).filterMap (lv owner)).map (·.2)).Perm (So k)
theorem own_free {owner : Array (Option Nat)} {k : Nat} (ho : Own owner k) (hk : k < 32) : ∃ e, e < 32 ∧ owner.getD e (some 0) = none := by
 refine Classical.byContradiction fun hn => ?_
 have hall : ∀ e, e < 32 → owner.getD e (some 0) ≠ none := fun e he z => hn ⟨e, he, z⟩
 have hlen := ho.2.length_eq
 rw [T7, UL] at hlen
 have hall2 : ∀ a ∈ So 32, (lv owner a).isSome = true := fun a ha => by
  have ha' := Ss.mp ha
  have h1 := hall a ha'
  unfold lv
  rw [UO] at h1 ⊢
  have hlt : a < owner.size := by rw [ho.1]; exact ha'
  rw [UN hlt] at h1 ⊢
  cases hc : owner[a] with
  | none => rw [hc] at h1; exact absurd rfl h1
  | some v => show ((some v).map (fun x => (a, x))).isSome = true; rfl
 have hfl : ∀ {l : List Nat}, (∀ a ∈ l, (lv owner a).isSome = true) → (l.filterMap (lv owner)).length = l.length := fun {l} h => by
  induction l with
  | nil => rfl
  | cons a l ih =>
    obtain ⟨v, hv⟩ := Option.isSome_iff_exists.mp (h a Sy)
    rw [List.filterMap_cons_some hv, TR, TR, ih fun b hb => h b (Sz _ hb)]
 rw [hfl hall2, UL] at hlen
 lia
def stp (acc : Option (Array (Option Nat) × Nat)) (h : Int) : Option (Array (Option Nat) × Nat) := do
 let (owner, k) ← acc
 let j ← layClean.free 31 owner (turns 31) (bits h % (31 + 1)) (bits h)
 pure (owner.setIfInBounds j (some k), k + 1)
theorem stp_ok {owner : Array (Option Nat)} {k : Nat} (ho : Own owner k) (hk : k < 32) (h : Int) : ∃ owner', stp (some (owner, k)) h = some (owner', k + 1) ∧ Own owner' (k + 1) := by
 obtain ⟨e, he, hn⟩ := own_free ho hk
 obtain ⟨n, hn1, hn2⟩ := bs_hits (mask := 31) (b := bits h) (.inr rfl) (bits_lt h) (show e < 31 + 1 by lia)
 obtain ⟨j, hj1, hj2⟩ := free_ok (owner := owner) (b := bits h) hn (turns 31) n 0 (by unfold turns; lia) (by rw [UK]; exact hn2)
 have hp := lv_set (k := k) hj2 ho.1
 refine ⟨owner.setIfInBounds j (some k), ?_, ?_, ?_⟩
 ·have hj1' : layClean.free 31 owner (turns 31) (bits h % (31 + 1)) (bits h) = some j := hj1
  show (do let j ← layClean.free 31 owner (turns 31) (bits h % (31 + 1)) (bits h); pure (owner.setIfInBounds j (some k), k + 1)) = _
  rw [hj1']; rfl
 ·rw [Array.size_setIfInBounds]; exact ho.1
 ·refine hp.1.trans ?_
  rw [show So (k + 1) = So k ++ [k] from Uz]
  exact (List.Perm.cons k ho.2).trans (US (l₁ := [k]))
theorem fold_ok : ∀ (hs : List Int) {owner : Array (Option Nat)} {k : Nat}, Own owner k → k + hs.length ≤ 32 → ∃ owner', hs.foldl stp (some (owner, k)) = some (owner', k + hs.length) ∧ Own owner' (k + hs.length)
 | [], owner, k, ho, _ => ⟨owner, rfl, ho⟩
 | h :: hs, owner, k, ho, hl => by
   rw [TR] at hl
   obtain ⟨o1, e1, ho1⟩ := stp_ok ho (by lia) h
   obtain ⟨o2, e2, ho2⟩ := fold_ok hs ho1 (by lia)
   refine ⟨o2, ?_, ?_⟩
   ·rw [List.foldl_cons, e1, e2, TR, show k + 1 + hs.length = k + (hs.length + 1) by lia]
   ·rw [TR, show k + (hs.length + 1) = k + 1 + hs.length by lia]; exact ho2
theorem own_none : Own (UT 32 none) 0 := by
 refine ⟨Array.size_replicate, ?_⟩
 have : (So 32).filterMap (lv (UT 32 none)) = [] := by decide +kernel
 rw [this]; exact List.Perm.refl _
theorem laid_ok (hashes : Array Int) (hn : hashes.size ≤ 32) (finger moves : Nat) (led plain : Bool) : ∃ t order, laid 31 finger moves led plain hashes = some (t, order) ∧ t.mask = 31 ∧ t.dummies = #[] ∧ t.place.size = hashes.size ∧ order.toList.Perm (So hashes.size) := by
 obtain ⟨owner, e, ho⟩ := fold_ok hashes.toList own_none (by rw [SI]; lia)
 have hc : layClean 31 hashes = some owner := by
  unfold layClean
  have e' : hashes.foldl stp (some (UT 32 none, 0)) = some (owner, 0 + hashes.toList.length) := by rw [← Array.foldl_toList]; exact e
  have e2 : hashes.foldl (init := some (UT (31 + 1) none, 0)) (fun acc h => do
   let (owner, k) ← acc
   let j ← layClean.free 31 owner (turns 31) (bits h % (31 + 1)) (bits h)
   pure (owner.setIfInBounds j (some k), k + 1)) = some (owner, 0 + hashes.toList.length) := e'
  rw [e2]; rfl
 have hp := ho.2
 rw [UK, SI] at hp
 refine ⟨{ mask := 31, place := (((So 32).filterMap (lv owner)).map (·.1)).toArray, dummies := #[], finger, led, moves, plain }, (((So 32).filterMap (lv owner)).map (·.2)).toArray, ?_, rfl, rfl, ?_, ?_⟩
 ·unfold laid
  rw [hc]
  rfl
 ·have := hp.length_eq
  rw [T7, UL] at this
  show (((So 32).filterMap (lv owner)).map (·.1)).toArray.size = _
  rw [Th, T7]; exact this
 ·exact hp
end St
end L2
namespace L2
open PySem PySem.Spec PyProof.Rows
namespace St
open SetTable
section
variable {prog : Program} {w : World} {K : Type} [DecidableEq K] (knd : KeyKind prog w K) (G : Addr → Prop)
def SetN (h : Heap) (S : Addr) (keys : List (List K)) : Prop := ∃ o es ep t, h.get? S = some o ∧ o.ExactSet ∧ o.data = .set es ep t ∧ (t.mask = 7 ∧ es.size ≤ 4 ∨ t.mask = 31) ∧ t.dummies = #[] ∧ t.place.size = es.size ∧ es.size = keys.length ∧
 ∀ e ∈ es.toList, ∃ b k, e.2 = Value.ref b ∧ IsN knd h k b ∧ k ∈ keys ∧ G b
variable {knd} {G}
theorem SetN.keep {h h' : Heap} {S : Addr} {keys : List (List K)} (x : SetN knd G h S keys) (k : ∀ b o, b = S ∨ G b → h.get? b = some o → h'.get? b = some o) : SetN knd G h' S keys := by
 obtain ⟨o, es, ep, t, h1, h2, h3, h4, h5, h6, h7, h8⟩ := x
 refine ⟨o, es, ep, t, k _ _ (.inl rfl) h1, h2, h3, h4, h5, h6, h7, fun e he => ?_⟩
 obtain ⟨b, k', q1, q2, q3, q4⟩ := h8 e he
 exact ⟨b, k', q1, q2.keep fun o e => k _ o (.inr q4) e, q3, q4⟩
variable {A : Around} {E : Value → Shared → Prop} {s : Shared}
theorem insert_size {α : Type} (xs : Array α) (p : Nat) (x : α) : (insertAt xs p x).size = xs.size + 1 := by
 have h := (SetTable.insertAt_perm xs p x).length_eq
 rw [SI, SI, UU] at h
 exact h
theorem keep_but {h h' : Heap} {S : Addr} (sb : Heap.SameBut S h h') {ks : List K} {b : Addr} {o : Obj} {es ep t} (hS : h.get? S = some o) (hd : o.data = .set es ep t) (x : IsN knd h ks b) : IsN knd h' ks b := by
 obtain ⟨o', items, n, h1, h2, h3, h4⟩ := id x
 have hne : b ≠ S := by
  rintro rfl
  rw [hS] at h1
  cases h1
  rw [hd] at h3
  cases h3
 exact x.keep fun o'' e => (sb.2 b hne).trans e
theorem add_tail {S : Addr} {o : Obj} {es : Array (Int × Value)} {ep : Nat} {t : SetTable} (ho : s.heap.get? S = some o) (hcl : o.ExactSet) (hd : o.data = .set es ep t) {es1 : Array (Int × Value)} {t1 : SetTable} {keys : List (List K)}
 (hmk : t1.mask = 7 ∧ es1.size ≤ 5 ∨ t1.mask = 31) (hdm : t1.dummies = #[]) (hps : t1.place.size = es1.size) (hn : es1.size = keys.length) (h17 : es1.size ≤ 17) (hel : ∀ e ∈ es1.toList, ∃ b k, e.2 = Value.ref b ∧ IsN knd s.heap k b ∧ k ∈ keys ∧ G b) {m : Nat} (hm : m = es1.size) {Q : Bool → Shared → Prop}
 (h : ∀ h', Heap.SameBut S s.heap h' → SetN knd G h' S keys → Q true { s with heap := h' }) :
 wpAny (model prog w) A (do storeSet S es1 t1; if (!false && t1.tooFull) = true then do { setRelay S (grown m); pure true } else pure true) Q E s := by
 refine wpAny_bind (wpAny_storeSet_of ho hd ?_ (Sv h17 (by decide)))
 have hg1 : (s.heap.update S (Obj.putSet es1 t1)).get? S = some { o with data := .set es1 (ep + 1) t1 } := by
  have := Heap.get?_update_self (Obj.putSet es1 t1) ho (by rw [putSet_of _ _ hd]; rfl)
  rw [putSet_of _ _ hd] at this; exact this
 have sb1 : Heap.SameBut S s.heap (s.heap.update S (Obj.putSet es1 t1)) := Heap.SameBut.update ..
 generalize s.heap.update S (Obj.putSet es1 t1) = h1 at hg1 sb1 ⊢
 have hel1 : ∀ e ∈ es1.toList, ∃ b k, e.2 = Value.ref b ∧ IsN knd h1 k b ∧ k ∈ keys ∧ G b := fun e he => by
  obtain ⟨b, k, q1, q2, q3, q4⟩ := hel e he
  exact ⟨b, k, q1, keep_but sb1 ho hd q2, q3, q4⟩
 have hfl : SetTable.fill t1 = es1.size := by unfold SetTable.fill; rw [hdm, hps]; rfl
 by_cases hfull : t1.tooFull = true
 ·have hf5 : es1.size * 5 ≥ t1.mask * 3 := by
   unfold tooFull at hfull
   rw [hfl] at hfull
   exact of_decide_eq_true hfull
  have hm7 : t1.mask = 7 ∧ es1.size = 5 := by
   rcases hmk with z | z
   ·rw [z.1] at hf5; exact ⟨z.1, by lia⟩
   ·rw [z] at hf5; lia
  simp only [hfull, Bool.not_false, Bool.and_self, if_true]
  refine wpAny_bind ?_
  unfold setRelay
  have hfit1 : t1.fits es1.size = true := by
   unfold fits
   rw [hfl, hps, hm7.1, hm7.2]; rfl
  refine wpAny_bind (wpAny_setState_of (s := { s with heap := h1 }) (o := { o with data := .set es1 (ep + 1) t1 }) hg1 rfl hfit1 ?_)
  dsimp only
  have hgr : grown m = 20 := by rw [hm, hm7.2]; rfl
  have hsa : sizeAbove 20 = 32 := by decide
  rw [hgr, hsa, if_neg (by decide)]
  have hrl : t1.relaid (es1.map (·.1)) 20 = laid 31 t1.finger (t1.movedTo 31) t1.led t1.plain (es1.map (·.1)) := by
   unfold relaid
   rw [hsa]
  obtain ⟨t2, order, el, et1, et2, et3, eo⟩ := laid_ok (es1.map (·.1)) (by rw [Array.size_map]; lia) t1.finger (t1.movedTo 31) t1.led t1.plain
  rw [Array.size_map] at et3 eo
  have hperm : (order.filterMap (es1[·]?)).toList.Perm es1.toList := by
   rw [Array.toList_filterMap]
   have := eo.filterMap (fun i => es1[i]?)
   rw [filterMap_getElem?_range] at this
   exact this
  have hsz2 : (order.filterMap (es1[·]?)).size = es1.size := by
   have := hperm.length_eq
   rw [SI, SI] at this
   exact this
  rw [hrl, el]
  refine wpAny_bind ?_
  show wpAny _ _ (if ((order.filterMap (es1[·]?)).size != es1.size) = true then _ else pure (order.filterMap (es1[·]?), t2)) _ _ _
  rw [if_neg (by rw [hsz2]; simp)]
  refine wpAny_pure ?_
  generalize order.filterMap (es1[·]?) = es2 at hperm hsz2 ⊢
  refine wpAny_storeSet_of (s := { s with heap := h1 }) (o := { o with data := .set es1 (ep + 1) t1 }) hg1 rfl ?_ (by rw [hsz2]; exact Sv h17 (by decide))
  have hg2 : (h1.update S (Obj.putSet es2 t2)).get? S = some { o with data := .set es2 (ep + 1 + 1) t2 } := by
   have := Heap.get?_update_self (Obj.putSet es2 t2) hg1 (by rw [putSet_of (es := es1) (ep := ep + 1) (t := t1) _ _ rfl]; rfl)
   rw [putSet_of (es := es1) (ep := ep + 1) (t := t1) _ _ rfl] at this; exact this
  have sb2 : Heap.SameBut S h1 (h1.update S (Obj.putSet es2 t2)) := Heap.SameBut.update ..
  have hel2 : ∀ e ∈ es2.toList, ∃ b k, e.2 = Value.ref b ∧ IsN knd (h1.update S (Obj.putSet es2 t2)) k b ∧ k ∈ keys ∧ G b := fun e he => by
   obtain ⟨b, k, q1, q2, q3, q4⟩ := hel1 e (hperm.mem_iff.mp he)
   exact ⟨b, k, q1, keep_but (es := es1) (ep := ep + 1) (t := t1) sb2 hg1 rfl q2, q3, q4⟩
  refine wpAny_pure (h (h1.update S (Obj.putSet es2 t2)) ⟨sb2.1.trans sb1.1, fun b hb => (sb2.2 b hb).trans (sb1.2 b hb)⟩ ⟨_, _, _, _, hg2, hcl, rfl, .inr et1, et2, by rw [et3, hsz2], by rw [hsz2]; exact hn, hel2⟩)
 ·have hfull' : t1.tooFull = false := by simpa using hfull
  simp only [hfull', Bool.and_false, Bool.false_eq_true, if_false]
  refine wpAny_pure (h h1 sb1 ⟨_, _, _, _, hg1, hcl, rfl, ?_, hdm, hps, hn, hel1⟩)
  rcases hmk with z | z
  ·refine .inl ⟨z.1, ?_⟩
   unfold tooFull at hfull'
   rw [hfl, z.1] at hfull'
   have hf' := of_decide_eq_false hfull'
   lia
  ·exact .inr z
theorem add_n {S x : Addr} {ks : List K} {keys : List (List K)} {hsh : Int} {Q : Bool → Shared → Prop} (hS : SetN knd G s.heap S keys) (hx : IsN knd s.heap ks x) (hGx : G x) (hne : ks ∉ keys) (hl : keys.length ≤ 16) (hu : A.units < cLine)
 (h : ∀ h', Heap.SameBut S s.heap h' → SetN knd G h' S (ks :: keys) → Q true { s with heap := h' }) : wpAny (model prog w) A (setAddHashed S (.ref x) hsh) Q E s := by
 obtain ⟨o, es, ep, t, ho, hcl, hd, hmk, hdm, hps, hn, hel⟩ := hS
 have hm : t.mask = 7 ∨ t.mask = 31 := hmk.elim (fun z => .inl z.1) .inr
 have hsz : es.size ≤ t.mask := by rcases hmk with z | z <;> lia
 have hfl : SetTable.fill t = es.size := by unfold SetTable.fill; rw [hdm, hps]; rfl
 have hfit : t.fits es.size = true := by
  unfold fits
  rw [hfl, hps]
  simp
  exact hsz
 have hes : ∀ e ∈ es.toList, ∃ b k', e.2 = Value.ref b ∧ IsN knd s.heap k' b ∧ k' ≠ ks := fun e he => by
  obtain ⟨b, k, q1, q2, q3, _⟩ := hel e he
  exact ⟨b, k, q1, q2, fun z => hne (z ▸ q3)⟩
 unfold setAddHashed setAddHashedIn
 refine wpAny_holding (wpAny_bind (wpAny_setState_of ho hd hfit ?_))
 dsimp only
 have hbs : byScan (.ref x) es = false := rfl
 rw [hbs]
 simp only [Bool.false_eq_true, if_false]
 obtain ⟨k, hk1, hk2⟩ := start_hit hm hdm (by rw [hps]; exact hsz) hsh
 have hkF : k < 100000 := by
  unfold turns at hk1
  rcases hm with z | z <;> rw [z] at hk1 <;> lia
 refine wpAny_bind (m := setSearch S (.ref x) hsh true) (search_free ho hd hfit hm hdm hx hes hu (fun j => ?_) k 100000 none hkF hk1 rfl hk2)
 dsimp only
 refine wpAny_bind (wpAny_setState_of ho hd hfit ?_)
 dsimp only
 have hput : (t.put j).1 = { t with place := insertAt t.place (t.put j).2 j } := by
  unfold put
  have hz : has t.dummies j = false := by rw [hdm]; unfold has; rfl
  simp only [hz, Bool.false_eq_true, if_false]
 have hpl1 : (t.put j).1.place.size = es.size + 1 := by rw [hput]; show (insertAt _ _ _).size = _; rw [insert_size, hps]
 have hdm1 : (t.put j).1.dummies = #[] := by rw [hput]; exact hdm
 have hmk1 : (t.put j).1.mask = t.mask := by rw [hput]
 generalize (t.put j).1 = t1 at hpl1 hdm1 hmk1 ⊢
 generalize (t.put j).2 = p
 have hsz1 : (insertAt es p (hsh, Value.ref x)).size = es.size + 1 := insert_size _ _ _
 have hel1 : ∀ e ∈ (insertAt es p (hsh, Value.ref x)).toList, ∃ b k, e.2 = Value.ref b ∧ IsN knd s.heap k b ∧ k ∈ ks :: keys ∧ G b := fun e he => by
  have he' := (SetTable.insertAt_perm es p (hsh, Value.ref x)).mem_iff.mp he
  rw [Array.toList_push] at he'
  rcases SD.mp he' with z | z
  ·obtain ⟨b, k, q1, q2, q3, q4⟩ := hel e z
   exact ⟨b, k, q1, q2, Sz _ q3, q4⟩
  ·rw [Ub.mp z]
   exact ⟨x, ks, rfl, hx, Sy, hGx⟩
 have tail := add_tail (knd := knd) (G := G) (A := A) (E := E) (Q := Q) ho hcl hd (es1 := insertAt es p (hsh, Value.ref x)) (t1 := t1) (keys := ks :: keys) (by rw [hmk1, hsz1]; rcases hmk with z | z; exact .inl ⟨z.1, by lia⟩; exact .inr z) hdm1 (by rw [hpl1, hsz1]) (by rw [hsz1, hn]; rfl) (by rw [hsz1]; lia) hel1 (m := es.size + 1) (by rw [hsz1]) h
 split
 ·refine wpAny_bind (hashByValue_n hx ?_)
  simp only [if_true]
  exact tail
 ·refine wpAny_bind (wpAny_pure ?_)
  simp only [if_true]
  exact tail
end
end St
end L2
namespace L2
open PySem PySem.Spec PyProof.Rows
namespace St
section
variable {prog : Program} {w : World} {K : Type} [DecidableEq K] {knd : KeyKind prog w K} {G : Addr → Prop} {A : Around} {R : Result → Shared → Prop} {I : Addr} {fp wr : List Addr} {GG : Array GenState → Array GenState → Prop} {n : Nat} {P : Nat → Value → Prop} {St : Nat → Shared → Prop}
def ksAt (key : Nat → List K) : Nat → List (List K)
 | 0 => []
 | i + 1 => key i :: ksAt key i
theorem ksAt_length (key : Nat → List K) : ∀ i, (ksAt key i).length = i
 | 0 => rfl
 | i + 1 => by show (ksAt key i).length + 1 = i + 1; rw [ksAt_length key i]
theorem ksAt_mem {key : Nat → List K} {k : List K} : ∀ {i}, k ∈ ksAt key i → ∃ j, j < i ∧ key j = k
 | i + 1, h => by
   rcases SA.mp h with z | z
   ·exact ⟨i, U9 _, z.symm⟩
   ·obtain ⟨j, h1, h2⟩ := ksAt_mem z
    exact ⟨j, Ua h1, h2⟩
theorem turn_of {S : Addr} {s : Shared} (hz : wpAny (model prog w) A.in1 (Builtin.«set.update.loop» ⟨[.ref S, .ref I], []⟩)
 (fun fin s' => match fin with | .done f => R (.ok f) s' | .again c' => c'.quiet = true ∧ codeAny (model prog w) A c' R s') (fun e s' => R (.error e) s') s) :
 codeAny (model prog w) A (.builtin "set.update.loop" ⟨[.ref S, .ref I], []⟩) R s :=
 codeAny_builtin F.entry_set_update_loop ((Around.under_plainId F.plain_set_update_loop (A := A) ⟨[.ref S, .ref I], []⟩).symm ▸ hz)
theorem loop_n (W : WalksS prog w A.in1 I fp wr GG n P St) (S : Addr) (hSf : S ∉ fp) (key : Nat → List K) (adr : Nat → Addr) (hval : ∀ i v, P i v → v = Value.ref (adr i)) (hG : ∀ i, i < n → G (adr i)) (hGw : ∀ b, G b → b ∉ wr ∧ b ≠ S)
 (hinj : ∀ i j, i < n → j < n → key i = key j → i = j) (hn : n ≤ 17) (hu : A.units + 1 < cLine) (left i : Nat) (s : Shared) (hk : i + left = n) (hst : St i s) (hN : ∀ j, j < n → IsN knd s.heap (key j) (adr j)) (hS : SetN knd G s.heap S (ksAt key i))
 (hR : ∀ s', Moved (S :: wr) GG s s' → SetN knd G s'.heap S (ksAt key n) → R (.ok (.ret .none)) s') : codeAny (model prog w) A (.builtin "set.update.loop" ⟨[.ref S, .ref I], []⟩) R s := by
 have grow : ∀ {a b : Shared}, Moved wr GG a b → Moved (S :: wr) GG a b := fun m => m.mono fun _ => Sz _
 have stay : ∀ {a b : Shared}, Moved wr GG a b → ∀ c o, c = S ∨ G c → a.heap.get? c = some o → b.heap.get? c = some o := fun m c o hc => m.heap c o (hc.elim (fun z => z ▸ mt (W.sub _) hSf) fun z => (hGw c z).1)
 induction left generalizing i s with
 | zero =>
   obtain rfl : i = n := by lia
   refine turn_of (show wpAny (model prog w) A.in1 (pyNext (Value.ref I) >>= _) _ _ s from wpAny_bind (W.done s _ _ hst fun s' m => ?_))
   exact wpAny_pure (hR s' (grow m) (hS.keep (stay m)))
 | succ left ih =>
   have hlt : i < n := by lia
   refine turn_of (show wpAny (model prog w) A.in1 (pyNext (Value.ref I) >>= _) _ _ s from wpAny_bind (W.item i s _ _ hlt hst fun v s' hP hst' m => ?_))
   obtain rfl := hval i v hP
   have hN' : ∀ j, j < n → IsN knd s'.heap (key j) (adr j) := fun j hj => (hN j hj).keep fun o e => stay m _ o (.inr (hG j hj)) e
   have hS' : SetN knd G s'.heap S (ksAt key i) := hS.keep (stay m)
   refine wpAny_bind (m := holding [Value.ref (adr i)] (setAdd S (Value.ref (adr i)))) (wpAny_holding ?_)
   unfold setAdd
   refine wpAny_holding (wpAny_bind (wpAny_pyHash_tuple hu (hN' i hlt).key ?_))
   refine add_n (knd := knd) (G := G) (s := { s' with toks := s'.toks + ((key i).length + 1) }) hS' (hN' i hlt) (hG i hlt) (fun z => ?_) (by rw [ksAt_length]; lia) hu fun h' sb hS2 => ?_
   ·obtain ⟨j, j1, j2⟩ := ksAt_mem z
    have := hinj j i (by lia) hlt j2
    lia
   have other : ∀ c o, c ≠ S → s'.heap.get? c = some o → h'.get? c = some o := fun c o hc e => (sb.2 c hc).trans e
   refine wpAny_pure ⟨plainId_quiet F.plain_set_update_loop _, ih (i + 1) _ (by lia) (W.frame _ s' _ _ hst' (UH _ _) fun b hb o e => other b o (fun z => hSf (z ▸ hb)) e) (fun j hj => (hN' j hj).keep fun o e => other _ o (hGw _ (hG j hj)).2 e) hS2 fun s'' m2 hS3 => ?_⟩
   exact hR s'' (((grow m).then_heap (UH _ _) fun b o hb e => other b o (fun z => hb (z ▸ Sy)) e).trans W.gtrans m2) hS3
end
section
variable {prog : Program} {w : World} {K : Type} [DecidableEq K] {knd : KeyKind prog w K} {A : Around} {E : Value → Shared → Prop} {s : Shared}
abbrev nS (led : Bool) : Obj := { cls := .type "set", dict := none, data := .set #[] 0 (.fresh 0 0 led) }
abbrev nI (l : Addr) : Obj := { cls := .type "list_iterator", data := .fields #[.ref l, .int 0 0] }
theorem init_n {l : Addr} {items : Array Value} (led : Bool) (key : Nat → List K) (adr : Nat → Addr) (hh : A.handled = none) (hl : s.heap.IsList l items) (hv : ∀ (i : Nat) (v : Value), items[i]? = some v → v = Value.ref (adr i)) (hN : ∀ j, j < items.size → IsN knd s.heap (key j) (adr j))
 (hinj : ∀ i j, i < items.size → j < items.size → key i = key j → i = j) (hb : items.size ≤ 17) (hu : A.units + 20 < cLine) {Q : Fin → Shared → Prop} {E' : Value → Shared → Prop}
 (h : ∀ (h' : Heap) (tk : Nat), SetN knd (fun b => b < s.heap.objs.size) h' s.heap.objs.size (ksAt key items.size) → (∀ b o, s.heap.get? b = some o → h'.get? b = some o) → Q (.done (.ret .none)) { s with heap := h', toks := tk }) :
 wpAny (model prog w) A (Builtin.«set.__init__» ⟨[.ref s.heap.objs.size, .ref l], []⟩) Q E' { s with heap := s.heap.push (nS led) } := by
 have lS : l < s.heap.objs.size := by obtain ⟨_, e, _⟩ := hl; exact Heap.lt_size e
 obtain ⟨⟨_, od, _, osl⟩, el, hc, nl, hd⟩ := id hl
 simp only at hc hd; subst hc hd
 have el1 : (s.heap.push (nS led)).get? l = some { cls := .type "list", dict := od, data := .seq items nl, slots := osl } := Heap.get?_push_of_some _ el
 have eS : (s.heap.push (nS led)).get? s.heap.objs.size = some (nS led) := Heap.get?_push_size _ rfl
 have hl1 : (s.heap.push (nS led)).IsList l items := ⟨_, el1, rfl, nl, rfl⟩
 have t1 := F.sub_list_set; have t2 := F.sub_list_frozenset; have t3 : (Value.type "list" == Value.type "dict") = false := by decide
 unfold Builtin.«set.__init__» noKeywords Builtin.Frozenset.updateFrom
 generalize hPI : pyIter = PI; wp_walk; subst hPI
 have zS : (s.heap.push (nS led)).objs.size = s.heap.objs.size + 1 := Heap.size_push ..
 refine wpAny_pyIter_list hl1 (wpAny_bind (wpAny_runValue ?_))
 have up : ∀ b o, s.heap.get? b = some o → ((s.heap.push (nS led)).push (nI l)).get? b = some o := fun b o e => Heap.get?_push_of_some _ (Heap.get?_push_of_some _ e)
 have lI : l ≠ (s.heap.push (nS led)).objs.size := by rw [zS]; exact Sn (Ua lS)
 refine loop_n (knd := knd) (G := fun b => b < s.heap.objs.size) ((Walks.list (A := A.in1) hh _ l lI items).toS) s.heap.objs.size ?_ key adr (fun i v hP => hv i v hP) (fun i hi => ?_) (fun b hb => ⟨?_, Sn hb⟩) hinj hb (by lia) items.size 0 _ (UK _)
  ⟨⟨_, Heap.get?_push_size _ rfl, rfl, rfl⟩, hl1.push _⟩ (fun j hj => (hN j hj).keep fun o e => up _ _ e) ⟨_, _, _, _, Heap.get?_push_of_some _ eS, ⟨rfl, rfl, rfl⟩, rfl, .inl ⟨rfl, SN _⟩, rfl, rfl, rfl, (fun e he => by simp at he)⟩ ?_
 ·rw [zS]; intro hm
  rcases SA.mp hm with z | z
  ·exact absurd z (Sn (U9 _))
  ·exact absurd (Ub.mp z) (SJ lS)
 ·obtain ⟨_, _, _, e, _⟩ := hN i hi; exact Heap.lt_size e
 ·rw [zS]; intro hm
  exact absurd (Ub.mp hm) (Sn (Ua hb))
 rintro ⟨h', g', d', tk', os'⟩ m hS'
 obtain rfl : g' = s.gens := m.gens
 obtain rfl : d' = s.drawn := m.drawn
 obtain rfl : os' = s.os := m.os
 refine wpAny_pure (wpAny_pure (h h' tk' hS' fun b o e => ?_))
 have lb := Heap.lt_size e
 refine m.heap b o (fun hm => ?_) (up b o e)
 rw [zS] at hm
 rcases SA.mp hm with z | z
 ·exact absurd z (Sn lb)
 ·exact absurd (Ub.mp z) (Sn (Ua lb))
theorem call_setN {l : Addr} {items : Array Value} {Q : Value → Shared → Prop} (key : Nat → List K) (adr : Nat → Addr) (hh : A.handled = none) (hl : s.heap.IsList l items) (hv : ∀ (i : Nat) (v : Value), items[i]? = some v → v = Value.ref (adr i)) (hN : ∀ j, j < items.size → IsN knd s.heap (key j) (adr j))
 (hinj : ∀ i j, i < items.size → j < items.size → key i = key j → i = j) (hb : items.size ≤ 17) (hu : A.units + 40 < cLine)
 (h : ∀ (h' : Heap) (tk : Nat), SetN knd (fun b => b < s.heap.objs.size) h' s.heap.objs.size (ksAt key items.size) → (∀ b o, s.heap.get? b = some o → h'.get? b = some o) → Q (.ref s.heap.objs.size) { s with heap := h', toks := tk }) :
 wpAny (model prog w) A (call (.type "set") [.ref l]) Q E s := by
 obtain ⟨_, _, hmro⟩ := F.called_set.mro
 have m1 := F.called_set.made; have m2 := F.called_set.sub; have m3 := F.called_set.notType; have m4 := F.called_set.canCreate; have m5 := F.typeCall_set_1 (.ref l)
 refine wpAny_call (codeAny_of_tree (show wpAny _ _ (callAny (.type "set") _) _ _ _ from wpAny_pure ⟨Code.quiet_builtin _ (by decide +kernel), codeAny_builtin F.entry_type_call ?_⟩))
 rw [Around.under_plain (weight_type_call_type "set" [.ref l] []) rfl]
 repeat any_goals first | assumption | wp_step
 refine codeAny_mono (code_set_new_1 (.ref l) (E := E) (Q₁ := fun v s₁ => v = .ref s.heap.objs.size ∧ ∃ led, s₁ = { s with heap := s.heap.push (nS led) }) fun led => ⟨rfl, led, rfl⟩) fun r s₁ hr => ?_
 rcases r with e | fl
 ·exact hr
 cases fl with
 | ret v =>
   obtain ⟨e1, led, e2⟩ := hr
   subst e1 e2
   have hT : Shared.TypeIs { s with heap := s.heap.push (nS led) } (.ref s.heap.objs.size) "set" := ⟨_, Heap.get?_push_size _ rfl, rfl⟩
   have m6 := F.called_set.init.lookup; have m7 := F.called_set.init.bind (.ref s.heap.objs.size)
   repeat any_goals first | assumption | wp_step
   refine codeAny_mono (codeAny_call_builtin (R := wants (fun r s₂ => r = .none ∧ Q (.ref s.heap.objs.size) s₂) E) F.called_set.init.plain F.entry_set_init (check_set_init_1 hT ?_)) fun r₂ s₂ hr₂ => ?_
   ·refine init_n (knd := knd) led key adr ?_ hl hv hN hinj hb ?_ fun h' tk hS hk => ?_
    ·simp [hh]
    ·simp only [Around.in1]; lia
    ·exact ⟨rfl, h h' tk hS hk⟩
   ·rcases r₂ with e | fl₂
    ·exact hr₂
    cases fl₂ with
    | ret _ =>
      obtain ⟨e3, q⟩ := hr₂
      subst e3
      repeat any_goals first | assumption | wp_step
    | _ => exact hr₂.elim
 | _ => exact hr.elim
end
end St
end L2
namespace L2
open PySem PySem.Spec PyProof.Rows
theorem P6 : bootBuiltins "set" = some (.type "set") := by decide +kernel
def MV (p : Addr) (n : Nat) : HO := .ext fun h => ∃ o es ep t, h.get? p = some o ∧ o.ExactSet ∧ o.data = .set es ep t ∧ SetTable.fits t es.size = true ∧ es.size = n
theorem OU {P : Program} {w : World} {H : Hp} {h : Heap} {a : Addr} {q : Rat} (ok : HOk P w H h) (e : H a = some (nT q)) : St.IsN (CK P w) h (kQ q) a := by
 obtain ⟨_, its, rv, o, ho, hc, n, hd⟩ := ok a _ e
 refine ⟨o, its.toArray, n, ho, hc, hd, GS (ks := kQ q) rv, fun v hv => ?_⟩
 have hv' : v ∈ its := by simpa using hv
 cases rv with
 | cons r1 rr =>
   cases rr with
   | cons r2 rr =>
     cases rr
     obtain ⟨t1, rfl⟩ := r1
     obtain ⟨t2, rfl⟩ := r2
     rcases SA.mp hv' with z | z
     ·exact ⟨_, _, z⟩
     ·exact ⟨_, _, Ub.mp z⟩
section
variable {X : Cx}
inductive LY (K : Su) (xs : List V) (H : Hp) (Q : VK) : Prop
 | mk (l : Addr) (ys : List V) (qs : List Rat) (h1 : xs = [.ref l]) (h2 : SqL K H l ys) (h3 : AM H ys qs) (h4 : qs.Nodup) (h5 : qs.length ≤ 17) (h6 : ∀ p, H p = none → Q (.ref p) (upd H p (MV p qs.length))) : LY K xs H Q
theorem Ln (hc : X.calm = true) (hu : X.A.units + 64 < cLine) : D4 X (.type "set") (LY X.K) := by
 intro pins s σ H xs us Q I r h
 obtain ⟨l, ys, qs, rfl, hq, hn, hnd, h17, q⟩ := h
 obtain ⟨u, rfl, rfl⟩ := ER r
 obtain ⟨its, rv, p, hz⟩ := I.list hq
 have hl := rv.length
 have hyl := hn.length
 have hsz : its.toArray.size = qs.length := by rw [Th]; lia
 let adr : Nat → Addr := fun j => match ys[j]? with | some (.ref r) => r | _ => 0
 have had : ∀ j, j < qs.length → ∃ r, ys[j]? = some (.ref r) ∧ adr j = r ∧ H r = some (nT (qs.getD j 0)) := fun j hj => by
  have g : qs[j]? = some (qs.getD j 0) := by rw [U6, Uc hj]; rfl
  obtain ⟨y, hy, r, rfl, hr⟩ := Paired.get' hn g
  exact ⟨r, hy, by show (match ys[j]? with | some (.ref r) => r | _ => 0) = r; rw [hy], hr⟩
 refine St.call_setN (knd := CK X.prog X.w) (fun j => kQ (qs.getD j 0)) adr (I.ok.hd hc) p.isList (fun i v hv => ?_) (fun j hj => ?_) (fun i j hi hj e => ?_) (by lia) (by lia) fun h' tk hS hk => ?_
 ·have hv' : its[i]? = some v := by simpa using hv
  have hi : i < its.length := (SF.mp hv').1
  obtain ⟨r, hy, hr, _⟩ := had i (by lia)
  obtain ⟨u, hu1, ru⟩ := rv.get hy
  rw [hv'] at hu1
  cases hu1
  rw [hr]; exact ru
 ·rw [hsz] at hj
  obtain ⟨r, _, hr, hH⟩ := had j hj
  rw [hr]
  exact OU I.hok hH
 ·rw [hsz] at hi hj
  have e' := OS e
  have g1 : qs[i]? = some (qs.getD i 0) := by rw [U6, Uc hi]; rfl
  have g2 : qs[j]? = some (qs.getD j 0) := by rw [U6, Uc hj]; rfl
  exact (List.getElem?_inj hi hnd).mp (by rw [g1, g2, e'])
 ·obtain ⟨o, es, ep, t, h1, h2, h3, h4, h5, h6, h7, _⟩ := hS
  rw [St.ksAt_length, hsz] at h7
  have hfit : SetTable.fits t es.size = true := by
   unfold SetTable.fits SetTable.fill
   rw [h5, h6]
   rcases h4 with z | z <;> simp <;> lia
  have new : BX X.prog X.w (upd H s.heap.objs.size (MV s.heap.objs.size qs.length)) h' s.heap.objs.size (MV s.heap.objs.size qs.length) := by
   refine ⟨⟨o, es, ep, t, h1, h2, h3, hfit, h7⟩, ⟨o, h1⟩, fun g1 g2 hg hk => ?_⟩
   obtain ⟨o, es, ep, t, k1, k2, k3, k4, k5⟩ := hg
   exact ⟨o, es, ep, t, hk o k1, k2, k3, k4, k5⟩
  exact ⟨.ref s.heap.objs.size, _, I.laid (t' := tk) hk (SK _) new, rfl, q _ (I.hok.fresh (SK _))⟩
theorem Qd (K : Su) (hc : X.calm = true) (hu : X.A.units + 64 < cLine) (e : X.K = K := by rfl) : D4 X (.type "set") (LY K) := by subst e; exact Ln hc hu
theorem Lo : D4 X (.builtin "len") (fun xs H Q => ∃ (p : Addr) (n : Nat), xs = [.ref p] ∧ H p = some (MV p n) ∧ n ≤ 1000 ∧ Q (.int (n : Int)) H) := by
 intro pins s σ H xs us Q I r h
 obtain ⟨p, n, rfl, hp, hn, q⟩ := h
 obtain ⟨u, rfl, rfl⟩ := ER r
 obtain ⟨⟨o, es, ep, t, h1, h2, h3, h4, h5⟩, _⟩ := I.hok p _ hp
 subst h5
 exact call_len_set h1 h2 h3 h4 (by lia) ⟨.int _, H, I.tok _, ⟨_, rfl⟩, q⟩
end
end L2
namespace L2
open PySem PySem.Spec PyProof.Rows
section
open PySem.W
variable {X : Cx} (K : Su)
end
end L2
namespace L2
open PySem PySem.Spec PyProof.Rows
structure Q5 (X : Cx) (N : List Str) (nt : Nat) (js : List Nat) (scope : Scope) (x : Str) : Prop where
 kind : scope.kind = .function
 split : ∃ pre post, scope.names = pre ++ (x, .cell) :: post ∧ (∀ y ∈ pre, y.2 ≠ .cell) ∧ ∀ y ∈ post, y.2 ≠ .cell
 only : ∀ y ∈ scope.names, y.2 = .cell → y.1 = x
 lx : scope.names.lookup x = some .cell
 names : ∀ y ∈ scope.names, y.2 = .local → scope.names.lookup y.1 = some .local
 free : ∀ y ∈ scope.names, y.2 = .free → X.env.kindOf y.1 = some .cell ∨ X.env.kindOf y.1 = some .free
 len : N.length = nt + js.length
 outer : ∀ j i, js[j]? = some i → ∃ x, N[nt + j]? = some x ∧ X.N[i]? = some x ∧ scope.names.lookup x = some .free
section
variable {X : Cx} {N : List Str} {nt : Nat} {js : List Nat} {scope : Scope} {cl : List (Str × Addr)} {x : Str} {c : Addr}
end
section
variable {X : Cx} {N : List Str} {nt : Nat} {js : List Nat} {scope : Scope} {elt iter tg : Expr} {ifs : List Expr} {pos : Pos} {g : TG} {tc : TT} {te : TE} {wi : TI} {xn : Str}
end
end L2
namespace L2
open PySem PySem.Spec PyProof.Rows
@[reducible] def Cl (u : Su → TS) (K : Su) : TS := u K
theorem Ad {X : Cx} {st : Stmt} {Cr : List Stmt} {t v : TS} {K : Su} {u : Su → TS} (h1 : PS X st t) (h2 : PSs X Cr v) (e : v = u K) : PSs X (st :: Cr) (Pj t (Cl u K)) := by
 subst e; exact M4 h1 h2
section
variable {X : Cx} {o e : Expr} {es : List Expr} {to : TE} {t : TA} {name : Str} {apos cpos : Pos} {T id : String} {r : V → List V → Hp → VK → Prop}
theorem ED (K : Su) (pa : PlainAttrs T) (slot : Slot T name id) (hty : typeOf (.builtin id) = pure (.type "method_descriptor")) (hm : MtR X id r) (ho : PE X o to) (ha : PA X (e :: es) t)
 (hbase : attributeBase o name X.env (eval o X.env) = eval o X.env := by rfl)
 (hfew : ((backTo cpos (starEach (e :: es) X.env)).all (fun x => !x.1) && (backToKw cpos (keywordEach [] X.env)).all (fun x => x.1.isSome)
  && decide ((e :: es).length + ([] : List Keyword).length + (if ([] : List Keyword).isEmpty then 0 else 1) < 30)) = true := by rfl)
 (hline : (apos.endLine == cpos.line) = true := by rfl) (hs : starEach (e :: es) X.env = (false, eval e X.env) :: starEach es X.env := by rfl) (hplain : (backTo cpos (starEach es X.env)).any (·.1) = false := by rfl) (eK : X.K = K := by rfl) :
 PE X (.Call (.Attribute o name apos) (e :: es) [] cpos) (tBM K T r to t) := PF pa slot hty hm ho ha hbase hfew hline hs hplain eK
end
theorem BN {c : Bool} {A B : Prop} (e : c = true) (h : A) : if c = true then A else B := by
 rw [if_pos e]; exact h
theorem Be {c : Bool} {A B : Prop} (e : c = false) (h : B) : if c = true then A else B := by
 rw [if_neg (by rw [e]; decide)]; exact h
theorem Bz {α : Type} {l : List α} {n : Nat} (h : l.length = n + 1) : ∃ a r, l = a :: r ∧ r.length = n := by
 cases l with
 | nil => cases h
 | cons a r => exact ⟨a, r, rfl, Nat.succ.inj h⟩
theorem Fun.binds1 {K : Su} {x qual : Str} {st : Stmt} {f : Addr} {fd : FuncData} (p1 : Str) (F : Fun K x qual st f fd)
 (h : ∀ (kV doc pm : Value) (an : Option Addr) (cdv ct a1 : Value), bindArgs (T9 x qual (Am st) (Al st) (Ae st) .none kV doc pm an cdv ct) ⟨[a1], []⟩ = pure [(p1, a1)]) : Ca K fd [p1] [] :=
 F.binds fun kV doc pm an cdv ct us l0 => by
  obtain ⟨a1, r1, rfl, l1⟩ := Bz l0
  cases UW.mp l1
  exact h kV doc pm an cdv ct a1
theorem Fun.binds2 {K : Su} {x qual : Str} {st : Stmt} {f : Addr} {fd : FuncData} (p1 p2 : Str) (F : Fun K x qual st f fd)
 (h : ∀ (kV doc pm : Value) (an : Option Addr) (cdv ct a1 a2 : Value), bindArgs (T9 x qual (Am st) (Al st) (Ae st) .none kV doc pm an cdv ct) ⟨[a1, a2], []⟩ = pure [(p1, a1), (p2, a2)]) : Ca K fd [p1, p2] [] :=
 F.binds fun kV doc pm an cdv ct us l0 => by
  obtain ⟨a1, r1, rfl, l1⟩ := Bz l0
  obtain ⟨a2, r2, rfl, l2⟩ := Bz l1
  cases UW.mp l2
  exact h kV doc pm an cdv ct a1 a2
theorem Fun.binds3 {K : Su} {x qual : Str} {st : Stmt} {f : Addr} {fd : FuncData} (p1 p2 p3 : Str) (F : Fun K x qual st f fd)
 (h : ∀ (kV doc pm : Value) (an : Option Addr) (cdv ct a1 a2 a3 : Value), bindArgs (T9 x qual (Am st) (Al st) (Ae st) .none kV doc pm an cdv ct) ⟨[a1, a2, a3], []⟩ = pure [(p1, a1), (p2, a2), (p3, a3)]) : Ca K fd [p1, p2, p3] [] :=
 F.binds fun kV doc pm an cdv ct us l0 => by
  obtain ⟨a1, r1, rfl, l1⟩ := Bz l0
  obtain ⟨a2, r2, rfl, l2⟩ := Bz l1
  obtain ⟨a3, r3, rfl, l3⟩ := Bz l2
  cases UW.mp l3
  exact h kV doc pm an cdv ct a1 a2 a3
theorem Fun.binds4 {K : Su} {x qual : Str} {st : Stmt} {f : Addr} {fd : FuncData} (p1 p2 p3 p4 : Str) (F : Fun K x qual st f fd)
 (h : ∀ (kV doc pm : Value) (an : Option Addr) (cdv ct a1 a2 a3 a4 : Value), bindArgs (T9 x qual (Am st) (Al st) (Ae st) .none kV doc pm an cdv ct) ⟨[a1, a2, a3, a4], []⟩ = pure [(p1, a1), (p2, a2), (p3, a3), (p4, a4)]) : Ca K fd [p1, p2, p3, p4] [] :=
 F.binds fun kV doc pm an cdv ct us l0 => by
  obtain ⟨a1, r1, rfl, l1⟩ := Bz l0
  obtain ⟨a2, r2, rfl, l2⟩ := Bz l1
  obtain ⟨a3, r3, rfl, l3⟩ := Bz l2
  obtain ⟨a4, r4, rfl, l4⟩ := Bz l3
  cases UW.mp l4
  exact h kV doc pm an cdv ct a1 a2 a3 a4
@[reducible] def L1 {α1 : Type} {δ : Type} (x1 : α1) (u : α1 → δ) : δ := u x1
@[reducible] def L2 {α1 α2 : Type} {δ : Type} (x1 : α1) (x2 : α2) (u : α1 → α2 → δ) : δ := u x1 x2
@[reducible] def L3 {α1 α2 α3 : Type} {δ : Type} (x1 : α1) (x2 : α2) (x3 : α3) (u : α1 → α2 → α3 → δ) : δ := u x1 x2 x3
@[reducible] def L4 {α1 α2 α3 α4 : Type} {δ : Type} (x1 : α1) (x2 : α2) (x3 : α3) (x4 : α4) (u : α1 → α2 → α3 → α4 → δ) : δ := u x1 x2 x3 x4
@[reducible] def L5 {α1 α2 α3 α4 α5 : Type} {δ : Type} (x1 : α1) (x2 : α2) (x3 : α3) (x4 : α4) (x5 : α5) (u : α1 → α2 → α3 → α4 → α5 → δ) : δ := u x1 x2 x3 x4 x5
@[reducible] def L6 {α1 α2 α3 α4 α5 α6 : Type} {δ : Type} (x1 : α1) (x2 : α2) (x3 : α3) (x4 : α4) (x5 : α5) (x6 : α6) (u : α1 → α2 → α3 → α4 → α5 → α6 → δ) : δ := u x1 x2 x3 x4 x5 x6
@[reducible] def L7 {α1 α2 α3 α4 α5 α6 α7 : Type} {δ : Type} (x1 : α1) (x2 : α2) (x3 : α3) (x4 : α4) (x5 : α5) (x6 : α6) (x7 : α7) (u : α1 → α2 → α3 → α4 → α5 → α6 → α7 → δ) : δ := u x1 x2 x3 x4 x5 x6 x7
@[reducible] def L8 {α1 α2 α3 α4 α5 α6 α7 α8 : Type} {δ : Type} (x1 : α1) (x2 : α2) (x3 : α3) (x4 : α4) (x5 : α5) (x6 : α6) (x7 : α7) (x8 : α8) (u : α1 → α2 → α3 → α4 → α5 → α6 → α7 → α8 → δ) : δ := u x1 x2 x3 x4 x5 x6 x7 x8
@[reducible] def L9 {α1 α2 α3 α4 α5 α6 α7 α8 α9 : Type} {δ : Type} (x1 : α1) (x2 : α2) (x3 : α3) (x4 : α4) (x5 : α5) (x6 : α6) (x7 : α7) (x8 : α8) (x9 : α9) (u : α1 → α2 → α3 → α4 → α5 → α6 → α7 → α8 → α9 → δ) : δ := u x1 x2 x3 x4 x5 x6 x7 x8 x9
@[reducible] def L10 {α1 α2 α3 α4 α5 α6 α7 α8 α9 α10 : Type} {δ : Type} (x1 : α1) (x2 : α2) (x3 : α3) (x4 : α4) (x5 : α5) (x6 : α6) (x7 : α7) (x8 : α8) (x9 : α9) (x10 : α10) (u : α1 → α2 → α3 → α4 → α5 → α6 → α7 → α8 → α9 → α10 → δ) : δ := u x1 x2 x3 x4 x5 x6 x7 x8 x9 x10
@[reducible] def L11 {α1 α2 α3 α4 α5 α6 α7 α8 α9 α10 α11 : Type} {δ : Type} (x1 : α1) (x2 : α2) (x3 : α3) (x4 : α4) (x5 : α5) (x6 : α6) (x7 : α7) (x8 : α8) (x9 : α9) (x10 : α10) (x11 : α11) (u : α1 → α2 → α3 → α4 → α5 → α6 → α7 → α8 → α9 → α10 → α11 → δ) : δ := u x1 x2 x3 x4 x5 x6 x7 x8 x9 x10 x11
@[reducible] def L12 {α1 α2 α3 α4 α5 α6 α7 α8 α9 α10 α11 α12 : Type} {δ : Type} (x1 : α1) (x2 : α2) (x3 : α3) (x4 : α4) (x5 : α5) (x6 : α6) (x7 : α7) (x8 : α8) (x9 : α9) (x10 : α10) (x11 : α11) (x12 : α12) (u : α1 → α2 → α3 → α4 → α5 → α6 → α7 → α8 → α9 → α10 → α11 → α12 → δ) : δ := u x1 x2 x3 x4 x5 x6 x7 x8 x9 x10 x11 x12
@[reducible] def L13 {α1 α2 α3 α4 α5 α6 α7 α8 α9 α10 α11 α12 α13 : Type} {δ : Type} (x1 : α1) (x2 : α2) (x3 : α3) (x4 : α4) (x5 : α5) (x6 : α6) (x7 : α7) (x8 : α8) (x9 : α9) (x10 : α10) (x11 : α11) (x12 : α12) (x13 : α13) (u : α1 → α2 → α3 → α4 → α5 → α6 → α7 → α8 → α9 → α10 → α11 → α12 → α13 → δ) : δ := u x1 x2 x3 x4 x5 x6 x7 x8 x9 x10 x11 x12 x13
@[reducible] def L14 {α1 α2 α3 α4 α5 α6 α7 α8 α9 α10 α11 α12 α13 α14 : Type} {δ : Type} (x1 : α1) (x2 : α2) (x3 : α3) (x4 : α4) (x5 : α5) (x6 : α6) (x7 : α7) (x8 : α8) (x9 : α9) (x10 : α10) (x11 : α11) (x12 : α12) (x13 : α13) (x14 : α14) (u : α1 → α2 → α3 → α4 → α5 → α6 → α7 → α8 → α9 → α10 → α11 → α12 → α13 → α14 → δ) : δ := u x1 x2 x3 x4 x5 x6 x7 x8 x9 x10 x11 x12 x13 x14
@[reducible] def L15 {α1 α2 α3 α4 α5 α6 α7 α8 α9 α10 α11 α12 α13 α14 α15 : Type} {δ : Type} (x1 : α1) (x2 : α2) (x3 : α3) (x4 : α4) (x5 : α5) (x6 : α6) (x7 : α7) (x8 : α8) (x9 : α9) (x10 : α10) (x11 : α11) (x12 : α12) (x13 : α13) (x14 : α14) (x15 : α15) (u : α1 → α2 → α3 → α4 → α5 → α6 → α7 → α8 → α9 → α10 → α11 → α12 → α13 → α14 → α15 → δ) : δ := u x1 x2 x3 x4 x5 x6 x7 x8 x9 x10 x11 x12 x13 x14 x15
@[reducible] def L16 {α1 α2 α3 α4 α5 α6 α7 α8 α9 α10 α11 α12 α13 α14 α15 α16 : Type} {δ : Type} (x1 : α1) (x2 : α2) (x3 : α3) (x4 : α4) (x5 : α5) (x6 : α6) (x7 : α7) (x8 : α8) (x9 : α9) (x10 : α10) (x11 : α11) (x12 : α12) (x13 : α13) (x14 : α14) (x15 : α15) (x16 : α16) (u : α1 → α2 → α3 → α4 → α5 → α6 → α7 → α8 → α9 → α10 → α11 → α12 → α13 → α14 → α15 → α16 → δ) : δ := u x1 x2 x3 x4 x5 x6 x7 x8 x9 x10 x11 x12 x13 x14 x15 x16
@[reducible] def L17 {α1 α2 α3 α4 α5 α6 α7 α8 α9 α10 α11 α12 α13 α14 α15 α16 α17 : Type} {δ : Type} (x1 : α1) (x2 : α2) (x3 : α3) (x4 : α4) (x5 : α5) (x6 : α6) (x7 : α7) (x8 : α8) (x9 : α9) (x10 : α10) (x11 : α11) (x12 : α12) (x13 : α13) (x14 : α14) (x15 : α15) (x16 : α16) (x17 : α17) (u : α1 → α2 → α3 → α4 → α5 → α6 → α7 → α8 → α9 → α10 → α11 → α12 → α13 → α14 → α15 → α16 → α17 → δ) : δ := u x1 x2 x3 x4 x5 x6 x7 x8 x9 x10 x11 x12 x13 x14 x15 x16 x17
@[reducible] def L18 {α1 α2 α3 α4 α5 α6 α7 α8 α9 α10 α11 α12 α13 α14 α15 α16 α17 α18 : Type} {δ : Type} (x1 : α1) (x2 : α2) (x3 : α3) (x4 : α4) (x5 : α5) (x6 : α6) (x7 : α7) (x8 : α8) (x9 : α9) (x10 : α10) (x11 : α11) (x12 : α12) (x13 : α13) (x14 : α14) (x15 : α15) (x16 : α16) (x17 : α17) (x18 : α18) (u : α1 → α2 → α3 → α4 → α5 → α6 → α7 → α8 → α9 → α10 → α11 → α12 → α13 → α14 → α15 → α16 → α17 → α18 → δ) : δ := u x1 x2 x3 x4 x5 x6 x7 x8 x9 x10 x11 x12 x13 x14 x15 x16 x17 x18
@[reducible] def L19 {α1 α2 α3 α4 α5 α6 α7 α8 α9 α10 α11 α12 α13 α14 α15 α16 α17 α18 α19 : Type} {δ : Type} (x1 : α1) (x2 : α2) (x3 : α3) (x4 : α4) (x5 : α5) (x6 : α6) (x7 : α7) (x8 : α8) (x9 : α9) (x10 : α10) (x11 : α11) (x12 : α12) (x13 : α13) (x14 : α14) (x15 : α15) (x16 : α16) (x17 : α17) (x18 : α18) (x19 : α19) (u : α1 → α2 → α3 → α4 → α5 → α6 → α7 → α8 → α9 → α10 → α11 → α12 → α13 → α14 → α15 → α16 → α17 → α18 → α19 → δ) : δ := u x1 x2 x3 x4 x5 x6 x7 x8 x9 x10 x11 x12 x13 x14 x15 x16 x17 x18 x19
@[reducible] def L20 {α1 α2 α3 α4 α5 α6 α7 α8 α9 α10 α11 α12 α13 α14 α15 α16 α17 α18 α19 α20 : Type} {δ : Type} (x1 : α1) (x2 : α2) (x3 : α3) (x4 : α4) (x5 : α5) (x6 : α6) (x7 : α7) (x8 : α8) (x9 : α9) (x10 : α10) (x11 : α11) (x12 : α12) (x13 : α13) (x14 : α14) (x15 : α15) (x16 : α16) (x17 : α17) (x18 : α18) (x19 : α19) (x20 : α20) (u : α1 → α2 → α3 → α4 → α5 → α6 → α7 → α8 → α9 → α10 → α11 → α12 → α13 → α14 → α15 → α16 → α17 → α18 → α19 → α20 → δ) : δ := u x1 x2 x3 x4 x5 x6 x7 x8 x9 x10 x11 x12 x13 x14 x15 x16 x17 x18 x19 x20
@[reducible] def L21 {α1 α2 α3 α4 α5 α6 α7 α8 α9 α10 α11 α12 α13 α14 α15 α16 α17 α18 α19 α20 α21 : Type} {δ : Type} (x1 : α1) (x2 : α2) (x3 : α3) (x4 : α4) (x5 : α5) (x6 : α6) (x7 : α7) (x8 : α8) (x9 : α9) (x10 : α10) (x11 : α11) (x12 : α12) (x13 : α13) (x14 : α14) (x15 : α15) (x16 : α16) (x17 : α17) (x18 : α18) (x19 : α19) (x20 : α20) (x21 : α21) (u : α1 → α2 → α3 → α4 → α5 → α6 → α7 → α8 → α9 → α10 → α11 → α12 → α13 → α14 → α15 → α16 → α17 → α18 → α19 → α20 → α21 → δ) : δ := u x1 x2 x3 x4 x5 x6 x7 x8 x9 x10 x11 x12 x13 x14 x15 x16 x17 x18 x19 x20 x21
@[reducible] def L22 {α1 α2 α3 α4 α5 α6 α7 α8 α9 α10 α11 α12 α13 α14 α15 α16 α17 α18 α19 α20 α21 α22 : Type} {δ : Type} (x1 : α1) (x2 : α2) (x3 : α3) (x4 : α4) (x5 : α5) (x6 : α6) (x7 : α7) (x8 : α8) (x9 : α9) (x10 : α10) (x11 : α11) (x12 : α12) (x13 : α13) (x14 : α14) (x15 : α15) (x16 : α16) (x17 : α17) (x18 : α18) (x19 : α19) (x20 : α20) (x21 : α21) (x22 : α22) (u : α1 → α2 → α3 → α4 → α5 → α6 → α7 → α8 → α9 → α10 → α11 → α12 → α13 → α14 → α15 → α16 → α17 → α18 → α19 → α20 → α21 → α22 → δ) : δ := u x1 x2 x3 x4 x5 x6 x7 x8 x9 x10 x11 x12 x13 x14 x15 x16 x17 x18 x19 x20 x21 x22
@[reducible] def L23 {α1 α2 α3 α4 α5 α6 α7 α8 α9 α10 α11 α12 α13 α14 α15 α16 α17 α18 α19 α20 α21 α22 α23 : Type} {δ : Type} (x1 : α1) (x2 : α2) (x3 : α3) (x4 : α4) (x5 : α5) (x6 : α6) (x7 : α7) (x8 : α8) (x9 : α9) (x10 : α10) (x11 : α11) (x12 : α12) (x13 : α13) (x14 : α14) (x15 : α15) (x16 : α16) (x17 : α17) (x18 : α18) (x19 : α19) (x20 : α20) (x21 : α21) (x22 : α22) (x23 : α23) (u : α1 → α2 → α3 → α4 → α5 → α6 → α7 → α8 → α9 → α10 → α11 → α12 → α13 → α14 → α15 → α16 → α17 → α18 → α19 → α20 → α21 → α22 → α23 → δ) : δ := u x1 x2 x3 x4 x5 x6 x7 x8 x9 x10 x11 x12 x13 x14 x15 x16 x17 x18 x19 x20 x21 x22 x23
@[reducible] def L24 {α1 α2 α3 α4 α5 α6 α7 α8 α9 α10 α11 α12 α13 α14 α15 α16 α17 α18 α19 α20 α21 α22 α23 α24 : Type} {δ : Type} (x1 : α1) (x2 : α2) (x3 : α3) (x4 : α4) (x5 : α5) (x6 : α6) (x7 : α7) (x8 : α8) (x9 : α9) (x10 : α10) (x11 : α11) (x12 : α12) (x13 : α13) (x14 : α14) (x15 : α15) (x16 : α16) (x17 : α17) (x18 : α18) (x19 : α19) (x20 : α20) (x21 : α21) (x22 : α22) (x23 : α23) (x24 : α24) (u : α1 → α2 → α3 → α4 → α5 → α6 → α7 → α8 → α9 → α10 → α11 → α12 → α13 → α14 → α15 → α16 → α17 → α18 → α19 → α20 → α21 → α22 → α23 → α24 → δ) : δ := u x1 x2 x3 x4 x5 x6 x7 x8 x9 x10 x11 x12 x13 x14 x15 x16 x17 x18 x19 x20 x21 x22 x23 x24
theorem Bj {X : Cx} {c : Expr} {a b : List Stmt} {pos : Pos} {tc : TT} {v1 v2 : TS} {K : Su} {u1 u2 : Su → TS} (hc : PT X c tc) (ha : PSs X a v1) (hb : PSs X b v2) (e1 : v1 = u1 K) (e2 : v2 = u2 K) : PS X (.If c a b pos) (Po tc (Cl u1 K) (Cl u2 K)) := by
 subst e1; subst e2; exact Pz hc ha hb
theorem Bh {X : Cx} {tg iter : Expr} {body : List Stmt} {wi : TI} {g : TG} {v : TS} {pos : Pos} {K : Su} {u : Su → TS} (hp : PassesOwn (model X.prog X.w) X.A X.env X.xe) (hc : X.calm = true) (hi : PI X tg iter wi) (hg : PG X tg g) (hb : PSs X body v) (e : v = u K)
 (hs : ∀ x, foldedSetIterable iter X.env x = pure x := by intro _; rfl) : PS X (.For tg iter body [] pos) (Of wi g (Cl u K)) := by
 subst e; exact Ou hp hc hi hg hb hs
theorem Ml {a b c d : Nat} (h1 : a = c) (h2 : b = d) : ((a : Int) - (b : Int)).toNat = c - d := by rw [h1, h2]; exact Int.toNat_sub c d
theorem DC {a b : Nat} (h : a = b) : ((a : Int) - 1).toNat = b - 1 := Ml (b := 1) h rfl
theorem KZ {a b c d : Nat} (h1 : a = c) (h2 : b = d) (_h : 1 ≤ d) : ((a : Int) + (b : Int) - 1).toNat = c + d - 1 := by
 rw [h1, h2, ← Int.natCast_add]
 exact DC rfl
theorem Mj {a b : Nat} (h : 1 ≤ b) : ((a : Int) + (b : Int) - 1).toNat = a + b - 1 := KZ rfl rfl h
theorem KY {a b m : Nat} (h1 : a ≤ m) (h2 : b ≤ m) : ((a : Int) + (b : Int) - 1).toNat ≤ 2 * m := by
 rw [← Int.natCast_add, DC rfl, Nat.two_mul]
 exact Sv (Nat.sub_le _ _) (Nat.add_le_add h1 h2)
theorem Mm {a b i : Nat} (h : a = b) (hi : i < b) : (a : Int) - 1 - (i : Int) = ((b - 1 - i : Nat) : Int) := by
 rw [h, Int.ofNat_sub (show i ≤ b - 1 from Nat.le_pred_of_lt hi), Int.ofNat_sub (show 1 ≤ b from Tr (SN i) hi)]
 rfl
theorem OF {b i : Nat} (hi : i < b) : b - 1 - i < b := Tr (Nat.sub_le _ _) (Nat.sub_lt (Tr (SN i) hi) Nat.one_pos)
theorem Ny {a b : Nat} (h : a = b) : ((a : Int) - 1 - -1).toNat = b := by
 rw [h, Int.sub_neg, Int.sub_add_cancel]
 exact Td b
theorem NA {a k m t b : Nat} (ha : a ≤ 200) (hk : k < m - 1) (hm : m = 2 ∨ m = 3) (e : a = t) : t + min k b ≤ 204 := by
 rw [← e]
 have h4 : k ≤ 4 := by
  rcases hm with rfl | rfl
  ·exact Sv (Sw hk) (by decide)
  ·exact Sv (Sw hk) (by decide)
 exact Nat.add_le_add ha (Sv (Nat.min_le_left _ _) h4)
theorem Nz {a m : Nat} (ha : a ≤ 200) (hm : m = 2 ∨ m = 3) : a + (m - 1) * 1 ≤ 300 := by
 rcases hm with rfl | rfl
 ·exact Sv (UX ha _) (by decide)
 ·exact Sv (UX ha _) (by decide)
theorem Nx {a m : Nat} (h : a = m) (hm : m = 2 ∨ m = 3) : ((a : Int) - 1).toNat ≤ 2 := by
 rw [DC h]
 rcases hm with rfl | rfl <;> decide
theorem OG {i j a b n : Nat} (hi : i < a) (hj : j < b) (h : n = a + b - 1) : i + j < n := by
 rw [h]
 refine Nat.lt_sub_of_add_lt ?_
 rw [Nat.add_right_comm]
 exact Nat.add_lt_add_of_le_of_lt hi hj
end L2
namespace L2
open PySem PySem.Spec PyProof.Rows
def Fh (f : Addr) (fd : FuncData) : HO := .ext fun h => h.get? f = some { cls := .type "function", data := .func fd }
def EO (c : Addr) (o : Obj) : HO := .ext fun h => h.get? c = some o
def Iq (c : Addr) (q : Str) : HO := .ext fun h => h.CodeRec (.ref c) q
def offC (cs : List Addr) (H : Hp) : Hp := fun b => if b ∈ cs then none else H b
def onC (cs : List Addr) (H0 H : Hp) : Hp := fun b => if b ∈ cs then H0 b else H b
theorem EI {cs : List Addr} {H : Hp} {b : Addr} (h : b ∈ cs) : offC cs H b = none := if_pos h
theorem BR {cs : List Addr} {H : Hp} {b : Addr} (h : b ∉ cs) : offC cs H b = H b := if_neg h
theorem NZ {cs : List Addr} {H0 H : Hp} {b : Addr} (h : b ∈ cs) : onC cs H0 H b = H0 b := if_pos h
theorem DA {cs : List Addr} {H0 H : Hp} {b : Addr} (h : b ∉ cs) : onC cs H0 H b = H b := if_neg h
theorem DB {cs : List Addr} {H : Hp} {b : Addr} (h : H b = none) : offC cs H b = none := by
 unfold offC; split
 ·rfl
 ·exact h
section
variable {P : Program} {w : World} {fs cs : List Addr} {H H' : Hp} {h h' : Heap}
theorem Un.onC (u : Un fs [] (offC cs H) H' h h') (hc : ∀ c ∈ cs, ∃ o, H c = some (EO c o)) : Un fs [] H (onC cs H H') h h' := by
 have no : ∀ {b : Addr} {o : HO}, H b = some o → (∀ c ob, o ≠ EO c ob) → b ∉ cs := fun {b o} e hne hb => by
  obtain ⟨ob, q⟩ := hc b hb
  rw [e] at q
  exact hne b ob (Sj.inj q)
 refine ⟨fun b o e n hb hx => u.keep b o e (DB n) hb hx, fun b o e n hb hx => u.slot b o e (DB n) hb hx, fun b o e n hx => ?_, u.there, fun b xs e => ?_, fun b o v e => ?_, fun b ps e => ?_⟩
 ·have hb : b ∉ cs := fun z => by obtain ⟨ob, q⟩ := hc b z; rw [n] at q; cases q
  rw [DA hb]
  exact u.free b o e (DB n) hx
 ·have hb := no e fun c ob z => by cases z
  rw [DA hb]
  exact u.tups b xs (by rw [BR hb]; exact e)
 ·have hb := no e fun c ob z => by cases z
  rw [DA hb]
  exact u.frzs b o v (by rw [BR hb]; exact e)
 ·have hb := no e fun c ob z => by cases z
  rw [DA hb]
  exact u.tbls b ps (by rw [BR hb]; exact e)
theorem HOk.onC (ok : HOk P w H h) (u : Un fs [] (offC cs H) H' h h') (ok' : HOk P w H' h') (hc : ∀ c ∈ cs, ∃ o, H c = some (EO c o)) (hn : ∀ c ∈ cs, H' c = none) (hf : ∀ c ∈ cs, c ∉ fs) : HOk P w (onC cs H H') h' := fun b o e => by
 by_cases hb : b ∈ cs
 ·rw [NZ hb] at e
  obtain ⟨ob, q⟩ := hc b hb
  rw [q] at e
  cases e
  obtain ⟨p, _, st⟩ := ok b _ q
  have p' : h.get? b = some ob := p
  have k := u.keep b ob p' (EI hb) (hf b hb) (by simp)
  exact ⟨k, ⟨ob, k⟩, st⟩
 ·rw [DA hb] at e
  have nc : ∀ {c : Addr} {v : HO}, H' c = some v → c ∉ cs := fun {c v} q z => by rw [hn c z] at q; cases q
  exact (ok' b o e).stay (fun _ _ _ q => q) (fun c q => by rw [DA (nc q)]; exact q) fun c xs q => by rw [DA (nc q)]; exact q
theorem HOk.offC (ok : HOk P w H h) (hc : ∀ c ∈ cs, ∃ o, H c = some (EO c o)) : HOk P w (offC cs H) h := fun b o e => by
 by_cases hb : b ∈ cs
 ·rw [EI hb] at e; cases e
 ·rw [BR hb] at e
  have no : ∀ {c : Addr} {v : HO}, H c = some v → (∀ d ob, v ≠ EO d ob) → c ∉ cs := fun {c v} q hne z => by
   obtain ⟨ob, q'⟩ := hc c z
   rw [q] at q'
   exact hne c ob (Sj.inj q')
  exact (ok b o e).stay (fun _ _ _ q => q) (fun c q => by rw [BR (no q fun d ob z => by cases z)]; exact q) fun c xs q => by rw [BR (no q fun d ob z => by cases z)]; exact q
end
def Ku (CX : CXT) (P : Program) (w : World) (K : Su) (mg : Str → Option Value) (base : Heap) (N : List Str) (qual : Str) (scope : Scope) (f : Addr) (cd : Value) (cl : List (Str × Addr)) (A : Around) (outer : List Env) (s : Shared) (H : Hp) (E : XK) : Cx where
 prog := P
 w := w
 K := K
 mg := mg
 base := base
 A := A.deeper (UY qual scope s.heap.objs.size f cd cl)
 N := N
 s₀ := s
 H₀ := H
 env := UY qual scope s.heap.objs.size f cd cl
 outer := outer
 stack := UY qual scope s.heap.objs.size f cd cl :: outer
 ex := []
 calm := true
 fn := fun _ => false
 pn := []
 xe := fun e s' => wpAny (model P w) (A.deeper (UY qual scope s.heap.objs.size f cd cl)) (leaving (UY qual scope s.heap.objs.size f cd cl) e) (fun _ s'' => CX outer H s E e s'') (fun e' s'' => CX outer H s E e' s'') s'
structure Jk (H : Hp) (scope : Scope) (N ps : List Str) (cl : List (Str × Addr)) (σ : St) (vs : List V) : Prop where
 kind : scope.kind = .function
 co : scope.isCoroutine = false
 gen : scope.isGenerator = false
 nocell : ∀ x ∈ scope.names, x.2 ≠ .cell
 par : ∀ p ∈ ps, scope.names.lookup p = some .local
 inj : ∀ x y c, cl.lookup x = some c → cl.lookup y = some c → x = y
 has : ∀ x, scope.names.lookup x = some .free → ∃ c, cl.lookup x = some c
 len : σ.length = N.length
 cel : ∀ p ∈ cl, ∃ (o : Obj) (v : Option Value), H p.2 = some (EO p.2 o) ∧ o.data = .cell v
 val : ∀ (i : Nat) (x : Str) (v : V), N[i]? = some x → σ[i]? = some (some v) →
  (scope.names.lookup x = some .local ∧ ∃ j : Nat, ps[j]? = some x ∧ vs[j]? = some v) ∨ (scope.names.lookup x = some .free ∧ ∃ c o u, cl.lookup x = some c ∧ H c = some (EO c o) ∧ o.data = .cell (some u) ∧ AR v u)
theorem Jk.cells {H : Hp} {scope : Scope} {N ps : List Str} {cl : List (Str × Addr)} {σ : St} {vs : List V} (S : Jk H scope N ps cl σ vs) : ∀ c ∈ cl.map (·.2), ∃ o, H c = some (EO c o) := fun c hc => by
 obtain ⟨p, hp, rfl⟩ := UA.mp hc
 obtain ⟨o, v, e, _⟩ := S.cel p hp
 exact ⟨o, e⟩
theorem NI {CX : CXT} {P : Program} {w : World} {K : Su} {mg : Str → Option Value} {base : Heap} {N ps : List Str} {qual : Str} {scope : Scope} {f : Addr} {cd : Value} {cl : List (Str × Addr)} {A : Around} {outer : List Env} {s : Shared} {H : Hp} {E : XK} {us : List Value} {vs : List V} {σ : St} {h1 : Heap}
 (S : Jk H scope N ps cl σ vs) (hd : A.handled = none) (e0 : Ls P w K mg base A outer s H) (r : AG vs us) (hlk : ∀ (j : Nat) (x : Str) (u : Value), ps[j]? = some x → us[j]? = some u → (ps.zip us).reverse.lookup x = some u)
 (hns : h1.Ns s.heap.objs.size fun x => (ps.zip us).reverse.lookup x) (hk : ∀ b o, s.heap.get? b = some o → h1.get? b = some o) (tk : Nat) :
 Inv (Ku CX P w K mg base N qual scope f cd cl A outer s (offC (cl.map (·.2)) H) E) [] σ (offC (cl.map (·.2)) H) { s with heap := h1, toks := tk } := by
 have hcs := S.cells
 have ok' := e0.hok.offC hcs
 have noA : ∀ b : Addr, b ∉ (Ku CX P w K mg base N qual scope f cd cl A outer s (offC (cl.map (·.2)) H) E).ex := fun b z => absurd (show b ∈ ([] : List Addr) from z) (by simp)
 have mem : ∀ {x : Str} {c : Addr}, cl.lookup x = some c → c ∈ cl.map (·.2) := fun h => UZ (f := (·.2)) (PySem.mem_of_lookup h)
 have cellOf : ∀ {x : Str} {c : Addr}, cl.lookup x = some c → ∀ o, H c = some (EO c o) → h1.get? c = some o := fun {x c} h o q => by
  obtain ⟨p, _, _⟩ := e0.hok c _ q
  exact hk c o p
 refine ⟨⟨e0.mod, S.kind, rfl, rfl, SK _, S.inj, fun y hy => ?_, fun y c h => ?_, fun _ => hd, Around.frames_deeper e0.frames, .inr ⟨rfl, rfl⟩, fun b z => absurd z (noA b), fun b o e => ⟨(e0.bs b o e).1, DB (e0.bs b o e).2⟩, e0.bsz, fun b _ _ => noA b, fun b z => absurd z (noA b), e0.funs, fun b hb => DB (e0.frf b hb)⟩,
  rfl, e0.bare, Un.kept hk, ⟨_, hns, fun i y v h1 h2 h3 => ?_⟩, fun y c h => ?_, ok'.fresh (SK _), fun y c h => EI (mem h), fun p hp => absurd (show p ∈ ([] : List (Addr × Obj)) from hp) (by simp), ok'.kept hk, S.len⟩
 ·rcases hy with hy | hy
  ·exact absurd rfl (S.nocell _ (PySem.mem_of_lookup hy))
  ·exact S.has y hy
 ·cases h
 ·rcases S.val i y v h1 h2 with ⟨hl, j, hp, hv⟩ | ⟨hl, c, o, u, hc, ho, hd, rv⟩
  ·obtain ⟨u, hu, rv⟩ := r.get hv
   exact ⟨u, rv, .inl ⟨hl, hlk j y u hp hu⟩⟩
  ·exact ⟨u, rv, .inr ⟨.inr hl, c, hc, o, cellOf hc o ho, hd⟩⟩
 ·obtain ⟨o, v, ho, hd⟩ := S.cel (y, c) (PySem.mem_of_lookup h)
  exact ⟨v, o, cellOf h o ho, hd⟩
theorem OM {CX : CXT} {P : Program} {w : World} {K : Su} {mg : Str → Option Value} {base : Heap} {k : Nat} {f c' : Addr} {name qual : Str} {params : Arguments} {body : Expr} {scope : Scope} {cl : List (Str × Addr)} {pm ctv : Value} {N ps : List Str} {sp : Sp}
 (len : ∀ vs H Q E, sp vs H Q E → vs.length = ps.length)
 (hlk : ∀ us : List Value, us.length = ps.length → ∀ (j : Nat) (x : Str) (u : Value), ps[j]? = some x → us[j]? = some u → (ps.zip us).reverse.lookup x = some u)
 (hbody : ∀ (A : Around) (outer : List Env) (s : Shared) (H : Hp) (vs : List V) (Q : VK) (E : XK), C8 k (A.deeper (UY qual scope s.heap.objs.size f (.ref c') cl)) → sp vs H Q E →
  H f = some (Fh f (V0 name qual params body scope cl pm (.ref c') ctv)) ∧ H c' = some (Iq c' qual) ∧ ∃ σ, Jk H scope N ps cl σ vs ∧
  ∃ t, PE (Ku CX P w K mg base N qual scope f (.ref c') cl A outer s (offC (cl.map (·.2)) H) E) body t ∧ t σ (offC (cl.map (·.2)) H) (fun v H' => (∀ c ∈ cl.map (·.2), H' c = none) → Q v (onC (cl.map (·.2)) H H')) ∧
  ∀ e s', CX outer (offC (cl.map (·.2)) H) s E e s' → CX outer H s E e s') :
 AH P w K mg base CX (k + 1) f (V0 name qual params body scope cl pm (.ref c') ctv) ps sp := by
 refine ⟨len, fun A outer s H args us vs Q E hr e0 hb r hsp => ?_⟩
 have hl := len _ _ _ _ hsp
 obtain ⟨hf, hcode, σ, S, t, ht, hq, hCX⟩ := hbody A outer s H vs Q E (hr.deeper _) hsp
 have lim : s.heap.NoLimit := e0.mod.nolimit.keeps fun b o e => (e0.bs b o e).1
 obtain ⟨hfo, _, _⟩ := e0.hok f _ hf
 obtain ⟨hco, _, _⟩ := e0.hok c' _ hcode
 have hlu : us.length = ps.length := by rw [← r.length]; exact hl
 refine PySem.W.kla_callFunE hr.depth hfo rfl S.co S.gen rfl hco (hb _ _ _ _ ?_)
 refine wpAny_newFunctionEnv S.nocell (fun y hy => S.par _ (SU hy).1) (fun h1 hns hsb => ?_) S.kind
 have hk : ∀ b o, s.heap.get? b = some o → h1.get? b = some o := fun b o e => hsb.extBut b o (Sn (Heap.lt_size e)) (Heap.get?_push_of_some _ e)
 refine ⟨lim.keeps hk, ?_⟩
 show codeAny _ _ (.expr body (UY qual scope s.heap.objs.size f (.ref c') cl)) _ _
 have I := NI (CX := CX) (qual := qual) (f := f) (cd := .ref c') (E := E) S hr.hd e0 r (hlk us hlu) hns hk (s.toks + (ps.zip us).length)
 refine PySem.W.kla_codeExpr (wpAny_mono (ht [] _ _ _ _ I hq) (fun u s' hs => ?_) fun e s' hs => ?_)
 ·obtain ⟨v, H', J, rv, q⟩ := hs
  have hn : ∀ c ∈ cl.map (·.2), H' c = none := fun c hc => by
   obtain ⟨p, hp, rfl⟩ := UA.mp hc
   obtain ⟨o, v, e, _⟩ := S.cel p hp
   obtain ⟨p', _, _⟩ := e0.hok _ _ e
   exact J.base.free _ o p' (EI hc) (by intro z; cases z)
  have ub : Un (frs outer) [] (offC (cl.map (·.2)) H) H' s.heap s'.heap := J.base
  refine ⟨v, onC (cl.map (·.2)) H H', J.os, J.bare, Un.onC ub S.cells, HOk.onC e0.hok ub J.hok S.cells hn fun c hc hz => ?_, rv, q hn⟩
  obtain ⟨o, e⟩ := S.cells c hc
  have z : H c = none := e0.frf c hz
  rw [z] at e; cases e
 ·exact wpAny_mono hs (fun _ s'' h => hCX _ _ h) fun _ s'' h => hCX _ _ h
section
variable {X : Cx} {CX : CXT} {k i : Nat} {E : XK} {x : Str} {p pos : Pos} {e : Expr} {es : List Expr} {t : TA}
end
def DX (cs : List Addr) (os : Addr → Obj) (H : Hp) : Hp := fun b => if b ∈ cs then some (EO b (os b)) else H b
theorem Jo {cs : List Addr} {os : Addr → Obj} {H : Hp} {b : Addr} (h : b ∈ cs) : DX cs os H b = some (EO b (os b)) := if_pos h
theorem BE {cs : List Addr} {os : Addr → Obj} {H : Hp} {b : Addr} (h : b ∉ cs) : DX cs os H b = H b := if_neg h
structure Ir (env : Env) (cl : List (Str × Addr)) : Prop where
 sub : ∀ x c, (x, c) ∈ cl → env.cells.lookup x = some c
 inj : ∀ x y c, (x, c) ∈ cl → (y, c) ∈ cl → x = y
def Lu (N : List Str) (σ : St) (sc : Scope) (cl : List (Str × Addr)) (os : Addr → Obj) : Prop := ∀ x c, (x, c) ∈ cl → (∃ v, (os c).data = .cell v) ∧
 ∀ (i : Nat) (v : V), N[i]? = some x → σ[i]? = some (some v) → sc.names.lookup x = some .cell → ∃ u, (os c).data = .cell (some u) ∧ AR v u
theorem Ir.look {env : Env} {cl : List (Str × Addr)} (C : Ir env cl) {x : Str} {c : Addr} (h : (x, c) ∈ cl) : cl.lookup x = some c := by
 cases e : cl.lookup x with
 | none =>
   have := List.lookup_eq_none_iff.mp e (x, c) h
   simp at this
 | some d =>
   have h2 := C.sub x d (PySem.mem_of_lookup e)
   rw [C.sub x c h] at h2
   exact congrArg some (Sj.inj h2).symm
section
variable {X : Cx} {CX : CXT} {k : Nat} {f : Addr} {fd : FuncData} {ps : List Str} {sp : Sp} {E : XK} {x : Str} {p pos : Pos} {e : Expr} {es : List Expr} {t : TA}
theorem Ng {pins : List (Addr × Obj)} {σ : St} {H : Hp} {s : Shared} {Q : VK} {us : List Value} {vs : List V} {cl : List (Str × Addr)} (F : AH X.prog X.w X.K X.mg X.base CX k f fd ps sp) (hr : C8 k X.A) (hb : Ca X.K fd ps [])
 (hfn : ∀ y, X.fn y = true) (hx : ∀ (e : Value) (H' : Hp) (s' : Shared), Inv X pins σ H s → CX X.stack H' s E e s' → X.xe e s') (I : Inv X pins σ H s) (r : AG vs us) (C : Ir X.env cl)
 (h : ∀ os, (∀ c ∈ cl.map (·.2), H c = none) → Lu X.N σ X.env.scope cl os → sp vs (DX (cl.map (·.2)) os H) (fun v H2 => (∀ c ∈ cl.map (·.2), H2 c = some (EO c (os c))) ∧ Q v (offC (cl.map (·.2)) H2)) E) :
 wpAny (model X.prog X.w) X.A (call (.ref f) us) (EP X pins σ Q) X.xe s := by
 obtain ⟨os, hos⟩ : ∃ os : Addr → Obj, ∀ c ∈ cl.map (·.2), s.heap.get? c = some (os c) ∧ ∃ v, (os c).data = .cell v := by
  refine ⟨fun c => (s.heap.get? c).getD { cls := .none, data := .plain }, fun c hc => ?_⟩
  obtain ⟨⟨y, c⟩, hp, rfl⟩ := UA.mp hc
  obtain ⟨v, o, ho, hd⟩ := I.cell y c (C.sub y c hp)
  have e : ((s.heap.get? c).getD { cls := .none, data := .plain }) = o := by rw [ho]; rfl
  exact ⟨by show s.heap.get? c = some ((s.heap.get? c).getD { cls := .none, data := .plain }); rw [e]; exact ho, v, by show ((s.heap.get? c).getD { cls := .none, data := .plain }).data = _; rw [e]; exact hd⟩
 have hcn : ∀ c ∈ cl.map (·.2), H c = none := fun c hc => by
  obtain ⟨⟨y, c⟩, hp, rfl⟩ := UA.mp hc
  exact I.freeC y c (C.sub y c hp)
 have hab : ∀ c ∈ cl.map (·.2), X.s₀.heap.objs.size ≤ c := fun c hc => by
  obtain ⟨⟨y, c⟩, hp, rfl⟩ := UA.mp hc
  exact I.ok.cab y c (hfn y) (C.sub y c hp)
 have hfr : ∀ b ∈ frs X.stack, b ∉ cl.map (·.2) := fun b hb hc => by
  rcases SA.mp (I.stkSub b hb) with z | z
  ·obtain ⟨⟨y, c⟩, hp, e⟩ := UA.mp hc
   exact I.cne y c (C.sub y c hp) (by rw [← z]; exact e)
  ·obtain ⟨_, o, ho, _⟩ := I.ok.funs.mem z
   exact absurd (Sl (Heap.lt_size ho) (hab b hc)) (Sm _)
 have hci : Lu X.N σ X.env.scope cl os := fun y c hp => by
  obtain ⟨h1, v0, h2⟩ := hos c (UZ (f := (·.2)) hp)
  refine ⟨⟨v0, h2⟩, fun i v hN hσ hk => ?_⟩
  obtain ⟨m, hn, hl⟩ := I.loc
  obtain ⟨u, ru, lk⟩ := hl i y v hN hσ (.inr (.inl hk))
  rcases lk with ⟨hk', _⟩ | ⟨_, c2, hc2, o, ho, hd⟩
  ·rw [show X.env.kindOf y = some .cell from hk] at hk'; cases hk'
  ·rw [C.sub y c hp] at hc2
   cases hc2
   rw [h1] at ho
   cases ho
   exact ⟨u, hd, ru⟩
 have q := h os hcn hci
 have e0 := I.env0
 have hokT : HOk X.prog X.w (DX (cl.map (·.2)) os H) s.heap := fun b o e => by
  by_cases hb : b ∈ cl.map (·.2)
  ·rw [Jo hb] at e
   cases e
   have g := (hos b hb).1
   exact ⟨g, ⟨_, g⟩, fun h1 h2 z st => st _ z⟩
  ·rw [BE hb] at e
   have no : ∀ {c : Addr} {v : HO}, H c = some v → c ∉ cl.map (·.2) := fun {c v} q z => by rw [hcn c z] at q; cases q
   exact (I.hok b o e).stay (fun _ _ _ q => q) (fun c q => by rw [BE (no q)]; exact q) fun c xs q => by rw [BE (no q)]; exact q
 have eT : Ls X.prog X.w X.K X.mg X.base X.A X.stack s (DX (cl.map (·.2)) os H) := ⟨e0.frames, e0.mod, fun b o e => ⟨(e0.bs b o e).1, by
  have hb : b ∉ cl.map (·.2) := fun hc => absurd (Sl (Heap.lt_size e) (Sv I.ok.bsz (hab b hc))) (Sm _)
  rw [BE hb]; exact (e0.bs b o e).2⟩, e0.bsz, e0.funs, fun b hb => by rw [BE (hfr b hb)]; exact e0.frf b hb, hokT, e0.bare⟩
 have hl : us.length = ps.length := by rw [← r.length]; exact F.len _ _ _ _ q
 have hb' := hb s us I.kIn (by rw [SR]; exact hl)
 rw [SR] at hb'
 refine wpAny_call (codeAny_mono (F.run X.A X.stack s _ ⟨us, []⟩ us vs _ E hr eT hb' r q) fun rr s' hq => ?_)
 cases rr with
 | error e => exact hx e _ s' I hq
 | ok fl =>
   cases fl with
   | next => exact False.elim hq
   | brk => exact False.elim hq
   | cont => exact False.elim hq
   | ret u =>
     obtain ⟨v, H2, hos', bare, un, hok2, rv, hc2, qv⟩ := hq
     refine I.after ⟨v, offC (cl.map (·.2)) H2, hos', bare, ⟨fun b o e n hb hx' => ?_, fun b o e n hb hx' => ?_, fun b o e n hx' => ?_, un.there, fun b xs e => ?_, fun b o w' e => ?_, fun b pp e => ?_⟩, HOk.offC hok2 (fun c hc => ⟨_, hc2 c hc⟩), rv, qv⟩
     ·by_cases hbc : b ∈ cl.map (·.2)
      ·obtain ⟨g, _, _⟩ := hok2 b _ (hc2 b hbc)
       have g' : s'.heap.get? b = some (os b) := g
       rw [(hos b hbc).1] at e
       cases e
       exact g'
      ·exact un.keep b o e (by rw [BE hbc]; exact n) hb hx'
     ·exact un.slot b o e (by rw [BE (hfr b hb)]; exact n) hb hx'
     ·by_cases hbc : b ∈ cl.map (·.2)
      ·exact EI hbc
      ·rw [BR hbc]; exact un.free b o e (by rw [BE hbc]; exact n) hx'
     ·have hbc : b ∉ cl.map (·.2) := fun z => by rw [hcn b z] at e; cases e
      rw [BR hbc]; exact un.tups b xs (by rw [BE hbc]; exact e)
     ·have hbc : b ∉ cl.map (·.2) := fun z => by rw [hcn b z] at e; cases e
      rw [BR hbc]; exact un.frzs b o w' (by rw [BE hbc]; exact e)
     ·have hbc : b ∉ cl.map (·.2) := fun z => by rw [hcn b z] at e; cases e
      rw [BR hbc]; exact un.tbls b pp (by rw [BE hbc]; exact e)
end
section
variable {K : Su} {cs : List Addr} {H H' : Hp}
theorem Af.trk {os : Addr → Obj} (hn : ∀ c ∈ cs, H c = none) : Af H (DX cs os H) := fun b o e => by
 have hb : b ∉ cs := fun z => by rw [hn b z] at e; cases e
 rw [BE hb]; exact e
theorem Af.untrk {os : Addr → Obj} (s : Af (DX cs os H) H') (hn : ∀ c ∈ cs, H c = none) : Af H (offC cs H') := fun b o e => by
 have hb : b ∉ cs := fun z => by rw [hn b z] at e; cases e
 rw [BR hb]; exact s b o (by rw [BE hb]; exact e)
end
end L2
namespace L2
open PySem PySem.Spec PyProof.Rows
def Bm (mg : Str → Option Value) (base : Heap) : Prop := ∃ bm ob, mg "__builtins__" = some (.ref bm) ∧ bm ≠ builtinsNs ∧ base.get? bm = some ob ∧ ob.cls = .type "module" ∧ ob.dict = some builtinsNs ∧ ob.data = .plain
def CF (Pt : Addr) (q : Str) (H : Hp) : Prop := ∃ ps : Array Value, H Pt = some (.tbl ps) ∧ TriplesOk ps.toList ∧ ∀ pos cv, codeAmong pos ps.toList = some cv → ∃ c', cv = .ref c' ∧ H c' = some (Iq c' q)
theorem GB {pos : Pos} {a b : Int} {c cv : Value} (l : List Value) (h : TriplesOk l) (e : codeAmong pos (l ++ [rawInt a, rawInt b, c]) = some cv) : codeAmong pos l = some cv ∨ cv = c := by
 fun_induction TriplesOk l with
 | case1 =>
   simp only [List.nil_append, rawInt, codeAmong] at e
   split at e
   ·exact .inr (Sj.inj e).symm
   ·cases e
 | case2 a' t b' u x Cr ih =>
   simp only [List.cons_append, codeAmong] at e ⊢
   split at e
   ·rename_i hc; rw [if_pos hc]; exact .inl e
   ·rename_i hc; rw [if_neg hc]; exact ih h e
 | case3 l h1 h2 => exact h.elim
structure MY (H H' : Hp) (Pt : Addr) (q : Str) (f c' : Addr) (fd : FuncData) : Prop where
 new : H f = none
 lam : H' f = some (Fh f fd)
 cod : H' c' = some (Iq c' q)
 tab : CF Pt q H'
 old : ∀ b o, b ≠ Pt → H b = some o → H' b = some o
def Pn (env : Env) (mg : Str → Option Value) (Pt : Addr) (q : Str) (params : Arguments) (body : Expr) (scope : Scope) : TE := fun _ H Q => CF Pt q H ∧ ∀ f c' cl ctv H', Ir env cl → (∀ x ∈ scope.names, x.2 = .free → ∃ c, (x.1, c) ∈ cl) →
 MY H H' Pt q f c' (V0 "<lambda>" q params body scope cl ((mg "__name__").getD .none) (.ref c') ctv) → Q (.ref f) H'
theorem Oz {X : Cx} {params : Arguments} {body : Expr} {scope : Scope} {pos : Pos} {c Pt : Addr} (hc : X.env.code = .ref c) (hcd : V1 X.K c Pt = true) (hbm : Bm X.mg X.base)
 (hdef : defaultsOf params X.env = ([], []) := by rfl) (hfree : ∀ x ∈ scope.names, x.2 = .free → X.env.kindOf x.1 = some .cell ∨ X.env.kindOf x.1 = some .free) :
 PE X (.Lambda params body scope pos) (Pn X.env X.mg Pt (X.env.qual ++ "<lambda>") params body scope) := by
 intro pins s σ H Q I h
 obtain ⟨⟨ps, hP, ht, hcodes⟩, h⟩ := h
 have hPo : s.heap.get? Pt = some (V2 ps) := I.hok Pt _ hP
 have hcells : ∀ x ∈ scope.names, x.2 = .free → ∃ c, X.env.cells.lookup x.1 = some c := fun x hx hf => I.ok.has _ (hfree x hx hf)
 obtain ⟨cl, e1, h1, _, h3⟩ := Dl scope.names [] hcells
 have hcl : closureFor scope X.env = pure cl := by
  unfold closureFor
  simp only [bind_pure]
  exact e1
 have C : Ir X.env cl := ⟨fun x c hp => by
  rcases h1 _ hp with z | z
  ·exact nomatch z
  ·exact z, fun x y c hx hy => I.ok.inj x y c (by
   rcases h1 _ hx with z | z
   ·exact nomatch z
   ·exact z) (by
   rcases h1 _ hy with z | z
   ·exact nomatch z
   ·exact z)⟩
 have hgs : s.heap.Ns mainGlobals X.mg := I.mod.glob.keeps I.bk
 obtain ⟨bm, ob, b1, b2, b3, b4, b5, b6⟩ := hbm
 have b3' : s.heap.get? bm = some ob := I.bk _ _ b3
 have hgP : mainGlobals ≠ Pt := fun q => by
  obtain ⟨o, es, ep, e, hd, _⟩ := hgs
  rw [q, hPo] at e; cases e; cases hd
 have hbP : bm ≠ Pt := fun q => by rw [q, hPo] at b3'; cases b3'; cases b4
 have hbG : bm ≠ mainGlobals := fun q => by
  obtain ⟨o, es, ep, e, hd, _⟩ := hgs
  rw [q, e] at b3'; cases b3'; rw [hd] at b6; cases b6
 refine PySem.W.kla_eval hdef ?_
 have hB : s.heap.BuiltinsAt X.mg Pt := ⟨bm, ob, b1, b2, hbG, hbP, b3', b4, b5, b6⟩
 cases hf : codeAmong pos ps.toList with
 | none =>
   refine PySem.W.kla_makeFunction (mg := X.mg) hcl I.ok.glob hgs hc (V3 I.kIn hcd) hPo ht hf hgP hB fun c' ctv h' tk hx hge hlt hrec htb => ?_
   have hcn : H c' = none := I.hok.fresh hge
   have hsz : s.heap.objs.size ≤ h'.objs.size := Sv hge (Sw hlt)
   have hfn : H h'.objs.size = none := I.hok.fresh hsz
   have hcf : c' ≠ h'.objs.size := Sn hlt
   have hPc : Pt ≠ c' := Aw hP hcn
   have hPf : Pt ≠ h'.objs.size := Aw hP hfn
   have at_ : ∀ b, b ≠ Pt → b ≠ c' → b ≠ h'.objs.size → upd (upd (upd H Pt (.tbl (ps ++ #[rawInt pos.line, rawInt pos.col, .ref c']))) c' (Iq c' (X.env.qual ++ "<lambda>"))) h'.objs.size (Fh h'.objs.size (V0 "<lambda>" (X.env.qual ++ "<lambda>") params body scope cl ((X.mg "__name__").getD .none) (.ref c') ctv)) b = H b := fun b n1 n2 n3 => by rw [Aq n3, Aq n2, Aq n1]
   have aP : upd (upd (upd H Pt (.tbl (ps ++ #[rawInt pos.line, rawInt pos.col, .ref c']))) c' (Iq c' (X.env.qual ++ "<lambda>"))) h'.objs.size (Fh h'.objs.size (V0 "<lambda>" (X.env.qual ++ "<lambda>") params body scope cl ((X.mg "__name__").getD .none) (.ref c') ctv)) Pt = some (.tbl (ps ++ #[rawInt pos.line, rawInt pos.col, .ref c'])) := by rw [Aq hPf, Aq hPc]; exact Aa
   have aC : upd (upd (upd H Pt (.tbl (ps ++ #[rawInt pos.line, rawInt pos.col, .ref c']))) c' (Iq c' (X.env.qual ++ "<lambda>"))) h'.objs.size (Fh h'.objs.size (V0 "<lambda>" (X.env.qual ++ "<lambda>") params body scope cl ((X.mg "__name__").getD .none) (.ref c') ctv)) c' = some (Iq c' (X.env.qual ++ "<lambda>")) := by rw [Aq hcf]; exact Aa
   have aF : upd (upd (upd H Pt (.tbl (ps ++ #[rawInt pos.line, rawInt pos.col, .ref c']))) c' (Iq c' (X.env.qual ++ "<lambda>"))) h'.objs.size (Fh h'.objs.size (V0 "<lambda>" (X.env.qual ++ "<lambda>") params body scope cl ((X.mg "__name__").getD .none) (.ref c') ctv)) h'.objs.size = some (Fh h'.objs.size (V0 "<lambda>" (X.env.qual ++ "<lambda>") params body scope cl ((X.mg "__name__").getD .none) (.ref c') ctv)) := Aa
   generalize upd (upd (upd H Pt (.tbl (ps ++ #[rawInt pos.line, rawInt pos.col, .ref c']))) c' (Iq c' (X.env.qual ++ "<lambda>"))) h'.objs.size (Fh h'.objs.size (V0 "<lambda>" (X.env.qual ++ "<lambda>") params body scope cl ((X.mg "__name__").getD .none) (.ref c') ctv)) = H' at at_ aP aC aF
   have old : ∀ b o, b ≠ Pt → H b = some o → H' b = some o := fun b o n e => by rw [at_ b n (Aw e hcn) (Aw e hfn)]; exact e
   have lts : ∀ {b : Addr} {o : Obj}, s.heap.get? b = some o → b ≠ c' ∧ b ≠ h'.objs.size := fun e => ⟨Sn (Sl (Heap.lt_size e) hge), Sn (Sl (Heap.lt_size e) hsz)⟩
   have kp : ∀ b o, b ≠ Pt → s.heap.get? b = some o → (h'.push (V4 "<lambda>" (X.env.qual ++ "<lambda>") params body scope cl ((X.mg "__name__").getD .none) c' ctv)).get? b = some o := fun b o n e => Heap.get?_push_of_some _ (hx b o n e)
   have nP : ∀ {b : Addr}, H b = none → b ≠ Pt := fun n z => by rw [z, hP] at n; cases n
   refine I.after ⟨.ref h'.objs.size, H', rfl, I.bare, ⟨fun b o e n _ _ => kp b o (nP n) e, fun b o e n _ _ => ⟨o.slots, kp b o (nP n) e⟩, fun b o e n _ => by rw [at_ b (nP n) (lts e).1 (lts e).2]; exact n, fun b o e _ => ?_, fun b xs e => old b _ (fun z => by rw [z, hP] at e; cases e) e, fun b o u e => old b _ (fun z => by rw [z, hP] at e; cases e) e, fun b pp e => ?_⟩, fun b o e => ?_, rfl, ?_⟩
   ·by_cases n : b = Pt
    ·subst n; exact ⟨_, Heap.get?_push_of_some _ htb⟩
    ·exact ⟨o, kp b o n e⟩
   ·by_cases n : b = Pt
    ·subst n; rw [hP] at e; cases e; exact ⟨_, aP⟩
    ·exact ⟨#[], by rw [old b _ n e]; simp⟩
   ·by_cases n3 : b = h'.objs.size
    ·subst n3; rw [aF] at e; cases e
     have g : (h'.push (V4 "<lambda>" (X.env.qual ++ "<lambda>") params body scope cl ((X.mg "__name__").getD .none) c' ctv)).get? h'.objs.size = some (V4 "<lambda>" (X.env.qual ++ "<lambda>") params body scope cl ((X.mg "__name__").getD .none) c' ctv) := Heap.get?_push_size _ rfl
     exact ⟨g, ⟨_, g⟩, fun h1 h2 z st => st _ z⟩
    ·by_cases n2 : b = c'
     ·subst n2; rw [aC] at e; cases e
      obtain ⟨c2, oc, vs, t, e2, hoc, hd, hv⟩ := hrec
      cases e2
      have g := Heap.get?_push_of_some (V4 "<lambda>" (X.env.qual ++ "<lambda>") params body scope cl ((X.mg "__name__").getD .none) b ctv) hoc
      exact ⟨⟨_, oc, vs, t, rfl, g, hd, hv⟩, ⟨_, g⟩, fun h1 h2 ⟨c3, oc3, vs3, t3, e3, hoc3, hd3, hv3⟩ st => by cases e3; exact ⟨_, oc3, vs3, t3, rfl, st _ hoc3, hd3, hv3⟩⟩
     ·by_cases n1 : b = Pt
      ·subst n1; rw [aP] at e; cases e
       show (h'.push _).get? b = some _
       exact Heap.get?_push_of_some _ htb
      ·rw [at_ b n1 n2 n3] at e
       exact (I.hok b o e).stay (fun d u hd q => kp d u (fun z => by
        rcases hd with hd | hd
        ·exact n1 (by rw [← hd]; exact z)
        ·rw [z, hP] at hd; cases hd) q) (fun d q => old d _ (fun z => by rw [z, hP] at q; cases q) q) fun d xs q => old d _ (fun z => by rw [z, hP] at q; cases q) q
   ·refine h h'.objs.size c' cl ctv H' C h3 ⟨hfn, aF, aC, ⟨_, aP, ?_, fun pos' cv q => ?_⟩, old⟩
    ·rw [Array.toList_append]; exact TriplesOk_snoc _ _ _ _ ht
    ·rw [Array.toList_append] at q
     rcases GB _ ht q with z | z
     ·obtain ⟨c2, e2, k2⟩ := hcodes pos' cv z
      exact ⟨c2, e2, old c2 _ (fun z => by rw [z, hP] at k2; cases k2) k2⟩
     ·exact ⟨c', z, aC⟩
 | some cv =>
   obtain ⟨c', rfl, hco⟩ := hcodes pos cv hf
   refine PySem.W.kla_makeFunctionHit (mg := X.mg) hcl I.ok.glob hgs hc (V3 I.kIn hcd) hPo ht hf hB fun ctv h' tk hk hsz => ?_
   have hfn : H h'.objs.size = none := I.hok.fresh hsz
   have J := I.laid (t' := tk) (h' := h'.push { cls := .type "function", data := .func (V0 "<lambda>" (X.env.qual ++ "<lambda>") params body scope cl ((X.mg "__name__").getD .none) (.ref c') ctv) }) (a := h'.objs.size) (o := Fh h'.objs.size (V0 "<lambda>" (X.env.qual ++ "<lambda>") params body scope cl ((X.mg "__name__").getD .none) (.ref c') ctv)) (fun b ob q => Heap.get?_push_of_some _ (hk b ob q)) hsz (by
    have g : (h'.push { cls := .type "function", data := .func (V0 "<lambda>" (X.env.qual ++ "<lambda>") params body scope cl ((X.mg "__name__").getD .none) (.ref c') ctv) }).get? h'.objs.size = some { cls := .type "function", data := .func (V0 "<lambda>" (X.env.qual ++ "<lambda>") params body scope cl ((X.mg "__name__").getD .none) (.ref c') ctv) } := Heap.get?_push_size _ rfl
    exact ⟨g, ⟨_, g⟩, fun h1 h2 z st => st _ z⟩)
   have old : ∀ b o, H b = some o → upd H h'.objs.size (Fh h'.objs.size (V0 "<lambda>" (X.env.qual ++ "<lambda>") params body scope cl ((X.mg "__name__").getD .none) (.ref c') ctv)) b = some o := fun b o e => by rw [Aq (Aw e hfn)]; exact e
   exact ⟨.ref h'.objs.size, _, J, rfl, h _ c' cl ctv _ C h3 ⟨hfn, Aa, old _ _ hco, ⟨ps, old _ _ hP, ht, fun pos' cv q => by
    obtain ⟨c2, e2, k2⟩ := hcodes pos' cv q
    exact ⟨c2, e2, old _ _ k2⟩⟩, fun b o _ e => old b o e⟩⟩
end L2
namespace L2
open PySem PySem.Spec PyProof.Rows
def MW (Pt : Addr) (H : Hp) : Prop := ∀ b, b ≠ Pt → H b = none ∨ ∃ o xs, H b = some (.frz o (.lst xs))
theorem Ld {P : Program} {w : World} {K : Su} {mg mb : Str → Option Value} {CX : CXT} {k : Nat} {fa a Pt c : Addr} {fd : FuncData} {x : Str} {sp : Sp} {s₁ : Shared} {vs : List Value} {ns : List Int}
 (KX : K.In s₁.heap) (hns : s₁.heap.Ns mainGlobals mg) (hb : s₁.heap.Ns builtinsNs mb) (hbb : ∀ x : Str, x ≠ "__name__" → mb x = bootBuiltins x) (hlim : s₁.heap.NoLimit) (hsee : s₁.heap.NoSeer) (hbm : Bm mg s₁.heap) (hg : s₁.gens = #[])
 (hPt : s₁.heap.get? Pt = some (V2 #[])) (hPK : K.lookup Pt = none) (hcd : V1 K c Pt = true)
 (ha : s₁.heap.get? a = some { cls := .type "list", data := .seq vs.toArray }) (hi : IntsAre vs ns) (hl : ns.length ≤ sizeLine) (hr : C8 k callerA)
 (F : ∀ base : Heap, K.In base → base.Ns mainGlobals mg → Bm mg base → AH P w K mg base CX k fa fd [x] sp) (hbind : ∀ (s : Shared) (u : Value), BindsTo s fd ⟨[u], []⟩ [(x, u)])
 (hsp : ∀ H : Hp, MW Pt H → SqL K H a (ns.map V.int) → H Pt = some (.tbl #[]) → sp [.ref a] H (fun v _ => v = .bl true) fun _ _ _ => False)
 (hCX : ∀ H e s', CX [] H s₁ (fun _ _ _ => False) e s' → False) :
 codeAny (model P w) callerA (.call (.ref fa) ⟨[.ref a], []⟩) (fun r s' => r = .ok (.ret (.bool true)) ∧ OldK s₁.heap s'.heap ∧ s'.os = s₁.os ∧ AllBare s'.gens) s₁ := by
 have rv := KA hi
 have lenV := hi.length
 have aP : a ≠ Pt := fun z => by rw [z, hPt] at ha; cases ha
 have core : ∀ H : Hp, MW Pt H → H Pt = some (.tbl #[]) → SqL K H a (ns.map V.int) → HOk P w H s₁.heap → (∀ b, H b ≠ none → b = a ∨ b = Pt) → (H a ≠ none → K.lookup a = none) →
  codeAny (model P w) callerA (.call (.ref fa) ⟨[.ref a], []⟩) (fun r s' => r = .ok (.ret (.bool true)) ∧ OldK s₁.heap s'.heap ∧ s'.os = s₁.os ∧ AllBare s'.gens) s₁ := by
  intro H hO hHP hS hok hA hK
  have base_of : ∀ {b : Addr} {o : Obj}, s₁.heap.get? b = some o → H b = none → (FY s₁.heap H).get? b = some o := fun e n => Mz e n
  have noA : ∀ {b : Addr} {o : Obj} {es : Array DictEntry} {ep : Nat}, s₁.heap.get? b = some o → o.data = .dict es ep → H b = none := fun {b o es ep} e d => by
   cases q : H b with
   | none => rfl
   | some u =>
     rcases hA b (by rw [q]; simp) with e' | e'
     ·subst e'
      rw [ha] at e; cases e
      have d' : Data.seq vs.toArray _ = Data.dict es ep := d
      cases d'
     ·subst e'
      rw [hPt] at e; cases e
      have d' : Data.fields #[] = Data.dict es ep := d
      cases d'
  have nsK : ∀ {b : Addr} {m : Str → Option Value}, s₁.heap.Ns b m → (FY s₁.heap H).Ns b m := fun {b m} ⟨o, es, ep, e, d, r⟩ => ⟨o, es, ep, base_of e (noA e d), d, r⟩
  have hKb : K.In (FY s₁.heap H) := fun b o e => base_of (KX b o e) (by
   cases q : H b with
   | none => rfl
   | some u =>
     rcases hA b (by rw [q]; simp) with e' | e'
     ·subst e'
      rw [hK (by rw [q]; simp)] at e; cases e
     ·subst e'
      rw [hPK] at e; cases e)
  have modN : ∀ {bm : Addr} {ob : Obj}, s₁.heap.get? bm = some ob → ob.cls = .type "module" → H bm = none := fun {bm ob} z u => by
   cases q : H bm with
   | none => rfl
   | some o =>
     rcases hA bm (by rw [q]; simp) with e' | e'
     ·subst e'
      rw [ha] at z; cases z
      have u' : Value.type "list" = Value.type "module" := u
      exact absurd u' (by decide)
     ·subst e'
      rw [hPt] at z; cases z; cases u
  have seerK : (FY s₁.heap H).NoSeer := ⟨let ⟨mc, x, y⟩ := hsee.statics; ⟨mc, nsK x, y⟩, let ⟨mm, x, y⟩ := hsee.mods; ⟨mm, nsK x, y⟩, let ⟨mi, x, y⟩ := hsee.imp; ⟨mi, nsK x, y⟩, by
   obtain ⟨mg', bm, ob, x, y, z, u, v⟩ := hsee.main
   exact ⟨mg', bm, ob, nsK x, y, base_of z (modN z u), u, v⟩⟩
  have bmK : Bm mg (FY s₁.heap H) := by
   obtain ⟨bm, ob, x, y, z, u, v, t⟩ := hbm
   exact ⟨bm, ob, x, y, base_of z (modN z u), u, v, t⟩
  have hM : Mod K mg (FY s₁.heap H) := ⟨hKb, nsK hns, ⟨mb, nsK hb, hbb⟩, let ⟨mc, h1, h2⟩ := hlim; ⟨mc, nsK h1, h2⟩, seerK⟩
  have e0 : Ls P w K mg (FY s₁.heap H) callerA [] s₁ H := ⟨rfl, hM, fun b o e => Nw e, V5 (Lj _ _), trivial, fun b hb => absurd (show b ∈ ([] : List Addr) from hb) (by simp), hok, .of_eq hg⟩
  refine codeAny_mono ((F _ hKb (nsK hns) bmK).run callerA [] s₁ H ⟨[.ref a], []⟩ [.ref a] [.ref a] _ _ hr e0 (hbind s₁ (.ref a)) (.cons rfl .nil) (hsp H hO hS hHP)) fun r s' h => ?_
  cases r with
  | error e => exact (hCX H e s' h).elim
  | ok fl =>
    cases fl with
    | next => exact False.elim h
    | brk => exact False.elim h
    | cont => exact False.elim h
    | ret u =>
      obtain ⟨v, H', os, bare, un, hok', r', q⟩ := h
      have q' : v = .bl true := q
      subst q'
      obtain rfl : u = Value.bool true := r'
      obtain ⟨more, hP'⟩ := un.tbls Pt _ hHP
      have gP : s'.heap.get? Pt = some (V2 (#[] ++ more)) := hok' Pt _ hP'
      have kp : ∀ b o, b ≠ Pt → s₁.heap.get? b = some o → s'.heap.get? b = some o := fun b o n e => by
       cases q : H b with
       | none => exact un.keep b o e q (by intro z; exact absurd (show b ∈ ([] : List Addr) from z) (by simp)) (by simp)
       | some u =>
         rcases hO b n with z | ⟨ob, xs, z⟩
         ·rw [q] at z; cases z
         ·have z2 := un.frzs b ob _ z
          obtain ⟨e1, _⟩ := hok b _ z
          obtain ⟨e2, _⟩ := hok' b _ z2
          rw [e] at e1; cases e1
          exact e2
      obtain ⟨oc, cvs, _, _, _, _, _, _, _, g1, g2, g3, g4, _⟩ := V3 KX hcd
      refine ⟨rfl, ⟨fun b o e => ?_, fun b o e => ?_⟩, os, bare⟩
      ·by_cases n : b = Pt
       ·subst n
        rw [hPt] at e; cases e
        exact .inr (.inl ⟨⟨c, oc, cvs, g1, g2, g3, g4⟩, rfl, #[], more, rfl, gP⟩)
       ·exact .inl (kp b o n e)
      ·by_cases n : b = Pt
       ·subst n; exact ⟨_, gP⟩
       ·exact ⟨o, kp b o n e⟩
 cases hk : K.lookup a with
 | some o =>
   have e := KX a o hk
   rw [ha] at e
   cases e
   refine core (fun b => if b = Pt then some (.tbl #[]) else none) (fun b n => .inl (if_neg n)) (if_pos rfl) (.inr ⟨_, vs.toArray, _, hk, rfl, rfl, rfl, by rw [Th, lenV]; exact hl, by simpa using rv⟩) (fun b u z => ?_) (fun b z => ?_) fun z => absurd (if_neg aP) z
   ·by_cases n : b = Pt
    ·subst n
     have z' := (if_pos rfl).symm.trans z
     cases z'
     exact hPt
    ·have z' := (if_neg n).symm.trans z
     cases z'
   ·by_cases n : b = Pt
    ·exact .inr n
    ·exact absurd (if_neg n) z
 | none =>
   refine core (fun b => if b = a then some (.frz { cls := .type "list", data := .seq vs.toArray } (.lst (ns.map V.int))) else if b = Pt then some (.tbl #[]) else none) (fun b n => ?_) (by show (if Pt = a then _ else if Pt = Pt then some (HO.tbl #[]) else none) = _; rw [if_neg (Ne.symm aP), if_pos rfl]) (.inl (.inr ⟨{ cls := .type "list", data := .seq vs.toArray }, if_pos rfl⟩)) (fun b u z => ?_) (fun b z => ?_) fun _ => hk
   ·by_cases hb : b = a
    ·exact .inr ⟨_, _, if_pos hb⟩
    ·exact .inl (by show (if b = a then _ else if b = Pt then _ else none) = none; rw [if_neg hb, if_neg n])
   ·by_cases hb : b = a
    ·have z' := (if_pos hb).symm.trans z
     cases z'
     subst hb
     exact ⟨ha, by rw [T7]; exact hl, vs, _, rv, ha⟩
    ·by_cases n : b = Pt
     ·subst n
      have z' : some (HO.tbl #[]) = some u := by rw [← z]; show _ = (if b = a then _ else if b = b then some (HO.tbl #[]) else none); rw [if_neg hb, if_pos rfl]
      cases z'
      exact hPt
     ·have z' : (none : Option HO) = some u := by rw [← z]; show _ = (if b = a then _ else if b = Pt then some (HO.tbl #[]) else none); rw [if_neg hb, if_neg n]
      cases z'
   ·by_cases hb : b = a
    ·exact .inl hb
    ·by_cases n : b = Pt
     ·exact .inr n
     ·exact absurd (by show (if b = a then _ else if b = Pt then _ else none) = none; rw [if_neg hb, if_neg n]) z
theorem Lz {l : V6} {n k : Nat} {q : Program} {loose : List Str} {XP : (Str → Option Value) → Heap → Prop} {YP : World → Heap → Prop} {d : DefRec} {K : Params → Su} {CX : World → CXT} {sp : World → Sp} {x : Str} {Pt : Addr}
 (hI : importsNone q = true) (hn : l.most = some n) (hn2 : n ≤ sizeLine) (hdf : d.params.defaults = []) (hr : C8 k callerA)
 (hY : ∀ (w : World) (h : Heap), YP w h → (K w.params).In h ∧ h.get? Pt = some (V2 #[]) ∧ (K w.params).lookup Pt = none)
 (F : ∀ (w : World) (mg : Str → Option Value) (fa : Addr) (h : Heap), (K w.params).In h → h.Ns mainGlobals mg → mg d.name = some (.ref fa) →
  ∃ (fd : FuncData) (c : Addr), V1 (K w.params) c Pt = true ∧ (∀ (s : Shared) (u : Value), BindsTo s fd ⟨[u], []⟩ [(x, u)]) ∧
    ∀ base : Heap, (K w.params).In base → base.Ns mainGlobals mg → Bm mg base → AH l.prog w (K w.params) mg base (CX w) k fa fd [x] (sp w))
 (hsp : ∀ (w : World) (H : Hp) (a : Addr) (ns : List Int), ns.length ≤ n → MW Pt H → SqL (K w.params) H a (ns.map V.int) → H Pt = some (.tbl #[]) → sp w [.ref a] H (fun v _ => v = .bl true) fun _ _ _ => False)
 (hCX : ∀ (w : World) (H : Hp) (s : Shared) (e : Value) (s' : Shared), CX w [] H s (fun _ _ _ => False) e s' → False) :
 PySem.W.WalkO q loose XP YP l.row.toRowW d [] (fun f vs => PySem.call f vs) := by
 refine Att.attach_call hn hdf fun w s₀ s₁ mg mb fa o pm cd doc a vs ns G Y ho hd hcd hmg hobj hints hlen hg => ?_
 obtain ⟨KX, hPt, hPK⟩ := hY w _ Y
 obtain ⟨fd, c, hc, hb, hF⟩ := F w mg fa _ KX G.T.g hmg
 exact Ld KX G.T.g G.T.b G.T.builtins G.T.nolimit (G.T.seer hI) G.T.bmain hg hPt hPK hc hobj hints (Sv hlen hn2) hr hF hb (fun H hO hS hP => hsp w H a ns hlen hO hS hP) fun H e s' => hCX w H s₁ e s'
def EN (K : Su) (f Pt : Addr) : Bool := match K.lookup f with
 | some ⟨_, _, .func fd, _⟩ => (match fd.code with | .ref c => V1 K c Pt | _ => false)
 | _ => false
theorem Fun.okL {P : Program} {w : World} {K : Su} {mg : Str → Option Value} {base : Heap} {x qual : Str} {st : Stmt} {f Pt : Addr} {fd : FuncData} {N ps : List Str} {k : Nat} {sp : Sp} (F : Fun K x qual st f fd) (hl : EN K f Pt = true) (S : Ao N ps (Ae st)) (len : ∀ vs H Q E, sp vs H Q E → vs.length = ps.length)
 (hbody : ∀ (c : Addr) (A : Around) (outer : List Env) (s : Shared) (H : Hp) (vs : List V) (Q : VK) (E : XK), V1 K c Pt = true → C8 k (A.deeper (envOfC qual (Ae st) s.heap.objs.size f (.ref c))) → sp vs H Q E →
  ∃ t, PSs (JX CX0 P w K mg base N qual (Ae st) f (.ref c) A outer s H E).nox (Al st) t ∧ t { nx := fun _ H' => Q .non H', rt := Q } (E6 N vs) H) : AH P w K mg base CX0 (k + 1) f fd ps sp := by
 obtain ⟨oc, od, kV, doc, pm, an, cdv, ct, osl, rfl, lk, hcd⟩ := F.ex
 refine O1 lk hcd S len fun A outer s H vs Q E hr hsp => ?_
 unfold EN at hl
 rw [lk] at hl
 cases cdv with
 | ref c =>
   obtain ⟨t, h, q⟩ := hbody c A outer s H vs Q E hl hr hsp
   exact ⟨t, h.nox, q⟩
 | _ => cases hl
def Kh (sc scope : Scope) : Bool := scope.names.all fun x => decide (x.2 ≠ .free) || decide (sc.names.lookup x.1 = some .cell)
theorem Nr {X : Cx} {params : Arguments} {body : Expr} {scope sc : Scope} {pos : Pos} {c Pt : Addr} (hcd : V1 X.K c Pt = true) (hbm : Bm X.mg X.base) (hc : X.env.code = .ref c := by rfl) (hs : X.env.scope = sc := by rfl) (hf : Kh sc scope = true := by decide +kernel)
 (hdef : defaultsOf params X.env = ([], []) := by rfl) : PE X (.Lambda params body scope pos) (Pn X.env X.mg Pt (X.env.qual ++ "<lambda>") params body scope) :=
 Oz hc hcd hbm hdef fun x hx hfr => .inl (by
  unfold Kh at hf
  have h := U5.mp hf x hx
  rw [Bool.or_eq_true, decide_eq_true_eq, decide_eq_true_eq] at h
  rcases h with h | h
  ·exact absurd hfr h
  ·show X.env.scope.names.lookup x.1 = _
   rw [hs]; exact h)
end L2
namespace L2
open PySem PySem.Spec PyProof.Rows
def spT (ps : List Str) (Pre : List V → Prop) (Ans : List V → V → Hp → Prop) (H0 : Hp) : Sp := fun vs H Q _ => vs.length = ps.length ∧ Pre vs ∧ Af H0 H ∧ ∀ r H', Af H H' → Ans vs r H' → Q r H'
structure Tells (P : Program) (w : World) (K : Su) (mg : Str → Option Value) (base : Heap) (k : Nat) (H : Hp) (f : Addr) (ps : List Str) (Pre : List V → Prop) (Ans : List V → V → Hp → Prop) : Prop where
 ex : ∃ fd, AH P w K mg base CX0 k f fd ps (spT ps Pre Ans H) ∧ Ca K fd ps [] ∧ H f = some (Fh f fd)
inductive Cap (sc scope : Scope) (N : List Str) (σ : St) : List Str → List V → Prop
 | nil : Cap sc scope N σ [] []
 | cons {y : Str} {v : V} {fr : List Str} {ws : List V} (i : Nat) (h1 : scope.names.lookup y = some .free) (h2 : sc.names.lookup y = some .cell) (hN : N[i]? = some y) (hσ : σ[i]? = some (some v)) (t : Cap sc scope N σ fr ws) : Cap sc scope N σ (y :: fr) (v :: ws)
theorem Cap.length {sc scope : Scope} {N : List Str} {σ : St} {fr : List Str} {ws : List V} (h : Cap sc scope N σ fr ws) : fr.length = ws.length := by
 induction h with
 | nil => rfl
 | cons i h1 h2 hN hσ t ih => exact congrArg (· + 1) ih
theorem Cap.get {sc scope : Scope} {N : List Str} {σ : St} {fr : List Str} {ws : List V} (h : Cap sc scope N σ fr ws) : ∀ {j : Nat} {y : Str} {v : V}, fr[j]? = some y → (ws.map some)[j]? = some (some v) → scope.names.lookup y = some .free ∧ sc.names.lookup y = some .cell ∧ ∃ i : Nat, N[i]? = some y ∧ σ[i]? = some (some v) := by
 induction h with
 | nil => intro j y v e; cases e
 | cons i h1 h2 hN hσ t ih =>
   intro j y v e1 e2
   cases j with
   | zero => cases e1; cases e2; exact ⟨h1, h2, i, hN, hσ⟩
   | succ j => exact ih e1 e2
structure O5 (scope : Scope) (ps : List Str) : Prop where
 kind : scope.kind = .function
 co : scope.isCoroutine = false
 gen : scope.isGenerator = false
 nocell : (scope.names.all fun x => decide (x.2 ≠ .cell)) = true
 par : (ps.all fun p => decide (scope.names.lookup p = some .local)) = true
theorem Mr {env : Env} {N : List Str} {σ : St} {scope : Scope} {cl : List (Str × Addr)} {os : Addr → Obj} {H2 H' : Hp} {ps fr : List Str} {vs ws : List V} (S : O5 scope ps) (C : Ir env cl) (hfree : ∀ x ∈ scope.names, x.2 = .free → ∃ c, (x.1, c) ∈ cl)
 (hci : Lu N σ env.scope cl os) (cap : Cap env.scope scope N σ fr ws) (hl : vs.length = ps.length) (hm : Af (DX (cl.map (·.2)) os H2) H') : Jk H' scope (ps ++ fr) ps cl (vs.map some ++ ws.map some) vs := by
 have mem : ∀ {x : Str} {c : Addr}, (x, c) ∈ cl → c ∈ cl.map (·.2) := fun h => UZ (f := (·.2)) h
 have cel : ∀ {x : Str} {c : Addr}, (x, c) ∈ cl → H' c = some (EO c (os c)) := fun h => hm _ _ (Jo (mem h))
 refine ⟨S.kind, S.co, S.gen, fun x hx => ?_, fun p hp => ?_, fun x y c h1 h2 => C.inj x y c (PySem.mem_of_lookup h1) (PySem.mem_of_lookup h2), fun x hx => ?_, ?_, fun p hp => ?_, fun i x v hN hσ => ?_⟩
 ·exact of_decide_eq_true (U5.mp S.nocell x hx)
 ·exact of_decide_eq_true (U5.mp S.par p hp)
 ·obtain ⟨c, hc⟩ := hfree _ (PySem.mem_of_lookup hx) rfl
  exact ⟨c, C.look hc⟩
 ·rw [T6, T6, T7, T7, hl, cap.length]
 ·obtain ⟨⟨v, hv⟩, _⟩ := hci p.1 p.2 hp
  exact ⟨os p.2, v, cel (x := p.1) hp, hv⟩
 ·by_cases hi : i < ps.length
  ·rw [T2 hi] at hN
   rw [T2 (by rw [T7, hl]; exact hi), T3] at hσ
   refine .inl ⟨of_decide_eq_true (U5.mp S.par x (T5 hN)), i, hN, ?_⟩
   cases e : vs[i]? with
   | none => rw [e] at hσ; cases hσ
   | some u => rw [e] at hσ; cases hσ; rfl
  ·have hi' : ps.length ≤ i := Nat.le_of_not_lt hi
   rw [SY hi'] at hN
   rw [SY (by rw [T7, hl]; exact hi'), T7, hl] at hσ
   obtain ⟨h1, h2, j, hj, hs⟩ := cap.get hN hσ
   obtain ⟨c, hc⟩ := hfree _ (PySem.mem_of_lookup h1) rfl
   obtain ⟨_, hv⟩ := hci x c hc
   obtain ⟨u, hu, r⟩ := hv j v hj hs h2
   exact .inr ⟨h1, c, os c, u, C.look hc, cel hc, hu, r⟩
theorem lk1 (p : Str) (us : List Value) (h : us.length = [p].length) (j : Nat) (x : Str) (u : Value) (h1 : [p][j]? = some x) (h2 : us[j]? = some u) : ([p].zip us).reverse.lookup x = some u := by
 obtain ⟨a, r, rfl, l1⟩ := Bz h
 cases UW.mp l1
 cases j with
 | zero => cases h1; cases h2; show (match p == p with | true => some u | false => none) = some u; rw [beq_self_eq_true]
 | succ j => cases h1
theorem Le {K : Su} {fd : FuncData} {p : Str} (h : ∀ a : Value, bindArgs fd ⟨[a], []⟩ = pure [(p, a)]) : Ca K fd [p] [] := .all fun us l0 => by
 obtain ⟨a1, r1, rfl, l1⟩ := Bz l0
 cases UW.mp l1
 exact h a1
def C2 (Pt : Addr) (H H' : Hp) : Prop := ∀ b o, b ≠ Pt → H b = some o → H' b = some o
theorem C2.trans {Pt : Addr} {H H' H'' : Hp} (a : C2 Pt H H') (b : C2 Pt H' H'') : C2 Pt H H'' := fun c o n e => b c o n (a c o n e)
theorem Af.b {Pt : Addr} {H H' : Hp} (a : Af H H') : C2 Pt H H' := fun b o _ e => a b o e
theorem CF.same {Pt : Addr} {q : Str} {H H' : Hp} (h : CF Pt q H) (m : Af H H') : CF Pt q H' := by
 obtain ⟨ps, e, t, c⟩ := h
 refine ⟨ps, m _ _ e, t, fun pos cv z => ?_⟩
 obtain ⟨c', e', z'⟩ := c pos cv z
 exact ⟨c', e', m _ _ z'⟩
section
variable {K : Su} {Pt : Addr} {q : Str} {H H' : Hp}
theorem SqT.but {r : Addr} {xs : List V} (h : SqT K H r xs) (c : CF Pt q H) (m : C2 Pt H H') : SqT K H' r xs := by
 obtain ⟨ps, e, _⟩ := c
 have ne : ∀ {b : Addr} {o : HO}, H b = some o → (∀ p, o ≠ .tbl p) → b ≠ Pt := fun z n y => by rw [y, e] at z; exact n _ (Sj.inj z).symm
 rcases h with (h | ⟨o, h⟩) | h
 ·exact .inl (.inl (m _ _ (ne h fun p z => by cases z) h))
 ·exact .inl (.inr ⟨o, m _ _ (ne h fun p z => by cases z) h⟩)
 ·exact .inr h
theorem Az.but {x : V} {y : Rat} (h : Az K H x y) (c : CF Pt q H) (m : C2 Pt H H') : Az K H' x y := let ⟨r, e, h⟩ := h; ⟨r, e, h.but c m⟩
theorem Crv.but {r : Addr} {qs : List Rat} (h : Crv K H r qs) (c : CF Pt q H) (m : C2 Pt H H') : Crv K H' r qs := let ⟨xs, a, b⟩ := h; ⟨xs, a.but c m, Paired.mapP b fun _ _ z => z.but c m⟩
end
end L2
namespace L2
open PySem PySem.Spec PyProof.Rows
theorem NB {K : Su} {as : List Addr} {b : Addr} (h : as = K.map (·.1)) (n : as.contains b = false) : K.lookup b = none := by
 subst h
 refine List.lookup_eq_none_iff.mpr fun p hp => ?_
 have z : b ∉ K.map (·.1) := fun hm => by rw [List.contains_iff_mem.mpr hm] at n; cases n
 rw [bne_iff_ne]
 exact fun e => z (by rw [e]; exact UZ (f := (·.1)) hp)
theorem Lm {K : Su} {f Pt : Addr} (h : EN K f Pt = true) : ∃ c, V1 K c Pt = true := by
 unfold EN at h
 split at h
 ·split at h
  ·exact ⟨_, h⟩
  ·cases h
 ·cases h
end L2
namespace L2
open PySem PySem.Spec PyProof.Rows
section
variable {P : Program} {w : World} {K : Su} {mg : Str → Option Value} {base : Heap} {N : List Str} {qual : Str} {scope : Scope} {f : Addr} {cd : Value} {cl : List (Str × Addr)} {A : Around} {outer : List Env} {s : Shared} {H : Hp} {E : XK}
end
end L2
namespace L2
open PySem PySem.Spec PyProof.Rows
section
variable {X : Cx}
end
end L2
namespace L2
open PySem PySem.Spec PyProof.Rows
structure Qo (P : Program) (w : World) (K : Su) (mg : Str → Option Value) (base : Heap) (k : Nat) (H : Hp) (f C : Addr) : Prop where
 ex : ∃ fd sp, AH P w K mg base (CX1 P w) k f fd [] sp ∧ Ca K fd [] [] ∧ H f = some (Fh f fd) ∧ ∀ (Q : VK) (E : XK), (∀ H', Af H H' → E (.ref C) none H') → sp [] H Q E
end L2
namespace Dt
def skip (i a : Nat) : Nat := if a < i then a else a + 1
def sg (i : Nat) : Int := if i % 2 = 0 then 1 else -1
def sumN (f : Nat → Int) : Nat → Int
 | 0 => 0
 | n + 1 => sumN f n + f n
def det : Nat → (Nat → Nat → Int) → Nat → Int
 | 0, M, j => M 0 j
 | n + 1, M, j => sumN (fun i => sg i * (M i 0 * det n (fun a b => M (skip i a) (b + 1)) j)) (n + 2)
def put (M : Nat → Nat → Int) (p : Nat) (u : Nat → Int) : Nat → Nat → Int := fun a b => if a = p then u b else M a b
def low (i p : Nat) : Nat := if p < i then p else p - 1
def sh (i : Nat) (v : Nat → Int) : Nat → Int := fun b => if b < i then 0 else v (b - i)
def syl (p : Nat) (g f : Nat → Int) : Nat → Nat → Int := fun a => if a < p then sh a g else sh (a - p) f
def sub (m n k : Nat) (f g : Nat → Int) (j : Nat) : Int := det (m - k + (n - k) - 1) (syl (m - k) g f) j
end Dt
namespace Dt
structure Srs (S : Nat → Nat → Int) (m n : Nat) (f g : Nat → Int) (lead held : Int) : Prop where
 le : n ≤ m
 g0 : g 0 ≠ 0
 l0 : lead ≠ 0
 h0 : held ≠ 0
 one : n < m ∨ (lead = 1 ∧ held = 1)
 is : ∀ k, k ≤ n → ∃ s : Int, (s = 1 ∨ s = -1) ∧ ∀ j, lead ^ (n - k) * held ^ (m - k - 1) * S k j = s * sub m n k f g j
section
variable {S : Nat → Nat → Int} {m n : Nat} {f g r : Nat → Int} {e : Nat → Int} {lead held : Int}
end
end Dt
namespace L2
open Dt
def tf (l : List Int) : Nat → Int := fun b => if b < l.length then l.getD (l.length - 1 - b) 0 else 0
structure LR (S : Nat → Nat → Int) (fs gs : List Int) (lead held : Int) : Prop where
 fp : 1 ≤ fs.length
 srs : 1 ≤ gs.length → Srs S (fs.length - 1) (gs.length - 1) (tf fs) (tf gs) lead held
end L2
namespace L2
def K1 (d p : List Rat) : Prop := ∃ q : List Rat, ∀ x, Cv.ev p x = Cv.ev q x * Cv.ev d x
def Com (A B F G : List Rat) : Prop := ∀ d, (K1 d A ∧ K1 d B) ↔ (K1 d F ∧ K1 d G)
abbrev cst (l : List Int) : List Rat := l.map fun t : Int => (t : Rat)
structure Part (A B p : List Rat) : Prop where
 good : Bi p
 mono : p[p.length - 1]? = some 1
 is : ∀ d, (K1 d A ∧ K1 d B) ↔ K1 d p
end L2
namespace L2
open Dt
def NS (l : List Int) : Prop := ∀ t, l[l.length - 1]? = some t → t ≠ 0
def PD (l : List Int) : Prop := ∃ D : Nat → Int, D 0 ≠ 0 ∧ (∀ j, Bd 45100 (D j)) ∧ ∀ j, tf l j * D 0 = D j * tf l 0
structure LRI (S : Nat → Nat → Int) (fs gs fs' gs' : List Int) (lead held : Int) (B d0 : Nat) : Prop where
 lr : LR S fs' gs' lead held
 le : gs'.length ≤ fs'.length
 l8 : fs'.length ≤ 8
 t1 : NS fs'
 t2 : NS gs'
 com : Com (cst fs) (cst gs) (cst fs') (cst gs')
 bf : ∀ t ∈ fs', Bd B t
 bg : ∀ t ∈ gs', Bd B t
 bl : Bd (B + 1) lead
 bh : Bd (B * d0 + 1) held
 d8 : d0 + fs'.length ≤ 8
 bb : B + 1 ≤ 3 ^ (9 - fs'.length) * 3001
 b3 : fs'.length = gs'.length → B ≤ 3000
 pd : PD fs'
section
variable {S : Nat → Nat → Int} {fs gs fs' gs' : List Int} {lead held : Int} {B d0 : Nat}
end
end L2
namespace L2
open Dt
structure LRJ (S : Nat → Nat → Int) (fs gs fs' gs' : List Int) (lead held : Int) (X : Nat) : Prop where
 lr : LR S fs' gs' lead held
 le : gs'.length ≤ fs'.length
 l10 : fs'.length ≤ 10
 t1 : NS fs'
 t2 : NS gs'
 com : Com (cst fs) (cst gs) (cst fs') (cst gs')
 bf : ∀ t ∈ fs', Bd X t
 bg : ∀ t ∈ gs', Bd X t
 bl : Bd X lead
 bh : Bd X held
section
variable {S : Nat → Nat → Int} {fs gs fs' gs' : List Int} {lead held : Int} {X : Nat}
end
end L2
namespace L2
theorem II : ∀ os : List Rat, (prL os).getD os.length 0 = 1
 | [] => rfl
 | o :: os => by
   have ih := II os
   show (AU ((prL os).map (· * -o)) (0 :: AU ((prL os).map (· * 1)) (0 :: []))).getD (os.length + 1) 0 = 1
   rw [getD_addL, getD_scale]
   have e1 : (prL os).getD (os.length + 1) 0 = 0 := by
    rw [U6, Ux (by rw [BK]; lia)]; rfl
   show _ + (AU ((prL os).map (· * 1)) (0 :: [])).getD os.length 0 = 1
   rw [getD_addL, getD_scale, e1, ih]
   have e : ([0] : List Rat).getD os.length 0 = 0 := by match os.length with | 0 => rfl | k + 1 => rfl
   rw [e]; grind
theorem EY {A B : List Rat} {p : Rat} (h : ∀ x, (x - p) * Cv.ev A x = (x - p) * Cv.ev B x) (x : Rat) : Cv.ev A x = Cv.ev B x := by
 have key : Cv.strip (AU A (B.map (· * (-1)))) = [] := by
  by_cases hD : Cv.strip (AU A (B.map (· * (-1)))) = []
  ·exact hD
  exfalso
  have gM : Bi (C9 [-p, 1] (Cv.strip (AU A (B.map (· * (-1)))))) := DD (.inr ⟨1, rfl, by decide⟩) (AI _) (by simp) hD
  have e := AW gM (.inl rfl : Bi []) fun x => by
   rw [AF, Cv.ev_strip, AZ, Cv.ev_scale]
   have := h x
   show (-p + x * (1 + x * 0)) * _ = 0
   grind
  have l := By (Cv.strip (AU A (B.map (· * (-1))))) (TQ.mpr hD) [-p, 1] (by simp)
  rw [e] at l
  have := TQ.mpr hD
  simp only [Uy, TR] at l
  lia
 have z : Cv.ev (Cv.strip (AU A (B.map (· * (-1))))) x = 0 := by rw [key]; rfl
 rw [Cv.ev_strip, AZ, Cv.ev_scale] at z
 grind
end L2
namespace L2
def Cop (A B : List Rat) : Prop := ∃ u v, ∀ x, Cv.ev u x * Cv.ev A x + Cv.ev v x * Cv.ev B x = 1
theorem CM {D A B : List Rat} (hD : Cv.strip D ≠ []) (h : ∀ x, Cv.ev D x * Cv.ev A x = Cv.ev D x * Cv.ev B x) (x : Rat) : Cv.ev A x = Cv.ev B x := by
 have key : Cv.strip (AU A (B.map (· * (-1)))) = [] := by
  by_cases hE : Cv.strip (AU A (B.map (· * (-1)))) = []
  ·exact hE
  exfalso
  have gM := DD (AI D) (AI (AU A (B.map (· * (-1))))) hD hE
  have e := AW gM (.inl rfl : Bi []) fun x => by
   rw [AF, Cv.ev_strip, Cv.ev_strip, AZ, Cv.ev_scale]
   have := h x
   show _ = (0 : Rat)
   grind
  have l := By (Cv.strip (AU A (B.map (· * (-1))))) (TQ.mpr hE) (Cv.strip D) (TQ.mpr hD)
  rw [e] at l
  have := TQ.mpr hE
  have := TQ.mpr hD
  simp only [Uy] at l
  lia
 have z : Cv.ev (Cv.strip (AU A (B.map (· * (-1))))) x = 0 := by rw [key]; rfl
 rw [Cv.ev_strip, AZ, Cv.ev_scale] at z
 grind
def pw (d : List Rat) : Nat → List Rat
 | 0 => [1]
 | n + 1 => C9 (pw d n) d
end L2
namespace L2
structure Kn (f l g : List Rat) : Prop where
 gg : Bi g
 mono : g[g.length - 1]? = some 1
 fe : ∀ x, Cv.ev f x = Cv.ev l x * Cv.ev g x
 un : ∃ u, (∀ x, Cv.ev (dL f) x = Cv.ev g x * Cv.ev u x) ∧ Cop l u
end L2
namespace L2
open PySem PySem.Spec PyProof.Rows
section
variable {X : Cx} {e : Expr} {es : List Expr} {te : TE} {t : TA} {pos : Pos}
@[irreducible] def PEk (X : Cx) (e : Expr) (te : TE) : Prop := PE X e te
@[irreducible] def PAk (X : Cx) (es : List Expr) (t : TA) : Prop := PA X es t
theorem pek (h : PE X e te) : PEk X e te := by unfold PEk; exact h
end
end L2
namespace L2
theorem D5 : ∀ (qs : List Rat) {l : List Rat}, qs.Nodup → l.length ≤ qs.length → (∀ q ∈ qs, Cv.ev l q = 0) → ∀ x, Cv.ev l x = 0
 | [], l, _, hl, _, x => by
   have : l = [] := U0 (Nat.le_zero.mp hl)
   rw [this]; rfl
 | c :: r, l, hn, hl, h, x => by
   rw [SS] at hn
   have h0 := h c (Sy ..)
   have e : ∀ x, Cv.ev l x = (x - c) * Cv.ev (quo c l) x := fun x => by rw [FF c x l, h0, Rat.zero_add]
   have hl' : l.length ≤ r.length + 1 := hl
   have ih := D5 r (l := quo c l) hn.2 (by rw [E3]; lia) fun q hq => by
    have hq0 := h q (Sz _ hq)
    rw [e q] at hq0
    rcases U1.mp hq0 with z | z
    ·exact absurd (show q = c by grind) fun z => hn.1 (z ▸ hq)
    ·exact z
   rw [e x, ih x, V7]
theorem Dk : ∀ (l : List Rat) (a : Nat), (∀ j, a ≤ j → l.getD j 0 = 0) → ∀ x, Cv.ev (l.take a) x = Cv.ev l x
 | [], a, _, x => by rw [List.take_nil]
 | q :: r, 0, h, x => by
   show (0 : Rat) = q + x * Cv.ev r x
   have h0 : q = 0 := h 0 (SK _)
   have ih := Dk r 0 (fun j _ => h (j + 1) (SN _)) x
   rw [UD] at ih
   have ih : (0 : Rat) = Cv.ev r x := ih
   rw [h0, ← ih, V7, Rat.add_zero]
 | q :: r, a + 1, h, x => by
   show q + x * Cv.ev (r.take a) x = q + x * Cv.ev r x
   rw [Dk r a (fun j hj => h (j + 1) (Nat.succ_le_succ hj)) x]
theorem FG {N D : List Rat} {a b k : Nat} (hN : ∀ j, a ≤ j → N.getD j 0 = 0) (hD : ∀ j, b ≤ j → D.getD j 0 = 0) (h : a = 0 ∨ b = 0 ∨ a + b ≤ k + 1) : ∃ l : List Rat, l.length ≤ k ∧ ∀ x, Cv.ev l x = Cv.ev N x * Cv.ev D x := by
 have eN := Dk N a hN
 have eD := Dk D b hD
 by_cases z : (N.take a).length = 0 ∨ (D.take b).length = 0
 ·refine ⟨[], SN _, fun x => ?_⟩
  show (0 : Rat) = _
  rcases z with z | z
  ·rw [← eN, U0 z]; show _ = 0 * _; rw [V8]
  ·rw [← eD, U0 z]; show _ = _ * 0; rw [V7]
 ·have h1 : (N.take a).length ≤ a := by rw [SX]; lia
  have h2 : (D.take b).length ≤ b := by rw [SX]; lia
  refine ⟨C9 (N.take a) (D.take b), ?_, fun x => by rw [AF, eN, eD]⟩
  rw [By _ (by lia) _ (by lia)]
  lia
def CC (w v r : Int) (N D : List Rat) : Prop := (∀ j : Nat, r < 2 * ((j : Int) + 1 - w) → N.getD j 0 = 0) ∧ (∀ j : Nat, r < 2 * ((j : Int) + 1 - v) + 1 → D.getD j 0 = 0)
def CO (w v r : Int) (N D : List Rat) : Prop := (∃ j : Nat, 2 * ((j : Int) + 1 - w) = r ∧ N.getD j 0 ≠ 0) ∨ (∃ j : Nat, 2 * ((j : Int) + 1 - v) + 1 = r ∧ D.getD j 0 ≠ 0)
theorem GO {w v r1 r2 : Int} {N D : List Rat} {n k : Nat} (hN : ∀ j : Nat, r1 < 2 * ((j : Int) + 1 - w) → N.getD j 0 = 0) (hD : ∀ j : Nat, r2 < 2 * ((j : Int) + 1 - v) + 1 → D.getD j 0 = 0) (hw : w + v = n + 1) (hr : r1 + r2 ≤ 2 * (k : Int) - 2 * n + 2) : ∃ l : List Rat, l.length ≤ k ∧ ∀ x, Cv.ev l x = Cv.ev N x * Cv.ev D x := by
 refine FG (a := (r1 / 2 + w).toNat) (b := ((r2 - 1) / 2 + v).toNat) (fun j hj => hN j ?_) (fun j hj => hD j ?_) ?_
 ·lia
 ·lia
 ·lia
theorem Er {w v r1 r2 : Int} {N1 D1 N2 D2 qs : List Rat} {n : Nat} (h1 : CC w v r1 N1 D1) (h2 : CC w v r2 N2 D2) (hw : w + v = n + 1) (hr : r1 + r2 ≤ 2 * (qs.length : Int) - 2 * n + 2) (hn : qs.Nodup) (h : ∀ q ∈ qs, Cv.ev N1 q * Cv.ev D2 q = Cv.ev N2 q * Cv.ev D1 q) (x : Rat) : Cv.ev N1 x * Cv.ev D2 x = Cv.ev N2 x * Cv.ev D1 x := by
 obtain ⟨l1, hl1, e1⟩ := GO (k := qs.length) h1.1 h2.2 hw hr
 obtain ⟨l2, hl2, e2⟩ := GO (k := qs.length) h2.1 h1.2 hw (by lia)
 have e : ∀ x, Cv.ev (AU l1 (l2.map (· * (-1)))) x = Cv.ev N1 x * Cv.ev D2 x - Cv.ev N2 x * Cv.ev D1 x := fun x => by
  rw [AZ, Cv.ev_scale, e1, e2]; grind
 have := D5 qs (l := AU l1 (l2.map (· * (-1)))) hn (by rw [Br, T7]; lia) (fun q hq => by rw [e, h q hq]; grind) x
 rw [e] at this
 grind
theorem GV {l : List Rat} {a j : Nat} (h : j < a) : (l.take a).getD j 0 = l.getD j 0 := by
 rw [U6, U6, V9, if_pos h]
theorem K2 {l : List Rat} {j : Nat} (h : l.getD j 0 ≠ 0) : j < l.length := by
 rcases Va j l.length with z | z
 ·exact z
 ·exact absurd (by rw [U6, Ux z]; rfl) h
theorem Ke {N1 D2 N2 D1 : List Rat} {j i a b : Nat} (hj : N1.getD j 0 ≠ 0) (hi : D2.getD i 0 ≠ 0) (h1 : ∀ t, j < t → N1.getD t 0 = 0) (h2 : ∀ t, i < t → D2.getD t 0 = 0) (ha : ∀ t, a ≤ t → N2.getD t 0 = 0) (hb : ∀ t, b ≤ t → D1.getD t 0 = 0) (hab : a = 0 ∨ b = 0 ∨ a + b ≤ j + i + 1) : ¬ ∀ x, Cv.ev N1 x * Cv.ev D2 x = Cv.ev N2 x * Cv.ev D1 x := fun h => by
 obtain ⟨l, hl, el⟩ := FG (k := j + i) ha hb hab
 have lj := K2 hj
 have li := K2 hi
 have n1 : (N1.take (j + 1)).length = j + 1 := by rw [SX]; lia
 have n2 : (D2.take (i + 1)).length = i + 1 := by rw [SX]; lia
 have g : ∀ {q : List Rat} {t : Nat}, t < q.length → q[t]? = some (q.getD t 0) := fun {q t} ht => by rw [U6, Uc ht]; rfl
 have m1 := EL (D2.take (i + 1)) (D2.getD i 0) (by rw [n2, Vb, g (by lia), GV (by lia)]) (N1.take (j + 1)) (N1.getD j 0) (by rw [n1, Vb, g (by lia), GV (by lia)])
 have e := Jb (l := C9 (N1.take (j + 1)) (D2.take (i + 1))) (m := l) (fun k => by rw [el, ← h, AF, Dk N1 (j + 1) fun t ht => h1 t (by lia), Dk D2 (i + 1) fun t ht => h2 t (by lia)]) (j + i)
 have e2 : l.getD (j + i) 0 = 0 := by rw [U6, Ux hl]; rfl
 rw [n1, n2, show j + 1 + (i + 1) - 2 = j + i by lia] at m1
 rw [e2, U6, m1] at e
 rcases U1.mp (show D2.getD i 0 * N1.getD j 0 = 0 from e) with z | z
 ·exact hi z
 ·exact hj z
theorem MF {w v r1 r2 : Int} {N1 D1 N2 D2 : List Rat} (h1 : CC w v r1 N1 D1) (h2 : CC w v r2 N2 D2) (t1 : CO w v r1 N1 D1) (t2 : CO w v r2 N2 D2) (hp : (r1 + r2) % 2 = 1) : ¬ ∀ x, Cv.ev N1 x * Cv.ev D2 x = Cv.ev N2 x * Cv.ev D1 x := by
 rcases t1 with ⟨j, ej, hj⟩ | ⟨j, ej, hj⟩
 ·rcases t2 with ⟨i, ei, hi⟩ | ⟨i, ei, hi⟩
  ·lia
  ·exact Ke (a := (r2 / 2 + w).toNat) (b := ((r1 - 1) / 2 + v).toNat) hj hi (fun t ht => h1.1 t (by lia)) (fun t ht => h2.2 t (by lia)) (fun t ht => h2.1 t (by lia)) (fun t ht => h1.2 t (by lia)) (by lia)
 ·rcases t2 with ⟨i, ei, hi⟩ | ⟨i, ei, hi⟩
  ·exact fun h => Ke (a := (r1 / 2 + w).toNat) (b := ((r2 - 1) / 2 + v).toNat) hi hj (fun t ht => h2.1 t (by lia)) (fun t ht => h1.2 t (by lia)) (fun t ht => h1.1 t (by lia)) (fun t ht => h2.2 t (by lia)) (by lia) fun x => (h x).symm
  ·lia
structure Ck (w v : Int) (n : Nat) (ps : List (Rat × Rat)) (r1 r2 : Int) (N1 D1 N2 D2 : List Rat) : Prop where
 le1 : CC w v r1 N1 D1
 top1 : CO w v r1 N1 D1
 le2 : CC w v r2 N2 D2
 top2 : CO w v r2 N2 D2
 lt : r1 < r2
 sum : r1 + r2 = 2 * (ps.length : Int) - 2 * n + 3
 on1 : ∀ q ∈ ps, Cv.ev N1 q.1 = q.2 * Cv.ev D1 q.1
 on2 : ∀ q ∈ ps, Cv.ev N2 q.1 = q.2 * Cv.ev D2 q.1
section
variable {w v : Int} {n : Nat} {ps : List (Rat × Rat)} {r1 r2 : Int} {N1 D1 N2 D2 : List Rat}
theorem Ck.ne (I : Ck w v n ps r1 r2 N1 D1 N2 D2) : ¬ ∀ x, Cv.ev N1 x * Cv.ev D2 x = Cv.ev N2 x * Cv.ev D1 x := MF I.le1 I.le2 I.top1 I.top2 (by have := I.sum; lia)
theorem Ck.some (I : Ck w v n ps r1 r2 N1 D1 N2 D2) (hw : w + v = n + 1) {x y : Rat} (hn : ((ps ++ [(x, y)]).map Prod.fst).Nodup) : ¬ (Cv.ev N1 x = y * Cv.ev D1 x ∧ Cv.ev N2 x = y * Cv.ev D2 x) := fun ⟨h1, h2⟩ => by
 refine I.ne fun t => Er (qs := (ps ++ [(x, y)]).map Prod.fst) I.le1 I.le2 hw ?_ hn (fun q hq => ?_) t
 ·have := I.sum
  rw [T7, T6, Tp]
  lia
 ·obtain ⟨p, hp, rfl⟩ := UA.mp hq
  rcases SD.mp hp with z | z
  ·rw [I.on1 p z, I.on2 p z]; grind
  ·rw [Ub.mp z]
   show Cv.ev N1 x * Cv.ev D2 x = Cv.ev N2 x * Cv.ev D1 x
   rw [h1, h2]; grind
theorem Ck.least (I : Ck w v n ps r1 r2 N1 D1 N2 D2) (hw : w + v = n + 1) (hn : (ps.map Prod.fst).Nodup) {r : Int} {N D : List Rat} (hr : r < r1) (hle : CC w v r N D) (hon : ∀ q ∈ ps, Cv.ev N q.1 = q.2 * Cv.ev D q.1) : ∀ x, Cv.ev N x = 0 ∧ Cv.ev D x = 0 := by
 have hs := I.sum
 have hlt := I.lt
 have d1 := Er (qs := ps.map Prod.fst) hle I.le1 hw (by rw [T7]; lia) hn fun q hq => by
  obtain ⟨p, hp, rfl⟩ := UA.mp hq
  rw [hon p hp, I.on1 p hp]; grind
 have d2 := Er (qs := ps.map Prod.fst) hle I.le2 hw (by rw [T7]; lia) hn fun q hq => by
  obtain ⟨p, hp, rfl⟩ := UA.mp hq
  rw [hon p hp, I.on2 p hp]; grind
 have cut : ∀ {L : List Rat}, Cv.strip L = [] → ∀ x, Cv.ev L x = 0 := fun {L} h x => by rw [← Cv.ev_strip, h]; rfl
 by_cases zD : Cv.strip D = []
 ·have zD := cut zD
  by_cases zN : Cv.strip N = []
  ·exact fun x => ⟨cut zN x, zD x⟩
  ·exfalso
   have z1 : ∀ x, Cv.ev D1 x = 0 := fun x => by
    have := CM (D := N) (A := D1) (B := []) zN (fun x => by rw [d1 x, zD x, V7]; show (0 : Rat) = _ * 0; rw [V7]) x
    exact this
   have z2 : ∀ x, Cv.ev D2 x = 0 := fun x => by
    have := CM (D := N) (A := D2) (B := []) zN (fun x => by rw [d2 x, zD x, V7]; show (0 : Rat) = _ * 0; rw [V7]) x
    exact this
   exact I.ne fun x => by rw [z1 x, z2 x, V7, V7]
 ·exfalso
  refine I.ne fun x => ?_
  have := CM (D := D) (A := C9 N1 D2) (B := C9 N2 D1) zD (fun x => by
   rw [AF, AF]
   have a := d1 x
   have b := d2 x
   have e1 : Cv.ev D x * (Cv.ev N1 x * Cv.ev D2 x) = (Cv.ev N1 x * Cv.ev D x) * Cv.ev D2 x := by grind
   have e2 : Cv.ev D x * (Cv.ev N2 x * Cv.ev D1 x) = (Cv.ev N2 x * Cv.ev D x) * Cv.ev D1 x := by grind
   rw [e1, e2, ← a, ← b]; grind) x
  rw [AF, AF] at this
  exact this
end
theorem Ih : ∀ {l m : List Rat}, (∀ j, l.getD j 0 = m.getD j 0) → ∀ x, Cv.ev l x = Cv.ev m x
 | [], m, h, x => by
   show (0 : Rat) = _
   rw [Cv.ev_none]
   intro q hq
   obtain ⟨j, hj, rfl⟩ := Vc hq
   have := h j
   rw [U6, U6, Uc hj] at this
   exact this.symm
 | a :: l, [], h, x => by
   show _ = (0 : Rat)
   rw [Cv.ev_none]
   intro q hq
   obtain ⟨j, hj, rfl⟩ := Vc hq
   have := h j
   rw [U6, U6, Uc hj] at this
   exact this
 | a :: l, b :: m, h, x => by
   show a + x * Cv.ev l x = b + x * Cv.ev m x
   rw [show a = b from h 0, Ih (l := l) (m := m) (fun j => h (j + 1)) x]
def Shf (c d : Rat) (L L' : List Rat) : Prop := ∀ j : Nat, L'.getD j 0 = d * (if j = 0 then 0 else L.getD (j - 1) 0) - c * L.getD j 0
theorem Shf.ev {c d : Rat} {L L' : List Rat} (h : Shf c d L L') (x : Rat) : Cv.ev L' x = (d * x - c) * Cv.ev L x := by
 have e : Cv.ev L' x = Cv.ev (AU ((0 :: L).map (· * d)) (L.map (· * (-c)))) x := Ih (fun j => by
  rw [h j, getD_addL, getD_scale, getD_scale]
  cases j with
  | zero => show d * (if 0 = 0 then 0 else _) - c * _ = 0 * d + _; rw [if_pos rfl]; grind
  | succ j => show d * (if j + 1 = 0 then 0 else L.getD (j + 1 - 1) 0) - c * _ = L.getD j 0 * d + _; rw [if_neg (by lia), Vb]; grind) x
 rw [e, AZ, Cv.ev_scale, Cv.ev_scale]
 show (0 + x * Cv.ev L x) * d + _ = _
 grind
def Mix (m a b : Rat) (A B L' : List Rat) : Prop := ∀ j : Nat, m * L'.getD j 0 = a * B.getD j 0 - b * A.getD j 0
theorem Mix.ev {m a b : Rat} {A B L' : List Rat} (h : Mix m a b A B L') (x : Rat) : m * Cv.ev L' x = a * Cv.ev B x - b * Cv.ev A x := by
 have e : Cv.ev (L'.map (· * m)) x = Cv.ev (AU (B.map (· * a)) (A.map (· * (-b)))) x := Ih (fun j => by
  rw [getD_scale, getD_addL, getD_scale, getD_scale]
  have := h j
  grind) x
 rw [AZ, Cv.ev_scale, Cv.ev_scale, Cv.ev_scale] at e
 grind
theorem CC.shift {w v r : Int} {c d : Rat} {N D N' D' : List Rat} (h : CC w v r N D) (hN : Shf c d N N') (hD : Shf c d D D') : CC w v (r + 2) N' D' := by
 refine ⟨fun j hj => ?_, fun j hj => ?_⟩
 ·rw [hN j, h.1 j (by lia)]
  by_cases z : j = 0
  ·rw [if_pos z]; grind
  ·rw [if_neg z, h.1 (j - 1) (by lia)]; grind
 ·rw [hD j, h.2 j (by lia)]
  by_cases z : j = 0
  ·rw [if_pos z]; grind
  ·rw [if_neg z, h.2 (j - 1) (by lia)]; grind
theorem CO.shift {w v r : Int} {c d : Rat} {N D N' D' : List Rat} (h : CO w v r N D) (hle : CC w v r N D) (hd : d ≠ 0) (hN : Shf c d N N') (hD : Shf c d D D') : CO w v (r + 2) N' D' := by
 have key : ∀ {y : Rat}, y ≠ 0 → d * y - c * 0 ≠ 0 := fun {y} hy e => by
  have : d * y = 0 := by grind
  rcases U1.mp this with z | z
  ·exact hd z
  ·exact hy z
 rcases h with ⟨j, e, hj⟩ | ⟨j, e, hj⟩
 ·refine .inl ⟨j + 1, by lia, ?_⟩
  rw [hN (j + 1), if_neg (by lia), Vb, hle.1 (j + 1) (by lia)]
  exact key hj
 ·refine .inr ⟨j + 1, by lia, ?_⟩
  rw [hD (j + 1), if_neg (by lia), Vb, hle.2 (j + 1) (by lia)]
  exact key hj
theorem Mix.zero {m a b : Rat} {A B L' : List Rat} (h : Mix m a b A B L') (hm : m ≠ 0) {j : Nat} (hA : A.getD j 0 = 0) (hB : B.getD j 0 = 0) : L'.getD j 0 = 0 := by
 have := h j
 rw [hA, hB] at this
 rcases U1.mp (show m * L'.getD j 0 = 0 by grind) with z | z
 ·exact absurd z hm
 ·exact z
theorem CC.mix {w v r1 r2 : Int} {m a b : Rat} {N1 D1 N2 D2 N' D' : List Rat} (h1 : CC w v r1 N1 D1) (h2 : CC w v r2 N2 D2) (hlt : r1 < r2) (hm : m ≠ 0) (hN : Mix m a b N1 N2 N') (hD : Mix m a b D1 D2 D') : CC w v r2 N' D' :=
 ⟨fun j hj => hN.zero hm (h1.1 j (by lia)) (h2.1 j hj), fun j hj => hD.zero hm (h1.2 j (by lia)) (h2.2 j hj)⟩
theorem CO.mix {w v r1 r2 : Int} {m a b : Rat} {N1 D1 N2 D2 N' D' : List Rat} (t2 : CO w v r2 N2 D2) (h1 : CC w v r1 N1 D1) (hlt : r1 < r2) (ha : a ≠ 0) (hN : Mix m a b N1 N2 N') (hD : Mix m a b D1 D2 D') : CO w v r2 N' D' := by
 have key : ∀ {y z : Rat}, y ≠ 0 → m * z = a * y - b * 0 → z ≠ 0 := fun {y z} hy e hz => by
  have : a * y = 0 := by rw [hz] at e; grind
  rcases U1.mp this with q | q
  ·exact ha q
  ·exact hy q
 rcases t2 with ⟨j, e, hj⟩ | ⟨j, e, hj⟩
 ·have := hN j
  rw [h1.1 j (by lia)] at this
  exact .inl ⟨j, e, key hj this⟩
 ·have := hD j
  rw [h1.2 j (by lia)] at this
  exact .inr ⟨j, e, key hj this⟩
structure PUn (w v : Int) (n : Nat) (ps : List (Rat × Rat)) (r1 r2 : Int) (N1 D1 N2 D2 : List Rat) : Prop where
 le1 : CC w v r1 N1 D1
 top1 : CO w v r1 N1 D1
 le2 : CC w v r2 N2 D2
 top2 : CO w v r2 N2 D2
 sum : r1 + r2 = 2 * (ps.length : Int) - 2 * n + 3
 on1 : ∀ q ∈ ps, Cv.ev N1 q.1 = q.2 * Cv.ev D1 q.1
 on2 : ∀ q ∈ ps, Cv.ev N2 q.1 = q.2 * Cv.ev D2 q.1
section
variable {w v : Int} {n : Nat} {ps : List (Rat × Rat)} {r1 r2 : Int} {N1 D1 N2 D2 N1' D1' N2' D2' : List Rat} {x y : Rat}
theorem PUn.inv (h : PUn w v n ps r1 r2 N1 D1 N2 D2) (hlt : r1 < r2) : Ck w v n ps r1 r2 N1 D1 N2 D2 := ⟨h.le1, h.top1, h.le2, h.top2, hlt, h.sum, h.on1, h.on2⟩
theorem PUn.turn (h : PUn w v n ps r1 r2 N1 D1 N2 D2) (hlt : ¬ r1 < r2) : Ck w v n ps r2 r1 N2 D2 N1 D1 := ⟨h.le2, h.top2, h.le1, h.top1, by have := h.sum; lia, by have := h.sum; lia, h.on2, h.on1⟩
theorem Fj {N D : List Rat} (h : ∀ q ∈ ps, Cv.ev N q.1 = q.2 * Cv.ev D q.1) (hx : Cv.ev N x = y * Cv.ev D x) : ∀ q ∈ ps ++ [(x, y)], Cv.ev N q.1 = q.2 * Cv.ev D q.1 := fun q hq => by
 rcases SD.mp hq with z | z
 ·exact h q z
 ·rw [Ub.mp z]; exact hx
theorem FN {c d : Rat} {N D N' D' : List Rat} (h : ∀ q ∈ ps, Cv.ev N q.1 = q.2 * Cv.ev D q.1) (hN : Shf c d N N') (hD : Shf c d D D') (hx : d * x = c) : ∀ q ∈ ps ++ [(x, y)], Cv.ev N' q.1 = q.2 * Cv.ev D' q.1 := Fj (fun q hq => by rw [hN.ev, hD.ev, h q hq]; grind) (by rw [hN.ev, hD.ev, hx]; grind)
theorem Ck.stepA {c d : Rat} (I : Ck w v n ps r1 r2 N1 D1 N2 D2) (hd : d ≠ 0) (hx : d * x = c) (h0 : Cv.ev N1 x = y * Cv.ev D1 x) (hN : Shf c d N2 N2') (hD : Shf c d D2 D2') : PUn w v n (ps ++ [(x, y)]) r1 (r2 + 2) N1 D1 N2' D2' :=
 ⟨I.le1, I.top1, I.le2.shift hN hD, I.top2.shift I.le2 hd hN hD, by have := I.sum; rw [T6, Tp]; lia, Fj I.on1 h0, FN I.on2 hN hD hx⟩
theorem Ck.stepB {c d : Rat} (I : Ck w v n ps r1 r2 N1 D1 N2 D2) (hd : d ≠ 0) (hx : d * x = c) (h0 : Cv.ev N2 x = y * Cv.ev D2 x) (hN : Shf c d N1 N1') (hD : Shf c d D1 D1') : PUn w v n (ps ++ [(x, y)]) (r1 + 2) r2 N1' D1' N2 D2 :=
 ⟨I.le1.shift hN hD, I.top1.shift I.le1 hd hN hD, I.le2, I.top2, by have := I.sum; rw [T6, Tp]; lia, FN I.on1 hN hD hx, Fj I.on2 h0⟩
theorem Ck.stepC {c d m a b s : Rat} (I : Ck w v n ps r1 r2 N1 D1 N2 D2) (hd : d ≠ 0) (hx : d * x = c) (ha : a ≠ 0) (hm : m ≠ 0) (ea : a = s * (Cv.ev N1 x - y * Cv.ev D1 x)) (eb : b = s * (Cv.ev N2 x - y * Cv.ev D2 x)) (hN1 : Shf c d N1 N1') (hD1 : Shf c d D1 D1') (hN2 : Mix m a b N1 N2 N2') (hD2 : Mix m a b D1 D2 D2') : PUn w v n (ps ++ [(x, y)]) (r1 + 2) r2 N1' D1' N2' D2' := by
 refine ⟨I.le1.shift hN1 hD1, I.top1.shift I.le1 hd hN1 hD1, CC.mix I.le1 I.le2 I.lt hm hN2 hD2, CO.mix I.top2 I.le1 I.lt ha hN2 hD2, by have := I.sum; rw [T6, Tp]; lia, FN I.on1 hN1 hD1 hx, ?_⟩
 have can : ∀ {p q : Rat}, m * p = m * q → p = q := fun {p q} h => by
  rcases U1.mp (show m * (p - q) = 0 by grind) with z | z
  ·exact absurd z hm
  ·grind
 refine Fj (fun q hq => can ?_) (can ?_)
 ·have e1 := hN2.ev q.1
  have e2 := hD2.ev q.1
  rw [I.on1 q hq, I.on2 q hq] at e1
  rw [e1, show m * (q.2 * Cv.ev D2' q.1) = q.2 * (m * Cv.ev D2' q.1) by grind, e2]
  grind
 ·have e1 := hN2.ev x
  have e2 := hD2.ev x
  rw [e1, show m * (y * Cv.ev D2' x) = y * (m * Cv.ev D2' x) by grind, e2, ea, eb]
  grind
theorem Ck.fin (I : Ck w v n ps r1 r2 N1 D1 N2 D2) (hl : ps.length = n) : r1 ≤ 1 := by
 have := I.sum
 have := I.lt
 lia
theorem Ck.below (I : Ck w v n ps r1 r2 N1 D1 N2 D2) (hl : ps.length = n) (hwn : w ≤ n) (hn : (ps.map Prod.fst).Nodup) : Cv.strip D1 ≠ [] := fun z => by
 have hr := I.fin hl
 have zD : ∀ x, Cv.ev D1 x = 0 := fun x => by rw [← Cv.ev_strip, z]; rfl
 have eN := Dk N1 n fun j hj => I.le1.1 j (by lia)
 have zN : ∀ x, Cv.ev N1 x = 0 := fun x => by
  rw [← eN]
  refine D5 (ps.map Prod.fst) hn (by rw [T7, SX]; lia) (fun q hq => ?_) x
  obtain ⟨p, hp, rfl⟩ := UA.mp hq
  rw [eN, I.on1 p hp, zD, V7]
 exact I.ne fun x => by rw [zD x, zN x, V7, V8]
end
end L2
namespace L2
section
variable {w v : Int} {n : Nat} {ps : List (Rat × Rat)} {r1 r2 : Int} {N1 D1 N2 D2 : List Rat}
theorem IG {c : Rat} {L : List Rat} {a j : Nat} (h : a ≤ j + 1) : (quo c (L.take a)).getD j 0 = 0 := by
 rw [U6, Ux]
 ·rfl
 ·rw [E3, SX]; lia
theorem J4 : ∀ (qs : List Rat) {L : List Rat}, qs.Nodup → (∀ q ∈ qs, Cv.ev L q = 0) → ∃ M : List Rat, ∀ x, Cv.ev L x = prV x qs * Cv.ev M x
 | [], L, _, _ => ⟨L, fun x => by show _ = 1 * _; rw [Vd]⟩
 | c :: r, L, hn, h => by
   rw [SS] at hn
   have h0 := h c (Sy ..)
   have e : ∀ x, Cv.ev L x = (x - c) * Cv.ev (quo c L) x := fun x => by rw [FF c x L, h0, Rat.zero_add]
   obtain ⟨M, hM⟩ := J4 r (L := quo c L) hn.2 fun q hq => by
    have hq0 := h q (Sz _ hq)
    rw [e q] at hq0
    rcases U1.mp hq0 with z | z
    ·exact absurd (show q = c by grind) fun z => hn.1 (z ▸ hq)
    ·exact z
   exact ⟨M, fun x => by rw [e x, hM x]; show _ = (x - c) * prV x r * _; grind⟩
theorem Ck.once (I : Ck w v n ps r1 r2 N1 D1 N2 D2) (hw : w + v = n + 1) (hn : (ps.map Prod.fst).Nodup) (hD : Cv.strip D1 ≠ []) {x : Rat} {A B : List Rat} (hA : ∀ t, Cv.ev N1 t = (t - x) * Cv.ev A t) (hB : ∀ t, Cv.ev D1 t = (t - x) * Cv.ev B t) (hm : ∃ y, (x, y) ∈ ps) : ¬ (Cv.ev A x = 0 ∧ Cv.ev B x = 0) := fun ⟨a0, b0⟩ => by
 have eN := Dk N1 (r1 / 2 + w).toNat fun j hj => I.le1.1 j (by lia)
 have eD := Dk D1 ((r1 - 1) / 2 + v).toNat fun j hj => I.le1.2 j (by lia)
 have qN : ∀ t, Cv.ev (quo x (N1.take (r1 / 2 + w).toNat)) t = Cv.ev A t := EY (p := x) fun t => by
  have := FF x t (N1.take (r1 / 2 + w).toNat)
  rw [eN, eN, hA x] at this
  rw [← hA t, this]; grind
 have qD : ∀ t, Cv.ev (quo x (D1.take ((r1 - 1) / 2 + v).toNat)) t = Cv.ev B t := EY (p := x) fun t => by
  have := FF x t (D1.take ((r1 - 1) / 2 + v).toNat)
  rw [eD, eD, hB x] at this
  rw [← hB t, this]; grind
 have z := I.least hw hn (r := r1 - 2) (N := quo x (N1.take (r1 / 2 + w).toNat)) (D := quo x (D1.take ((r1 - 1) / 2 + v).toNat)) (by lia) ⟨fun j hj => IG (by lia), fun j hj => IG (by lia)⟩ (fun q hq => by
  rw [qN, qD]
  by_cases e : q.1 = x
  ·rw [e, a0, b0, V7]
  ·have := I.on1 q hq
   rw [hA, hB] at this
   have ne : q.1 - x ≠ 0 := fun z => e (by grind)
   rcases U1.mp (show (q.1 - x) * (Cv.ev A q.1 - q.2 * Cv.ev B q.1) = 0 by grind) with z | z
   ·exact absurd z ne
   ·grind)
 have zD : ∀ t, Cv.ev D1 t = Cv.ev [] t := fun t => by rw [hB t, ← qD t, (z t).2, V7]; rfl
 exact hD (by
  have := AW (l := Cv.strip D1) (m := []) (AI D1) (AI []) fun t => by rw [Cv.ev_strip]; exact zD t
  exact this)
end
end L2
namespace L2
open PySem PySem.Spec PyProof.Rows
theorem EU {α β : Type} {F : α → β → Prop} {l' m' : List β} (h : l'.Perm m') : ∀ {l : List α}, Paired F l l' → ∃ m, m.Perm l ∧ Paired F m m' := by
 induction h with
 | nil => exact fun {l} p => ⟨l, List.Perm.refl _, p⟩
 | cons x _ ih =>
   intro l p
   cases p with
   | @cons a _ as _ h t =>
     obtain ⟨m, hm, pm⟩ := ih t
     exact ⟨a :: m, hm.cons a, .cons h pm⟩
 | swap x y l =>
   intro k p
   cases p with
   | @cons a _ as _ h t =>
     cases t with
     | @cons b _ bs _ h2 t2 => exact ⟨b :: a :: bs, List.Perm.swap .., .cons h2 (.cons h t2)⟩
 | trans _ _ i1 i2 =>
   intro l p
   obtain ⟨m, hm, pm⟩ := i1 p
   obtain ⟨m2, hm2, pm2⟩ := i2 pm
   exact ⟨m2, hm2.trans hm, pm2⟩
section
variable {prog : Program} {w : World} {A : Around} {E : Value → Shared → Prop} {s : Shared} {a kS : Addr} {vs : List Value} {kz : List Int} {keys : Array Value} {e e1 : Nat} {P : PySem.Fin → Shared → Prop}
set_option maxHeartbeats 4000000 in
theorem Iz {st : SortSt} (nk : s.heap.get? kS = some (seqObj "list" keys e)) (na : s.heap.get? a = some (seqObj "list" #[] e1)) (hka : kS ≠ a)
 (hk : IntsAre keys.toList kz) (hlen : kz.length = vs.length) (h64 : vs.length < 64) (hp : (arrOf st).Perm (keys.zip vs.toArray)) (hs : SortedTo (arrOf st) (arrOf st).size) (hfl : failedOf st = none)
 (h : ∀ h' out c, (∀ b o, b ≠ kS → b ≠ a → s.heap.get? b = some o → h'.get? b = some o) → h'.get? a = some (seqObj "list" out c) → KskOut false kz vs out.toList → P (.done (.ret .none)) { s with heap := h' }) :
 wpAny (model prog w) A (ksk_tail a false e1 (.ref kS) st) P E s := by
 have hsz : keys.size = vs.length := by
  have h1 := hk.length
  rw [SI] at h1
  lia
 have hsz2 : (arrOf st).size = vs.length := by rw [hp.size_eq, Array.size_zip, hsz, Th, Nat.min_self]
 have hout : ((arrOf st).map (·.2)).size = vs.length := by rw [Array.size_map]; exact hsz2
 have s1 := Heap.SameBut.update s.heap kS (Obj.mapSeq fun _ => (#[] : Array Value))
 have na1 : (s.heap.update kS (Obj.mapSeq fun _ => (#[] : Array Value))).get? a = some (seqObj "list" #[] e1) := (s1.2 a hka.symm).trans na
 have s2 := Heap.SameBut.update (s.heap.update kS (Obj.mapSeq fun _ => (#[] : Array Value))) a (Obj.mapSeq fun _ => (arrOf st).map (·.2))
 obtain ⟨c2, hc2⟩ : ∃ c2, ((s.heap.update kS (Obj.mapSeq fun _ => (#[] : Array Value))).update a (Obj.mapSeq fun _ => (arrOf st).map (·.2))).get? a = some (seqObj "list" ((arrOf st).map (·.2)) c2) := ⟨_, get?_update_seq na1 fun _ => (arrOf st).map (·.2)⟩
 unfold ksk_tail
 try dsimp only
 refine wpAny_bind (listUpdate_at nk rfl ?_ (by rw [hsz, sizeLine_eq]; lia) (SN _))
 refine wpAny_bind (wpAny_letGo ?_)
 refine wpAny_bind (seqEpoch_at na1 rfl ?_)
 refine wpAny_bind (listUpdate_at na1 rfl ?_ (SN _) (Sv (V5 hout) (by rw [sizeLine_eq]; lia)))
 rw [hfl]
 simp only [bne_self_eq_false, Bool.false_eq_true, if_false]
 exact wpAny_pure (h _ _ c2 (fun b o h1 h2 q => (s2.2 b h2).trans ((s1.2 b h1).trans q)) hc2 (ksk_out (b := false) hk hp hs))
set_option maxHeartbeats 4000000 in
theorem N8 (nk : s.heap.get? kS = some (seqObj "list" keys e)) (na : s.heap.get? a = some (seqObj "list" #[] e1)) (hka : kS ≠ a)
 (hk : IntsAre keys.toList kz) (hlen : kz.length = vs.length) (h64 : vs.length < 64)
 (h : ∀ h' out c, (∀ b o, b ≠ kS → b ≠ a → s.heap.get? b = some o → h'.get? b = some o) → h'.get? a = some (seqObj "list" out c) → KskOut false kz vs out.toList → P (.done (.ret .none)) { s with heap := h' }) :
 wpAny (model prog w) A (ksk_end a false vs.toArray e1 (.ref kS) keys) P E s := by
 have hsz : keys.size = vs.length := by
  have h1 := hk.length
  rw [SI] at h1
  lia
 have hzs : (keys.zip vs.toArray).size = vs.length := by rw [Array.size_zip, hsz, Th, Nat.min_self]
 unfold ksk_end
 try dsimp only
 simp only [Bool.false_eq_true, if_false]
 by_cases h2 : vs.toArray.size < 2
 ·rw [if_pos h2, if_pos h2]
  refine wpAny_bind (wpAny_pure ?_)
  rw [StateT.run_pure]
  refine wpAny_bind (wpAny_pure ?_)
  try dsimp only
  refine Iz (st := SortSt.mk' general' (keys.zip vs.toArray) #[] 7 none) nk na hka hk hlen h64 (Array.Perm.refl _) ?_ rfl h
  intro i j hij hj
  have hj2 : j < (keys.zip vs.toArray).size := hj
  rw [hzs] at hj2
  rw [Th] at h2
  have : i = j := by lia
  subst this
  exact Int.le_refl _
 ·rw [if_neg h2, if_neg h2]
  rw [Th] at h2
  rw [ksk_kind hk (by rw [hsz]; lia)]
  refine wpAny_bind (wpAny_pure ?_)
  refine wpAny_bind (wpAny_mono (wpS_sortRuns (a₀ := keys.zip vs.toArray) (st := SortSt.mk' oneType' (keys.zip vs.toArray) #[] 7 none)
   (Q := fun _ st' => (arrOf st').Perm (keys.zip vs.toArray) ∧ failedOf st' = none ∧ SortedTo (arrOf st') (keys.zip vs.toArray).size)
   (ksk_intKeys hk) ⟨Array.Perm.refl _, rfl, rfl, rfl⟩ (by rw [hzs]; lia) (by rw [hzs]; exact h64) fun st' a1 a2 a3 => ⟨a1, a2, a3⟩) ?_ fun _ _ e => e)
  rintro ⟨⟨⟩, st'⟩ s' ⟨rfl, hp, hf, hs⟩
  try dsimp only
  exact Iz nk na hka hk hlen h64 hp (by rw [hp.size_eq]; exact hs) hf h
end
section
variable {X : Cx} {pins : List (Addr × Obj)} {σ : St} {H : Hp} {A : Around} {E : Value → Shared → Prop} {a kS : Addr} {vs : List Value} {kz : List Int} {e1 : Nat} {P : PySem.Fin → Shared → Prop} {f : Value}
set_option maxHeartbeats 4000000 in
theorem LI {s : Shared} (fa : DH X pins H a) (fk : DH X pins H kS) (hka : kS ≠ a) (I : Inv X (pins ++ [(a, seqObj "list" #[] e1), (kS, seqObj "list" #[] 0)]) σ H s) (hlen : kz.length = vs.length) (h64 : vs.length < 64)
 (turn : ∀ (i : Nat) (v : Value) (k : Int), vs[i]? = some v → kz[i]? = some k → ∀ (pins' : List (Addr × Obj)) (s' : Shared), Inv X pins' σ H s' → wpAny (model X.prog X.w) A (call f [v]) (fun u s'' => (∃ t, u = .int k t) ∧ Inv X pins' σ H s'') (fun _ _ => False) s')
 (h : ∀ s' out c, Inv X pins σ H s' → s'.heap.get? a = some (seqObj "list" out c) → KskOut false kz vs out.toList → P (.done (.ret .none)) s') :
 wpAny (model X.prog X.w) A (ksk_rest a f false vs.toArray e1 (.ref kS)) P E s := by
 unfold ksk_rest
 refine wpAny_bind (wpAny_rule ?_)
 first
  | rw [List.forIn_toArray]
  | (rw [← UM]; simp only [List.toList_toArray])
  | rw [← UM]
 have unp : ∀ {kA : Array Value} {e : Nat} {s' : Shared}, Inv X (pins ++ [(a, seqObj "list" #[] e1), (kS, seqObj "list" kA e)]) σ H s' → Inv X pins σ H s' ∧ s'.heap.get? a = some (seqObj "list" #[] e1) ∧ s'.heap.get? kS = some (seqObj "list" kA e) := fun {kA e s'} J =>
  ⟨J.pins_of fun p hp => J.pin p (SM _ (SE _ hp)), (J.pin (a, seqObj "list" #[] e1) (SM _ (SM _ (.head _)))).1, (J.pin (kS, seqObj "list" kA e) (SM _ (SM _ (.tail _ (.head _))))).1⟩
 refine wpAny_bind (ksk_fold (fun i s' => ∃ kA e, Inv X (pins ++ [(a, seqObj "list" #[] e1), (kS, seqObj "list" kA e)]) σ H s' ∧ IntsAre kA.toList (kz.take i)) vs 0 s ⟨#[], 0, I, by simpa using IntsAre.nil⟩ ?step ?done)
 case step =>
  rintro j x s' hx ⟨kA, e, I', hk⟩
  simp only [UK] at hk ⊢
  have hj : j < vs.length := (SF.mp hx).1
  obtain ⟨k, hkj⟩ : ∃ k, kz[j]? = some k := ⟨_, Uc (by lia)⟩
  have hz : kA.size ≤ vs.length := by
   have h1 := hk.length
   rw [SI, SX] at h1
   lia
  refine wpAny_bind (wpAny_attempt (wpAny_mono (turn j x k hx hkj _ s' I') (fun v s'' he => ?_) fun _ _ hF => hF.elim))
  obtain ⟨⟨t2, rfl⟩, I2⟩ := he
  obtain ⟨I3, pa, pk⟩ := unp I2
  try dsimp only
  have s1 := Heap.SameBut.update s''.heap kS (Obj.mapSeq (·.push (.int k t2)))
  obtain ⟨c2, hc2⟩ : ∃ c2, (s''.heap.update kS (Obj.mapSeq (·.push (.int k t2)))).get? kS = some (seqObj "list" (kA.push (.int k t2)) c2) := ⟨_, get?_update_seq pk (·.push (.int k t2))⟩
  have ek : kz.take (j + 1) = kz.take j ++ [k] := by rw [TX, hkj]; simp
  have ea : (kA.push (Value.int k t2)).toList = kA.toList ++ [Value.int k t2] := by simp
  refine wpAny_bind (listUpdate_at pk rfl ?_ (by rw [sizeLine_eq]; lia) (Sv (V5 (UU ..)) (by rw [sizeLine_eq]; lia)))
  refine wpAny_pure ⟨rfl, kA.push (.int k t2), c2, ?_, by rw [ea, ek]; exact ksk_snoc hk⟩
  have I4 : Inv X pins σ H { s'' with heap := s''.heap.update kS (Obj.mapSeq (·.push (.int k t2))), toks := s''.toks } := I3.turned (it := kS) (fun b o hb q => (s1.2 b hb).trans q) fk.1 fk.2.1 fk.2.2.2.1 fk.2.2.2.2.1 fk.2.2.2.2.2
  refine I4.pins_of fun p hp => ?_
  rcases SD.mp hp with z | z
  ·exact I4.pin p (SM _ z)
  ·rcases SA.mp z with rfl | z
   ·exact ⟨(s1.2 a hka.symm).trans pa, fa.1, fa.2.1, fa.2.2.1, fun v z => by cases z⟩
   ·rw [Ub.mp z]
    exact ⟨hc2, fk.1, fk.2.1, fk.2.2.1, fun v z => by cases z⟩
 case done =>
  rintro s' ⟨kA, e, I', hk⟩
  have hk' : IntsAre kA.toList kz := by
   have e3 : kz.take (0 + vs.length) = kz := UB (by lia)
   rw [e3] at hk
   exact hk
  obtain ⟨I3, pa, pk⟩ := unp I'
  try dsimp only
  refine wpAny_bind (listItems_at pk rfl ?_)
  refine N8 pk pa hka hk' hlen h64 fun h' out c keep hget ko => h _ out c ?_ hget ko
  exact I3.turnedL (t' := s'.toks) (ch := [kS, a]) (fun b o hb q => keep b o (fun z => hb (by rw [z]; simp)) (fun z => hb (by rw [z]; simp)) q) fun b hb => by
   rcases SA.mp hb with rfl | hb
   ·exact fk
   ·rw [Ub.mp hb]; exact fa
end
theorem JE {xs : List V} {us : List Value} (r : AG xs us) : ∀ kz : List Int, Paired (fun (p : Int × V) (q : Int × Value) => p.1 = q.1 ∧ AR p.2 q.2) (kz.zip xs) (kz.zip us) := by
 induction r with
 | nil => intro kz; rw [Ve, Ve]; exact .nil
 | cons h _ ih =>
   intro kz
   cases kz with
   | nil => exact .nil
   | cons k kz => exact .cons ⟨rfl, h⟩ (ih kz)
theorem JG {zs : List (Int × V)} {ps : List (Int × Value)} (h : Paired (fun (p : Int × V) (q : Int × Value) => p.1 = q.1 ∧ AR p.2 q.2) zs ps) : zs.map Prod.fst = ps.map Prod.fst := by
 induction h with
 | nil => rfl
 | cons h _ ih => rw [Tq, Tq, ih, h.1]
theorem JF {zs : List (Int × V)} {ps : List (Int × Value)} (h : Paired (fun (p : Int × V) (q : Int × Value) => p.1 = q.1 ∧ AR p.2 q.2) zs ps) : AG (zs.map Prod.snd) (ps.map Prod.snd) := by
 induction h with
 | nil => exact .nil
 | cons h _ ih => exact .cons h.2 ih
theorem Inv.own {X : Cx} {pins : List (Addr × Obj)} {σ : St} {H : Hp} {s : Shared} {D : Addr} {o : HO} (J : Inv X pins σ H s) (fp : DH X pins H D) (new : BX X.prog X.w (upd H D o) s.heap D o) : Inv X pins σ (upd H D o) s := by
 have nD : ∀ {b : Addr} {u : HO}, H b = some u → b ≠ D := fun {b u} e z => by rw [z, fp.1] at e; cases e
 refine J.step (g' := s.gens) (d' := s.drawn) (t' := s.toks) (h' := s.heap) (ch := [D]) (fun b hb => ?_) (fun b o _ _ _ e _ => e) (fun b o _ _ _ e _ => ⟨o.slots, e⟩) (fun b o hc e n => by rw [Aq (fun z => hc (by simp [z]))]; exact n)
  (fun b o _ e => ⟨o, e⟩) (fun b xs e => by rw [Aq (nD e)]; exact e) (fun b o u e => by rw [Aq (nD e)]; exact e) (fun b ps e => ⟨#[], by rw [Aq (nD e), e]; simp⟩) (fun m hm => hm) (fun b u e => ?_) J.bare
 ·rw [Ub.mp hb]
  exact ⟨fp.2.2.2.1, fp.2.1, fp.2.2.2.2.1, fp.2.2.2.2.2⟩
 ·by_cases z : b = D
  ·subst z
   rw [Aa] at e
   cases e
   exact new
  ·rw [Aq z] at e
   exact (J.hok b u e).stay (fun _ _ _ q => q) (fun c q => by rw [Aq (nD q)]; exact q) fun c xs q => by rw [Aq (nD q)]; exact q
section
variable {X : Cx} {pins : List (Addr × Obj)} {σ : St} {H : Hp} {E : Value → Shared → Prop} {kz : List Int} {f : Addr} {s : Shared} {l : Addr} {xs : List V} {Q : VK}
set_option maxHeartbeats 4000000 in
theorem Jr (I : Inv X pins σ H s) (hl : SqL X.K H l xs) (hlen : kz.length = xs.length) (h64 : xs.length < 64)
 (turn : ∀ (i : Nat) (x : V) (k : Int) (v : Value), xs[i]? = some x → kz[i]? = some k → AR x v → ∀ (pins' : List (Addr × Obj)) (s' : Shared), Inv X pins' σ H s' → wpAny (model X.prog X.w) X.A.in1.in1 (call (.ref f) [v]) (fun u s'' => (∃ t, u = .int k t) ∧ Inv X pins' σ H s'') (fun _ _ => False) s')
 (q : ∀ p ys, H p = none → (∃ zs : List (Int × V), zs.Perm (kz.zip xs) ∧ ys = zs.map Prod.snd ∧ zs.Pairwise fun p q => p.1 ≤ q.1) → Q (.ref p) (upd H p (.lst ys))) :
 wpAny (model X.prog X.w) X.A (call (.builtin "sorted") [.ref l] [(Str.ofString "key", .ref f)]) (EP X pins σ Q) E s := by
 obtain ⟨vs, r, ht, hz⟩ := I.list hl
 have hil : vs.length = xs.length := r.length.symm
 refine call_function_entry_kw kind_sorted plain_sorted entry_sorted (ksk_s1 _ _) ?_
 unfold Builtin.«sorted»
 refine wpAny_bind (m := checkCount "sorted" 1 1 _) (wpAny_pure ?_)
 refine wpAny_bind (collect_list ht.isList ?_ (by rw [sizeLine_eq]; lia))
 refine wpAny_bind (wpAny_newList ?_ (by rw [sizeLine_eq]; lia))
 have hsz : ((s.heap.push (seqObj "list" #[] 0)).update s.heap.objs.size (Obj.mapSeq (· ++ vs.toArray))).objs.size = s.heap.objs.size + 1 := by
  rw [Heap.size_update, size_push']
 have hoL : (((s.heap.push (seqObj "list" #[] 0)).update s.heap.objs.size (Obj.mapSeq (· ++ vs.toArray))).push (seqObj "list" vs.toArray 0)).get? (s.heap.objs.size + 1) = some (seqObj "list" vs.toArray 0) := by
  rw [← hsz]; exact Heap.get?_push_size _ rfl
 have keep : ∀ b o, s.heap.get? b = some o → (((s.heap.push (seqObj "list" #[] 0)).update s.heap.objs.size (Obj.mapSeq (· ++ vs.toArray))).push (seqObj "list" vs.toArray 0)).get? b = some o := fun b o q => by
  have hlt : b < s.heap.objs.size := Heap.lt_size q
  rw [Heap.get?_push_ne _ _ _ (by rw [hsz]; exact Sn (Ua hlt)), Heap.get?_update_ne _ _ _ _ (Sn hlt), Heap.get?_push_ne _ _ _ (Sn hlt)]
  exact q
 show wpAny _ _ _ _ _ { s with heap := ((s.heap.push (seqObj "list" #[] 0)).update s.heap.objs.size (Obj.mapSeq (· ++ vs.toArray))).push (seqObj "list" vs.toArray 0) }
 rw [hsz]
 have I1 : Inv X pins σ H { s with heap := ((s.heap.push (seqObj "list" #[] 0)).update s.heap.objs.size (Obj.mapSeq (· ++ vs.toArray))).push (seqObj "list" vs.toArray 0), toks := s.toks } := I.kept keep
 have hDn : H (s.heap.objs.size + 1) = none := I.hok.fresh (Nat.le_succ _)
 have fa : DH X pins H (s.heap.objs.size + 1) := I.fpOk (Nat.le_succ _) hDn
 refine wpAny_bind (wpAny_holding (wpAny_call_entry_kw slot_list_sort ⟨_, hoL, rfl⟩ entry_list_sort ?body (ksk_l1 _ _)))
 case body =>
  show wpAny (model X.prog X.w) X.A.in1.in1 (Builtin.«list.sort» ⟨[.ref (s.heap.objs.size + 1)], [(Str.ofString "key", .ref f)]⟩) _ _ _
  rw [ksk_t1]
  generalize ((s.heap.push (seqObj "list" #[] 0)).update s.heap.objs.size (Obj.mapSeq (· ++ vs.toArray))).push (seqObj "list" vs.toArray 0) = h2 at hoL I1 ⊢
  have s1 := Heap.SameBut.update h2 (s.heap.objs.size + 1) (Obj.mapSeq fun _ => (#[] : Array Value))
  obtain ⟨e1, ho1⟩ : ∃ e1, (h2.update (s.heap.objs.size + 1) (Obj.mapSeq fun _ => (#[] : Array Value))).get? (s.heap.objs.size + 1) = some (seqObj "list" #[] e1) := ⟨_, get?_update_seq hoL fun _ => #[]⟩
  unfold ksk_tree
  refine wpAny_bind (listItems_at hoL rfl ?_)
  refine wpAny_bind (listUpdate_at hoL rfl ?_ (by rw [Th, sizeLine_eq]; lia) (SN _))
  refine wpAny_bind (seqEpoch_at ho1 rfl ?_)
  refine wpAny_bind (wpAny_newTuple ?_ (by show vs.length ≤ _; rw [sizeLine_eq]; lia))
  refine wpAny_bind (wpAny_newList ?_ (SN _))
  refine wpAny_holding ?_
  have I2 := I1.turned (it := s.heap.objs.size + 1) (t' := s.toks) (h' := h2.update (s.heap.objs.size + 1) (Obj.mapSeq fun _ => (#[] : Array Value))) (fun b o hb q => (s1.2 b hb).trans q) fa.1 fa.2.1 fa.2.2.2.1 fa.2.2.2.2.1 fa.2.2.2.2.2
  have I2 : Inv X pins σ H { s with heap := h2.update (s.heap.objs.size + 1) (Obj.mapSeq fun _ => (#[] : Array Value)), toks := s.toks } := I2
  generalize h2.update (s.heap.objs.size + 1) (Obj.mapSeq fun _ => (#[] : Array Value)) = h3 at ho1 I2 ⊢
  have I3 : Inv X pins σ H { s with heap := h3.push (seqObj "tuple" vs.toArray 0), toks := s.toks } := I2.kept fun b o q => Heap.get?_push_of_some _ q
  have ho3 : (h3.push (seqObj "tuple" vs.toArray 0)).get? (s.heap.objs.size + 1) = some (seqObj "list" #[] e1) := Heap.get?_push_of_some _ ho1
  show wpAny _ _ _ _ _ { s with heap := (h3.push (seqObj "tuple" vs.toArray 0)).push (seqObj "list" #[] 0) }
  generalize h3.push (seqObj "tuple" vs.toArray 0) = h4 at I3 ho3 ⊢
  have hkn : H h4.objs.size = none := I3.hok.fresh (SK _)
  have fk : DH X pins H h4.objs.size := I3.fpOk (SK _) hkn
  have hka : h4.objs.size ≠ s.heap.objs.size + 1 := SJ (Heap.lt_size ho3)
  have I4 : Inv X pins σ H { s with heap := h4.push (seqObj "list" #[] 0), toks := s.toks } := I3.kept fun b o q => Heap.get?_push_of_some _ q
  refine LI (a := s.heap.objs.size + 1) (kS := h4.objs.size) (e1 := e1) (kz := kz) (vs := vs) fa fk hka (I4.pins_of fun p hp => ?_) (by lia) (by lia) (fun i v k hv hk pins' s' I' => ?_) fun s' out c J hget ko => ⟨_, rfl, ?_⟩
  ·rcases SD.mp hp with z | z
   ·exact I4.pin p (SM _ z)
   ·rcases SA.mp z with rfl | z
    ·exact ⟨Heap.get?_push_of_some _ ho3, fa.1, fa.2.1, fa.2.2.1, fun v z => by cases z⟩
    ·rw [Ub.mp z]
     exact ⟨Heap.get?_push_size _ rfl, fk.1, fk.2.1, fk.2.2.1, fun v z => by cases z⟩
  ·have hi : i < xs.length := by have := (SF.mp hv).1; lia
   have hx : xs[i]? = some xs[i] := Uc hi
   obtain ⟨u, hu, ru⟩ := r.get hx
   rw [hv] at hu
   cases hu
   exact turn i _ k v hx hk ru pins' s' I'
  ·refine wpAny_pure ⟨_, rfl, ?_⟩
   obtain ⟨ps, hperm, hout, hsorted⟩ := ko
   obtain ⟨zs, hz1, hz2⟩ := EU hperm.symm (JE r kz)
   have hvy := JF hz2
   rw [← hout] at hvy
   have hyl : (zs.map Prod.snd).length ≤ sizeLine := by
    rw [T7, hz1.length_eq, Vf, sizeLine_eq]; lia
   have hpw : zs.Pairwise fun p q => p.1 ≤ q.1 := by
    have h1 : (zs.map Prod.fst).Pairwise (· ≤ ·) := by
     rw [JG hz2]
     exact Vg.mpr (hsorted.imp fun h => by simpa using h)
    exact Vg.mp h1
   refine ⟨.ref (s.heap.objs.size + 1), upd H (s.heap.objs.size + 1) (.lst (zs.map Prod.snd)), J.own fa ⟨hyl, out.toList, c, hvy, ?_⟩, rfl, q _ _ hDn ⟨zs, hz1, rfl, hpw⟩⟩
   rw [hget]
end
end L2
namespace L2
open PySem PySem.Spec PyProof.Rows
theorem OD {cs : List Addr} {H : Hp} : onC cs H (offC cs H) = H := by
 funext b
 by_cases h : b ∈ cs
 ·rw [NZ h]
 ·rw [DA h, BR h]
theorem Nv {cs : List Addr} {os : Addr → Obj} {H : Hp} (hn : ∀ c ∈ cs, H c = none) : offC cs (DX cs os H) = H := by
 funext b
 by_cases h : b ∈ cs
 ·rw [EI h, hn b h]
 ·rw [BR h, BE h]
theorem ON {P : Program} {w : World} {K : Su} {mg : Str → Option Value} {base : Heap} {k : Nat} {f c' Pt : Addr} {q : Str} {params : Arguments} {body : Expr} {scope : Scope} {cl : List (Str × Addr)} {pm ctv : Value} {env : Env} {N ps fr : List Str} {σ : St} {os : Addr → Obj} {H1 H2 : Hp} {ws : List V} {Ok : List V → V → Prop}
 (LN : MY H1 H2 Pt q f c' (V0 "<lambda>" q params body scope cl pm (.ref c') ctv)) (C : Ir env cl) (hfree : ∀ x ∈ scope.names, x.2 = .free → ∃ c, (x.1, c) ∈ cl) (hcn : ∀ c ∈ cl.map (·.2), H2 c = none) (hci : Lu N σ env.scope cl os)
 (S : O5 scope ps) (hlk : ∀ us : List Value, us.length = ps.length → ∀ (j : Nat) (x : Str) (u : Value), ps[j]? = some x → us[j]? = some u → (ps.zip us).reverse.lookup x = some u)
 (cap : Cap env.scope scope N σ fr ws)
 (hbody : ∀ (A : Around) (outer : List Env) (s : Shared) (E : XK) (vs : List V) (r : V) (H' : Hp) (Q : VK), C8 k (A.deeper (UY q scope s.heap.objs.size f (.ref c') cl)) → vs.length = ps.length → Ok vs r → Af H2 H' → Q r H' →
  ∃ t, PE (Ku CX0 P w K mg base (ps ++ fr) q scope f (.ref c') cl A outer s H' E) body t ∧ t (vs.map some ++ ws.map some) H' Q) :
 AH P w K mg base CX0 (k + 1) f (V0 "<lambda>" q params body scope cl pm (.ref c') ctv) ps (fun vs H Q _ => vs.length = ps.length ∧ Af (DX (cl.map (·.2)) os H2) H ∧ ∃ r, Ok vs r ∧ Q r H) := by
 have old : Af H2 (DX (cl.map (·.2)) os H2) := Af.trk hcn
 refine OM (N := ps ++ fr) (fun vs H Q E h => h.1) hlk fun A outer s H vs Q E hr h => ?_
 obtain ⟨hl, hm, r, ho, hq⟩ := h
 have hmo := old.trans hm
 have L := Mr S C hfree hci cap hl hm
 have sOff : Af H2 (offC (cl.map (·.2)) H) := Af.untrk hm hcn
 obtain ⟨t, h1, h2⟩ := hbody A outer s E vs r (offC (cl.map (·.2)) H) (fun v H' => (∀ c ∈ cl.map (·.2), H' c = none) → Q v (onC (cl.map (·.2)) H H')) hr hl ho sOff fun _ => by rw [OD]; exact hq
 exact ⟨hmo _ _ LN.lam, hmo _ _ LN.cod, _, L, t, h1, h2, fun e s' z => z.elim⟩
abbrev Cx.deep (X : Cx) (A : Around) : Cx := { X with A := A }
theorem Inv.deep {X : Cx} {pins : List (Addr × Obj)} {σ : St} {H : Hp} {s : Shared} {A : Around} (I : Inv X pins σ H s) (h1 : A.handled = X.A.handled) (h2 : A.frames = X.A.frames) : Inv (X.deep A) pins σ H s :=
 ⟨⟨I.ok.mod, I.ok.kind, I.ok.glob, I.ok.blt, I.ok.above, I.ok.inj, I.ok.has, I.ok.cab, fun z => by rw [show (X.deep A).A.handled = A.handled from rfl, h1]; exact I.ok.hd z, by rw [show (X.deep A).A.frames = A.frames from rfl, h2]; exact I.ok.frames, I.ok.stk, I.ok.exf, I.ok.bs, I.ok.bsz, I.ok.noex, I.ok.exfs, I.ok.funs, I.ok.frf⟩, I.os, I.bare, I.base, I.loc, I.cell, I.free, I.freeC, I.pin, I.hok, I.len⟩
theorem Inv.undeep {X : Cx} {pins : List (Addr × Obj)} {σ : St} {H : Hp} {s : Shared} {A : Around} (I : Inv (X.deep A) pins σ H s) (h1 : A.handled = X.A.handled) (h2 : A.frames = X.A.frames) : Inv X pins σ H s :=
 ⟨⟨I.ok.mod, I.ok.kind, I.ok.glob, I.ok.blt, I.ok.above, I.ok.inj, I.ok.has, I.ok.cab, fun z => by rw [← h1]; exact I.ok.hd z, by rw [← h2]; exact I.ok.frames, I.ok.stk, I.ok.exf, I.ok.bs, I.ok.bsz, I.ok.noex, I.ok.exfs, I.ok.funs, I.ok.frf⟩, I.os, I.bare, I.base, I.loc, I.cell, I.free, I.freeC, I.pin, I.hok, I.len⟩
theorem Nf {X : Cx} {pins : List (Addr × Obj)} {σ : St} {H : Hp} {s : Shared} {A : Around} {k : Nat} {f : Addr} {fd : FuncData} {ps : List Str} {us : List Value} {vs : List V} {cl : List (Str × Addr)} {kk : Int} (hA1 : A.handled = X.A.handled) (hA2 : A.frames = X.A.frames) (hr : C8 k A) (hb : Ca X.K fd ps []) (hfn : ∀ y, X.fn y = true) (I : Inv X pins σ H s) (r : AG vs us) (C : Ir X.env cl)
 (h : ∀ os, (∀ c ∈ cl.map (·.2), H c = none) → Lu X.N σ X.env.scope cl os → ∃ sp, AH X.prog X.w X.K X.mg X.base CX0 k f fd ps sp ∧ ∀ Q : VK, Q (.int kk) (DX (cl.map (·.2)) os H) → sp vs (DX (cl.map (·.2)) os H) Q (fun _ _ _ => False)) :
 wpAny (model X.prog X.w) A (call (.ref f) us) (fun u s' => (∃ t, u = .int kk t) ∧ Inv X pins σ H s') (fun _ _ => False) s := by
 have F : AH X.prog X.w X.K X.mg X.base CX0 k f fd ps (fun vs H Q E => ∃ sp, AH X.prog X.w X.K X.mg X.base CX0 k f fd ps sp ∧ sp vs H Q E) :=
  ⟨fun vs H Q E ⟨sp, F, h⟩ => F.len vs H Q E h, fun A outer s H args us vs Q E hr he hb hv ⟨sp, F, h⟩ => F.run A outer s H args us vs Q E hr he hb hv h⟩
 have J : Inv ((X.nox).deep A) pins σ H s := (I.wish _).deep hA1 hA2
 refine wpAny_mono (Ng (X := (X.nox).deep A) (CX := CX0) (E := fun _ _ _ => False) (Q := fun v H' => v = .int kk ∧ H' = H) F hr hb hfn (fun e H' s' _ z => z.elim) J r C fun os hn hi => ?_) (fun u s' ⟨v, H', I', rv, ev, eH⟩ => ?_) fun _ _ z => z
 ·obtain ⟨sp, F1, q⟩ := h os hn hi
  exact ⟨sp, F1, q _ ⟨fun c hc => Jo hc, rfl, Nv hn⟩⟩
 ·subst ev
  subst eH
  obtain ⟨t, rfl⟩ := rv
  exact ⟨⟨t, rfl⟩, (I'.undeep hA1 hA2).unwish⟩
theorem DT {M : Model} {A : Around} {E : Value → Shared → Prop} {s : Shared} {pos : Pos} {id : String} {first : List Value} {args : List (Bool × Sem Value)} {keywords : List (Option Str × Sem Value)} {Q : Value → Shared → Prop} (hplain : (args.any (·.1) || keywords.any (·.1.isNone)) = false)
 (h : wpAny M A (evalArgs (.builtin id) true args keywords) (fun a s₁ => wpAny M A (call (.builtin id) (first ++ a.pos) a.kw) Q E s₁) E s) :
 wpAny M A (callWith pos (.builtin id) first args keywords) Q E s := by
 unfold callWith
 refine wpAny_bind (wpAny_holding (wpAny_mono h (fun a s₁ h₁ => wpAny_bind (wpAny_standAt ?_)) fun _ _ x => x))
 simp only [hplain]
 refine wpAny_bind (wpAny_pure ?_)
 exact wpAny_bind (wpAny_mono h₁ (fun r s₂ hr => wpAny_bind (wpAny_holding (wpAny_point (wpAny_pure hr)))) fun _ _ x => x)
def Ph (env : Env) (N : List Str) (P : Program) (w : World) (K : Su) (mg : Str → Option Value) (base : Heap) (k : Nat) (te tk : TE) : TE := fun σ H Q => te σ H fun x H1 => ∃ l, x = .ref l ∧ tk σ H1 fun y H2 => ∃ (f : Addr) (fd : FuncData) (ps : List Str) (cl : List (Str × Addr)) (xs : List V) (kz : List Int), y = .ref f ∧ SqL K H2 l xs ∧ kz.length = xs.length ∧ xs.length < 64 ∧ Ca K fd ps [] ∧ Ir env cl ∧
 (∀ os, (∀ c ∈ cl.map (·.2), H2 c = none) → Lu N σ env.scope cl os → ∃ sp, AH P w K mg base CX0 k f fd ps sp ∧ ∀ (i : Nat) (x : V) (kk : Int), xs[i]? = some x → kz[i]? = some kk → ∀ Q' : VK, Q' (.int kk) (DX (cl.map (·.2)) os H2) → sp [x] (DX (cl.map (·.2)) os H2) Q' (fun _ _ _ => False)) ∧
 ∀ (p : Addr) (ys : List V), H2 p = none → (∃ zs : List (Int × V), zs.Perm (kz.zip xs) ∧ ys = zs.map Prod.snd ∧ zs.Pairwise fun p q => p.1 ≤ q.1) → Q (.ref p) (upd H2 p (.lst ys))
theorem M9 (K : Su) {X : Cx} {e kx : Expr} {te tk : TE} {k m : Nat} {p pos kp : Pos} (hr : C8 m X.A) (hfn : ∀ y, X.fn y = true) (hg : Gl X "sorted") (hm : X.mg "sorted" = none) (he : PE X e te) (hk : PE X kx tk) (hkm : k + 2 ≤ m := by decide) (hs : starEach [e] X.env = [(false, eval e X.env)] := by rfl) (e0 : X.K = K := by rfl) :
 PE X (.Call (.Name "sorted" p) [e] [⟨some "key", kx, kp⟩] pos) (Ph X.env X.N X.prog X.w K X.mg X.base k te tk) := by
 subst e0
 intro pins s σ H Q I h
 refine wpAny_Call_Name_kw (Di I hg hm (show bootBuiltins "sorted" = some (.builtin "sorted") by with_unfolding_all rfl) ?_ (by decide) (by decide))
 rw [hs]
 show wpAny _ _ (callWith pos (.builtin "sorted") [] [(false, eval e X.env)] [(some "key", do let v ← eval kx X.env; standAt pos; pure v)]) _ _ s
 refine DT rfl (evalArgs_kw rfl ?_)
 refine Calls.spliced_cons (thn (he pins s σ H _ I h) fun u s1 ⟨x, H1, I1, r1, q1⟩ => Calls.spliced_nil ?_)
 obtain ⟨l, rfl, q1⟩ := q1
 cases r1
 show wpAny _ _ (evalAll [do let v ← eval kx X.env; standAt pos; pure v]) _ _ s1
 refine wpAny_evalAll_cons (wpAny_bind (thn (hk pins s1 σ H1 _ I1 q1) fun u s2 ⟨y, H2, I2, r2, q2⟩ => wpAny_bind (wpAny_standAt (wpAny_pure (wpAny_evalAll_nil ?_)))))
 obtain ⟨f, fd, ps, cl, xs, kz, rfl, hl, hlen, h64, hb, C, hF, q⟩ := q2
 cases r2
 show wpAny _ _ (call (.builtin "sorted") [.ref l] [(Str.ofString "key", .ref f)]) _ _ s2
 exact Jr I2 hl hlen h64 (fun i x kk v hx hkk rv pins' s' I' => Nf rfl rfl (hr.mono hkm).in1.in1 hb hfn I' (.cons rv .nil) C fun os hn hi => let ⟨sp, F, qq⟩ := hF os hn hi; ⟨sp, F, fun Q' hq => qq i x kk hx hkk Q' hq⟩) q
end L2
namespace L2
open PySem PySem.Spec PyProof.Rows
abbrev E4 (h : Heap) (z TI TO a : Addr) (f : Bool) : Prop :=
 h.get? z = some { cls := .type "zip", dict := none, data := .fields #[rawInt a, .bool f, .bool false, .ref TI, .ref TO], slots := #[] }
section
variable {prog : Program} {w : World} {A : Around} {E : Value → Shared → Prop} {s : Shared}
theorem N0 {a : Addr} {o : Obj} {Q : Option Obj → Shared → Prop} (ho : s.heap.get? a = some o) (h : Q (some o) s) : wpAny (model prog w) A (loadIfAlive a) Q E s := by
 have h' : Q (s.heap.get? a) s := by rw [ho]; exact h
 exact fun _ _ _ => h'
theorem Lv {z TI TO a : Addr} {f : Bool} {oa : Obj} {Q : Bool → Shared → Prop} (hz : E4 s.heap z TI TO a f) (ha : s.heap.get? a = some oa)
 (hQ : ∀ h', E4 h' z TI TO a true → Heap.SameBut z s.heap h' → Q false { s with heap := h' }) : wpAny (model prog w) A (Builtin.SmallTypes.ownedTupleIsFree (.ref z)) Q E s := by
 unfold Builtin.SmallTypes.ownedTupleIsFree
 refine wpAny_bind (wpAny_field hz rfl (x := rawInt a) rfl ?_)
 show wpAny _ _ (loadIfAlive ((a : Int).toNat) >>= _) _ _ _
 rw [Td]
 refine wpAny_bind (N0 ha ?_)
 simp only [Option.isNone_some, Bool.false_eq_true, if_false]
 refine wpAny_bind (wpAny_field hz rfl (x := .bool f) rfl ?_)
 cases f with
 | true =>
   rw [if_neg (show ¬ ((Value.bool true != Value.bool true) = true) from Bool.false_ne_true)]
   exact wpAny_pure (hQ _ hz (Heap.SameBut.refl _ _))
 | false =>
   rw [if_pos (show (Value.bool false != Value.bool true) = true from rfl)]
   refine wpAny_bind (wpAny_setField_rec hz (by simp) fun h₃ he₃ hs₃ => ?_)
   exact wpAny_pure (hQ h₃ he₃ hs₃)
theorem Hh {z TI TO a i1 i2 l1 l2 : Addr} {f : Bool} {oa : Obj} {k1 k2 : Nat} {xs ys : Array Value} {x y : Value} {Q : Value → Shared → Prop} (D : ZipApart z TI TO i1 i2 l1 l2)
 (hz : E4 s.heap z TI TO a f) (ha : s.heap.get? a = some oa) (hTI : IsPair s.heap TI (.ref i1) (.ref i2))
 (h1 : s.heap.IsListIter i1 l1 k1) (h2 : s.heap.IsListIter i2 l2 k2) (hl1 : s.heap.IsList l1 xs) (hl2 : s.heap.IsList l2 ys) (hx : xs[k1]? = some x) (hy : ys[k2]? = some y)
 (hQ : ∀ h', E4 h' z TI TO a true → h'.IsListIter i1 l1 (k1 + 1) → h'.IsListIter i2 l2 (k2 + 1) → IsPair h' s.heap.objs.size x y → h'.objs.size = s.heap.objs.size + 1 →
  (∀ c o, c ≠ z → c ≠ i1 → c ≠ i2 → s.heap.get? c = some o → h'.get? c = some o) → Q (.ref s.heap.objs.size) { s with heap := h' }) :
 wpAny (model prog w) A (Builtin.«zip.__next__» ⟨[.ref z], []⟩) (fun fin s' => ∃ v, fin = .done (.ret v) ∧ Q v s') E s := by
 show wpAny _ _ (field (.ref z) 2 >>= _) _ _ _
 refine wpAny_bind (wpAny_field hz rfl (x := .bool false) rfl ?_)
 show wpAny _ _ (field (.ref z) 3 >>= _) _ _ _
 refine wpAny_bind (wpAny_field hz rfl (x := .ref TI) rfl ?_)
 refine wpAny_bind (wpAny_seqItems hTI rfl ?_)
 show wpAny _ _ (Builtin.SmallTypes.ownedTupleIsFree (.ref z) >>= _) _ _ _
 refine wpAny_bind (Lv hz ha fun h₁ hz₁ hs₁ => ?_)
 simp only [Bool.false_eq_true, if_false]
 refine wpAny_bind ?_
 simp only [← UM, U2, List.forIn_nil]
 refine wpAny_bind (wpAny_bind (wpAny_holding ?_))
 show wpAny _ _ (Builtin.SmallTypes.nextOf (.ref i1) >>= _) _ _ _
 refine wpAny_bind (wpAny_nextOf_list_item (h1.extBut hs₁.extBut D.i1z) (hl1.extBut hs₁.extBut D.l1z) hx fun h₂ h1₂ hs₂ => wpAny_pure ?_)
 refine wpAny_pure ?_
 refine wpAny_bind (wpAny_bind (wpAny_holding ?_))
 show wpAny _ _ (Builtin.SmallTypes.nextOf (.ref i2) >>= _) _ _ _
 refine wpAny_bind (wpAny_nextOf_list_item ((h2.extBut hs₁.extBut D.i2z).extBut hs₂.extBut D.i12.symm)
  ((hl2.extBut hs₁.extBut D.l2z).extBut hs₂.extBut D.l2i1) hy fun h₃ h2₃ hs₃ => wpAny_pure ?_)
 refine wpAny_pure (wpAny_pure ?_)
 show wpAny _ _ (newTuple [x, y] >>= _) _ _ _
 refine wpAny_bind (wpAny_newTuple ?_)
 have hsz : h₃.objs.size = s.heap.objs.size := by rw [hs₃.1, hs₂.1, hs₁.1]
 have hz₃ : E4 h₃ z TI TO a true := hs₃.extBut _ _ D.i2z.symm (hs₂.extBut _ _ D.i1z.symm hz₁)
 have hk₃ : ∀ c o, c ≠ z → c ≠ i1 → c ≠ i2 → s.heap.get? c = some o → h₃.get? c = some o := fun c o c1 c3 c4 e => hs₃.extBut _ _ c4 (hs₂.extBut _ _ c3 (hs₁.extBut _ _ c1 e))
 have h1₃ : h₃.IsListIter i1 l1 (k1 + 1) := h1₂.extBut hs₃.extBut D.i12
 refine wpAny_pure ⟨_, rfl, ?_⟩
 show Q (.ref h₃.objs.size) _
 have hT : IsPair (h₃.push { cls := .type "tuple", data := .seq #[x, y] }) h₃.objs.size x y := Heap.get?_push_size _ rfl
 rw [hsz] at hT ⊢
 exact hQ _ (Heap.get?_push_of_some _ hz₃) (h1₃.at fun o e => Heap.get?_push_of_some _ e) (h2₃.at fun o e => Heap.get?_push_of_some _ e) hT (by rw [Heap.size_push, hsz]) fun c o c1 c2 c3 e => Heap.get?_push_of_some _ (hk₃ c o c1 c2 c3 e)
theorem Iv {z TI TO a i1 i2 l1 l2 : Addr} {f : Bool} {oa : Obj} {k1 : Nat} {xs : Array Value} {Q : Fin → Shared → Prop} (hh : A.handled = none) (D : ZipApart z TI TO i1 i2 l1 l2)
 (hz : E4 s.heap z TI TO a f) (ha : s.heap.get? a = some oa) (hTI : IsPair s.heap TI (.ref i1) (.ref i2))
 (h1 : s.heap.IsListIter i1 l1 k1) (hl1 : s.heap.IsList l1 xs) (hx : xs[k1]? = none)
 (hE : ∀ h' e, (∀ c o, c ≠ z → c ≠ i1 → s.heap.get? c = some o → h'.get? c = some o) → (∃ o, h'.get? e = some o ∧ o.cls = .type "StopIteration") → E (.ref e) { s with heap := h' }) :
 wpAny (model prog w) A (Builtin.«zip.__next__» ⟨[.ref z], []⟩) Q E s := by
 show wpAny _ _ (field (.ref z) 2 >>= _) _ _ _
 refine wpAny_bind (wpAny_field hz rfl (x := .bool false) rfl ?_)
 show wpAny _ _ (field (.ref z) 3 >>= _) _ _ _
 refine wpAny_bind (wpAny_field hz rfl (x := .ref TI) rfl ?_)
 refine wpAny_bind (wpAny_seqItems hTI rfl ?_)
 show wpAny _ _ (Builtin.SmallTypes.ownedTupleIsFree (.ref z) >>= _) _ _ _
 refine wpAny_bind (Lv hz ha fun h₁ hz₁ hs₁ => ?_)
 simp only [Bool.false_eq_true, if_false]
 refine wpAny_bind ?_
 simp only [← UM, U2, List.forIn_nil]
 refine wpAny_bind (wpAny_bind (wpAny_holding ?_))
 show wpAny _ _ (Builtin.SmallTypes.nextOf (.ref i1) >>= _) _ _ _
 refine wpAny_bind (wpAny_nextOf_list_end hh (h1.extBut hs₁.extBut D.i1z) (hl1.extBut hs₁.extBut D.l1z) hx fun h₂ e hs₂ he => ?_)
 exact hE h₂ e (fun c o c1 c3 x => hs₂ _ _ c3 (hs₁.extBut _ _ c1 x)) he
def ZSt (h : Heap) (z TI TO S : Addr) : Prop := (IsZip h z TI TO .none ∧ ∃ a b, IsPair h TO a b) ∨ ∃ a f oa, E4 h z TI TO a f ∧ h.get? a = some oa ∧ S < a
theorem O8 {z TI TO S i1 i2 l1 l2 : Addr} {k1 k2 : Nat} {xs ys : Array Value} {x y : Value} {Q : Option Value → Shared → Prop} (D : ZipApart z TI TO i1 i2 l1 l2)
 (hz : ZSt s.heap z TI TO S) (hS : S < s.heap.objs.size) (hlt : z < S ∧ TO < S ∧ i1 < S ∧ i2 < S) (hTI : IsPair s.heap TI (.ref i1) (.ref i2))
 (h1 : s.heap.IsListIter i1 l1 k1) (h2 : s.heap.IsListIter i2 l2 k2) (hl1 : s.heap.IsList l1 xs) (hl2 : s.heap.IsList l2 ys) (hx : xs[k1]? = some x) (hy : ys[k2]? = some y)
 (hQ : ∀ h', ZSt h' z TI TO S → h'.IsListIter i1 l1 (k1 + 1) → h'.IsListIter i2 l2 (k2 + 1) → IsPair h' s.heap.objs.size x y → h'.objs.size = s.heap.objs.size + 1 →
  (∀ c o, c ≠ z → c ≠ TO → c ≠ i1 → c ≠ i2 → s.heap.get? c = some o → h'.get? c = some o) → Q (some (.ref s.heap.objs.size)) { s with heap := h' }) :
 wpAny (model prog w) A (pyNext (.ref z)) Q E s := by
 rcases hz with ⟨hz, a, b, hTO⟩ | ⟨a, f, oa, hz, ha, hSa⟩
 ·refine wpAny_pyNext_zip_item D hz hTI hTO h1 h2 hl1 hl2 hx hy fun h' a1 a2 a3 a4 a5 a6 a7 => ?_
  exact hQ h' (.inr ⟨_, false, _, a1, a5, hS⟩) a3 a4 a5 a6 a7
 ·have hT : s.TypeIs (.ref z) "zip" := ⟨_, hz, rfl⟩
  unfold pyNext
  exact wpAny_bind (wpAny_attempt (wpAny_callSpecial?_slot (name := Str.ofString "__next__") hT F.slot_zip_next
   (wpAny_call_entry F.slot_zip_next hT F.entry_zip_next
    (Hh D hz ha hTI h1 h2 hl1 hl2 hx hy fun h' a1 a3 a4 a5 a6 a7 => wpAny_pure (hQ h' (.inr ⟨a, true, oa, a1, a7 a oa (SJ (Ts hlt.1 hSa)) (SJ (Ts hlt.2.2.1 hSa)) (SJ (Ts hlt.2.2.2 hSa)) ha, hSa⟩) a3 a4 a5 a6 fun c o c1 _ c3 c4 e => a7 c o c1 c3 c4 e)) (F.args_zip_next_1 _))))
theorem O9 {z TI TO S i1 i2 l1 l2 : Addr} {k1 k2 : Nat} {xs ys : Array Value} {Q : Option Value → Shared → Prop} (hh : A.handled = none) (D : ZipApart z TI TO i1 i2 l1 l2)
 (hz : ZSt s.heap z TI TO S) (hTI : IsPair s.heap TI (.ref i1) (.ref i2))
 (h1 : s.heap.IsListIter i1 l1 k1) (h2 : s.heap.IsListIter i2 l2 k2) (hl1 : s.heap.IsList l1 xs) (hl2 : s.heap.IsList l2 ys) (hx : xs[k1]? = none)
 (hQ : ∀ h', (∀ c o, c ≠ z → c ≠ TO → c ≠ i1 → c ≠ i2 → s.heap.get? c = some o → h'.get? c = some o) → Q none { s with heap := h' }) : wpAny (model prog w) A (pyNext (.ref z)) Q E s := by
 rcases hz with ⟨hz, a, b, hTO⟩ | ⟨a, f, oa, hz, ha, hSa⟩
 ·exact wpAny_pyNext_zip_end hh D hz hTI hTO h1 h2 hl1 hl2 (.inl hx) hQ
 ·have hT : s.TypeIs (.ref z) "zip" := ⟨_, hz, rfl⟩
  unfold pyNext
  refine wpAny_bind (wpAny_attempt (wpAny_callSpecial?_slot (name := Str.ofString "__next__") hT F.slot_zip_next
   (wpAny_call_entry F.slot_zip_next hT F.entry_zip_next (Iv hh D hz ha hTI h1 hl1 hx fun h' e hk he => ?_) (F.args_zip_next_1 _))))
  obtain ⟨o, ho, hc⟩ := he
  refine wpAny_bind (wpAny_isInstance (T := "StopIteration") (b := true) ⟨o, ho, hc⟩ isSubtype_stop ?_)
  exact wpAny_pure (hQ _ fun c o c1 _ c3 _ e => hk c o c1 c3 e)
theorem ZSt.keep {h h' : Heap} {z TI TO S : Addr} (x : ZSt h z TI TO S) (hk : ∀ b o, b ≠ S → h.get? b = some o → h'.get? b = some o) (h1 : z ≠ S) (h2 : TO ≠ S) : ZSt h' z TI TO S := by
 rcases x with ⟨hz, a, b, hTO⟩ | ⟨a, f, oa, hz, ha, hSa⟩
 ·exact .inl ⟨hk _ _ h1 hz, a, b, hk _ _ h2 hTO⟩
 ·exact .inr ⟨a, f, oa, hk _ _ h1 hz, hk _ _ (SJ hSa) ha, hSa⟩
structure ZG (xs ys : Array Value) (S : Addr) (h : Heap) (as : List Addr) : Prop where
 rise : as.Pairwise (· < ·)
 above : ∀ a ∈ as, S < a
 pairs : ∀ (j : Nat) (a : Addr), as[j]? = some a → ∃ x y, xs[j]? = some x ∧ ys[j]? = some y ∧ IsPair h a x y
theorem ZG.there {xs ys : Array Value} {S : Addr} {h : Heap} {as : List Addr} (g : ZG xs ys S h as) {a : Addr} (ha : a ∈ as) : a < h.objs.size := by
 obtain ⟨j, hj⟩ := List.mem_iff_getElem?.mp ha
 obtain ⟨_, _, _, _, e⟩ := g.pairs j a hj
 exact Heap.lt_size e
end
section
variable {prog : Program} {w : World} {A : Around} {s : Shared} {R : Result → Shared → Prop} {xs ys : Array Value} {S z TI TO i1 i2 l1 l2 lo : Addr}
structure Lr (z TI TO i1 i2 l1 l2 lo S : Addr) : Prop where
 ap : ZipApart z TI TO i1 i2 l1 l2
 z1 : lo ≤ z
 TO1 : lo ≤ TO
 i11 : lo ≤ i1
 i21 : lo ≤ i2
 z2 : z < S
 TI2 : TI < S
 TO2 : TO < S
 i12 : i1 < S
 i22 : i2 < S
 l1 : l1 < S
 l2 : l2 < S
 lS : lo ≤ S
theorem O7 (hh : A.handled = none) (D : Lr z TI TO i1 i2 l1 l2 lo S) (hxy : xs.size = ys.size) (hn : xs.size ≤ sizeLine) (res : Value) {h₁ : Heap}
 (hR : ∀ h' tk acc c as, (∀ b o, b < lo → h₁.get? b = some o → h'.get? b = some o) → h'.get? S = some { cls := .type "list", dict := none, data := .seq acc c, slots := #[] } → as.length = xs.size → ZG xs ys S h' as →
  acc.toList = as.map Value.ref → R (.ok (.ret res)) { s with heap := h', toks := tk }) :
 ∀ (k i : Nat) (h : Heap) (tk c : Nat) (acc : Array Value) (as : List Addr), xs.size - i = k → i ≤ xs.size → ZSt h z TI TO S → IsPair h TI (.ref i1) (.ref i2) → h.IsListIter i1 l1 i → h.IsListIter i2 l2 i → h.IsList l1 xs → h.IsList l2 ys → (∀ b o, b < lo → h₁.get? b = some o → h.get? b = some o) →
   h.get? S = some { cls := .type "list", dict := none, data := .seq acc c, slots := #[] } → acc.toList = as.map Value.ref → as.length = i → ZG xs ys S h as → S < h.objs.size →
   codeAny (model prog w) A (.builtin "list.extend.loop" ⟨[.ref S, .ref z, res], []⟩) R { s with heap := h, toks := tk } := by
 have below : ∀ b, b < lo → b ≠ z ∧ b ≠ TO ∧ b ≠ i1 ∧ b ≠ i2 ∧ b ≠ S := fun b hb => ⟨Sn (Sl hb D.z1), Sn (Sl hb D.TO1), Sn (Sl hb D.i11), Sn (Sl hb D.i21), Sn (Sl hb D.lS)⟩
 have past : ∀ b, S < b → b ≠ z ∧ b ≠ TO ∧ b ≠ i1 ∧ b ≠ i2 := fun b hb => ⟨SJ (Ts D.z2 hb), SJ (Ts D.TO2 hb), SJ (Ts D.i12 hb), SJ (Ts D.i22 hb)⟩
 have apart := D.ap
 intro k
 induction k with
 | zero =>
   intro i h tk c acc as hk hi hst hTI h1 h2 hl1 hl2 hkeep hS hacc hal hG hSs
   refine codeAny_builtin PySem.F.entry_extend_loop ?_
   rw [Around.under_plainId PySem.F.plain_extend_loop _]
   show wpAny _ A.in1 (pyNext (.ref z) >>= _) _ _ _
   refine wpAny_bind (O9 (s := { s with heap := h, toks := tk }) (A := A.in1) hh apart hst hTI h1 h2 hl1 hl2 (UG (by lia)) fun h' he => ?_)
   refine wpAny_pure (hR h' tk acc c as (fun b o hb e => he b o (below b hb).1 (below b hb).2.1 (below b hb).2.2.1 (below b hb).2.2.2.1 (hkeep b o hb e)) (he S _ (SJ D.z2) (SJ D.TO2) (SJ D.i12) (SJ D.i22) hS) (by lia) ⟨hG.rise, hG.above, fun j a hj => ?_⟩ hacc)
   obtain ⟨x, y, e1, e2, e3⟩ := hG.pairs j a hj
   have p := past a (hG.above a (T5 hj))
   exact ⟨x, y, e1, e2, he a _ p.1 p.2.1 p.2.2.1 p.2.2.2 e3⟩
 | succ k ih =>
   intro i h tk c acc as hk hi hst hTI h1 h2 hl1 hl2 hkeep hS hacc hal hG hSs
   have hlt : i < xs.size := by lia
   have hx : xs[i]? = some xs[i] := UN hlt
   have hy : ys[i]? = some (ys[i]'(by lia)) := UN (by lia)
   generalize xs[i] = x at hx
   generalize ys[i]'(by lia) = y at hy
   have hsz : acc.size = i := by rw [← SI, hacc, T7, hal]
   refine codeAny_builtin PySem.F.entry_extend_loop ?_
   rw [Around.under_plainId PySem.F.plain_extend_loop _]
   show wpAny _ A.in1 (pyNext (.ref z) >>= _) _ _ _
   refine wpAny_bind (O8 (s := { s with heap := h, toks := tk }) (S := S) apart hst hSs ⟨D.z2, D.TO2, D.i12, D.i22⟩ hTI h1 h2 hl1 hl2 hx hy fun h' hst' h1' h2' ht hz hkp => ?_)
   dsimp only at ht hz hkp ⊢
   have hS' := hkp S _ (SJ D.z2) (SJ D.TO2) (SJ D.i12) (SJ D.i22) hS
   have up : ∀ b o, b ≠ S → h'.get? b = some o → (h'.update S (Obj.mapSeq (·.push (Value.ref h.objs.size)))).get? b = some o := fun b o hb e => (Heap.get?_update_other _ _ (Ne.symm hb)).trans e
   show wpAny _ A.in1 (updateSeq S (·.push (Value.ref h.objs.size)) >>= _) _ _ _
   refine wpAny_bind ?_
   refine wpAny_updateSeq hS' rfl (wpAny_pure ⟨plainId_quiet PySem.F.plain_extend_loop _, ih (i + 1) _ tk _ (acc.push (Value.ref h.objs.size)) (as ++ [h.objs.size]) (by lia) hlt (hst'.keep up (Sn D.z2) (Sn D.TO2))
    (up _ _ (Sn D.TI2) (hkp _ _ apart.TIz apart.TITO apart.TIi1 apart.TIi2 hTI)) (h1'.at fun o e => up _ o (Sn D.i12) e) (h2'.at fun o e => up _ o (Sn D.i22) e)
    (hl1.at fun o e => up _ o (Sn D.l1) (hkp _ o apart.l1z apart.l1TO apart.l1i1 apart.l1i2 e)) (hl2.at fun o e => up _ o (Sn D.l2) (hkp _ o apart.l2z apart.l2TO apart.l2i1 apart.l2i2 e))
    (fun b o hb e => up b o (below b hb).2.2.2.2 (hkp b o (below b hb).1 (below b hb).2.1 (below b hb).2.2.1 (below b hb).2.2.2.1 (hkeep b o hb e))) (Heap.get?_update_self _ hS' rfl) (by rw [Array.toList_push, hacc, TY]; rfl) (by rw [T6, hal]; rfl) ⟨?_, ?_, ?_⟩ ?_⟩) (by rw [hsz]; lia) (by show (acc.push (Value.ref h.objs.size)).size ≤ sizeLine + 1; rw [UU, hsz]; lia)
   ·refine List.pairwise_append.mpr ⟨hG.rise, List.pairwise_singleton _ _, fun a ha b hb => ?_⟩
    rw [Ub.mp hb]
    exact hG.there ha
   ·intro a ha
    rcases SD.mp ha with ha | ha
    ·exact hG.above a ha
    ·rw [Ub.mp ha]; exact hSs
   ·intro j b hj
    rcases Nat.lt_trichotomy j as.length with q1 | q1 | q1
    ·rw [T2 q1] at hj
     obtain ⟨x', y', e1, e2, e3⟩ := hG.pairs j b hj
     have hb := hG.above b (T5 hj)
     have p := past b hb
     exact ⟨x', y', e1, e2, up b _ (SJ hb) (hkp b _ p.1 p.2.1 p.2.2.1 p.2.2.2 e3)⟩
    ·subst q1
     have hb : h.objs.size = b := by simpa using hj
     subst hb
     exact ⟨x, y, by rw [hal]; exact hx, by rw [hal]; exact hy, up _ _ (SJ hSs) ht⟩
    ·have hnone : (as ++ [h.objs.size])[j]? = none := Ux (by rw [T6, Tp]; lia)
     rw [hnone] at hj; cases hj
   ·have e : (h'.update S (Obj.mapSeq (·.push (Value.ref h.objs.size)))).get? h.objs.size = _ := up _ _ (SJ hSs) ht
    exact Ts hSs (Heap.lt_size e)
theorem Jl : typeLookup (.type "zip") "__len__" = pure none := by rw [typeLookup_type, builtinLookup_eq_fast]; kernel_rfl
theorem Iu : typeLookup (.type "zip") "__length_hint__" = pure none := by rw [typeLookup_type, builtinLookup_eq_fast]; kernel_rfl
structure ZGo (h : Heap) (xs ys : Array Value) (z TI TO i1 i2 l1 l2 : Addr) : Prop where
 zip : IsZip h z TI TO .none
 own : ∃ a b, IsPair h TO a b
 its : IsPair h TI (.ref i1) (.ref i2)
 it1 : h.IsListIter i1 l1 0
 it2 : h.IsListIter i2 l2 0
 ls1 : h.IsList l1 xs
 ls2 : h.IsList l2 ys
theorem ZGo.keep {h h' : Heap} (g : ZGo h xs ys z TI TO i1 i2 l1 l2) (D : Lr z TI TO i1 i2 l1 l2 lo S) (hk : ∀ b o, b ≠ S → h.get? b = some o → h'.get? b = some o) : ZGo h' xs ys z TI TO i1 i2 l1 l2 :=
 ⟨hk _ _ (Sn D.z2) g.zip, let ⟨a, b, e⟩ := g.own; ⟨a, b, hk _ _ (Sn D.TO2) e⟩, hk _ _ (Sn D.TI2) g.its, g.it1.at fun o e => hk _ o (Sn D.i12) e, g.it2.at fun o e => hk _ o (Sn D.i22) e, g.ls1.at fun o e => hk _ o (Sn D.l1) e, g.ls2.at fun o e => hk _ o (Sn D.l2) e⟩
theorem Lw (hh : A.handled = none) (D : Lr z TI TO i1 i2 l1 l2 lo S) (g : ZGo s.heap xs ys z TI TO i1 i2 l1 l2) (hxy : xs.size = ys.size) (hn : xs.size ≤ sizeLine) (res : Value) (c₀ : Nat) (hS : s.heap.get? S = some { cls := .type "list", data := .seq #[] c₀ })
 (hR : ∀ h' tk acc c as, (∀ b o, b < lo → s.heap.get? b = some o → h'.get? b = some o) → h'.get? S = some { cls := .type "list", dict := none, data := .seq acc c, slots := #[] } → as.length = xs.size → ZG xs ys S h' as →
  acc.toList = as.map Value.ref → R (.ok (.ret res)) { s with heap := h', toks := tk }) :
 wpAny (model prog w) A.in1 (Builtin.List.listExtendWith (.ref S) (.ref z) res)
  (fun fin s' => match fin with | .done f => R (.ok f) s' | .again c' => c'.quiet = true ∧ codeAny (model prog w) A c' R s') (fun e s' => R (.error e) s') s := by
 have hT : s.TypeIs (.ref z) "zip" := ⟨_, g.zip, rfl⟩
 have hSz : S ≠ z := SJ D.z2
 unfold Builtin.List.listExtendWith
 refine wpAny_bind (wpAny_typeOf hT ?_)
 have h1 : Builtin.List.listSameRef (.ref S) (.ref z) = false := by simp [Builtin.List.listSameRef, hSz]
 have h2 : (Value.type "zip" == Value.type "list") = false := by decide
 have h3 : (Value.type "zip" == Value.type "tuple") = false := by decide
 simp only [h1, h2, h3, Bool.or_false, Bool.false_eq_true, if_false]
 refine wpAny_bind (wpAny_pyIter_zip g.zip ?_)
 refine wpAny_bind (wpAny_holding ?_)
 unfold Builtin.List.listLengthHint
 refine wpAny_bind (wpAny_specialOf hT Jl ?_)
 show wpAny _ A.in1 (specialOf (Value.ref z) (Str.ofString "__length_hint__") >>= _) _ _ _
 refine wpAny_bind (wpAny_specialOf hT Iu ?_)
 refine wpAny_pure ?_
 show wpAny _ A.in1 (rule "list.extend.makes-room" >>= fun _ => Builtin.List.listTouch (.ref S) >>= fun _ =>
  again (.builtin "list.extend.loop" ⟨[.ref S, .ref z, res], []⟩)) _ _ _
 refine wpAny_bind (wpAny_rule ?_)
 refine wpAny_bind ?_
 show wpAny _ A.in1 (updateSeq S (·.push .none) >>= fun _ => updateSeq S (·.pop)) _ _ _
 refine wpAny_bind (wpAny_updateSeq hS rfl ?_)
 have hS₂ := Heap.get?_update_self (Obj.mapSeq (·.push Value.none)) hS rfl
 refine wpAny_updateSeq (hz := by seq_fits) hS₂ rfl ?_
 have hS₃ := Heap.get?_update_self (Obj.mapSeq (·.pop)) hS₂ rfl
 have oth : ∀ b o, b ≠ S → s.heap.get? b = some o → ((s.heap.update S (Obj.mapSeq (·.push Value.none))).update S (Obj.mapSeq (·.pop))).get? b = some o :=
  fun b o hb e => (Heap.get?_update_other _ _ (Ne.symm hb)).trans ((Heap.get?_update_other _ _ (Ne.symm hb)).trans e)
 have g' := g.keep D oth
 have below : ∀ b, b < lo → b ≠ S := fun b hb => Sn (Sl hb D.lS)
 refine wpAny_pure ⟨plainId_quiet F.plain_extend_loop _, O7 (s := s) hh D hxy hn res (h₁ := (s.heap.update S (Obj.mapSeq (·.push Value.none))).update S (Obj.mapSeq (·.pop))) (fun h' tk acc c as hk hS' hal hG hacc => hR h' tk acc c as (fun b o hb e => hk b o hb (oth b o (below b hb) e)) hS' hal hG hacc) xs.size 0 _ s.toks _ _ [] rfl (SN _)
  (.inl ⟨g'.zip, g'.own⟩) g'.its g'.it1 g'.it2 g'.ls1 g'.ls2 (fun b o _ e => e) hS₃ rfl rfl ⟨.nil, (fun _ h => nomatch h), fun j a e => by simp at e⟩ (Heap.lt_size hS₃)⟩
end
end L2
namespace L2
open PySem PySem.Spec PyProof.Rows
section
variable {prog : Program} {w : World} {A : Around} {E : Value → Shared → Prop} {s : Shared} {xs ys : Array Value} {z TI TO i1 i2 l1 l2 lo : Addr}
theorem Kz {Q : List Value → Shared → Prop} (hh : A.handled = none) (D : Lr z TI TO i1 i2 l1 l2 lo s.heap.objs.size) (g : ZGo s.heap xs ys z TI TO i1 i2 l1 l2) (hxy : xs.size = ys.size) (hn : xs.size ≤ sizeLine)
 (hQ : ∀ h' tk as, (∀ b o, b < lo → s.heap.get? b = some o → h'.get? b = some o) → as.length = xs.size → ZG xs ys s.heap.objs.size h' as → Q (as.map Value.ref) { s with heap := h', toks := tk }) :
 wpAny (model prog w) A (collect (.ref z)) Q E s := by
 unfold collect
 refine wpAny_bind (wpAny_runValue ?_)
 have core : codeAny (model prog w) A (.builtin "proto.collect" ⟨[.ref z], []⟩) (fun r s' => ∃ h' tk acc c as, r = .ok (.ret (.ref s.heap.objs.size)) ∧ s' = { s with heap := h', toks := tk } ∧ (∀ b o, b < lo → s.heap.get? b = some o → h'.get? b = some o) ∧
  h'.get? s.heap.objs.size = some { cls := .type "list", dict := none, data := .seq acc c, slots := #[] } ∧ as.length = xs.size ∧ ZG xs ys s.heap.objs.size h' as ∧ acc.toList = as.map Value.ref) s := by
  refine codeAny_builtin F.entry_proto_collect ?_
  rw [Around.under_plainId F.plain_proto_collect _]
  show wpAny _ A.in1 (newList [] >>= fun l => again (.builtin "list.__iadd__" ⟨[l, .ref z], []⟩)) _ _ s
  refine wpAny_bind (wpAny_newObj_type ?_)
  refine wpAny_pure ⟨plainId_quiet F.plain_list_iadd _, codeAny_builtin F.entry_list_iadd ?_⟩
  rw [Around.under_plainId F.plain_list_iadd _]
  show wpAny _ A.in1 (Builtin.List.listExtendWith (.ref s.heap.objs.size) (.ref z) (.ref s.heap.objs.size)) _ _ _
  have hS₁ : (s.heap.push { cls := .type "list", data := .seq ([] : List Value).toArray }).get? s.heap.objs.size = some { cls := .type "list", data := .seq ([] : List Value).toArray } := Heap.get?_push_size _ rfl
  exact Lw (A := A) (s := { s with heap := s.heap.push { cls := .type "list", data := .seq ([] : List Value).toArray } }) hh D (g.keep D fun b o _ e => Heap.get?_push_of_some _ e) hxy hn _ _ hS₁
   (R := fun r s' => ∃ h' tk acc c as, r = .ok (.ret (.ref s.heap.objs.size)) ∧ s' = { s with heap := h', toks := tk } ∧ (∀ b o, b < lo → s.heap.get? b = some o → h'.get? b = some o) ∧
   h'.get? s.heap.objs.size = some { cls := .type "list", dict := none, data := .seq acc c, slots := #[] } ∧ as.length = xs.size ∧ ZG xs ys s.heap.objs.size h' as ∧ acc.toList = as.map Value.ref)
   fun h' tk acc c as hk hS' hal hG hacc => ⟨h', tk, acc, c, as, rfl, rfl, fun b o hb e => hk b o hb (Heap.get?_push_of_some _ e), hS', hal, hG, hacc⟩
 refine codeAny_mono core fun r s' h => ?_
 obtain ⟨h', tk, acc, c, as, rfl, rfl, hk, hS', hal, hG, hacc⟩ := h
 show wpAny _ A (load s.heap.objs.size >>= _) _ _ _
 refine wpAny_bind (wpAny_load hS' ?_)
 refine wpAny_pure ?_
 show Q acc.toList _
 rw [hacc]
 exact hQ h' tk as hk hal hG
theorem Gi {Q : Value → Shared → Prop} (hh : A.handled = none) (D : Lr z TI TO i1 i2 l1 l2 lo s.heap.objs.size) (g : ZGo s.heap xs ys z TI TO i1 i2 l1 l2) (hxy : xs.size = ys.size) (hn : xs.size ≤ sizeLine)
 (hQ : ∀ h' tk as, (∀ b o, b < lo → s.heap.get? b = some o → h'.get? b = some o) → as.length = xs.size → ZG xs ys s.heap.objs.size h' as → Q (.ref h'.objs.size) { s with heap := h'.push { cls := .type "tuple", data := .seq (as.map Value.ref).toArray }, toks := tk }) :
 wpAny (model prog w) A (call (.type "tuple") [.ref z]) Q E s := by
 have hTI : s.TypeIs (.ref z) "zip" := ⟨_, g.zip, rfl⟩
 refine callType_codes (Q₁ := fun obj s₁ => s₁.TypeIs obj "tuple" ∧ Q obj s₁) F.called_tuple (F.typeCall_tuple_1 _) F.entry_object_init (codeAny_of_tree ?_) fun obj s₁ h₁ => ?_
 ·show wpAny _ A.in1.in1 (do checkBuiltinCall "tuple.__new__" ⟨[.type "tuple", .ref z], []⟩; again (.builtin "tuple.__new__" ⟨[.type "tuple", .ref z], []⟩)) _ _ s
  refine wpAny_bind (wpAny_of_eq (F.newCall_tuple_1 _) (wpAny_pure ⟨plainId_quiet F.plain_tuple_new _, codeAny_builtin F.entry_tuple_new ?_⟩))
  rw [Around.under_plainId F.plain_tuple_new _]
  have hsub := sub_tuple_self
  have hinit := init_tuple_lookup
  have hmh := madeHere_tuple
  have hh2 : A.in1.in1.handled = none := hh
  wp_walk using wpAny_typeOf hTI, Kz hh2 D g hxy hn
  intro h' tk as hk hal hG
  show wpAny _ _ (Builtin.Tuple.tupleExact (as.map Value.ref).toArray >>= fun v => ret v) _ _ _
  unfold Builtin.Tuple.tupleExact
  refine wpAny_bind (wpAny_newObj_type ?_ (by show (as.map Value.ref).toArray.size ≤ sizeLine; rw [Th, T7, hal]; exact hn))
  refine wpAny_pure ?_
  exact ⟨⟨_, Heap.get?_push_size _ rfl, rfl⟩, hQ h' tk as hk hal hG⟩
 ·exact ⟨h₁.1, F.args_object_init_2 obj _, object_init_meets F.called_tuple.init.lookup F.called_tuple.made (by decide) prog w A.in1 _ s₁ ⟨h₁.1, rfl, h₁.2⟩⟩
end
theorem DP {α β : Type} {F : α → β → Prop} : ∀ {l₁ : List α} {l₂ : List β}, l₁.length = l₂.length → (∀ (j : Nat) a b, l₁[j]? = some a → l₂[j]? = some b → F a b) → Paired F l₁ l₂
 | [], [], _, _ => .nil
 | a :: r, b :: t, hl, h => .cons (h 0 a b rfl rfl) (DP (Nat.succ.inj hl) fun j x y e1 e2 => h (j + 1) x y (by simpa using e1) (by simpa using e2))
section
variable {X : Cx}
theorem Inv.tracked {pins : List (Addr × Obj)} {σ : St} {H : Hp} {s : Shared} {a : Addr} {o : HO} (I : Inv X pins σ H s) (f : DH X pins H a) (new : BX X.prog X.w (upd H a o) s.heap a o) : Inv X pins σ (upd H a o) s := by
 have ne : ∀ b u, H b = some u → b ≠ a := fun b u e z => by rw [z, f.1] at e; cases e
 have ho := HOk.track I.hok f.1 new
 obtain ⟨hp, gg, dd, tk, os⟩ := s
 refine I.step (H' := upd H a o) (h' := hp) (g' := gg) (t' := tk) (d' := dd) (ch := [a]) ?_ ?_ ?_ ?_ ?_ ?_ ?_ ?_ ?_ ho I.bare
 ·intro b hb
  have e : b = a := by simpa using hb
  subst e
  exact ⟨f.2.2.2.1, f.2.1, f.2.2.2.2.1, f.2.2.2.2.2⟩
 ·intro b u _ _ _ e _; exact e
 ·intro b u _ _ _ e _; exact ⟨u.slots, e⟩
 ·intro b u hb _ n
  rw [Aq (fun z => hb (by simp [z]))]; exact n
 ·intro b u _ e; exact ⟨u, e⟩
 ·intro b us e
  rw [Aq (ne b _ e)]; exact e
 ·intro b u v e
  rw [Aq (ne b _ e)]; exact e
 ·intro b ps e
  exact ⟨#[], by rw [Aq (ne b _ e), e]; simp⟩
 ·intro m hm; exact hm
abbrev NR (H : Hp) (v : V) (p : V × V) : Prop := ∃ t, v = .ref t ∧ H t = some (.tup [p.1, p.2])
theorem KG {pins : List (Addr × Obj)} {σ : St} {H0 : Hp} {s0 s : Shared} (I0 : Inv X pins σ H0 s0) : ∀ (as : List Addr) (ps : List (V × V)) (H : Hp), Inv X pins σ H s → (∀ a ∈ as, s0.heap.objs.size ≤ a ∧ H a = none) → as.Nodup →
 Paired (fun a (p : V × V) => ∃ u v, AR p.1 u ∧ AR p.2 v ∧ IsPair s.heap a u v) as ps → ∃ H', Inv X pins σ H' s ∧ Af H H' ∧ (∀ b, b ∉ as → H' b = H b) ∧ Paired (NR H') (as.map V.ref) ps := by
 intro as
 induction as with
 | nil =>
   intro ps H I hn hd hp
   cases hp
   exact ⟨H, I, Af.refl _, fun _ _ => rfl, .nil⟩
 | cons a as ih =>
   intro ps H I hn hd hp
   obtain ⟨p, ps', rfl, ⟨u, v, ru, rv, hp⟩, t⟩ : ∃ p ps', ps = p :: ps' ∧ (∃ u v, AR p.1 u ∧ AR p.2 v ∧ IsPair s.heap a u v) ∧ Paired (fun a (p : V × V) => ∃ u v, AR p.1 u ∧ AR p.2 v ∧ IsPair s.heap a u v) as ps' := by
    cases hp with
    | cons h t => exact ⟨_, _, rfl, h, t⟩
   have ha := hn a Sy
   have hd' := SS.mp hd
   have new : BX X.prog X.w (upd H a (.tup [p.1, p.2])) s.heap a (.tup [p.1, p.2]) := ⟨by show 2 ≤ sizeLine; decide, [u, v], .cons ru (.cons rv .nil), ⟨_, hp, rfl, 0, rfl⟩⟩
   have I1 : Inv X pins σ (upd H a (.tup [p.1, p.2])) s := Inv.tracked I (I0.fpOk ha.1 ha.2) new
   obtain ⟨H', I', s', k', q'⟩ := ih ps' _ I1 (fun b hb => ⟨(hn b (Sz _ hb)).1, by rw [Aq (fun z : b = a => hd'.1 (z ▸ hb))]; exact (hn b (Sz _ hb)).2⟩) hd'.2 t
   refine ⟨H', I', (Af.new ha.2).trans s', fun b hb => ?_, .cons ⟨a, rfl, s' _ _ Aa⟩ q'⟩
   have hb' : b ≠ a ∧ b ∉ as := by simpa using hb
   rw [k' b hb'.2, Aq hb'.1]
def PZ (s s1 : Shared) (xs ys : Array Value) (l1 l2 : Addr) (u : Value) : Prop :=
 ∃ h', u = .ref (s.heap.objs.size + 4) ∧ s1 = { s with heap := h' } ∧ ZGo h' xs ys (s.heap.objs.size + 4) (s.heap.objs.size + 2) (s.heap.objs.size + 3) s.heap.objs.size (s.heap.objs.size + 1) l1 l2 ∧
   Lr (s.heap.objs.size + 4) (s.heap.objs.size + 2) (s.heap.objs.size + 3) s.heap.objs.size (s.heap.objs.size + 1) l1 l2 s.heap.objs.size h'.objs.size ∧ ∀ c o, s.heap.get? c = some o → h'.get? c = some o
theorem O6 {P : Program} {w : World} {A : Around} {E : Value → Shared → Prop} {s : Shared} {l1 l2 : Addr} {xs ys : Array Value} {Q : Value → Shared → Prop} (hl1 : s.heap.IsList l1 xs) (hl2 : s.heap.IsList l2 ys) (h : ∀ u s1, PZ s s1 xs ys l1 l2 u → Q u s1) :
 wpAny (model P w) A (call (.type "zip") [.ref l1, .ref l2]) Q E s := by
 have la : l1 < s.heap.objs.size := by obtain ⟨_, e, _⟩ := hl1; exact Heap.lt_size e
 have lb : l2 < s.heap.objs.size := by obtain ⟨_, e, _⟩ := hl2; exact Heap.lt_size e
 refine call_zip_2 hl1 hl2 fun h' hz hTI hTO hi1 hi2 hsz hk => h _ _ ⟨h', rfl, rfl, ⟨hz, ⟨_, _, hTO⟩, hTI, hi1, hi2, hl1.at fun o e => hk _ o e, hl2.at fun o e => hk _ o e⟩, ?_, hk⟩
 rw [hsz]
 have p : ∀ a b : Nat, a ≤ b → s.heap.objs.size + a ≤ s.heap.objs.size + b := fun a b h => Nat.add_le_add_left h _
 exact ⟨zipApart_new la lb, UH _ _, UH _ _, SK _, UH _ _, p 5 5 (SK _), p 3 5 (by decide), p 4 5 (by decide), p 1 5 (by decide), p 2 5 (by decide), Sl la (UH _ _), Sl lb (UH _ _), UH _ _⟩
theorem MZ {pins : List (Addr × Obj)} {σ : St} {H : Hp} {s s' : Shared} {xs ys : List V} {its1 its2 : List Value} {S : Addr} {as : List Addr} (I : Inv X pins σ H s) (hk : ∀ b o, s.heap.get? b = some o → s'.heap.get? b = some o) (hos : ∃ h' tk, s' = { s with heap := h', toks := tk }) (hS : s.heap.objs.size ≤ S)
 (r1 : AG xs its1) (r2 : AG ys its2) (hal : as.length = xs.length) (hxy : xs.length = ys.length) (hG : ZG its1.toArray its2.toArray S s'.heap as) : ∃ H', Inv X pins σ H' s' ∧ Af H H' ∧ (∀ b, b ∉ as → H' b = H b) ∧ Paired (NR H') (as.map V.ref) (xs.zip ys) := by
 obtain ⟨h', tk, rfl⟩ := hos
 have I' : Inv X pins σ H { s with heap := h', toks := tk } := I.kept (t' := tk) hk
 refine KG I as (xs.zip ys) H I' (fun a ha => ?_) (hG.rise.imp fun h => Sn h) ?_
 ·have hle := Sv hS (Sw (hG.above a ha))
  exact ⟨hle, I.hok.fresh hle⟩
 ·refine DP (by rw [Vf]; lia) fun j a p hj hp => ?_
  obtain ⟨x, y, e1, e2, e3⟩ := hG.pairs j a hj
  obtain ⟨hjx, hjy⟩ := Vh.mp hp
  obtain ⟨u1, q1, q2⟩ := r1.get hjx
  obtain ⟨u2, q3, q4⟩ := r2.get hjy
  rw [List.getElem?_toArray] at e1 e2
  rw [e1] at q1; cases q1
  rw [e2] at q3; cases q3
  exact ⟨x, y, q2, q4, e3⟩
def tTZ (K : Su) (ta : TA) : TE := fun σ H Q => ta σ H fun vs H1 => ∃ a b xs ys, vs = [.ref a, .ref b] ∧ SqL K H1 a xs ∧ SqL K H1 b ys ∧ xs.length = ys.length ∧
 ∀ l us H', Af H1 H' → H1 l = none → H' l = some (.tup us) → Paired (NR H') us (xs.zip ys) → Q (.ref l) H'
theorem KP (K : Su) (hcalm : X.calm = true) {e1 e2 : Expr} {ta : TA} {p p2 pos pos2 : Pos} (hgl : Gl X "tuple") (hml : X.mg "tuple" = none) (hg : Gl X "zip") (hm : X.mg "zip" = none) (ha : PA X [e1, e2] ta)
 (hs : starEach [e1, e2] X.env = [(false, eval e1 X.env), (false, eval e2 X.env)] := by rfl) (hs2 : starEach [e2] X.env = [(false, eval e2 X.env)] := by rfl)
 (hs0 : starEach [.Call (.Name "zip" p) [e1, e2] [] pos] X.env = [(false, eval (.Call (.Name "zip" p) [e1, e2] [] pos) X.env)] := by rfl) (e : X.K = K := by rfl) :
 PE X (.Call (.Name "tuple" p2) [.Call (.Name "zip" p) [e1, e2] [] pos] [] pos2) (tTZ K ta) := by
 subst e
 intro pins s σ H Q I h
 refine Call_ (Di I hgl hml Je (PyProof.Rows.callWith_type1 ?_ hs0 rfl))
 rw [hs0]
 refine Calls.spliced_cons (Q := _) ?_
 refine Call_ (Di I hg hm MK (PyProof.Rows.callWith_type1 (thn (ha pos pins s σ H _ I h) fun us s1 ⟨vs, H1, I1, r1, q1⟩ => ?_) (by rw [hs, hs2]) (by rw [hs2]; rfl)))
 obtain ⟨a, b, xs, ys, e, hq1, hq2, hxy, q⟩ := q1
 subst e
 obtain ⟨u, u', rfl, ra, rb⟩ := Pe r1
 cases ra
 cases rb
 obtain ⟨its1, rv1, p1, z1⟩ := I1.list hq1
 obtain ⟨its2, rv2, p2, _⟩ := I1.list hq2
 have n1 := rv1.length
 have n2 := rv2.length
 refine O6 p1.isList p2.isList fun u s2 hM => ?_
 obtain ⟨h', rfl, rfl, g, D, hk⟩ := hM
 refine Calls.spliced_nil ?_
 refine Gi (s := { s1 with heap := h' }) (I1.ok.hd hcalm) D g (by simp; lia) (by simp; lia) fun h2 tk as hk2 hal hG => ?_
 have hkk : ∀ b o, s1.heap.get? b = some o → h2.get? b = some o := fun b o e => hk2 b o (Heap.lt_size e) (hk b o e)
 obtain ⟨H', I', sm, ko, hp⟩ := MZ (s' := { s1 with heap := h2, toks := tk }) I1 hkk ⟨h2, tk, rfl⟩ D.lS rv1 rv2 (by rw [hal]; simp; lia) hxy hG
 have hno' : H' h2.objs.size = none := I'.hok.fresh (SK _)
 have hno : H1 h2.objs.size = none := by
  cases z : H1 h2.objs.size with
  | none => rfl
  | some o => rw [sm _ _ z] at hno'; cases hno'
 have hvs : AG (as.map V.ref) (as.map Value.ref) := DP (by simp) fun j v u hv hu => by
  rw [T3] at hv hu
  cases z : as[j]? with
  | none => rw [z] at hv; cases hv
  | some t => rw [z] at hv hu; cases hv; cases hu; exact rfl
 have new : BX X.prog X.w (upd H' h2.objs.size (.tup (as.map V.ref))) (h2.push { cls := .type "tuple", data := .seq (as.map Value.ref).toArray }) h2.objs.size (.tup (as.map V.ref)) := ⟨by rw [T7, hal]; simp; lia, as.map Value.ref, hvs, IsTup.new _ _⟩
 exact ⟨.ref h2.objs.size, _, I'.laid (t' := tk) (fun b o e => Heap.get?_push_of_some _ e) (SK _) new, rfl, q _ _ _ (sm.trans (Af.new hno')) hno Aa (Paired.mapP hp fun v p ⟨t, e, z⟩ => ⟨t, e, by rw [Aq (Aw z hno')]; exact z⟩)⟩
end
end L2
namespace Pf
set_option maxHeartbeats 4000000
open PySem L2
def top (i : Nat) : Stmt := PySem.Challenge.pw_onecurve_k55_whole_quotients_turned_over.main.body.getD i (.Pass ⟨0, 0, 0, 0⟩)
theorem NN {a1 : Type} {p : a1 → Prop} {G : Prop} (h : ∃ x1, p x1) (f : ∀ x1, p x1 → G) : G := Exists.elim h f
theorem Cs {a1 a2 : Type} {p : a1 → a2 → Prop} {G : Prop} (h : ∃ x1 x2, p x1 x2) (f : ∀ x1 x2, p x1 x2 → G) : G := Exists.elim h fun x1 h => NN h (f x1)
theorem GA {a1 a2 a3 : Type} {p : a1 → a2 → a3 → Prop} {G : Prop} (h : ∃ x1 x2 x3, p x1 x2 x3) (f : ∀ x1 x2 x3, p x1 x2 x3 → G) : G := Exists.elim h fun x1 h => Cs h (f x1)
theorem Ie {a1 a2 a3 a4 : Type} {p : a1 → a2 → a3 → a4 → Prop} {G : Prop} (h : ∃ x1 x2 x3 x4, p x1 x2 x3 x4) (f : ∀ x1 x2 x3 x4, p x1 x2 x3 x4 → G) : G := Exists.elim h fun x1 h => GA h (f x1)
theorem Qk {a1 a2 a3 a4 a5 : Type} {p : a1 → a2 → a3 → a4 → a5 → Prop} {G : Prop} (h : ∃ x1 x2 x3 x4 x5, p x1 x2 x3 x4 x5) (f : ∀ x1 x2 x3 x4 x5, p x1 x2 x3 x4 x5 → G) : G := Exists.elim h fun x1 h => Ie h (f x1)
theorem Qj {a1 a2 a3 a4 a5 a6 : Type} {p : a1 → a2 → a3 → a4 → a5 → a6 → Prop} {G : Prop} (h : ∃ x1 x2 x3 x4 x5 x6, p x1 x2 x3 x4 x5 x6) (f : ∀ x1 x2 x3 x4 x5 x6, p x1 x2 x3 x4 x5 x6 → G) : G := Exists.elim h fun x1 h => Qk h (f x1)
theorem OZ {a1 a2 a3 a4 a5 a6 a7 : Type} {p : a1 → a2 → a3 → a4 → a5 → a6 → a7 → Prop} {G : Prop} (h : ∃ x1 x2 x3 x4 x5 x6 x7, p x1 x2 x3 x4 x5 x6 x7) (f : ∀ x1 x2 x3 x4 x5 x6 x7, p x1 x2 x3 x4 x5 x6 x7 → G) : G := Exists.elim h fun x1 h => Qj h (f x1)
theorem Qi {a1 a2 a3 a4 a5 a6 a7 a8 : Type} {p : a1 → a2 → a3 → a4 → a5 → a6 → a7 → a8 → Prop} {G : Prop} (h : ∃ x1 x2 x3 x4 x5 x6 x7 x8, p x1 x2 x3 x4 x5 x6 x7 x8) (f : ∀ x1 x2 x3 x4 x5 x6 x7 x8, p x1 x2 x3 x4 x5 x6 x7 x8 → G) : G := Exists.elim h fun x1 h => OZ h (f x1)
theorem NM {a1 a2 a3 a4 a5 a6 a7 a8 a9 : Type} {p : a1 → a2 → a3 → a4 → a5 → a6 → a7 → a8 → a9 → Prop} {G : Prop} (h : ∃ x1 x2 x3 x4 x5 x6 x7 x8 x9, p x1 x2 x3 x4 x5 x6 x7 x8 x9) (f : ∀ x1 x2 x3 x4 x5 x6 x7 x8 x9, p x1 x2 x3 x4 x5 x6 x7 x8 x9 → G) : G := Exists.elim h fun x1 h => Qi h (f x1)
theorem BB {A1 A2 G : Prop} (h : A1 ∧ A2) (f : A1 → A2 → G) : G := f h.1 h.2
theorem Dm {A1 A2 A3 G : Prop} (h : A1 ∧ A2 ∧ A3) (f : A1 → A2 → A3 → G) : G := BB h.2 (f h.1)
theorem GD {A1 A2 A3 A4 G : Prop} (h : A1 ∧ A2 ∧ A3 ∧ A4) (f : A1 → A2 → A3 → A4 → G) : G := Dm h.2 (f h.1)
theorem DG {A1 A2 A3 A4 A5 G : Prop} (h : A1 ∧ A2 ∧ A3 ∧ A4 ∧ A5) (f : A1 → A2 → A3 → A4 → A5 → G) : G := GD h.2 (f h.1)
theorem MR {A1 A2 A3 A4 A5 A6 G : Prop} (h : A1 ∧ A2 ∧ A3 ∧ A4 ∧ A5 ∧ A6) (f : A1 → A2 → A3 → A4 → A5 → A6 → G) : G := DG h.2 (f h.1)
theorem MQ {A1 A2 A3 A4 A5 A6 A7 G : Prop} (h : A1 ∧ A2 ∧ A3 ∧ A4 ∧ A5 ∧ A6 ∧ A7) (f : A1 → A2 → A3 → A4 → A5 → A6 → A7 → G) : G := MR h.2 (f h.1)
theorem Qm {A1 A2 A3 A4 A5 A6 A7 A8 G : Prop} (h : A1 ∧ A2 ∧ A3 ∧ A4 ∧ A5 ∧ A6 ∧ A7 ∧ A8) (f : A1 → A2 → A3 → A4 → A5 → A6 → A7 → A8 → G) : G := MQ h.2 (f h.1)
theorem Ql {A1 A2 A3 A4 A5 A6 A7 A8 A9 G : Prop} (h : A1 ∧ A2 ∧ A3 ∧ A4 ∧ A5 ∧ A6 ∧ A7 ∧ A8 ∧ A9) (f : A1 → A2 → A3 → A4 → A5 → A6 → A7 → A8 → A9 → G) : G := Qm h.2 (f h.1)
theorem O4 {A1 A2 A3 A4 A5 A6 A7 A8 A9 A10 G : Prop} (h : A1 ∧ A2 ∧ A3 ∧ A4 ∧ A5 ∧ A6 ∧ A7 ∧ A8 ∧ A9 ∧ A10) (f : A1 → A2 → A3 → A4 → A5 → A6 → A7 → A8 → A9 → A10 → G) : G := Ql h.2 (f h.1)
def Ar (B : Int) (q : Rat) : Int := q.num * B.fdiv q.den
theorem CP {B : Int} {q : Rat} (h : (q.den : Int) ∣ B) : ((Ar B q : Int) : Rat) = q * (B : Rat) := by
 obtain ⟨k, rfl⟩ := h
 have e : (((q.den : Int) * k).fdiv (q.den : Int)) = k := Tu _ (Nm.den_ne q)
 unfold Ar
 rw [e, TJ, TJ, Nm.num_mul q]
 grind
theorem DI {B : Int} {qs : List Rat} (h : ∀ q ∈ qs, (q.den : Int) ∣ B) (x : Rat) : Cv.ev ((qs.map (Ar B)).map fun t : Int => (t : Rat)) x = Cv.ev qs x * (B : Rat) := by
 rw [← Cv.ev_scale, Vi]
 congr 1
 exact Vj fun q hq => CP (h q hq)
inductive ES (K : Su) (vs : List V) (H : Hp) (Q : VK) (E_3 : XK) : Prop
 | mk (b : Bool) (r : Addr) (xs : List V) (qs : List Rat) (n : Nat) (h1 : vs = [.ref r]) (h2 : Sq b K H r xs) (h3 : Au K H xs qs) (h4 : (∀ q ∈ qs, Bd n (q.den : Int))) (h5 : n * (qs.length + 2) ≤ 60000000) (h6 : ∀ B : Int, 0 < B → (∀ q ∈ qs, (q.den : Int) ∣ B) → Bd (n * qs.length + 1) B → Q (.int B) H) : ES K vs H Q E_3
inductive DY (K : Su) (vs : List V) (H : Hp) (Q : VK) (E_3 : XK) : Prop
 | mk (b : Bool) (r : Addr) (xs : List V) (qs : List Rat) (B : Int) (m n : Nat) (h1 : vs = [.ref r, .int B]) (h2 : Sq b K H r xs) (h3 : Au K H xs qs) (h4 : Bd m B) (h5 : (∀ q ∈ qs, Bd n q.num)) (h6 : m + n ≤ 134217728) (h7 : qs.length ≤ 1000) (h8 : ∀ p, H p = none → Q (.ref p) (upd H p (.lst ((qs.map (Ar B)).map V.int)))) : DY K vs H Q E_3
inductive DK (K : Su) (vs : List V) (H : Hp) (Q : VK) (E_3 : XK) : Prop
 | mk (r : Addr) (xs : List V) (qs : List Rat) (h1 : vs = [.ref r]) (h2 : SqL K H r xs) (h3 : Au K H xs qs) (h4 : qs.length ≤ 1000) (h5 : ∀ p H', Af H H' → Crv K H' p (Cv.strip qs) → Q (.ref p) H') : DK K vs H Q E_3
inductive N9 (K : Su) (vs : List V) (H : Hp) (Q : VK) (E_3 : XK) : Prop
 | mk (l rx : Addr) (ts : List Int) (x : Rat) (m n : Nat) (h1 : vs = [.ref l, .ref rx]) (h2 : SqL K H l (ts.map V.int)) (h3 : Az K H (.ref rx) x) (h4 : (∀ t ∈ ts, Bd m t)) (h5 : RB n x) (h6 : m + (n + 1) * (ts.length + 4) ≤ 100000000) (h7 : ∀ (h s : Int) (p : Addr), s = (x.den : Int) ^ ts.length → s ≠ 0 → (h : Rat) = Cv.evI ts x * (s : Rat) → Bd (m + (n + 1) * (ts.length + 2)) h → Bd (n * ts.length + 1) s → H p = none → Q (.ref p) (upd H p (.tup [.int h, .int s]))) : N9 K vs H Q E_3
theorem Mq {b d : Int} (hb : 0 < b) (hd : 0 < d) : 0 < b * d.fdiv (Tt b d : Int) ∧ b ∣ b * d.fdiv (Tt b d : Int) ∧ d ∣ b * d.fdiv (Tt b d : Int) := by
 have g0 : (0 : Int) < (Tt b d : Int) := by have := Nm.gcd_pos (a := b) (b := d) (by lia); lia
 obtain ⟨k, hk⟩ : (Tt b d : Int) ∣ d := Tz ..
 obtain ⟨j, hj⟩ : (Tt b d : Int) ∣ b := Tw ..
 generalize (Tt b d : Int) = g at *
 subst hk
 subst hj
 have e : (g * k).fdiv g = k := Tu _ (by lia)
 rw [e]
 have hk0 : 0 < k := by
  rcases Int.lt_trichotomy k 0 with z | z | z
  ·have : g * k < 0 := Int.mul_neg_of_pos_of_neg g0 z
   lia
  ·rw [z, Vk] at hd; lia
  ·exact z
 exact ⟨Int.mul_pos hb hk0, ⟨k, rfl⟩, ⟨j, by grind⟩⟩
inductive Fs (K : Su) (vs : List V) (H : Hp) (Q : VK) (E_3 : XK) : Prop
 | mk (f g : Addr) (fs gs : List Int) (m n : Nat) (h1 : vs = [.ref f, .ref g]) (h2 : SqL K H f (fs.map V.int)) (h3 : SqL K H g (gs.map V.int)) (h4 : 1 ≤ gs.length) (h5 : fs.length ≤ 1000) (h6 : gs.length ≤ 1000) (h7 : (∀ t ∈ fs, Bd m t)) (h8 : (∀ t ∈ gs, Bd n t)) (h9 : m + n ≤ 60000000) (h10 : ∀ (p : Addr) (H' : Hp) (ps : List Int), Af H H' → H p = none → H' p = some (.lst (ps.map V.int)) → ps.length = fs.length + gs.length - 1 → (∀ x, Cv.evI ps x = Cv.evI fs x * Cv.evI gs x) → (∀ t ∈ ps, Bd (m + n + 20) t) → Q (.ref p) H') : Fs K vs H Q E_3
inductive BH (K : Su) (vs : List V) (H : Hp) (Q : VK) (E_3 : XK) : Prop
 | mk (l : Addr) (ts : List Int) (b : Int) (h1 : vs = [.ref l, .int b]) (h2 : SqL K H l (ts.map V.int)) (h3 : b ≠ 0) (h4 : ts.length ≤ 1000) (h5 : ∀ p H', Af H H' → Crv K H' p (Cv.strip (ts.map fun t => Tv t b)) → Q (.ref p) H') : BH K vs H Q E_3
inductive Jx (K : Su) (vs : List V) (H : Hp) (Q : VK) (E_3 : XK) : Prop
 | mk (r ra rb : Addr) (qs : List Rat) (a b : Rat) (n : Nat) (h1 : vs = [.ref r, .ref ra, .ref rb]) (h2 : Crv K H r qs) (h3 : Az K H (.ref ra) a) (h4 : Az K H (.ref rb) b) (h5 : (∀ q ∈ qs, RB n q)) (h6 : RB n a) (h7 : RB n b) (h8 : n ≤ 240000) (h9 : qs.length ≤ 6) (h10 : ∀ p H' rs, Af H H' → Crv K H' p rs → rs.length ≤ qs.length → Bi rs → (∀ q ∈ rs, RB (4 * (n * qs.length) + 23 * qs.length + 5 * n + 12) q) → (∀ x, Cv.ev rs x = Cv.ev qs (a * x + b)) → Q (.ref p) H') : Jx K vs H Q E_3
def BM : List Rat → List Rat → Rat → Rat
 | k :: ks, s :: ss, x => s + (x - k) * BM ks ss x
 | _, _, _ => 0
inductive DL (K : Su) (vs : List V) (H : Hp) (Q : VK) (E_3 : XK) : Prop
 | mk (rk rst : Addr) (xs ys : List V) (ks ss : List Rat) (n : Nat) (h1 : vs = [.ref rk, .ref rst]) (h2 : SqL K H rk xs) (h3 : Au K H xs ks) (h4 : SqL K H rst ys) (h5 : Au K H ys ss) (h6 : ks.length = ss.length) (h7 : ks.length ≤ 12) (h8 : (∀ q ∈ ks, RB n q)) (h9 : (∀ q ∈ ss, RB n q)) (h10 : n ≤ 2048000) (h11 : ∀ p H' cs, Af H H' → Crv K H' p cs → cs.length ≤ ks.length → Bi cs → (∀ q ∈ cs, RB (2 * (n * ks.length) + 21 * ks.length + 2 * n + 30) q) → (∀ x, Cv.ev cs x = BM ks ss x) → Q (.ref p) H') : DL K vs H Q E_3
theorem MC (c x : Rat) : Cv.evI [-c.num, (c.den : Int)] x = (x - c) * ((c.den : Int) : Rat) := by
 show ((-c.num : Int) : Rat) + x * (((c.den : Int) : Rat) + x * 0) = _
 rw [Rat.intCast_neg, Nm.num_mul c]
 grind
theorem Ka (p q : Rat) (hq : q ≠ 0) : Tv (p.num * q.den) (p.den * q.num) = p / q := by
 have hn : q.num ≠ 0 := fun z => hq (Vl.mp z)
 apply Nm.div_eq (TH (Nm.den_ne p) hn)
 rw [TJ, TJ, Nm.num_mul p, Nm.num_mul q]
 have e : p / q * q = p := TF hq
 have h : p / q * (((p.den : Int) : Rat) * (q * ((q.den : Int) : Rat))) = (p / q * q) * (((p.den : Int) : Rat) * ((q.den : Int) : Rat)) := by grind
 rw [h, e]
 grind
inductive Hn (K : Su) (vs : List V) (H : Hp) (Q : VK) (E_3 : XK) : Prop
 | mk (x y : V) (p q : Rat) (m n : Nat) (h1 : vs = [x, y]) (h2 : Az K H x p) (h3 : Az K H y q) (h4 : q ≠ 0) (h5 : RB m p) (h6 : RB n q) (h7 : m + n ≤ 100000000) (h8 : ∀ r, H r = none → Q (.ref r) (upd H r (nT (p / q)))) : Hn K vs H Q E_3
theorem RB.over {m n : Nat} {p q : Rat} (h1 : RB m p) (h2 : RB n q) (hq : q ≠ 0) : RB (m + n) (p / q) := by
 have hn : q.num ≠ 0 := fun z => hq (Vl.mp z)
 rw [← Ka p q hq]
 exact ⟨Bd.num (h1.1.mul h2.2), Bd.den (TH (Nm.den_ne p) hn) (h1.2.mul h2.1)⟩
theorem CJ {α β : Type} {F : α → β → Prop} : ∀ {l₁ : List α} {l₂ : List β} (i : Nat), Paired F l₁ l₂ → Paired F (l₁.drop i) (l₂.drop i)
 | _, _, i, .nil => by rw [List.drop_nil, List.drop_nil]; exact .nil
 | _, _, 0, .cons h t => .cons h t
 | _, _, i + 1, .cons _ t => CJ i t
def BS (ps : List Rat) : List Gj := (So (ps.length - 1)).map fun k : Nat => (⟨ps.getD 0 0, (k : Int), ps.getD (k + 1) 0⟩ : Gj)
def Bb (pss : List (List Rat)) : List Gj := (pss.map BS).flatten
theorem Bl (ps : List Rat) : (BS ps).length = ps.length - 1 := by unfold BS; rw [T7, UL]
theorem KH (pss : List (List Rat)) (ps : List Rat) : Bb (pss ++ [ps]) = Bb pss ++ BS ps := by
 unfold Bb
 rw [TY, List.flatten_append]
 simp
theorem C3 : ∀ pss : List (List Rat), (∀ ps ∈ pss, ps.length ≤ 3) → (Bb pss).length ≤ 2 * pss.length
 | [], _ => SK _
 | p :: r, h => by
   have ih := C3 r fun ps hp => h ps (Sz _ hp)
   have hp := h p Sy
   have e : Bb (p :: r) = BS p ++ Bb r := rfl
   rw [e, T6, Bl, TR]
   lia
def P23 (pss : List (List Rat)) : Prop := ∀ ps ∈ pss, ps.length = 2 ∨ ps.length = 3
theorem P23.take {pss : List (List Rat)} (h : P23 pss) (i : Nat) : ∀ ps ∈ pss.take i, ps.length ≤ 3 := fun ps hp => by
 have := h ps (Vm hp); lia
theorem Bw {l : List Rat} {i : Nat} (h : i < l.length) : l[i]? = some (l.getD i 0) := by rw [U6, Uc h]; rfl
def cnt (x : Rat) : List Rat → Nat
 | [] => 0
 | y :: r => (if x ≤ y then 1 else 0) + cnt x r
theorem MI (x : Rat) : ∀ l, cnt x l ≤ l.length
 | [] => SK _
 | y :: r => by
   have := MI x r
   show (if x ≤ y then 1 else 0) + cnt x r ≤ r.length + 1
   split <;> lia
theorem LW (x : Rat) : x ≤ x + 1 := by grind
theorem Ol (x : Rat) : ¬ x + 1 ≤ x := by grind
theorem Jc (x : Rat) : ∀ l, cnt (x + 1) l ≤ cnt x l
 | [] => SK _
 | y :: r => by
   have := Jc x r
   show (if x + 1 ≤ y then 1 else 0) + cnt (x + 1) r ≤ (if x ≤ y then 1 else 0) + cnt x r
   by_cases h : x + 1 ≤ y
   ·rw [if_pos h, if_pos (Vn (LW x) h)]; lia
   ·rw [if_neg h]; lia
theorem JY {x : Rat} : ∀ {l}, x ∈ l → cnt (x + 1) l < cnt x l
 | y :: r, h => by
   show (if x + 1 ≤ y then 1 else 0) + cnt (x + 1) r < (if x ≤ y then 1 else 0) + cnt x r
   rcases SA.mp h with z | z
   ·subst z
    have := Jc x r
    rw [if_neg (Ol x), if_pos Rat.le_refl]; lia
   ·have := JY z
    by_cases h : x + 1 ≤ y
    ·rw [if_pos h, if_pos (Vn (LW x) h)]; lia
    ·rw [if_neg h]; lia
theorem Oj {j : Nat} (h : j ≤ 100) : RB 7 ((j : Nat) : Rat) := ⟨by rw [Rat.num_natCast]; unfold Bd; lia, by rw [Rat.den_natCast]; unfold Bd; decide⟩
inductive Ey (K : Su) (n : Nat) (vs : List V) (H : Hp) (Q : VK) (E_3 : XK) : Prop
 | mk (a : Addr) (m : Int) (h1 : vs = [.ref a, .int m]) (h2 : Pen H a) (h3 : 0 ≤ m) (h4 : m ≤ 100) (h5 : ∀ (l : Addr) (H' : Hp) (zs : List V) (qs : List Rat), Mv a H H' → Pen H' a → H l = none → H' l = some (.lst zs) → AM H' zs qs → (qs.length : Int) = m → qs.Nodup → (∀ q ∈ qs, RB (n + 8) q) → Q (.ref l) H') : Ey K n vs H Q E_3
inductive Hj (K : Su) (vs : List V) (H : Hp) (Q : VK) (E_3 : XK) : Prop
 | mk (r : Addr) (xs : List V) (pss : List (List Rat)) (h1 : vs = [.ref r]) (h2 : SqT K H r xs) (h3 : Et K H xs pss) (h4 : P23 pss) (h5 : pss.length ≤ 100) (h6 : ∀ (p : Addr) (H' : Hp) (ys : List V), Af H H' → H p = none → H' p = some (.lst ys) → Gk K H' ys (Bb pss) → Q (.ref p) H') : Hj K vs H Q E_3
inductive E8 (K : Su) (vs : List V) (H : Hp) (Q : VK) (E_3 : XK) : Prop
 | mk (r : Addr) (xs : List V) (pss : List (List Rat)) (h1 : vs = [.ref r]) (h2 : SqT K H r xs) (h3 : Et K H xs pss) (h4 : P23 pss) (h5 : pss.length ≤ 100) (h6 : ∀ (p : Addr) (H' : Hp) (ys : List V), Af H H' → H p = none → H' p = some (.lst ys) → AM H' ys ((Bb pss).map Gj.x) → Q (.ref p) H') : E8 K vs H Q E_3
def P2 (pss : List (List Rat)) : Prop := ∀ ps ∈ pss, ps.length = 2
theorem P2.p23 {pss : List (List Rat)} (h : P2 pss) : P23 pss := fun ps hp => .inl (h ps hp)
inductive Ew (K : Su) (vs : List V) (H : Hp) (Q : VK) (E_3 : XK) : Prop
 | mk (r : Addr) (xs : List V) (pss : List (List Rat)) (h1 : vs = [.ref r]) (h2 : SqT K H r xs) (h3 : Et K H xs pss) (h4 : P2 pss) (h5 : pss.length ≤ 100) (h6 : ∀ (d : Addr) (H' : Hp), Af H H' → Q (.ref d) H') : Ew K vs H Q E_3
def CU (pss : List (List Rat)) : List Rat := (pss.map fun ps => SV (ps.length - 1) (ps.getD 1 0)).flatten
theorem KL (pss : List (List Rat)) (ps : List Rat) : CU (pss ++ [ps]) = CU pss ++ SV (ps.length - 1) (ps.getD 1 0) := by
 unfold CU
 rw [TY, List.flatten_append]
 simp
theorem Dv : ∀ pss, (CU pss).length = (Bb pss).length
 | [] => rfl
 | p :: r => by
   have e : Bb (p :: r) = BS p ++ Bb r := rfl
   have e2 : CU (p :: r) = SV (p.length - 1) (p.getD 1 0) ++ CU r := rfl
   rw [e, e2, T6, T6, T8, Bl, Dv r]
inductive Ju (K : Su) (vs : List V) (H : Hp) (Q : VK) (E_3 : XK) : Prop
 | mk (r : Addr) (xs : List V) (pss : List (List Rat)) (h1 : vs = [.ref r]) (h2 : SqT K H r xs) (h3 : Et K H xs pss) (h4 : P23 pss) (h5 : pss.length ≤ 100) (h6 : ∀ (p : Addr) (H' : Hp) (ys : List V), Af H H' → H p = none → H' p = some (.lst ys) → Au K H' ys (CU pss) → Q (.ref p) H') : Ju K vs H Q E_3
def kn (pss : List (List Rat)) : List Rat := (Bb pss).map Gj.x
theorem BC (pss : List (List Rat)) : (kn pss).length = (Bb pss).length := T7 _
def Nc (pss : List (List Rat)) (x : Rat) : Rat :=
 match pss.find? (fun ps => decide (ps.length = 3) && decide (ps.getD 0 0 = x)) with
 | some ps => ps.getD 2 0
 | none => 0
def CY (A kn : List Rat) (sl : Rat → Rat) (k : Nat) : List Rat :=
 (So (kn.length - k)).map fun j => if kn.getD (j + k) 0 = kn.getD j 0 then sl (kn.getD j 0) else (A.getD (j + 1) 0 - A.getD j 0) / (kn.getD (j + k) 0 - kn.getD j 0)
theorem Dg (A kn : List Rat) (sl : Rat → Rat) (k : Nat) : (CY A kn sl k).length = kn.length - k := by unfold CY; rw [T7, UL]
theorem FU {A kn : List Rat} {sl : Rat → Rat} {k j : Nat} (h : j < kn.length - k) : (CY A kn sl k).getD j 0 = if kn.getD (j + k) 0 = kn.getD j 0 then sl (kn.getD j 0) else (A.getD (j + 1) 0 - A.getD j 0) / (kn.getD (j + k) 0 - kn.getD j 0) := by
 unfold CY
 rw [U6, T3, UP h]; rfl
theorem BA {l : List Rat} {i : Nat} (h : i < l.length) : l.getD i 0 ∈ l := T5 (Bw h)
theorem Mi {A kn : List Rat} {sl : Rat → Rat} {k m n : Nat} (hA : ∀ q ∈ A, RB m q) (hk : ∀ q ∈ kn, RB n q) (hs : ∀ x, RB (2 * m + 2 * n + 2) (sl x)) (h1 : 1 ≤ k) (hl : A.length + k = kn.length + 1) : ∀ q ∈ CY A kn sl k, RB (2 * m + 2 * n + 2) q := fun q hq => by
 unfold CY at hq
 obtain ⟨j, hj, rfl⟩ := UA.mp hq
 have hj := Ss.mp hj
 split
 ·exact hs _
 ·next hne =>
  have a1 := hA _ (BA (l := A) (i := j + 1) (by lia))
  have a0 := hA _ (BA (l := A) (i := j) (by lia))
  have k1 := hk _ (BA (l := kn) (i := j + k) (by lia))
  have k0 := hk _ (BA (l := kn) (i := j) (by lia))
  exact (RB.over (a1.minus a0) (k1.minus k0) (fun z => hne (by grind))).mono (by lia)
def tab (pss : List (List Rat)) : Nat → List Rat
 | 0 => CU pss
 | k + 1 => CY (tab pss k) (kn pss) (Nc pss) (k + 1)
theorem D6 (pss : List (List Rat)) : ∀ k, k ≤ (Bb pss).length → (tab pss k).length = (Bb pss).length - k
 | 0, _ => Dv pss
 | k + 1, _ => by rw [tab, Dg, BC]
def bnd (h n : Nat) : Nat → Nat
 | 0 => h
 | k + 1 => 2 * bnd h n k + 2 * n + 2
theorem MO (h n : Nat) : ∀ k, bnd h n k + (2 * n + 2) = 2 ^ k * (h + 2 * n + 2)
 | 0 => by show h + (2 * n + 2) = 1 * _; lia
 | k + 1 => by
   have := MO h n k
   rw [Nat.pow_succ, Nat.mul_comm (2 ^ k) 2, Nat.mul_assoc, ← this]
   show 2 * bnd h n k + 2 * n + 2 + _ = _
   lia
theorem ML {h n k m c : Nat} (hn : h + 2 * n + 2 ≤ c) (hk : k ≤ m) : bnd h n k ≤ 2 ^ m * c := by
 have h1 := MO h n k
 have h2 : 2 ^ k ≤ 2 ^ m := Ue (by decide) hk
 have h3 : 2 ^ k * (h + 2 * n + 2) ≤ 2 ^ m * c := Vo h2 hn
 lia
theorem JZ (h n : Nat) : ∀ k, h ≤ bnd h n k
 | 0 => SK _
 | k + 1 => by have := JZ h n k; show h ≤ 2 * bnd h n k + 2 * n + 2; lia
theorem MM (h n k : Nat) : bnd h n k ≤ bnd h n (k + 1) := by show _ ≤ 2 * bnd h n k + 2 * n + 2; lia
theorem MN (h n : Nat) {j k : Nat} (hjk : j ≤ k) : bnd h n j ≤ bnd h n k := by
 induction hjk with
 | refl => exact SK _
 | step _ ih => exact Sv ih (MM h n _)
theorem N5 {ps : List Rat} : ∀ t ∈ BS ps, t.x = ps.getD 0 0 := fun t ht => by
 unfold BS at ht
 obtain ⟨k, _, rfl⟩ := UA.mp ht
 rfl
theorem Ib (p : List Rat) (r : List (List Rat)) : kn (p :: r) = SV (p.length - 1) (p.getD 0 0) ++ kn r := by
 have e : Bb (p :: r) = BS p ++ Bb r := rfl
 unfold kn
 rw [e, TY]
 congr 1
 refine List.eq_replicate_iff.mpr ⟨by rw [T7, Bl], fun x hx => ?_⟩
 obtain ⟨t, ht, rfl⟩ := UA.mp hx
 exact N5 t ht
theorem JS : ∀ {pss : List (List Rat)} {x : Rat}, x ∈ kn pss → ∃ ps ∈ pss, ps.getD 0 0 = x
 | p :: r, x, h => by
   rw [Ib] at h
   rcases SD.mp h with z | z
   ·exact ⟨p, Sy, (Vp.mp z).2.symm⟩
   ·obtain ⟨ps, h1, h2⟩ := JS z
    exact ⟨ps, Sz _ h1, h2⟩
theorem Ms {pss : List (List Rat)} {n : Nat} (hbk : ∀ ps ∈ pss, RB n (ps.getD 0 0)) : ∀ x ∈ kn pss, RB n x := fun x hx => by
 obtain ⟨ps, h1, rfl⟩ := JS hx
 exact hbk ps h1
theorem Nh {pss : List (List Rat)} {n : Nat} (h23 : P23 pss) (hb : ∀ ps ∈ pss, ∀ q ∈ ps, RB n q) : ∀ x ∈ CU pss, RB n x := fun x hx => by
 unfold CU at hx
 obtain ⟨l, hl, hx⟩ := List.mem_flatten.mp hx
 obtain ⟨ps, h1, rfl⟩ := UA.mp hl
 rw [(Vp.mp hx).2]
 exact hb ps h1 _ (BA (by have := h23 ps h1; lia))
theorem Nb {pss : List (List Rat)} {n : Nat} (h1 : 1 ≤ n) (hb : ∀ ps ∈ pss, ∀ q ∈ ps, RB n q) (x : Rat) : RB n (Nc pss x) := by
 unfold Nc
 split
 ·next ps h =>
  have h2 := List.mem_of_find?_eq_some h
  have h3 := List.find?_some h
  rw [Bool.and_eq_true, decide_eq_true_eq, decide_eq_true_eq] at h3
  exact hb ps h2 _ (BA (by lia))
 ·exact RB.zero h1
theorem Jp {pss : List (List Rat)} {h n : Nat} (h23 : P23 pss) (hn : 1 ≤ h) (hb : ∀ ps ∈ pss, ∀ q ∈ ps, RB h q) (hbk : ∀ ps ∈ pss, RB n (ps.getD 0 0)) : ∀ k, k ≤ (Bb pss).length → ∀ q ∈ tab pss k, RB (bnd h n k) q
 | 0, _ => Nh h23 hb
 | k + 1, hk => by
   rw [tab]
   exact Mi (Jp h23 hn hb hbk k (by lia)) (Ms hbk) (fun x => (Nb hn hb x).mono (Sv (JZ h n k) (by lia))) (by lia) (by rw [D6 _ _ (by lia), BC]; lia)
theorem FW : ∀ {pss : List (List Rat)}, P23 pss → (pss.map fun ps => ps.getD 0 0).Nodup → ∀ {j k : Nat}, 1 ≤ k → j + k < (Bb pss).length → (kn pss).getD (j + k) 0 = (kn pss).getD j 0 →
 k = 1 ∧ ∃ ps ∈ pss, ps.length = 3 ∧ ps.getD 0 0 = (kn pss).getD j 0 ∧ ((Bb pss).map Gj.n).getD (j + 1) 0 = ps.getD 2 0 ∧ (CU pss).getD (j + 1) 0 = (CU pss).getD j 0
 | p :: r, h23, hnd, j, k, h1, hjk, he => by
   rw [Tq, SS] at hnd
   have hout : ∀ i, i < (kn r).length → (kn r).getD i 0 ≠ p.getD 0 0 := fun i hi e => by
    obtain ⟨ps, h1, h2⟩ := JS (BA hi)
    exact hnd.1 (e ▸ h2 ▸ UZ (f := fun ps : List Rat => ps.getD 0 0) h1)
   have et : Bb (p :: r) = BS p ++ Bb r := rfl
   have er : CU (p :: r) = SV (p.length - 1) (p.getD 1 0) ++ CU r := rfl
   have ih := @FW r (fun ps h => h23 ps (Sz _ h)) hnd.2
   have hkl := BC r
   rw [Ib] at he ⊢
   rw [et, T6, Bl] at hjk
   rcases h23 p Sy with hp | hp
   ·have e1 : SV (p.length - 1) (p.getD 0 0) = [p.getD 0 0] := by rw [hp]; rfl
    have e2 : BS p = [⟨p.getD 0 0, 0, p.getD 1 0⟩] := by unfold BS; rw [hp]; rfl
    have e3 : SV (p.length - 1) (p.getD 1 0) = [p.getD 1 0] := by rw [hp]; rfl
    rw [e1] at he ⊢
    rw [et, er, e2, e3]
    match j with
    | 0 =>
      obtain ⟨k', rfl⟩ : ∃ k', k = k' + 1 := ⟨k - 1, by lia⟩
      rw [UK] at he
      exact absurd he (hout k' (by lia))
    | j' + 1 =>
      rw [show j' + 1 + k = (j' + k) + 1 by lia] at he
      obtain ⟨z1, ps, z2, z3, z4, z5, z6⟩ := ih (j := j') (k := k) h1 (by lia) he
      exact ⟨z1, ps, Sz _ z2, z3, z4, z5, z6⟩
   ·have e1 : SV (p.length - 1) (p.getD 0 0) = [p.getD 0 0, p.getD 0 0] := by rw [hp]; rfl
    have e2 : BS p = [⟨p.getD 0 0, 0, p.getD 1 0⟩, ⟨p.getD 0 0, 1, p.getD 2 0⟩] := by unfold BS; rw [hp]; rfl
    have e3 : SV (p.length - 1) (p.getD 1 0) = [p.getD 1 0, p.getD 1 0] := by rw [hp]; rfl
    rw [e1] at he ⊢
    rw [et, er, e2, e3]
    match j with
    | 0 =>
      match k, h1 with
      | 1, _ => exact ⟨rfl, p, Sy, hp, rfl, rfl, rfl⟩
      | k' + 2, _ =>
        rw [UK] at he
        exact absurd he (hout k' (by lia))
    | 1 =>
      obtain ⟨k', rfl⟩ : ∃ k', k = k' + 1 := ⟨k - 1, by lia⟩
      rw [show 1 + (k' + 1) = k' + 2 by lia] at he
      exact absurd he (hout k' (by lia))
    | j' + 2 =>
      rw [show j' + 2 + k = (j' + k) + 2 by lia] at he
      obtain ⟨z1, ps, z2, z3, z4, z5, z6⟩ := ih (j := j') (k := k) h1 (by lia) he
      exact ⟨z1, ps, Sz _ z2, z3, z4, z5, z6⟩
def FR (K : Su) (H : Hp) (p : Addr) (H' : Hp) (x : V) (rs : List Rat) : Prop := ∃ a zs, x = .ref a ∧ a ≠ p ∧ H a = none ∧ H' a = some (.lst zs) ∧ Au K H' zs rs
theorem FR.same {K : Su} {H H1 H2 : Hp} {p : Addr} {x : V} {rs : List Rat} (h : FR K H p H1 x rs) (e : Af H1 H2) : FR K H p H2 x rs := let ⟨a, zs, h1, h2, h3, h4, h5⟩ := h; ⟨a, zs, h1, h2, h3, e _ _ h4, Au.same h5 e⟩
theorem FR.put {K : Su} {H H1 : Hp} {p : Addr} {x : V} {rs : List Rat} {ys : List V} {o : HO} (h : FR K H p H1 x rs) (e : H1 p = some (.lst ys)) : FR K H p (upd H1 p o) x rs := let ⟨a, zs, h1, h2, h3, h4, h5⟩ := h; ⟨a, zs, h1, h2, h3, by rw [Aq h2]; exact h4, Au.put h5 e⟩
theorem JR {α : Type} (f : Nat → α) (i : Nat) : ((So (i + 1)).map f)[i]? = some (f i) := by
 rw [T3, UP (by lia)]; rfl
inductive Hk (K : Su) (vs : List V) (H : Hp) (Q : VK) (E_3 : XK) : Prop
 | mk (r : Addr) (xs : List V) (pss : List (List Rat)) (hh n : Nat) (h1 : vs = [.ref r]) (h2 : SqT K H r xs) (h3 : Et K H xs pss) (h4 : P2 pss) (h5 : pss.length ≤ 100) (h6 : (pss.map fun ps => ps.getD 0 0).Nodup) (h7 : (Bb pss).length ≤ 12) (h8 : (∀ ps ∈ pss, ∀ q ∈ ps, RB hh q)) (h9 : (∀ ps ∈ pss, RB n (ps.getD 0 0))) (h10 : 1 ≤ hh) (h11 : hh + 2 * n + 2 ≤ 1000) (h12 : ∀ (p : Addr) (H' : Hp) (ys : List V), Af H H' → H p = none → H' p = some (.lst ys) → Paired (FR K H p H') ys ((So (Bb pss).length).map (tab pss)) → Q (.ref p) H') : Hk K vs H Q E_3
def BO (pss : List (List Rat)) : List Rat := (So (Bb pss).length).map fun k => (tab pss k).getD 0 0
theorem Dr (pss : List (List Rat)) : (BO pss).length = (Bb pss).length := by unfold BO; rw [T7, UL]
inductive Hl (K : Su) (vs : List V) (H : Hp) (Q : VK) (E_3 : XK) : Prop
 | mk (r : Addr) (xs : List V) (pss : List (List Rat)) (hh n : Nat) (h1 : vs = [.ref r]) (h2 : SqT K H r xs) (h3 : Et K H xs pss) (h4 : P2 pss) (h5 : pss.length ≤ 100) (h6 : (pss.map fun ps => ps.getD 0 0).Nodup) (h7 : (Bb pss).length ≤ 12) (h8 : (∀ ps ∈ pss, ∀ q ∈ ps, RB hh q)) (h9 : (∀ ps ∈ pss, RB n (ps.getD 0 0))) (h10 : 1 ≤ hh) (h11 : hh + 2 * n + 2 ≤ 1000) (h12 : ∀ (p : Addr) (H' : Hp) (zs : List V), Af H H' → H p = none → H' p = some (.lst zs) → Au K H' zs (BO pss) → Q (.ref p) H') : Hl K vs H Q E_3
theorem LH {pss : List (List Rat)} {hh n : Nat} (h23 : P23 pss) (hb : ∀ ps ∈ pss, ∀ q ∈ ps, RB hh q) (hbk : ∀ ps ∈ pss, RB n (ps.getD 0 0)) (h1 : 1 ≤ hh) (h12 : (Bb pss).length ≤ 12) : ∀ q ∈ BO pss, RB (bnd hh n 11) q := fun q hq => by
 unfold BO at hq
 obtain ⟨k, hk, rfl⟩ := UA.mp hq
 have hk := Ss.mp hk
 have hl := D6 pss k (by lia)
 exact (Jp h23 h1 hb hbk k (by lia) _ (BA (by lia))).mono (MN hh n (by lia))
inductive Js (K : Su) (vs : List V) (H : Hp) (Q : VK) (E_3 : XK) : Prop
 | mk (r : Addr) (xs : List V) (pss : List (List Rat)) (hh n : Nat) (h1 : vs = [.ref r]) (h2 : SqT K H r xs) (h3 : Et K H xs pss) (h4 : P2 pss) (h5 : pss.length ≤ 100) (h6 : (pss.map fun ps => ps.getD 0 0).Nodup) (h7 : (Bb pss).length ≤ 12) (h8 : (∀ ps ∈ pss, ∀ q ∈ ps, RB hh q)) (h9 : (∀ ps ∈ pss, RB n (ps.getD 0 0))) (h10 : 1 ≤ hh) (h11 : hh + 2 * n + 2 ≤ 1000) (h12 : ∀ (p : Addr) (H' : Hp) (cs : List Rat), Af H H' → Crv K H' p cs → cs.length ≤ (Bb pss).length → Bi cs → (∀ q ∈ cs, RB (26 * bnd hh n 11 + 300) q) → (∀ x, Cv.ev cs x = BM (kn pss) (BO pss) x) → Q (.ref p) H') : Js K vs H Q E_3
inductive E1 (K : Su) (vs : List V) (H : Hp) (Q : VK) (E_3 : XK) : Prop
 | mk (ra rk d : Addr) (as ks : List V) (A kn : List Rat) (sl : Rat → Rat) (k m n : Nat) (h1 : vs = [.ref ra, .ref rk, .ref d, .int (k : Int)]) (h2 : SqL K H ra as) (h3 : Au K H as A) (h4 : SqL K H rk ks) (h5 : AM H ks kn) (h6 : (∀ j, j + k < kn.length → kn.getD (j + k) 0 ≠ kn.getD j 0)) (h7 : 1 ≤ k) (h8 : k ≤ kn.length) (h9 : A.length + k = kn.length + 1) (h10 : kn.length ≤ 100) (h11 : (∀ q ∈ A, RB m q)) (h12 : (∀ q ∈ kn, RB n q)) (h13 : m ≤ 2000000) (h14 : n ≤ 1000) (h15 : ∀ (p : Addr) (H' : Hp) (zs : List V), Af H H' → H p = none → H' p = some (.lst zs) → Au K H' zs (CY A kn sl k) → Q (.ref p) H') : E1 K vs H Q E_3
theorem EW (X k s : Rat) : ∀ (ks ss : List Rat), ks.length = ss.length → BM (ks ++ [k]) (ss ++ [s]) X = BM ks ss X + s * L2.prV X ks
 | [], [], _ => by show s + (X - k) * 0 = 0 + s * 1; grind
 | a :: ks, b :: ss, h => by
   have ih := EW X k s ks ss (by simpa using h)
   show b + (X - a) * BM (ks ++ [k]) (ss ++ [s]) X = (b + (X - a) * BM ks ss X) + s * ((X - a) * L2.prV X ks)
   rw [ih]; grind
theorem FV (T : Nat → Nat → Rat) (x : Nat → Rat) (X : Rat) : ∀ n, BM ((So n).map x) ((So n).map fun k => T k 0) X = Cv.ev (L2.nwT T x 0 n) X
 | 0 => rfl
 | n + 1 => by
   rw [Uz, TY, TY, L2.EJ, ← FV T x X n]
   show BM (_ ++ [x n]) (_ ++ [T n 0]) X = _
   rw [EW _ _ _ _ _ (by rw [T7, T7])]
   unfold L2.prF
   have e : (So n).map x = (So n).map fun i => x (0 + i) := Vj fun i _ => by rw [UK]
   rw [e]
theorem JO (l : List Rat) : l = (So l.length).map fun i => l.getD i 0 := by
 refine U7 fun i => ?_
 rw [T3]
 by_cases h : i < l.length
 ·rw [UP h]; exact Bw h
 ·rw [Ux (by lia), Ux (by rw [UL]; lia)]; rfl
def tT (pss : List (List Rat)) (k j : Nat) : Rat := (tab pss k).getD j 0
def xT (pss : List (List Rat)) (j : Nat) : Rat := (kn pss).getD j 0
theorem N4 (pss : List (List Rat)) (X : Rat) : BM (kn pss) (BO pss) X = Cv.ev (L2.nwT (tT pss) (xT pss) 0 (Bb pss).length) X := by
 rw [← FV]
 have e := JO (kn pss)
 rw [BC] at e
 show BM (kn pss) _ X = BM ((So (Bb pss).length).map fun i => (kn pss).getD i 0) _ X
 rw [← e]; rfl
theorem Od {pss : List (List Rat)} (h23 : P23 pss) (hnd : (pss.map fun ps => ps.getD 0 0).Nodup) : L2.MU (tT pss) (xT pss) (Bb pss).length := fun k j hj => by
 unfold tT xT
 rw [tab, FU (by rw [BC]; lia), show j + (k + 1) = j + k + 1 by lia]
 by_cases he : (kn pss).getD (j + k + 1) 0 = (kn pss).getD j 0
 ·rw [if_pos he, he]
  obtain ⟨hk, ps, _, _, _, _, hr⟩ := FW h23 hnd (j := j) (k := k + 1) (by lia) (by lia) he
  have hk0 : k = 0 := by lia
  subst hk0
  show _ = (CU pss).getD (j + 1) 0 - (CU pss).getD j 0
  rw [hr]; grind
 ·rw [if_neg he]
  have hd : (kn pss).getD (j + k + 1) 0 - (kn pss).getD j 0 ≠ 0 := fun z => he (by grind)
  exact TF hd
theorem M3 : ∀ {pss : List (List Rat)} {ps : List Rat}, P23 pss → ps ∈ pss → ∃ i, i < (Bb pss).length ∧ (kn pss).getD i 0 = ps.getD 0 0 ∧ (CU pss).getD i 0 = ps.getD 1 0 ∧ (ps.length = 3 → i + 1 < (Bb pss).length ∧ (kn pss).getD (i + 1) 0 = ps.getD 0 0)
 | p :: r, ps, h23, hm => by
   have et : Bb (p :: r) = BS p ++ Bb r := rfl
   have er : CU (p :: r) = SV (p.length - 1) (p.getD 1 0) ++ CU r := rfl
   have hp := h23 p Sy
   rw [et, er, Ib, T6, Bl]
   rcases SA.mp hm with z | z
   ·subst z
    rcases hp with hp | hp
    ·rw [hp]; exact ⟨0, by lia, rfl, rfl, fun z => by lia⟩
    ·rw [hp]; exact ⟨0, by lia, rfl, rfl, fun _ => ⟨by lia, rfl⟩⟩
   ·obtain ⟨i, h1, h2, h3, h4⟩ := M3 (pss := r) (fun q hq => h23 q (Sz _ hq)) z
    rcases hp with hp | hp
    ·rw [hp]; exact ⟨i + 1, by lia, h2, h3, fun z => ⟨by have := (h4 z).1; lia, (h4 z).2⟩⟩
    ·rw [hp]; exact ⟨i + 2, by lia, h2, h3, fun z => ⟨by have := (h4 z).1; lia, (h4 z).2⟩⟩
theorem LC {pss : List (List Rat)} (h2 : P2 pss) (hnd : (pss.map fun ps => ps.getD 0 0).Nodup) {cs : List Rat} (h : ∀ X, Cv.ev cs X = BM (kn pss) (BO pss) X) : ∀ ps ∈ pss, Cv.ev cs (ps.getD 0 0) = ps.getD 1 0 := fun ps hm => by
 have hT := Od h2.p23 hnd
 obtain ⟨i, h1, e2, e3, h4⟩ := M3 h2.p23 hm
 have e := L2.Mg hT (Bb pss).length 0 i (by lia) h1
 rw [UK] at e
 rw [h, N4, ← e2, ← e3]; exact e
theorem K3 : ∀ {pss : List (List Rat)}, P2 pss → (Bb pss).length = pss.length
 | [], _ => rfl
 | p :: r, h => by
   have ih := K3 (pss := r) fun ps hp => h ps (Sz _ hp)
   have et : Bb (p :: r) = BS p ++ Bb r := rfl
   rw [et, T6, Bl, h p Sy, ih, TR]
   lia
theorem JH {pss : List (List Rat)} (h2 : P2 pss) (hnd : (pss.map fun ps => ps.getD 0 0).Nodup) {c d : List Rat} (hc : c.length ≤ (Bb pss).length) (hd : d.length ≤ (Bb pss).length) (oc : ∀ ps ∈ pss, Cv.ev c (ps.getD 0 0) = ps.getD 1 0) (od : ∀ ps ∈ pss, Cv.ev d (ps.getD 0 0) = ps.getD 1 0) (X : Rat) : Cv.ev c X = Cv.ev d X := by
 rw [K3 h2] at hc hd
 have := L2.D5 (pss.map fun ps => ps.getD 0 0) (l := L2.AU c (d.map (· * -1))) hnd (by rw [L2.Br, T7, T7]; lia) (fun q hq => by
  obtain ⟨ps, hp, rfl⟩ := UA.mp hq
  rw [L2.AZ, Cv.ev_scale, oc ps hp, od ps hp]; grind) X
 rw [L2.AZ, Cv.ev_scale] at this
 grind
def ic (ts : List Int) : List Rat := ts.map fun t : Int => (t : Rat)
theorem Bf (ts : List Int) (j : Nat) : (ic ts).getD j 0 = ((ts.getD j 0 : Int) : Rat) := by
 unfold ic
 rw [U6, U6, T3]
 cases ts[j]? with
 | none => rfl
 | some t => rfl
inductive Jy (K : Su) (vs : List V) (H : Hp) (Q : VK) (E_3 : XK) : Prop
 | mk (l rx ry : Addr) (ts : List Int) (x y : Rat) (R m nx ny : Nat) (h1 : vs = [.ref l, .ref rx, .ref ry]) (h2 : SqL K H l (ts.map V.int)) (h3 : ts.length = 2 * R) (h4 : Az K H (.ref rx) x) (h5 : Az K H (.ref ry) y) (h6 : (∀ t ∈ ts, Bd m t)) (h7 : RB nx x) (h8 : RB ny y) (h9 : m + (nx + 1) * (R + 4) + ny ≤ 100000000) (h10 : ∀ (L : Int) (H' : Hp), Af H H' → (L : Rat) = (((y.den : Int) * (x.den : Int) ^ R : Int) : Rat) * (Cv.evI (ts.take R) x - y * Cv.evI (ts.drop R) x) → Bd (m + (nx + 1) * (R + 2) + ny + 1) L → Q (.int L) H') : Jy K vs H Q E_3
def shI (c d : Int) (ts : List Int) : List Int := (So ts.length).map fun k => d * (if k = 0 then 0 else ts.getD (k - 1) 0) - c * ts.getD k 0
inductive Hm (K : Su) (vs : List V) (H : Hp) (Q : VK) (E_3 : XK) : Prop
 | mk (l rx : Addr) (ts : List Int) (x : Rat) (m n : Nat) (h1 : vs = [.ref l, .ref rx]) (h2 : SqL K H l (ts.map V.int)) (h3 : Az K H (.ref rx) x) (h4 : 1 ≤ ts.length) (h5 : ts.length ≤ 100) (h6 : ts.getD (ts.length - 1) 0 = 0) (h7 : (∀ t ∈ ts, Bd m t)) (h8 : RB n x) (h9 : m + n ≤ 100000000) (h10 : ∀ (p : Addr) (H' : Hp), Af H H' → H' p = some (.lst ((shI x.num x.den ts).map V.int)) → (∀ t ∈ shI x.num x.den ts, Bd (m + n + 1) t) → Q (.ref p) H') : Hm K vs H Q E_3
inductive LK (K : Su) (vs : List V) (H : Hp) (Q : VK) (E_3 : XK) : Prop
 | mk (l : Addr) (ts : List Int) (m : Nat) (h1 : vs = [.ref l]) (h2 : SqL K H l (ts.map V.int)) (h3 : (∃ t ∈ ts, t ≠ 0)) (h4 : ts.length ≤ 100) (h5 : (∀ t ∈ ts, Bd m t)) (h6 : ∀ (p : Addr) (H' : Hp) (g : Int) (us : List Int), Af H H' → H' p = some (.lst (us.map V.int)) → g ≠ 0 → us.length = ts.length → (∀ j, g * us.getD j 0 = ts.getD j 0) → (∀ t ∈ us, Bd m t) → Q (.ref p) H') : LK K vs H Q E_3
theorem GW {ts : List Int} {j : Nat} (h : j < ts.length) : ts.getD j 0 ∈ ts := by
 rw [U6, Uc h]; exact Ud h
theorem CL {ts : List Int} {m : Nat} (h : ∀ t ∈ ts, Bd m t) (j : Nat) : Bd m (ts.getD j 0) := by
 rcases Va j ts.length with z | z
 ·exact h _ (GW z)
 ·rw [U6, Ux z]
  show Bd m 0
  unfold Bd
  exact Nat.pow_pos (by decide)
theorem OJ {K : Su} {a b : Addr} {js : List Nat} {xs ys : List V} {te : TE} {σ : St} {H : Hp} {Fin : List V → Hp → Prop} (Pv : Nat → List V → Hp → Prop) (h0 : Pv 0 [] H)
 (hl : ∀ i zs H, i ≤ min xs.length ys.length → Pv i zs H → SqL K H a xs ∧ SqL K H b ys ∧ zs.length = i) (hz : min xs.length ys.length ≤ sizeLine)
 (hs : ∀ i x y T zs H, xs[i]? = some x → ys[i]? = some y → H T = none → Pv i zs H → te (((cS 2 js σ).set 0 (some x)).set 1 (some y)) (upd H T (.tup [x, y])) fun y H4 => Pv (i + 1) (zs ++ [y]) H4) (fin : ∀ zs H', Pv (min xs.length ys.length) zs H' → Fin zs H') :
 ∃ (n' : Nat) (W : Nat → List V → Hp → Prop), W 0 [] H ∧ LcW (Itz K a b xs ys) n' 2 js σ (Lk K 2 (FZ (Cy 0) (FZ (Cy 1) NK))) KI te Fin W := by
 refine ⟨min xs.length ys.length, Pv, h0, ⟨?_, ?_, ?_⟩⟩
 ·intro i zs H' hi p
  obtain ⟨h1, h2, h3⟩ := hl i zs H' (Sw hi) p
  exact ⟨⟨h1, h2, hi⟩, by lia⟩
 ·rintro i zs H' x H1 hi p ⟨T, x1, y1, hx, hy, hT, rfl, rfl⟩
  exact ⟨T, _, rfl, SqT.of Aa, rfl, x1, _, rfl, y1, _, rfl, rfl, hs i x1 y1 T zs H' hx hy hT p⟩
 ·intro zs H' p
  obtain ⟨h1, h2, h3⟩ := hl _ zs H' (SK _) p
  exact ⟨⟨h1, h2, SK _⟩, by lia, fin zs H' p⟩
def Rpr (K : Su) (H : Hp) (v : V) (r : Int) (ts : List Int) : Prop := ∃ p l, v = .ref p ∧ SqT K H p [.int r, .ref l] ∧ SqL K H l (ts.map V.int)
theorem Rpr.same {K : Su} {H H' : Hp} {v : V} {r : Int} {ts : List Int} (h : Rpr K H v r ts) (e : Af H H') : Rpr K H' v r ts := let ⟨p, l, z, h1, h2⟩ := h; ⟨p, l, z, h1.same e, Af.seq e h2⟩
structure PSt (w v : Int) (n R : Nat) (ps : List (Rat × Rat)) (A S : Nat) (r1 : Int) (ts1 : List Int) (r2 : Int) (ts2 : List Int) : Prop where
 inv : Ck w v n ps r1 r2 (ic (ts1.take R)) (ic (ts1.drop R)) (ic (ts2.take R)) (ic (ts2.drop R))
 l1 : ts1.length = 2 * R
 l2 : ts2.length = 2 * R
 z1 : ∀ j, ps.length + 1 ≤ j → j < R → ts1.getD j 0 = 0 ∧ ts1.getD (R + j) 0 = 0
 z2 : ∀ j, ps.length + 1 ≤ j → j < R → ts2.getD j 0 = 0 ∧ ts2.getD (R + j) 0 = 0
 bd : ∃ a1 a2, (∀ t ∈ ts1, Bd a1 t) ∧ (∀ t ∈ ts2, Bd a2 t) ∧ a1 ≤ A ∧ a2 ≤ A ∧ a1 + a2 ≤ S
inductive Jz (K : Su) (vs : List V) (H : Hp) (Q : VK) (E_3 : XK) : Prop
 | mk (b rx ry : Addr) (v1 v2 : V) (r1 r2 : Int) (ts1 ts2 : List Int) (w v : Int) (n R : Nat) (ps : List (Rat × Rat)) (A S C nx ny : Nat) (x y : Rat) (h1 : vs = [.ref b, .ref rx, .ref ry]) (h2 : SqT K H b [v1, v2]) (h3 : Rpr K H v1 r1 ts1) (h4 : Rpr K H v2 r2 ts2) (h5 : PSt w v n R ps A S r1 ts1 r2 ts2) (h6 : R = n + 1) (h7 : w + v = n + 1) (h8 : Az K H (.ref rx) x) (h9 : Az K H (.ref ry) y) (h10 : RB nx x) (h11 : RB ny y) (h12 : ((ps ++ [(x, y)]).map Prod.fst).Nodup) (h13 : ps.length < n) (h14 : n ≤ 12) (h15 : (nx + 1) * (R + 2) + ny + 2 ≤ C) (h16 : A + 3 * C ≤ 50000000) (h17 : S + 3 * C ≤ 50000000) (h18 : ∀ (b' : Addr) (H' : Hp) (v1' v2' : V) (r1' r2' : Int) (us1 us2 : List Int), Af H H' → SqT K H' b' [v1', v2'] → Rpr K H' v1' r1' us1 → Rpr K H' v2' r2' us2 → PSt w v n R (ps ++ [(x, y)]) (S + C) (A + S + 2 * C) r1' us1 r2' us2 → Q (.ref b') H') : Jz K vs H Q E_3
theorem E9 (c d : Int) (ts : List Int) (k : Nat) : (shI c d ts).getD k 0 = if k < ts.length then d * (if k = 0 then 0 else ts.getD (k - 1) 0) - c * ts.getD k 0 else 0 := by
 unfold shI
 rw [U6, T3]
 by_cases h : k < ts.length
 ·rw [if_pos h, UP h]; rfl
 ·rw [if_neg h, Ux (by rw [UL]; lia)]; rfl
theorem E2 (c d : Int) (ts : List Int) : (shI c d ts).length = ts.length := by unfold shI; rw [T7, UL]
theorem Bt (ts : List Int) (R j : Nat) : (ts.take R).getD j 0 = if j < R then ts.getD j 0 else 0 := by
 rw [U6, V9, U6]
 split <;> rfl
theorem Bu (ts : List Int) (R j : Nat) : (ts.drop R).getD j 0 = ts.getD (R + j) 0 := by
 rw [U6, U8, U6]
theorem D3 {ts : List Int} {j : Nat} (h : ts.length ≤ j) : ts.getD j 0 = 0 := by rw [U6, Ux h]; rfl
theorem Fw {c d : Int} {ts : List Int} {R : Nat} (hl : ts.length = 2 * R) (hR : 1 ≤ R) (h1 : ts.getD (R - 1) 0 = 0) : Shf (c : Rat) (d : Rat) (ic (ts.take R)) (ic ((shI c d ts).take R)) := fun j => by
 rw [Bf, Bf, Bf, Bt, Bt, Bt, E9]
 by_cases h : j < R
 ·rw [if_pos h, if_pos (by lia), if_pos h]
  by_cases z : j = 0
  ·rw [if_pos z, if_pos z, TK, TJ, TJ]; rfl
  ·rw [if_neg z, if_neg z, if_pos (by lia), TK, TJ, TJ]
 ·rw [if_neg h, if_neg h, if_neg (by lia)]
  by_cases z : j - 1 < R
  ·rw [if_pos z, show j - 1 = R - 1 by lia, h1]
   show (0 : Rat) = (d : Rat) * 0 - (c : Rat) * 0
   grind
  ·rw [if_neg z]
   show (0 : Rat) = (d : Rat) * 0 - (c : Rat) * 0
   grind
theorem Fy {c d : Int} {ts : List Int} {R : Nat} (hl : ts.length = 2 * R) (hR : 1 ≤ R) (h1 : ts.getD (R - 1) 0 = 0) (h2 : ts.getD (R + (R - 1)) 0 = 0) : Shf (c : Rat) (d : Rat) (ic (ts.drop R)) (ic ((shI c d ts).drop R)) := fun j => by
 rw [Bf, Bf, Bf, Bu, Bu, Bu, E9]
 by_cases h : R + j < ts.length
 ·rw [if_pos h, if_neg (by lia)]
  by_cases z : j = 0
  ·subst z
   rw [if_pos rfl, TL, h1, TK, TJ, TJ]; rfl
  ·rw [if_neg z, show R + j - 1 = R + (j - 1) by lia, TK, TJ, TJ]
 ·rw [if_neg h, if_neg (by lia), D3 (show ts.length ≤ R + j by lia)]
  by_cases z : j - 1 = R - 1
  ·rw [z, h2]
   show (0 : Rat) = (d : Rat) * 0 - (c : Rat) * 0
   grind
  ·rw [D3 (show ts.length ≤ R + (j - 1) by lia)]
   show (0 : Rat) = (d : Rat) * 0 - (c : Rat) * 0
   grind
theorem Fz {c d : Int} {ts : List Int} {R k : Nat} (z : ∀ j, k + 1 ≤ j → j < R → ts.getD j 0 = 0 ∧ ts.getD (R + j) 0 = 0) : ∀ j, k + 1 + 1 ≤ j → j < R → (shI c d ts).getD j 0 = 0 ∧ (shI c d ts).getD (R + j) 0 = 0 := fun j h1 h2 => by
 have a := z j (by lia) h2
 have b := z (j - 1) (by lia) (by lia)
 constructor
 ·rw [E9]
  by_cases hh : j < ts.length
  ·rw [if_pos hh, if_neg (by lia), a.1, b.1, Vk, Vk]; rfl
  ·rw [if_neg hh]
 ·rw [E9]
  by_cases hh : R + j < ts.length
  ·rw [if_pos hh, if_neg (by lia), a.2, show R + j - 1 = R + (j - 1) by lia, b.2, Vk, Vk]; rfl
  ·rw [if_neg hh]
theorem J0 {g a b : Int} {t1 t2 us : List Int} (R : Nat) (h : ∀ j, g * us.getD j 0 = a * t2.getD j 0 - b * t1.getD j 0) : Mix (g : Rat) (a : Rat) (b : Rat) (ic (t1.take R)) (ic (t2.take R)) (ic (us.take R)) := fun j => by
 rw [Bf, Bf, Bf, Bt, Bt, Bt]
 split
 ·rw [← TJ, h j, TK, TJ, TJ]
 ·show (g : Rat) * 0 = (a : Rat) * 0 - (b : Rat) * 0
  grind
theorem J1 {g a b : Int} {t1 t2 us : List Int} (R : Nat) (h : ∀ j, g * us.getD j 0 = a * t2.getD j 0 - b * t1.getD j 0) : Mix (g : Rat) (a : Rat) (b : Rat) (ic (t1.drop R)) (ic (t2.drop R)) (ic (us.drop R)) := fun j => by
 rw [Bf, Bf, Bf, Bu, Bu, Bu, ← TJ, h (R + j), TK, TJ, TJ]
theorem IZ {g a b : Int} {t1 t2 us : List Int} {j : Nat} (hg : g ≠ 0) (h : ∀ j, g * us.getD j 0 = a * t2.getD j 0 - b * t1.getD j 0) (z1 : t1.getD j 0 = 0) (z2 : t2.getD j 0 = 0) : us.getD j 0 = 0 := by
 have := h j
 rw [z1, z2, Vk, Vk] at this
 rcases Int.mul_eq_zero.mp (show g * us.getD j 0 = 0 from this) with z | z
 ·exact absurd z hg
 ·exact z
theorem Em {L : Int} {s a : Rat} (hs : s ≠ 0) (h : (L : Rat) = s * a) : L = 0 ↔ a = 0 := by
 constructor
 ·intro z
  rw [z] at h
  rcases U1.mp (show s * a = 0 from h.symm) with q | q
  ·exact absurd q hs
  ·exact q
 ·intro z
  rw [z, V7] at h
  exact Rat.intCast_inj.mp (h.trans Vq.symm)
theorem N7 {a b : Rat} (h : a - b = 0) : a = b := by grind
theorem J5 {L : Int} (h : L ≠ 0) : (L : Rat) ≠ 0 := fun z => h (Rat.intCast_inj.mp (z.trans Vq.symm))
def gAS (C : Nat) : Nat → Nat × Nat
 | 0 => (1, 2)
 | k + 1 => ((gAS C k).2 + C, (gAS C k).1 + (gAS C k).2 + 2 * C)
theorem Ic (C : Nat) : ∀ k, (gAS C k).1 ≤ (gAS C k).2
 | 0 => by show 1 ≤ 2; decide
 | k + 1 => by show (gAS C k).2 + C ≤ (gAS C k).1 + (gAS C k).2 + 2 * C; lia
theorem Eo (C : Nat) {i : Nat} : ∀ {n}, i ≤ n → (gAS C i).2 ≤ (gAS C n).2
 | 0, h => by rw [Nat.le_zero.mp h]; exact SK _
 | n + 1, h => by
   rcases Va i (n + 1) with z | z
   ·have := Eo C (i := i) (n := n) (by lia)
    show _ ≤ (gAS C n).1 + (gAS C n).2 + 2 * C
    lia
   ·rw [show i = n + 1 by lia]; exact SK _
theorem Ni : ∀ k : Nat, (SV k [V.int 0]).flatten = (SV k (0 : Int)).map V.int
 | 0 => rfl
 | k + 1 => by rw [Tj, Tn, Ni k, Tj]; rfl
theorem Mx (ts : List Int) : (ts.map fun t => Tv t 1) = ic ts := by
 unfold ic
 refine Vj fun t _ => ?_
 have e := Rat.num_divInt_den ((t : Int) : Rat)
 rw [Vr, Vs] at e
 exact e
def Dj (R : Nat) : List Int := 1 :: SV (2 * R - 1) 0
def BF (R : Nat) : List Int := SV R 0 ++ [1] ++ SV (R - 1) 0
theorem MA (k j : Nat) : (SV k (0 : Int)).getD j 0 = 0 := by
 rw [U6, T1]
 split <;> rfl
theorem Cz (R j : Nat) : (Dj R).getD j 0 = if j = 0 then 1 else 0 := by
 cases j with
 | zero => rfl
 | succ j => rw [if_neg (by lia)]; exact MA _ j
theorem Cf (R j : Nat) : (BF R).getD j 0 = if j = R then 1 else 0 := by
 unfold BF
 rw [To, U6]
 rcases Va j R with z | z
 ·rw [T2 (by rw [T8]; exact z), if_neg (by lia), T1, if_pos z]; rfl
 ·rw [SY (by rw [T8]; exact z), T8]
  by_cases e : j = R
  ·rw [if_pos e, show j - R = 0 by lia]; rfl
  ·rw [if_neg e]
   obtain ⟨k, hk⟩ : ∃ k, j - R = k + 1 := ⟨j - R - 1, by lia⟩
   rw [hk, List.singleton_append, TU, T1]
   split <;> rfl
theorem Qe {W n : Nat} (hW : 1 ≤ W) (hWn : W ≤ n) : PUn (W : Int) ((n : Int) + 1 - W) n [] (2 * (1 - (W : Int))) (2 * (1 - ((n : Int) + 1 - W)) + 1) (ic ((Dj (n + 1)).take (n + 1))) (ic ((Dj (n + 1)).drop (n + 1))) (ic ((BF (n + 1)).take (n + 1))) (ic ((BF (n + 1)).drop (n + 1))) := by
 refine ⟨⟨fun j hj => ?_, fun j hj => ?_⟩, .inl ⟨0, by lia, ?_⟩, ⟨fun j hj => ?_, fun j hj => ?_⟩, .inr ⟨0, by lia, ?_⟩, by rw [Uy]; lia, (fun _ h => nomatch h), fun _ h => nomatch h⟩
 ·rw [Bf, Bt, Cz, if_neg (show ¬ j = 0 by lia)]
  split <;> rfl
 ·rw [Bf, Bu, Cz, if_neg (by lia)]; rfl
 ·rw [Bf, Bt, Cz, if_pos (by lia), if_pos rfl]; decide
 ·rw [Bf, Bt, Cf]
  split
  ·rw [if_neg (by lia)]; rfl
  ·rfl
 ·rw [Bf, Bu, Cf, if_neg (by lia)]; rfl
 ·rw [Bf, Bu, Cf, if_pos (by lia)]; decide
theorem J8 (R : Nat) : ∀ t ∈ Dj R, Bd 1 t := fun t ht => by
 rcases SA.mp ht with z | z
 ·rw [z]; unfold Bd; decide
 ·rw [Vt z]; unfold Bd; decide
theorem GK (R : Nat) : ∀ t ∈ BF R, Bd 1 t := fun t ht => by
 rcases SD.mp ht with z | z
 ·rcases SD.mp z with z | z
  ·rw [Vt z]; unfold Bd; decide
  ·rw [Ub.mp z]; unfold Bd; decide
 ·rw [Vt z]; unfold Bd; decide
theorem Ep (n : Nat) : (Dj (n + 1)).length = 2 * (n + 1) := by unfold Dj; rw [TR, T8]; lia
theorem DU (n : Nat) : (BF (n + 1)).length = 2 * (n + 1) := by unfold BF; rw [T6, T6, T8, T8, Tp]; lia
theorem Ge (n : Nat) : ∀ j, 0 + 1 ≤ j → j < n + 1 → (Dj (n + 1)).getD j 0 = 0 ∧ (Dj (n + 1)).getD (n + 1 + j) 0 = 0 := fun j h _ => ⟨by rw [Cz, if_neg (by lia)], by rw [Cz, if_neg (by lia)]⟩
theorem ET (n : Nat) : ∀ j, 0 + 1 ≤ j → j < n + 1 → (BF (n + 1)).getD j 0 = 0 ∧ (BF (n + 1)).getD (n + 1 + j) 0 = 0 := fun j h _ => ⟨by rw [Cf, if_neg (by lia)], by rw [Cf, if_neg (by lia)]⟩
inductive Jw (K : Su) (vs : List V) (H : Hp) (Q : VK) (E_3 : XK) : Prop
 | mk (lp lh : Addr) (zs ys : List V) (qs hs : List Rat) (W n nx ny C : Nat) (h1 : vs = [.ref lp, .ref lh, .int (W : Int)]) (h2 : SqL K H lp zs) (h3 : Au K H zs qs) (h4 : SqL K H lh ys) (h5 : Au K H ys hs) (h6 : qs.length = n) (h7 : hs.length = n) (h8 : 1 ≤ n) (h9 : n ≤ 12) (h10 : qs.Nodup) (h11 : 1 ≤ W) (h12 : W ≤ n) (h13 : (∀ c ∈ qs, RB nx c)) (h14 : (∀ c ∈ hs, RB ny c)) (h15 : (nx + 1) * (n + 3) + ny + 2 ≤ C) (h16 : (gAS C n).2 + 3 * C ≤ 50000000) (h17 : ∀ (t pN pD : Addr) (H' : Hp) (r1 r2 : Int) (N D N2 D2 : List Rat), Af H H' → SqT K H' t [.ref pN, .ref pD] → Crv K H' pN (Cv.strip N) → Crv K H' pD (Cv.strip D) → (∀ c ∈ N, Bd ((gAS C n).2 + 1) c.num ∧ Bd 1 (c.den : Int)) → (∀ c ∈ D, Bd ((gAS C n).2 + 1) c.num ∧ Bd 1 (c.den : Int)) → Ck (W : Int) ((n : Int) + 1 - W) n (qs.zip hs) r1 r2 N D N2 D2 → Q (.ref t) H') : Jw K vs H Q E_3
theorem Kk {ts : List Int} {m k : Nat} (h : ∀ t ∈ ts, Bd m t) (hk : m ≤ k) : ∀ c ∈ ic ts, Bd k c.num ∧ Bd 1 (c.den : Int) := fun c hc => by
 obtain ⟨t, ht, rfl⟩ := UA.mp hc
 exact ⟨by rw [Vr]; exact (h t ht).mono hk, by rw [Vs]; unfold Bd; decide⟩
def FE : Str := "rising.<locals>.<lambda>"
def EM (B : Int) (q : Rat) : Int := q.num * B.fdiv (q.den : Int)
theorem Ki {B : Int} {q : Rat} (hd : (q.den : Int) ∣ B) : ((EM B q : Int) : Rat) = q * (B : Rat) := by
 unfold EM
 have hp : (0 : Int) ≤ (q.den : Int) := by lia
 rw [Vu _ hp, TJ, Nm.num_mul q]
 have e : (q.den : Int) * (B / (q.den : Int)) = B := Int.mul_ediv_cancel' hd
 have e2 : ((q.den : Int) : Rat) * ((B / (q.den : Int) : Int) : Rat) = (B : Rat) := by rw [← TJ, e]
 grind
theorem NF {B : Int} (hB : 0 < B) {p q : Rat} (hp : (p.den : Int) ∣ B) (hq : (q.den : Int) ∣ B) (h : EM B p ≤ EM B q) : p ≤ q := by
 have h' : ((EM B p : Int) : Rat) ≤ ((EM B q : Int) : Rat) := Rat.intCast_le_intCast.mpr h
 rw [Ki hp, Ki hq] at h'
 have hB' : (0 : Rat) < (B : Rat) := by
  have := Rat.intCast_lt_intCast.mpr hB
  rw [Vq] at this
  exact this
 by_cases z : p ≤ q
 ·exact z
 ·exfalso
  have z' : q < p := Rat.not_le.mp z
  have := Rat.mul_lt_mul_of_pos_right z' hB'
  grind
theorem LQ {K : Su} {Pt : Addr} {q : Str} {H H' : Hp} {r : Addr} {xs : List V} (h : SqL K H r xs) (c : CF Pt q H) (m : C2 Pt H H') : SqL K H' r xs := by
 obtain ⟨ps, e, _⟩ := c
 have ne : ∀ {b : Addr} {o : HO}, H b = some o → (∀ p, o ≠ .tbl p) → b ≠ Pt := fun z n y => by rw [y, e] at z; exact n _ (Sj.inj z).symm
 rcases h with (h | ⟨o, h⟩) | h
 ·exact .inl (.inl (m _ _ (ne h fun p z => by cases z) h))
 ·exact .inl (.inr ⟨o, m _ _ (ne h fun p z => by cases z) h⟩)
 ·exact .inr h
theorem IK {α β : Type} {F : α → β → Prop} {l : List α} {l' : List β} (h : Paired F l l') : Paired (fun b a => F a b) l' l := by
 induction h with
 | nil => exact .nil
 | cons h _ ih => exact .cons h ih
theorem MB {Pt : Addr} {q : Str} {H H' : Hp} {p : Addr} (c : CF Pt q H') (m : C2 Pt H H') (h : H' p = none) : H p = none := by
 cases e : H p with
 | none => rfl
 | some o =>
   exfalso
   by_cases z : p = Pt
   ·obtain ⟨ps, e2, _⟩ := c
    rw [z, e2] at h; cases h
   ·rw [m p o z e] at h; cases h
theorem LV {K : Su} {H : Hp} {B : Int} {xs : List V} {qs : List Rat} (h : Au K H xs qs) : Paired (fun (z : Int × V) (c : Rat) => z.1 = EM B c ∧ Az K H z.2 c) ((qs.map (EM B)).zip xs) qs := by
 induction h with
 | nil => exact .nil
 | cons h _ ih => exact .cons ⟨rfl, h⟩ ih
theorem KN {K : Su} {H : Hp} {B : Int} {zs : List (Int × V)} {rs : List Rat} (h : Paired (fun (c : Rat) (z : Int × V) => z.1 = EM B c ∧ Az K H z.2 c) rs zs) : rs.map (EM B) = zs.map Prod.fst ∧ Au K H (zs.map Prod.snd) rs := by
 induction h with
 | nil => exact ⟨rfl, .nil⟩
 | cons h _ ih => exact ⟨by rw [Tq, Tq, ih.1, h.1], .cons h.2 ih.2⟩
inductive Jv (K : Su) (Pt : Addr) (vs : List V) (H : Hp) (Q : VK) (E_3 : XK) : Prop
 | mk (l : Addr) (xs : List V) (qs : List Rat) (n : Nat) (h1 : vs = [.ref l]) (h2 : SqL K H l xs) (h3 : Au K H xs qs) (h4 : (∀ q ∈ qs, RB n q)) (h5 : n ≤ 1000000) (h6 : qs.length ≤ 20) (h7 : CF Pt FE H) (h8 : ∀ (p : Addr) (H' : Hp) (ys : List V) (rs : List Rat), C2 Pt H H' → CF Pt FE H' → H p = none → H' p = some (.lst ys) → Au K H' ys rs → rs.Perm qs → rs.Pairwise (· ≤ ·) → Q (.ref p) H') : Jv K Pt vs H Q E_3
inductive DJ (K : Su) (vs : List V) (H : Hp) (Q : VK) (E_3 : XK) : Prop
 | mk (r rx : Addr) (qs : List Rat) (x : Rat) (g d m : Nat) (h1 : vs = [.ref r, .ref rx]) (h2 : Crv K H r qs) (h3 : Az K H (.ref rx) x) (h4 : (∀ q ∈ qs, Bd g q.num ∧ Bd d (q.den : Int))) (h5 : RB m x) (h6 : g + d * (qs.length + 2) + (m + 1) * (qs.length + 4) ≤ 50000000) (h7 : qs.length ≤ 1000) (h8 : ∀ p H', Af H H' → H' p = some (nT (Cv.ev qs x)) → RB (g + d * (qs.length + 2) + (m + 1) * (qs.length + 4)) (Cv.ev qs x) → Q (.ref p) H') : DJ K vs H Q E_3
inductive Fq (vs : List V) (H : Hp) (Q : VK) (E_3 : XK) : Prop
 | mk (b : Int) (n L : Nat) (h1 : vs = [.int b, .int n]) (h2 : n ≤ 1000) (h3 : Bd L b) (h4 : L * n + L ≤ 100000000) (h5 : Q (.int (b ^ n)) H) : Fq vs H Q E_3
structure Q4 (fs gs os rs : List Int) (lead : Int) (B : Nat) : Prop where
 ol : os.length = fs.length + 1 - gs.length
 rl : rs.length = min fs.length (gs.length - 1)
 ev : ∀ x, Cv.evI fs x * ((lead ^ os.length : Int) : Rat) = Cv.evI os x * Cv.evI gs x + Cv.evI rs x
 ob : ∀ t ∈ os, Bd B t
 rb : ∀ t ∈ rs, Bd B t
 top : os ≠ [] → ∃ t, fs[fs.length - 1]? = some t ∧ os[os.length - 1]? = some (lead ^ (os.length - 1) * t)
inductive LP (K : Su) (vs : List V) (H : Hp) (Q : VK) (E_3 : XK) : Prop
 | mk (f g : Addr) (fs gs : List Int) (lead : Int) (M L : Nat) (h1 : vs = [.ref f, .ref g]) (h2 : SqL K H f (fs.map V.int)) (h3 : SqL K H g (gs.map V.int)) (h4 : gs[gs.length - 1]? = some lead) (h5 : fs.length ≤ 1000) (h6 : gs.length ≤ 1000) (h7 : (∀ t ∈ fs, Bd M t)) (h8 : (∀ t ∈ gs, Bd L t)) (h9 : M + fs.length * (L + 1) + L ≤ 100000000) (h10 : L ≤ 100000000) (h11 : ∀ (p pa pb : Addr) (H' : Hp) (os rs : List Int), Af H H' → H' p = some (.tup [.ref pa, .ref pb]) → H' pa = some (.lst (os.map V.int)) → H' pb = some (.lst (rs.map V.int)) → Q4 fs gs os rs lead (M + os.length * (L + 1)) → Q (.ref p) H') : LP K vs H Q E_3
theorem Cu {l : List Rat} (h : Bi l) : Cv.strip l = l := by
 have e := Cv.take_strip l l.length (fun j q hj e => absurd (SF.mp e).1 (by lia)) (by
  rcases h with h | h
  ·left; rw [h]; rfl
  ·right; exact h)
 rw [TZ] at e
 exact e.symm
theorem Oc {B : Int} {q : Rat} (hB : 0 < B) (h : (q.den : Int) ∣ B) (hq : q ≠ 0) : Ar B q ≠ 0 := fun z => by
 have e := CP h
 rw [z, Vq] at e
 rcases U1.mp e.symm with y | y
 ·exact hq y
 ·exact Nm.cast_ne (show B ≠ 0 by lia) y
theorem GF {B : Int} {qs : List Rat} (h : Bi qs) (hne : qs ≠ []) (hB : 0 < B) (hd : ∀ q ∈ qs, (q.den : Int) ∣ B) : ∃ t, (qs.map (Ar B))[(qs.map (Ar B)).length - 1]? = some t ∧ t ≠ 0 := by
 rcases h with h | ⟨q, e, hq⟩
 ·exact absurd h hne
 ·exact ⟨Ar B q, by rw [T7, T3, e]; rfl, Oc hB (hd q (T5 e)) hq⟩
theorem P4 {t c : Int} (ht : t ≠ 0) (hc : c ≠ 0) : Tv t c ≠ 0 := fun z => by
 rw [TC, Vv] at z
 rcases U1.mp z with y | y
 ·exact Nm.cast_ne ht y
 ·have h1 := Ut _ (Nm.cast_ne hc)
  rw [y, V7] at h1
  exact absurd h1 (by decide)
theorem Kq (ts : List Int) (c : Int) (hc : c ≠ 0) (x : Rat) : Cv.ev (ts.map fun t => Tv t c) x * (c : Rat) = Cv.evI ts x := by
 have e : (ts.map fun t => Tv t c) = (ts.map fun t : Int => (t : Rat)).map (· * (c : Rat)⁻¹) := by
  rw [Vi]
  refine Vj fun t _ => ?_
  show Tv t c = (t : Rat) * (c : Rat)⁻¹
  rw [TC, Vv]
 rw [e, Cv.ev_scale, Us, Rat.inv_mul_cancel _ (Nm.cast_ne hc), Uu]
 rfl
inductive Hr (K : Su) (vs : List V) (H : Hp) (Q : VK) (E_3 : XK) : Prop
 | mk (r u : Addr) (qs ps : List Rat) (g d L : Nat) (h1 : vs = [.ref r, .ref u]) (h2 : Crv K H r qs) (h3 : Crv K H u ps) (h4 : Bi qs) (h5 : ps ≠ []) (h6 : Bi ps) (h7 : (∀ q ∈ qs, Bd g q.num ∧ Bd d (q.den : Int))) (h8 : (∀ q ∈ ps, RB L q)) (h9 : g + 13 * d + 130 * L + 1000 ≤ 50000000) (h10 : qs.length ≤ 7) (h11 : ps.length ≤ 7) (h12 : ∀ (p a b : Addr) (H' : Hp) (os rs : List Rat), Af H H' → H' p = some (.tup [.ref a, .ref b]) → Crv K H' a os → Crv K H' b rs → Bi os → Bi rs → os.length = qs.length + 1 - ps.length → rs.length < ps.length → (∀ x, Cv.ev qs x = Cv.ev os x * Cv.ev ps x + Cv.ev rs x) → (∀ q ∈ os, RB (g + 13 * d + 130 * L + 1000) q) → Q (.ref p) H') : Hr K vs H Q E_3
inductive E7 (K : Su) (vs : List V) (H : Hp) (Q : VK) (E_3 : XK) : Prop
 | mk (r u : Addr) (qs : List Rat) (y : Rat) (m n : Nat) (h1 : vs = [.ref r, .ref u]) (h2 : Crv K H r qs) (h3 : Az K H (.ref u) y) (h4 : (∀ q ∈ qs, RB m q)) (h5 : RB n y) (h6 : m + n ≤ 50000000) (h7 : qs.length ≤ 1000) (h8 : ∀ p H', Af H H' → Crv K H' p (Cv.strip (qs.map (· * y))) → Q (.ref p) H') : E7 K vs H Q E_3
inductive Fp (K : Su) (vs : List V) (H : Hp) (Q : VK) (E_3 : XK) : Prop
 | mk (l : Addr) (ys : List V) (qs : List Rat) (h1 : vs = [.ref l]) (h2 : SqL K H l ys) (h3 : AM H ys qs) (h4 : qs.Nodup) (h5 : qs.length ≤ 17) (h6 : ∀ H', Af H H' → Q (.bl true) H') : Fp K vs H Q E_3
inductive Hs (K : Su) (vs : List V) (H : Hp) (Q : VK) (E_3 : XK) : Prop
 | mk (l : Addr) (few : Int) (ys : List V) (qs : List Rat) (h1 : vs = [.ref l, .int few]) (h2 : SqL K H l ys) (h3 : AM H ys qs) (h4 : qs.Nodup) (h5 : qs.length ≤ 12) (h6 : few ≤ qs.length) (h7 : ∀ H', Af H H' → Q .non H') : Hs K vs H Q E_3
theorem Ei (x : Rat) : ∀ os : List Rat, BM (os ++ [0]) (SV os.length 0 ++ [1]) x = prV x os
 | [] => by show 1 + (x - 0) * 0 = (1 : Rat); grind
 | o :: os => by
   show 0 + (x - o) * BM (os ++ [0]) (SV os.length 0 ++ [1]) x = (x - o) * prV x os
   rw [Ei x os]; grind
theorem Pu (v : V) : ∀ k : Nat, (SV k [v]).flatten = SV k v
 | 0 => rfl
 | k + 1 => by rw [Tj, Tn, Pu v k, Tj]; rfl
theorem IW {K : Su} {H : Hp} {v : V} {q : Rat} (h : Az K H v q) : ∀ k : Nat, Au K H (SV k v) (SV k q)
 | 0 => .nil
 | k + 1 => .cons h (IW h k)
theorem D0 (os : List Rat) : Bi (prL os) := by
 right
 refine ⟨1, ?_, by decide⟩
 have hl := BK os
 have := II os
 rw [U6, Uc (by lia)] at this
 rw [show (prL os).length - 1 = os.length by lia, Uc (by lia)]
 exact congrArg some this
inductive DZ (K : Su) (vs : List V) (H : Hp) (Q : VK) (E_3 : XK) : Prop
 | mk (l : Addr) (zs : List V) (qs : List Rat) (n : Nat) (h1 : vs = [.ref l]) (h2 : H l = some (.lst zs)) (h3 : Au K H zs qs) (h4 : (∀ q ∈ qs, RB n q)) (h5 : 1 ≤ n) (h6 : n ≤ 1000) (h7 : qs.length ≤ 6) (h8 : ∀ (p : Addr) (H' : Hp), Af H H' → Crv K H' p (prL qs) → (∀ q ∈ prL qs, RB (16 * n + 200) q) → Q (.ref p) H') : DZ K vs H Q E_3
theorem GY {D os rs S : List Rat} (gD : Bi D) (go : Bi os) (gr : Bi rs) (hrl : rs.length < (prL S).length) (hev : ∀ x, Cv.ev D x = Cv.ev os x * Cv.ev (prL S) x + Cv.ev rs x) (hn : S.Nodup) (hz : ∀ q ∈ S, Cv.ev D q = 0) : ∀ x, Cv.ev D x = prV x S * Cv.ev os x := by
 obtain ⟨M, hM⟩ := J4 S hn hz
 have hl := BK S
 have h2 : ∀ x, Cv.ev D x = Cv.ev (Cv.strip M) x * Cv.ev (prL S) x + Cv.ev [] x := fun x => by rw [hM x, Cv.ev_strip, Cb]; show _ = _ + 0; grind
 have := div_one (D0 S) (fun z => by rw [z] at hl; cases hl) go (AI M) gr (.inl rfl) hrl (by rw [hl]; exact Uv _) (fun x => by rw [← hev x, ← h2 x])
 intro x
 rw [hev x, this.2, Cb]
 show _ + 0 = _
 grind
theorem Bs {l : List Rat} {w : Rat} (hg : Bi l) (hw : w ≠ 0) : Bi (l.map (· * w)) := by
 rcases hg with h | ⟨q, h1, h2⟩
 ·left; rw [h]; rfl
 ·right
  refine ⟨q * w, by rw [T7, T3, h1]; rfl, fun z => ?_⟩
  rcases U1.mp z with z | z
  ·exact h2 z
  ·exact hw z
inductive Ft (K : Su) (vs : List V) (H : Hp) (Q : VK) (E_3 : XK) : Prop
 | mk (t lp pN pD : Addr) (zs : List V) (qs N D : List Rat) (G nx : Nat) (h1 : vs = [.ref t, .ref lp]) (h2 : SqT K H t [.ref pN, .ref pD]) (h3 : Crv K H pN N) (h4 : Crv K H pD D) (h5 : Bi N) (h6 : Bi D) (h7 : D ≠ []) (h8 : SqL K H lp zs) (h9 : Au K H zs qs) (h10 : qs.Nodup) (h11 : qs.length ≤ 6) (h12 : N.length ≤ 7) (h13 : D.length ≤ 7) (h14 : (∀ c ∈ N, Bd G c.num ∧ Bd 1 (c.den : Int))) (h15 : (∀ c ∈ D, Bd G c.num ∧ Bd 1 (c.den : Int))) (h16 : (∀ q ∈ qs, RB nx q)) (h17 : 1 ≤ nx) (h18 : nx ≤ 1000) (h19 : G ≤ 5000000) (h20 : (∀ q ∈ qs, Cv.ev D q = 0 → Cv.ev N q = 0)) (h21 : ∀ (p a b : Addr) (H' : Hp) (n' d' : List Rat) (c : Rat), Af H H' → H' p = some (.tup [.ref a, .ref b]) → Crv K H' a n' → Crv K H' b d' → Bi n' → Bi d' → d'[d'.length - 1]? = some 1 → c ≠ 0 → (∀ x, Cv.ev N x = c * prV x (qs.filter fun q => decide (Cv.ev D q = 0)) * Cv.ev n' x) → (∀ x, Cv.ev D x = c * prV x (qs.filter fun q => decide (Cv.ev D q = 0)) * Cv.ev d' x) → n'.length ≤ N.length → d'.length ≤ D.length → (∀ q ∈ n', RB (2 * (G + 13 + 130 * (16 * nx + 200) + 1000) + 2) q) → (∀ q ∈ d', RB (2 * (G + 13 + 130 * (16 * nx + 200) + 1000) + 2) q) → Q (.ref p) H') : Ft K vs H Q E_3
inductive Ex (K : Su) (vs : List V) (H : Hp) (Q : VK) (E_3 : XK) : Prop
 | mk (t rx ry pn pd : Addr) (n' d' : List Rat) (x y : Rat) (E nx ny : Nat) (h1 : vs = [.ref t, .ref rx, .ref ry]) (h2 : SqT K H t [.ref pn, .ref pd]) (h3 : Crv K H pn n') (h4 : Crv K H pd d') (h5 : (∀ c ∈ n', RB E c)) (h6 : (∀ c ∈ d', RB E c)) (h7 : n'.length ≤ 13) (h8 : d'.length ≤ 13) (h9 : Az K H (.ref rx) x) (h10 : Az K H (.ref ry) y) (h11 : RB nx x) (h12 : RB ny y) (h13 : E ≤ 3000000) (h14 : nx ≤ 1000) (h15 : ny ≤ 1000000) (h16 : ∀ H', Af H H' → Q (.bl (decide (Cv.ev d' x ≠ 0 ∧ Cv.ev n' x = y * Cv.ev d' x))) H') : Ex K vs H Q E_3
inductive Fv (K : Su) (vs : List V) (H : Hp) (Q : VK) (E_3 : XK) : Prop
 | mk (lp lh : Addr) (zs ys : List V) (qs : List Rat) (h1 : vs = [.ref lp, .ref lh]) (h2 : SqL K H lp zs) (h3 : AM H zs qs) (h4 : qs.Nodup) (h5 : 1 ≤ qs.length) (h6 : qs.length ≤ 12) (h7 : SqL K H lh ys) (h8 : ys.length = zs.length) (h9 : ∀ H', Af H H' → Q .non H') : Fv K vs H Q E_3
theorem Dq {L : List Rat} {a : Nat} (h : ∀ j, a ≤ j → L.getD j 0 = 0) : (Cv.strip L).length ≤ a := by
 rcases Va a (Cv.strip L).length with z | z
 ·exfalso
  have hne : Cv.strip L ≠ [] := fun e => by rw [e] at z; cases z
  have hl := Cv.strip_last L hne
  have hc := Jb (l := Cv.strip L) (m := L) (fun k => Cv.ev_strip _ L) ((Cv.strip L).length - 1)
  rw [h _ (by lia), U6, Uc (by lia)] at hc
  exact hl (by rw [Uc (by lia)]; exact congrArg some hc)
 ·exact z
theorem ND {K : Su} {a b : Addr} {js : List Nat} {xs ys : List V} {tc : TT} {te : TE} {σ : St} {H : Hp} {Fin : List V → Hp → Prop} (Pv : Nat → List V → Hp → Prop) (h0 : Pv 0 [] H)
 (hl : ∀ i zs H, i ≤ min xs.length ys.length → Pv i zs H → SqL K H a xs ∧ SqL K H b ys ∧ zs.length ≤ i) (hz : min xs.length ys.length ≤ sizeLine)
 (hs : ∀ i x y T zs H, xs[i]? = some x → ys[i]? = some y → H T = none → Pv i zs H → tc (((cS 2 js σ).set 0 (some x)).set 1 (some y)) (upd H T (.tup [x, y])) fun b H3 => if b = true then te (((cS 2 js σ).set 0 (some x)).set 1 (some y)) H3 fun y H4 => Pv (i + 1) (zs ++ [y]) H4 else Pv (i + 1) zs H3) (fin : ∀ zs H', Pv (min xs.length ys.length) zs H' → Fin zs H') :
 ∃ (n' : Nat) (W : Nat → List V → Hp → Prop), W 0 [] H ∧ LcW (Itz K a b xs ys) n' 2 js σ (Lk K 2 (FZ (Cy 0) (FZ (Cy 1) NK))) tc te Fin W := by
 refine ⟨min xs.length ys.length, Pv, h0, ⟨?_, ?_, ?_⟩⟩
 ·intro i zs H' hi p
  obtain ⟨h1, h2, h3⟩ := hl i zs H' (Sw hi) p
  exact ⟨⟨h1, h2, hi⟩, by lia⟩
 ·rintro i zs H' x H1 hi p ⟨T, x1, y1, hx, hy, hT, rfl, rfl⟩
  exact ⟨T, _, rfl, SqT.of Aa, rfl, _, _, rfl, _, _, rfl, rfl, hs i x1 y1 T zs _ hx hy hT p⟩
 ·intro zs H' p
  obtain ⟨h1, h2, h3⟩ := hl _ zs H' (SK _) p
  exact ⟨⟨h1, h2, SK _⟩, by lia, fin zs H' p⟩
def AV (qs hs n' d' : List Rat) : List Rat := ((qs.zip hs).filter fun p => !decide (Cv.ev d' p.1 ≠ 0 ∧ Cv.ev n' p.1 = p.2 * Cv.ev d' p.1)).map Prod.fst
inductive LM (K : Su) (Pt : Addr) (vs : List V) (H : Hp) (Q : VK) (E_3 : XK) : Prop
 | mk (lp lh : Addr) (zs ys : List V) (qs hs : List Rat) (W n nx ny C : Nat) (h1 : vs = [.ref lp, .ref lh, .int (W : Int)]) (h2 : SqL K H lp zs) (h3 : AM H zs qs) (h4 : SqL K H lh ys) (h5 : Au K H ys hs) (h6 : qs.length = n) (h7 : hs.length = n) (h8 : 1 ≤ n) (h9 : n ≤ 6) (h10 : qs.Nodup) (h11 : 1 ≤ W) (h12 : W ≤ n) (h13 : (∀ c ∈ qs, RB nx c)) (h14 : (∀ c ∈ hs, RB ny c)) (h15 : 1 ≤ nx) (h16 : nx ≤ 35) (h17 : ny ≤ 1000000) (h18 : (nx + 1) * (n + 3) + ny + 2 ≤ C) (h19 : (gAS C n).2 + 3 * C ≤ 20000) (h20 : CF Pt FE H) (h21 : ∀ (t a b l : Addr) (H' : Hp) (r1 r2 : Int) (N D N2 D2 n' d' rs : List Rat) (ls : List V) (c : Rat), C2 Pt H H' → CF Pt FE H' → SqT K H' t [.ref a, .ref b, .ref l] → Crv K H' a n' → Crv K H' b d' → Bi n' → Bi d' → d'[d'.length - 1]? = some 1 → c ≠ 0 → Ck (W : Int) ((n : Int) + 1 - W) n (qs.zip hs) r1 r2 N D N2 D2 → Cv.strip D ≠ [] → (∀ x, Cv.ev N x = c * prV x (qs.filter fun q => decide (Cv.ev D q = 0)) * Cv.ev n' x) → (∀ x, Cv.ev D x = c * prV x (qs.filter fun q => decide (Cv.ev D q = 0)) * Cv.ev d' x) → n'.length ≤ W → d'.length ≤ n + 1 - W → H' l = some (.lst ls) → Au K H' ls rs → rs.Perm (AV qs hs n' d') → rs.Pairwise (· ≤ ·) → (∀ q ∈ n', RB 240000 q) → (∀ q ∈ d', RB 240000 q) → Q (.ref t) H') : LM K Pt vs H Q E_3
inductive Fu (K : Su) (Pt : Addr) (vs : List V) (H : Hp) (Q : VK) (E_3 : XK) : Prop
 | mk (a : Addr) (ns : List Int) (h1 : vs = [.ref a]) (h2 : SqL K H a (ns.map V.int)) (h3 : ns.length ≤ 63) (h4 : H Pt = some (.tbl #[])) (h5 : ∀ H', Q (.bl true) H') : Fu K Pt vs H Q E_3
theorem LF {Pt p : Addr} {ps : Array Value} {H H' : Hp} (e : H Pt = some (.tbl ps)) (pn : Pen H p) (m : Mv p H H') : H' Pt = some (.tbl ps) := m _ _ (pn.ne e fun _ _ _ z => by cases z) e
theorem P5 {Pt : Addr} {q : Str} {H : Hp} (e : H Pt = some (.tbl #[])) : CF Pt q H := ⟨#[], e, trivial, fun pos cv z => by cases z⟩
theorem NH {b : Rat} (h : b ≠ 0) : Tv (b.den : Int) b.num * b = 1 := by
 have hn : b.num ≠ 0 := fun z => h (Vl.mp z)
 have e : Tv (b.den : Int) b.num = 1 / b := Nm.div_eq hn (by
  have hb : (1 / b) * b = 1 := TF h
  rw [Nm.num_mul b]
  grind)
 rw [e]
 exact TF h
theorem KW {Pt : Addr} {q : Str} {H H' : Hp} {xs : List V} {qs : List Rat} (h : AM H xs qs) (c : CF Pt q H) (m : C2 Pt H H') : AM H' xs qs := Paired.mapP h fun _ _ ⟨r, e, z⟩ => ⟨r, e, m _ _ (fun y => by
 obtain ⟨ps, e2, _⟩ := c
 rw [y, e2] at z; cases z) z⟩
theorem OI (k : Int) : nT ((k : Int) : Rat) = .tup [.int k, .int 1] := by
 unfold nT
 rw [Vr, Vs]
 rfl
theorem NJ {a b : Int} (h : ((a : Int) : Rat) = ((b : Int) : Rat)) : a = b := by
 have := congrArg Rat.num h
 rw [Vr, Vr] at this
 exact this
theorem NC {L M N : List Rat} (gL : Bi L) (gM : Bi M) (gN : Bi N) (hM : M ≠ []) (hN : N ≠ []) (e : ∀ x, Cv.ev L x = Cv.ev M x * Cv.ev N x) : L.length + 1 = M.length + N.length := by
 have := AW gL (DD gM gN hM hN) fun x => by rw [e x, AF]
 have h1 := TQ.mpr hM
 have h2 := TQ.mpr hN
 rw [this, By _ (by lia) _ (by lia)]
 lia
section
variable {X : Cx}
end
theorem PX {Pt p : Addr} {q : Str} {H H' : Hp} (c : CF Pt q H) (pn : Pen H p) (m : Mv p H H') : CF Pt q H' := by
 obtain ⟨ps, e, t, c⟩ := c
 refine ⟨ps, LF e pn m, t, fun pos cv z => ?_⟩
 obtain ⟨c', e', z'⟩ := c pos cv z
 exact ⟨c', e', m _ _ (pn.ne z' fun _ _ _ z => by cases z) z'⟩
theorem Nq {Pt p : Addr} {q : Str} {H H' : Hp} (pn : Pen H p) (c : CF Pt q H) (m : C2 Pt H H') : Pen H' p := by
 obtain ⟨ps, e, _⟩ := c
 obtain ⟨c0, c1, k, z⟩ := pn
 exact ⟨c0, c1, k, m _ _ (fun y => by rw [y, e] at z; cases z) z⟩
theorem HZ {Pt l : Addr} {q : Str} {H H' : Hp} {zs : List V} (e : H l = some (.lst zs)) (c : CF Pt q H) (m : C2 Pt H H') : H' l = some (.lst zs) := by
 obtain ⟨ps, e2, _⟩ := c
 exact m _ _ (fun y => by rw [y, e2] at e; cases e) e
theorem Lb {d' : List Rat} (h : d'.length ≤ 1) (hl : d'[d'.length - 1]? = some 1) : d' = [1] := by
 match d', h, hl with
 | [a], _, hl => cases hl; rfl
theorem Nk {W n : Nat} {qs hs N D N2 D2 d' : List Rat} {r1 r2 : Int} {c : Rat} {k : Nat} (I : Ck (W : Int) ((n : Int) + 1 - W) n (qs.zip hs) r1 r2 N D N2 D2) (hD : ∀ j, k ≤ j → D.getD j 0 = 0) (hc : c ≠ 0) (gd : Bi d') (hd : d' ≠ [])
 (evD : ∀ x, Cv.ev D x = c * prV x (qs.filter fun q => decide (Cv.ev D q = 0)) * Cv.ev d' x) : d'.length + (qs.filter fun q => decide (Cv.ev D q = 0)).length ≤ k := by
 have hDl : (Cv.strip D).length ≤ k := Dq hD
 generalize qs.filter (fun q => decide (Cv.ev D q = 0)) = S at evD ⊢
 have gS : Bi ((prL S).map (· * c)) := Bs (D0 S) hc
 have hS : (prL S).map (· * c) ≠ [] := fun z => by
  have hl := congrArg SW z
  rw [T7, BK] at hl
  cases hl
 have := NC (AI D) gS gd hS hd fun x => by rw [Cv.ev_strip, evD x, Cv.ev_scale, Cb]; grind
 rw [T7, BK] at this
 lia
theorem Kp {L : List Rat} {j : Nat} (h : L.length ≤ j) : L.getD j 0 = 0 := by rw [U6, Ux h]; rfl
theorem JW {n : Nat} {qs hs N D N2 D2 n' d' : List Rat} {r1 r2 : Int} {c : Rat} (hql : qs.length = n) (hhl : hs.length = n)
 (I : Ck (n : Int) ((n : Int) + 1 - n) n (qs.zip hs) r1 r2 N D N2 D2) (hc : c ≠ 0) (gd : Bi d') (hlast : d'[d'.length - 1]? = some 1)
 (evN : ∀ x, Cv.ev N x = c * prV x (qs.filter fun q => decide (Cv.ev D q = 0)) * Cv.ev n' x) (evD : ∀ x, Cv.ev D x = c * prV x (qs.filter fun q => decide (Cv.ev D q = 0)) * Cv.ev d' x) :
 d' = [1] ∧ (∀ i (h : i < n), Cv.ev n' (qs[i]'(by lia)) = hs[i]'(by lia)) ∧ AV qs hs n' d' = [] := by
 have hd : d' ≠ [] := fun z => by rw [z] at hlast; cases hlast
 have hzl : (qs.zip hs).length = n := by rw [Vf]; lia
 have hr := I.fin hzl
 have hlow := Nk (k := 1) I (fun j hj => I.le1.2 j (by lia)) hc gd hd evD
 have hdl := TQ.mpr hd
 have ed := Lb (by lia) hlast
 have hS : qs.filter (fun q => decide (Cv.ev D q = 0)) = [] := U0 (by lia)
 rw [hS] at evN evD
 have e1 : ∀ x, Cv.ev d' x = (1 : Rat) := fun x => by rw [ed]; show 1 + x * 0 = (1 : Rat); grind
 have hat : ∀ i (h : i < n), Cv.ev n' (qs[i]'(by lia)) = hs[i]'(by lia) := fun i h => by
  have hm : (qs[i]'(by lia), hs[i]'(by lia)) ∈ qs.zip hs := by
   have : (qs.zip hs)[i]'(by lia) = (qs[i]'(by lia), hs[i]'(by lia)) := Vw ..
   rw [← this]; exact Ud _
  have h1 : Cv.ev N (qs[i]'(by lia)) = hs[i]'(by lia) * Cv.ev D (qs[i]'(by lia)) := I.on1 _ hm
  rw [evN, evD, e1] at h1
  have h2 : c * (Cv.ev n' (qs[i]'(by lia)) - hs[i]'(by lia)) = 0 := by
   have p1 : prV (qs[i]'(by lia)) [] = 1 := rfl
   rw [p1] at h1
   grind
  rcases U1.mp h2 with w | w
  ·exact absurd w hc
  ·grind
 refine ⟨ed, hat, ?_⟩
 unfold AV
 have : (qs.zip hs).filter (fun p => !decide (Cv.ev d' p.1 ≠ 0 ∧ Cv.ev n' p.1 = p.2 * Cv.ev d' p.1)) = [] := by
  rw [List.filter_eq_nil_iff]
  intro pr hpr
  obtain ⟨i, hi, rfl⟩ := Vc hpr
  rw [show (qs.zip hs)[i] = (qs[i]'(by lia), hs[i]'(by lia)) from Vw ..]
  show ¬ (!decide (Cv.ev d' (qs[i]'(by lia)) ≠ 0 ∧ Cv.ev n' (qs[i]'(by lia)) = (hs[i]'(by lia)) * Cv.ev d' (qs[i]'(by lia)))) = true
  rw [e1, hat i (by lia), decide_eq_true ⟨by decide, by rw [Uu]⟩]
  decide
 rw [this]; rfl
theorem eq3 {K : Su} {H : Hp} {a b a1 a2 b1 b2 l1 l2 : Addr} {us vs : List V} {os rs ls : List Rat} {Q : VK} {neg : Bool} (h1 : SqT K H a [.ref a1, .ref a2, .ref l1]) (c1 : Crv K H a1 os) (c2 : Crv K H a2 rs) (s1 : SqL K H l1 us) (n1 : Au K H us ls) (h2 : SqT K H b [.ref b1, .ref b2, .ref l2]) (d1 : Crv K H b1 os) (d2 : Crv K H b2 rs) (s2 : SqL K H l2 vs) (n2 : Au K H vs ls)
 (h : Q (.bl (if neg then !true else true)) H) : F0 K neg (.ref a) (.ref b) H Q := by
 have rd : ∀ {p1 p2 p3 : Addr} {us : List V}, Crv K H p1 os → Crv K H p2 rs → SqL K H p3 us → Au K H us ls → ∀ (i : Nat) (x : V) (d : PyData), [V.ref p1, V.ref p2, V.ref p3][i]? = some x → ([.tuple (os.map nD), .tuple (rs.map nD), .list (ls.map nD)] : List PyData)[i]? = some d → Rds K H x d := by
  rintro p1 p2 p3 us ⟨xs, s, n⟩ ⟨ys, s', n'⟩ s3 n3 i x d e1 e2
  match i with
  | 0 => simp at e1 e2; subst e1; subst e2; exact n.rdsT s
  | 1 => simp at e1 e2; subst e1; subst e2; exact n'.rdsT s'
  | 2 => simp at e1 e2; subst e1; subst e2; exact n3.rdsL s3
  | i + 3 => simp at e1
 have sh : SeqAt.shaped (.tuple [.tuple (os.map nD), .tuple (rs.map nD), .list (ls.map nD)]) = true := by
  show ((PyData.canLayAll0 (os.map nD) && (PyData.canLayAll0 (rs.map nD) && (PyData.canLayAll0 (ls.map nD) && true))) && decide (max (PyData.depthAll (os.map nD) + 1) (max (PyData.depthAll (rs.map nD) + 1) (max (PyData.depthAll (ls.map nD) + 1) 0)) + 1 ≤ 64)) = true
  have h1 := CZ os
  have h2 := CZ rs
  have h3 := CZ ls
  rw [Ej, Ej, Ej, decide_eq_true (by lia)]; rfl
 refine Ii ⟨_, _, .tup h1 rfl (rd c1 c2 s1 n1), .tup h2 rfl (rd d1 d2 s2 n2), sh, sh, ?_⟩
 have e : PyData.eqv (.tuple [.tuple (os.map nD), .tuple (rs.map nD), .list (ls.map nD)]) (.tuple [.tuple (os.map nD), .tuple (rs.map nD), .list (ls.map nD)]) = true := by
  show (PyData.eqvAll (os.map nD) (os.map nD) && (PyData.eqvAll (rs.map nD) (rs.map nD) && (PyData.eqvAll (ls.map nD) (ls.map nD) && true))) = true
  rw [DQ, DQ, DQ, decide_eq_true rfl, decide_eq_true rfl, decide_eq_true rfl]; rfl
 rw [e]; exact h
section
variable {X : Cx}
inductive K4 (x : V) (vs : List V) (H : Hp) (Q : VK) : Prop
 | mk (l : _) (xs : _) (i : _) (k : _) (y : _) (h1 : x = .ref l) (h2 : vs = [.int i, y]) (h3 : i = ((k : Nat) : Int)) (h4 : H l = some (.lst xs)) (h5 : k ≤ xs.length) (h6 : xs.length ≤ 1000) (h7 : Q .non (upd H l (.lst (xs.take k ++ y :: xs.drop k)))) : K4 x vs H Q
theorem Mw {i : Int} {k : Nat} (e : i = (k : Int)) (h : k ≤ 1000) : ¬ (!Builtin.List.listFitsIndex i) = true := by
 have e : Builtin.List.listFitsIndex i = true := by
  unfold Builtin.List.listFitsIndex
  rw [decide_eq_true (by lia), decide_eq_true (by lia)]; rfl
 rw [e]; decide
theorem OV (l : List Value) (i : Int) (k : Nat) (hi : i = (k : Int)) (hk : k ≤ l.length) (y : Value) : (fun xs : Array Value => have k := if i < 0 then (i + (xs.size : Int)).toNat else min i.toNat xs.size; (xs.extract 0 k).push y ++ xs.extract k) l.toArray = (l.take k ++ y :: l.drop k).toArray := by
 have e : (if i < 0 then (i + (l.toArray.size : Int)).toNat else min i.toNat l.toArray.size) = k := by
  rw [if_neg (by lia), Th, hi, Td, Te hk]
 show (l.toArray.extract 0 _).push y ++ l.toArray.extract _ = _
 rw [e]
 apply Array.toList_inj.mp
 simp
 exact UB (by simp)
theorem L0 : MtM X "list.insert" K4 := by
 intro pins s σ H x vs v us Q I rx rv h
 obtain ⟨l, xs, i, k, y, rfl, rfl, hi, hH, hk, hz, q⟩ := h
 cases rx
 obtain ⟨u, v', rfl, ru, rv'⟩ := rv.two
 obtain ⟨t, rfl⟩ := ru
 obtain ⟨z, its, n, r, hl, e⟩ := I.lstM hH
 have hk1 : k ≤ 1000 := by lia
 have hsz : its.toArray.size ≤ sizeLine := by rw [Th, ← hl]; exact z
 have M := AutoSeq1.list_insert_list_int_val_1 l its.toArray n i t v' (Mw hi hk1) hsz
 refine call_meets F.slot_list_insert ⟨_, e, rfl⟩ F.entry_list_insert (F.args_list_insert_3 _ _ _) M ⟨e, ?_⟩
 refine ⟨.non, _, I.lset (its' := its.take k ++ v' :: its.drop k) hH e (OV its i k hi (by lia) v') ((r.take k).append (.cons rv' (r.drop k))) ?_, rfl, q⟩
 have hs : 1000 < sizeLine := AN (SK _)
 rw [T6, TR, SX, Tg]
 lia
end
inductive Ho (K : Su) (vs : List V) (H : Hp) (Q : VK) (E_3 : XK) : Prop
 | mk (ra rb : Addr) (qs rs : List Rat) (m n : Nat) (h1 : vs = [.ref ra, .ref rb]) (h2 : Crv K H ra qs) (h3 : Crv K H rb rs) (h4 : (∀ q ∈ qs, RB m q)) (h5 : (∀ q ∈ rs, RB n q)) (h6 : m + n ≤ 7300000) (h7 : qs.length ≤ 6) (h8 : rs.length ≤ 6) (h9 : 1 ≤ rs.length) (h10 : ∀ p H' cs, Af H H' → Crv K H' p cs → Bi cs → (∀ X, Cv.ev cs X = Cv.ev qs X * Cv.ev rs X) → Q (.ref p) H') : Ho K vs H Q E_3
structure QR (W n : Nat) (qs hs n' d' : List Rat) : Prop where
 gn : Bi n'
 gd : Bi d'
 last : d'[d'.length - 1]? = some 1
 ln : n'.length ≤ W
 ld : d'.length ≤ n + 1 - W
 raw : ∃ (r1 r2 : Int) (N D N2 D2 : List Rat) (c : Rat), Ck (W : Int) ((n : Int) + 1 - W) n (qs.zip hs) r1 r2 N D N2 D2 ∧ Cv.strip D ≠ [] ∧ c ≠ 0 ∧ (∀ x, Cv.ev N x = c * prV x (qs.filter fun q => decide (Cv.ev D q = 0)) * Cv.ev n' x) ∧ (∀ x, Cv.ev D x = c * prV x (qs.filter fun q => decide (Cv.ev D q = 0)) * Cv.ev d' x)
theorem Hi {n : Nat} {qs hs : List Rat} (hql : qs.length = n) (hhl : hs.length = n) {i : Nat} (h : i < n) : (qs[i]'(by lia), hs[i]'(by lia)) ∈ qs.zip hs := by
 have : (qs.zip hs)[i]'(by rw [Vf]; lia) = (qs[i]'(by lia), hs[i]'(by lia)) := Vw ..
 rw [← this]; exact Ud _
theorem Np {x : Rat} {S : List Rat} (h : x ∈ S) : ∃ S', ∀ t, prV t S = (t - x) * prV t S' := by
 obtain ⟨s1, s2, rfl⟩ := List.append_of_mem h
 refine ⟨s1 ++ s2, fun t => ?_⟩
 clear h
 induction s1 with
 | nil => rfl
 | cons o r ih =>
   show (t - o) * prV t (r ++ x :: s2) = (t - x) * ((t - o) * prV t (r ++ s2))
   rw [ih]; grind
theorem Fm {S : List Rat} {c : Rat} (hc : c ≠ 0) : Cv.strip ((prL S).map (· * c)) ≠ [] := fun z => by
 have gg : Bi ((prL S).map (· * c)) := Bs (D0 S) hc
 rw [Cu gg] at z
 have hl := congrArg SW z
 rw [T7, BK] at hl
 cases hl
section
variable {W n : Nat} {qs hs n1 d1 : List Rat}
theorem QR.ne (h : QR W n qs hs n1 d1) : d1 ≠ [] := fun z => by
 have := h.last
 rw [z] at this; cases this
theorem QR.apart (h : QR W n qs hs n1 d1) (hql : qs.length = n) (hhl : hs.length = n) (hnd : qs.Nodup) {x : Rat} (hx : x ∈ qs) : ¬ (Cv.ev n1 x = 0 ∧ Cv.ev d1 x = 0) := fun ⟨hn0, z⟩ => by
 obtain ⟨r1, r2, N, D, N2, D2, c, I, hD, hc, evN, evD⟩ := h.raw
 have hld := h.ld
 have hln := h.ln
 have h1 := TQ.mpr h.ne
 have hfst : (qs.zip hs).map Prod.fst = qs := Vx (by lia)
 have hD0 : Cv.ev D x = 0 := by rw [evD, z, V7]
 have hxS : x ∈ qs.filter (fun q => decide (Cv.ev D q = 0)) := Sr.mpr ⟨hx, decide_eq_true hD0⟩
 obtain ⟨S', hS'⟩ := Np hxS
 have hm : ∃ y, (x, y) ∈ qs.zip hs := by
  obtain ⟨i, hi, rfl⟩ := Vc hx
  exact ⟨_, Hi hql hhl (by lia)⟩
 refine I.once (by lia) (by rw [hfst]; exact hnd) hD (x := x) (A := C9 ((prL S').map (· * c)) n1) (B := C9 ((prL S').map (· * c)) d1) (fun t => ?_) (fun t => ?_) hm ⟨?_, ?_⟩
 ·rw [evN, hS', AF, Cv.ev_scale, Cb]; grind
 ·rw [evD, hS', AF, Cv.ev_scale, Cb]; grind
 ·rw [AF, hn0, V7]
 ·rw [AF, z, V7]
theorem QR.cross (h : QR W n qs hs n1 d1) (hql : qs.length = n) (hhl : hs.length = n) (hnd : qs.Nodup) (hWn : W ≤ n) {A U : List Rat} (hA : A.length ≤ W) (hU : U.length ≤ n + 1 - W)
 (hon : ∀ i (h : i < n), Cv.ev A (qs[i]'(by lia)) = (hs[i]'(by lia)) * Cv.ev U (qs[i]'(by lia))) : ∀ x, Cv.ev n1 x * Cv.ev U x = Cv.ev A x * Cv.ev d1 x := fun x => by
 obtain ⟨r1, r2, N, D, N2, D2, c, I, hD, hc, evN, evD⟩ := h.raw
 have hzl : (qs.zip hs).length = n := by rw [Vf]; lia
 have hr1 := I.fin hzl
 have leA : CC (W : Int) ((n : Int) + 1 - W) 1 A U := ⟨fun j hj => Kp (by lia), fun j hj => Kp (by lia)⟩
 have key := Er (qs := qs) I.le1 leA (n := n) (by lia) (by lia) hnd fun x hx => by
  obtain ⟨i, hi, rfl⟩ := Vc hx
  have h1 : Cv.ev N qs[i] = hs[i]'(by lia) * Cv.ev D qs[i] := I.on1 _ (Hi hql hhl (by lia))
  rw [h1, hon i (by lia)]; grind
 have := CM (D := (prL (qs.filter fun q => decide (Cv.ev D q = 0))).map (· * c)) (A := C9 n1 U) (B := C9 A d1) (Fm hc) (fun x => by
  rw [Cv.ev_scale, Cb, AF, AF]
  have k := key x
  rw [evN, evD] at k
  grind) x
 rw [AF, AF] at this
 exact this
theorem QR.pair (h : QR W n qs hs n1 d1) (hql : qs.length = n) (hhl : hs.length = n) (hWn : W ≤ n) : ∃ A U P : List Rat, A.length ≤ W ∧ U.length ≤ n + 1 - W ∧ Cv.strip P ≠ [] ∧ (∀ i (h : i < n), Cv.ev A (qs[i]'(by lia)) = (hs[i]'(by lia)) * Cv.ev U (qs[i]'(by lia))) ∧
 (∀ x, Cv.ev A x = Cv.ev P x * Cv.ev n1 x) ∧ (∀ x, Cv.ev U x = Cv.ev P x * Cv.ev d1 x) := by
 obtain ⟨r1, r2, N, D, N2, D2, c, I, hD, hc, evN, evD⟩ := h.raw
 have hzl : (qs.zip hs).length = n := by rw [Vf]; lia
 have hr1 := I.fin hzl
 refine ⟨Cv.strip N, Cv.strip D, (prL (qs.filter fun q => decide (Cv.ev D q = 0))).map (· * c), Dq fun j hj => I.le1.1 j (by lia), Dq fun j hj => I.le1.2 j (by lia), Fm hc, fun i hi => ?_, fun x => ?_, fun x => ?_⟩
 ·rw [Cv.ev_strip, Cv.ev_strip]
  exact I.on1 _ (Hi hql hhl hi)
 ·rw [Cv.ev_strip, Cv.ev_scale, Cb, evN]; grind
 ·rw [Cv.ev_strip, Cv.ev_scale, Cb, evD]; grind
end
theorem GN {n1 d1 n2 d2 y : Rat} (rel : n1 * d2 = n2 * d1) (h1 : ¬ (n1 = 0 ∧ d1 = 0)) (h2 : ¬ (n2 = 0 ∧ d2 = 0)) : (d1 ≠ 0 ∧ n1 = y * d1) ↔ (d2 ≠ 0 ∧ n2 = y * d2) := by
 have one : ∀ {n1 d1 n2 d2 : Rat}, n1 * d2 = n2 * d1 → ¬ (n2 = 0 ∧ d2 = 0) → (d1 ≠ 0 ∧ n1 = y * d1) → (d2 ≠ 0 ∧ n2 = y * d2) := fun {n1 d1 n2 d2} rel h2 ⟨a, b⟩ => by
  have e : n2 = y * d2 := by
   have : (n2 - y * d2) * d1 = 0 := by rw [b] at rel; grind
   rcases U1.mp this with z | z
   ·grind
   ·exact absurd z a
  refine ⟨fun z => h2 ⟨by rw [e, z, V7], z⟩, e⟩
 exact ⟨one rel h2, one (by rw [rel.symm]) h1⟩
theorem El {n1 d1 n2 d2 : List Rat} (f : Rat → Rat) : ∀ (qs hs gs : List Rat), hs.length = gs.length →
 (∀ (i : Nat) x y z, qs[i]? = some x → hs[i]? = some y → gs[i]? = some z → ((Cv.ev d1 x ≠ 0 ∧ Cv.ev n1 x = y * Cv.ev d1 x) ↔ (Cv.ev d2 (f x) ≠ 0 ∧ Cv.ev n2 (f x) = z * Cv.ev d2 (f x)))) → AV (qs.map f) gs n2 d2 = (AV qs hs n1 d1).map f
 | [], _, _, _, _ => rfl
 | x :: qs, [], [], _, _ => by unfold AV; rw [Tq, Ve, Ve]; rfl
 | x :: qs, y :: hs, z :: gs, hl, h => by
   have ih := El f qs hs gs (Nat.succ.inj hl) fun i a b c e1 e2 e3 => h (i + 1) a b c (by simpa using e1) (by simpa using e2) (by simpa using e3)
   have h0 := h 0 x y z rfl rfl rfl
   have e1 : AV (x :: qs) (y :: hs) n1 d1 = (if (Cv.ev d1 x ≠ 0 ∧ Cv.ev n1 x = y * Cv.ev d1 x) then [] else [x]) ++ AV qs hs n1 d1 := by
    unfold AV
    rw [List.zip_cons_cons]
    by_cases w : (Cv.ev d1 x ≠ 0 ∧ Cv.ev n1 x = y * Cv.ev d1 x)
    ·rw [Vy (by show ¬ (!decide (Cv.ev d1 x ≠ 0 ∧ Cv.ev n1 x = y * Cv.ev d1 x)) = true; rw [decide_eq_true w]; decide), if_pos w]; rfl
    ·rw [Vz (by show (!decide (Cv.ev d1 x ≠ 0 ∧ Cv.ev n1 x = y * Cv.ev d1 x)) = true; rw [decide_eq_false w]; rfl), if_neg w]; rfl
   have e2 : AV (f x :: qs.map f) (z :: gs) n2 d2 = (if (Cv.ev d2 (f x) ≠ 0 ∧ Cv.ev n2 (f x) = z * Cv.ev d2 (f x)) then [] else [f x]) ++ AV (qs.map f) gs n2 d2 := by
    unfold AV
    rw [List.zip_cons_cons]
    by_cases w : (Cv.ev d2 (f x) ≠ 0 ∧ Cv.ev n2 (f x) = z * Cv.ev d2 (f x))
    ·rw [Vy (by show ¬ (!decide (Cv.ev d2 (f x) ≠ 0 ∧ Cv.ev n2 (f x) = z * Cv.ev d2 (f x))) = true; rw [decide_eq_true w]; decide), if_pos w]; rfl
    ·rw [Vz (by show (!decide (Cv.ev d2 (f x) ≠ 0 ∧ Cv.ev n2 (f x) = z * Cv.ev d2 (f x))) = true; rw [decide_eq_false w]; rfl), if_neg w]; rfl
   rw [Tq, e2, e1, ih, TY]
   by_cases w : (Cv.ev d1 x ≠ 0 ∧ Cv.ev n1 x = y * Cv.ev d1 x)
   ·rw [if_pos w, if_pos (h0.mp w)]; rfl
   ·rw [if_neg w, if_neg (fun v => w (h0.mpr v))]; rfl
section
variable {W n : Nat} {qs hs n1 d1 n2 d2 : List Rat}
theorem QR.turned (h1 : QR W n qs hs n1 d1) {gs : List Rat} (h2 : QR (n + 1 - W) n qs gs n2 d2) (hql : qs.length = n) (hhl : hs.length = n) (hgl : gs.length = n) (hnd : qs.Nodup) (hW1 : 1 ≤ W) (hWn : W ≤ n)
 (hg : ∀ i (h : i < n), gs[i]'(by lia) * hs[i]'(by lia) = 1) : (∀ x, Cv.ev n1 x * Cv.ev n2 x = Cv.ev d2 x * Cv.ev d1 x) ∧ AV qs gs n2 d2 = AV qs hs n1 d1 ∧ n2 ≠ [] := by
 obtain ⟨A, U, P, lA, lU, hP, hon, eA, eU⟩ := h2.pair hql hgl (by lia)
 have cr := h1.cross hql hhl hnd hWn (A := U) (U := A) (by lia) (by lia) fun i hi => by
  have e := hon i hi
  have g := hg i hi
  have : hs[i]'(by lia) * (gs[i]'(by lia) * Cv.ev U (qs[i]'(by lia))) = (gs[i]'(by lia) * hs[i]'(by lia)) * Cv.ev U (qs[i]'(by lia)) := by grind
  rw [e, this, g, Vd]
 have rel : ∀ x, Cv.ev n1 x * Cv.ev n2 x = Cv.ev d2 x * Cv.ev d1 x := fun x => by
  have := CM (D := P) (A := C9 n1 n2) (B := C9 d2 d1) hP (fun x => by
   rw [AF, AF]
   have k := cr x
   rw [eA, eU] at k
   grind) x
  rw [AF, AF] at this
  exact this
 refine ⟨rel, ?_, fun z => ?_⟩
 ·have := El (n1 := n1) (d1 := d1) (n2 := n2) (d2 := d2) (fun x => x) qs hs gs (by lia) fun i x y z e1 e2 e3 => by
   have hx := T5 e1
   have hi := (SF.mp e1).1
   have g := hg i (by lia)
   rw [(SF.mp e2).2, (SF.mp e3).2] at g
   have r := GN (y := y) (n1 := Cv.ev n1 x) (d1 := Cv.ev d1 x) (n2 := Cv.ev d2 x) (d2 := Cv.ev n2 x) (rel x) (h1.apart hql hhl hnd hx) (fun w => h2.apart hql hgl hnd hx ⟨w.2, w.1⟩)
   refine r.trans ⟨fun ⟨a, b⟩ => ?_, fun ⟨a, b⟩ => ?_⟩
   ·have e : Cv.ev n2 x = z * Cv.ev d2 x := by rw [b]; grind
    exact ⟨fun w => a (by rw [e, w, V7]), e⟩
   ·have e : Cv.ev d2 x = y * Cv.ev n2 x := by
     rw [b]
     have : y * (z * Cv.ev d2 x) = (z * y) * Cv.ev d2 x := by grind
     rw [this, g, Vd]
    exact ⟨fun w => a (by rw [e, w, V7]), e⟩
  rw [VA] at this
  rw [this, VA]
 ·have l1 := TQ.mpr h1.ne
  have l2 := TQ.mpr h2.ne
  have gm := DD h2.gd h1.gd h2.ne h1.ne
  have := AW gm (.inl rfl) fun x => by rw [AF, ← rel x, z]; show _ * (0 : Rat) = 0; rw [V7]
  have hl := congrArg SW this
  rw [By _ (by lia) _ (by lia), Uy] at hl
  lia
theorem Gh (a b : Rat) : ∀ l : List Rat, (CB a b l).length = l.length
 | [] => rfl
 | q :: r => by
   have ih := Gh a b r
   show (match CB a b r with | [] => [q] | c :: s => (q + b * c) :: goL a b c s).length = r.length + 1
   cases e : CB a b r with
   | nil => rw [e] at ih; show 1 = r.length + 1; rw [← ih]; rfl
   | cons c s => rw [e] at ih; show (goL a b c s).length + 1 = r.length + 1; rw [GU]; rw [← ih]; rfl
theorem QR.sent {a b : Rat} (ha : a ≠ 0) (h1 : QR W n qs hs n1 d1) (h2 : QR W n (qs.map fun x => a * x + b) hs n2 d2) (hql : qs.length = n) (hhl : hs.length = n) (hnd : qs.Nodup) (hnd2 : (qs.map fun x => a * x + b).Nodup) (hWn : W ≤ n) :
 (∀ x, Cv.ev n1 x * Cv.ev d2 (a * x + b) = Cv.ev n2 (a * x + b) * Cv.ev d1 x) ∧ AV (qs.map fun x => a * x + b) hs n2 d2 = (AV qs hs n1 d1).map fun x => a * x + b := by
 have hql2 : (qs.map fun x => a * x + b).length = n := by rw [T7]; exact hql
 obtain ⟨A, U, P, lA, lU, hP, hon, eA, eU⟩ := h2.pair hql2 hhl hWn
 have cr := h1.cross hql hhl hnd hWn (A := CB a b A) (U := CB a b U) (by rw [Gh]; exact lA) (by rw [Gh]; exact lU) fun i hi => by
  have e := hon i hi
  rw [VB] at e
  rw [C7, C7]; exact e
 have hP2 : Cv.strip (CB a b P) ≠ [] := fun z => hP (by
  refine AW (AI P) (.inl rfl) fun x => ?_
  have e : a * ((x - b) * a⁻¹) + b = x := by
   have := Ut a ha
   have : a * ((x - b) * a⁻¹) = (a * a⁻¹) * (x - b) := by grind
   rw [this, Ut a ha]; grind
  have := C7 a b ((x - b) * a⁻¹) P
  rw [e, ← Cv.ev_strip _ (CB a b P), z] at this
  rw [Cv.ev_strip, ← this]; rfl)
 have rel : ∀ x, Cv.ev n1 x * Cv.ev d2 (a * x + b) = Cv.ev n2 (a * x + b) * Cv.ev d1 x := fun x => by
  have := CM (D := CB a b P) (A := C9 n1 (CB a b d2)) (B := C9 (CB a b n2) d1) hP2 (fun x => by
   rw [AF, AF, C7, C7, C7]
   have k := cr x
   rw [C7, C7, eA, eU] at k
   grind) x
  rw [AF, AF, C7, C7] at this
  exact this
 refine ⟨rel, El (fun x => a * x + b) qs hs hs rfl fun i x y z e1 e2 e3 => ?_⟩
 rw [e2] at e3
 cases e3
 have hx := T5 e1
 exact GN (rel x) (h1.apart hql hhl hnd hx) (h2.apart hql2 hhl hnd2 (UZ hx))
end
theorem M6 {S S' : List Rat} (h : S.Perm S') (x : Rat) : prV x S = prV x S' := by
 induction h with
 | nil => rfl
 | cons a _ ih => show (x - a) * _ = (x - a) * _; rw [ih]
 | swap a b l => show (x - b) * ((x - a) * _) = (x - a) * ((x - b) * _); grind
 | trans _ _ h1 h2 => rw [h1, h2]
theorem getD_scale (L : List Rat) (c : Rat) (j : Nat) : (L.map (· * c)).getD j 0 = L.getD j 0 * c := by
 rw [U6, U6, T3]
 cases L[j]? with
 | none => show (0 : Rat) = 0 * c; rw [V8]
 | some u => rfl
theorem getD_addL : ∀ (L M : List Rat) (j : Nat), (AU L M).getD j 0 = L.getD j 0 + M.getD j 0
 | [], M, j => by show M.getD j 0 = 0 + M.getD j 0; grind
 | a :: L, [], j => by show (a :: L).getD j 0 = (a :: L).getD j 0 + 0; grind
 | a :: L, b :: M, 0 => rfl
 | a :: L, b :: M, j + 1 => getD_addL L M j
section
variable {W n : Nat} {qs hs qs' hs' n1 d1 n2 d2 : List Rat}
theorem IE {w v r : Int} {N D : List Rat} {c e : Rat} (h : CC w v r N D) : CC w v r (N.map (· * c)) (D.map (· * e)) := ⟨fun j hj => by rw [getD_scale, h.1 j hj, V8], fun j hj => by rw [getD_scale, h.2 j hj, V8]⟩
theorem ev_none {D : List Rat} (hD : Cv.strip D ≠ []) (h : ∀ x, Cv.ev D x = 0) : False := hD (AW (AI D) (.inl rfl) fun x => by rw [Cv.ev_strip]; exact h x)
theorem QR.same {k : Rat} (hk : k ≠ 0) (h1 : QR W n qs hs n1 d1) (h2 : QR W n qs' hs' n2 d2) (hql : qs.length = n) (hhl : hs.length = n) (hql' : qs'.length = n) (hhl' : hs'.length = n) (hnd : qs.Nodup) (hWn : W ≤ n) (hp : qs'.Perm qs)
 (hto : ∀ x y, (x, y) ∈ qs.zip hs → (x, k * y) ∈ qs'.zip hs') (hof : ∀ x z, (x, z) ∈ qs'.zip hs' → ∃ y, z = k * y ∧ (x, y) ∈ qs.zip hs) : n2 = n1.map (· * k) ∧ d2 = d1 := by
 obtain ⟨r, rr, N, D, Nn, Dd, c, I, hD, hc, evN, evD⟩ := h1.raw
 obtain ⟨r', rr', N', D', Nn', Dd', c', I', hD', hc', evN', evD'⟩ := h2.raw
 have hnd' : qs'.Nodup := hp.nodup_iff.mpr hnd
 have hfst : (qs.zip hs).map Prod.fst = qs := Vx (by lia)
 have hfst' : (qs'.zip hs').map Prod.fst = qs' := Vx (by lia)
 have kk : k * k⁻¹ = 1 := Ut k hk
 have on2 : ∀ p ∈ qs.zip hs, Cv.ev (N'.map (· * k⁻¹)) p.1 = p.2 * Cv.ev (D'.map (· * 1)) p.1 := fun p hp => by
  have e : Cv.ev N' p.1 = (k * p.2) * Cv.ev D' p.1 := I'.on1 _ (hto p.1 p.2 hp)
  rw [Cv.ev_scale, Cv.ev_scale, e]
  have : k * p.2 * Cv.ev D' p.1 * k⁻¹ = (k * k⁻¹) * (p.2 * Cv.ev D' p.1) := by grind
  rw [this, kk]; grind
 have on1 : ∀ p ∈ qs'.zip hs', Cv.ev (N.map (· * k)) p.1 = p.2 * Cv.ev (D.map (· * 1)) p.1 := fun p hp => by
  obtain ⟨y, e, hm⟩ := hof p.1 p.2 hp
  have e2 : Cv.ev N p.1 = y * Cv.ev D p.1 := I.on1 _ hm
  rw [Cv.ev_scale, Cv.ev_scale, e2, e]; grind
 have le1 : r ≤ r' := by
  rcases Int.lt_or_le r' r with z | z
  ·exact (ev_none hD' fun x => by
    have := (I.least (by lia) (by rw [hfst]; exact hnd) z (IE I'.le1) on2 x).2
    rw [Cv.ev_scale, Uu] at this; exact this).elim
  ·exact z
 have le2 : r' ≤ r := by
  rcases Int.lt_or_le r r' with z | z
  ·exact (ev_none hD fun x => by
    have := (I'.least (by lia) (by rw [hfst']; exact hnd') z (IE I.le1) on1 x).2
    rw [Cv.ev_scale, Uu] at this; exact this).elim
  ·exact z
 have er : r' = r := Int.le_antisymm le2 le1
 subst er
 have mix : ∀ α β : Rat, CC (W : Int) ((n : Int) + 1 - W) (r' - 1) (AU (N'.map (· * (k⁻¹ * α))) (N.map (· * (-β)))) (AU (D'.map (· * α)) (D.map (· * (-β)))) → (∀ x, Cv.ev N' x * k⁻¹ * α = Cv.ev N x * β) ∧ ∀ x, Cv.ev D' x * α = Cv.ev D x * β := fun α β hle => by
  have := I.least (r := r' - 1) (by lia) (by rw [hfst]; exact hnd) (by lia) hle (fun p hp => by
   have e1 := on2 p hp
   have e2 : Cv.ev N p.1 = p.2 * Cv.ev D p.1 := I.on1 p hp
   rw [Cv.ev_scale, Cv.ev_scale] at e1
   rw [AZ, AZ, Cv.ev_scale, Cv.ev_scale, Cv.ev_scale, Cv.ev_scale, e2]
   grind)
  refine ⟨fun x => ?_, fun x => ?_⟩
  ·have e := (this x).1
   rw [AZ, Cv.ev_scale, Cv.ev_scale] at e
   grind
  ·have e := (this x).2
   rw [AZ, Cv.ev_scale, Cv.ev_scale] at e
   grind
 obtain ⟨α, β, ha, hN, hDe⟩ : ∃ α β : Rat, α ≠ 0 ∧ (∀ x, Cv.ev N' x * k⁻¹ * α = Cv.ev N x * β) ∧ ∀ x, Cv.ev D' x * α = Cv.ev D x * β := by
  rcases I.top1 with ⟨j, hj, hj0⟩ | ⟨j, hj, hj0⟩
  ·obtain ⟨m1, m2⟩ := mix (N.getD j 0) (N'.getD j 0 * k⁻¹) ⟨fun i hi => by
    rw [getD_addL, getD_scale, getD_scale]
    by_cases e : i = j
    ·subst e; grind
    ·rw [I.le1.1 i (by lia), I'.le1.1 i (by lia)]; grind, fun i hi => by
    rw [getD_addL, getD_scale, getD_scale, I.le1.2 i (by lia), I'.le1.2 i (by lia)]; grind⟩
   exact ⟨_, _, hj0, m1, m2⟩
  ·obtain ⟨m1, m2⟩ := mix (D.getD j 0) (D'.getD j 0) ⟨fun i hi => by
    rw [getD_addL, getD_scale, getD_scale, I.le1.1 i (by lia), I'.le1.1 i (by lia)]; grind, fun i hi => by
    rw [getD_addL, getD_scale, getD_scale]
    by_cases e : i = j
    ·subst e; grind
    ·rw [I.le1.2 i (by lia), I'.le1.2 i (by lia)]; grind⟩
   exact ⟨_, _, hj0, m1, m2⟩
 have hb : β ≠ 0 := fun z => ev_none hD' fun x => by
  have := hDe x
  rw [z, V7] at this
  rcases U1.mp this with w | w
  ·exact w
  ·exact absurd w ha
 have hS : ∀ x, prV x (qs'.filter fun q => decide (Cv.ev D' q = 0)) = prV x (qs.filter fun q => decide (Cv.ev D q = 0)) := fun x => by
  have e : (fun q => decide (Cv.ev D' q = 0)) = fun q => decide (Cv.ev D q = 0) := by
   funext q
   have := hDe q
   by_cases z : Cv.ev D q = 0
   ·rw [decide_eq_true z, decide_eq_true]
    rw [z, V8] at this
    rcases U1.mp this with w | w
    ·exact w
    ·exact absurd w ha
   ·rw [decide_eq_false z, decide_eq_false]
    intro w
    rw [w, V8] at this
    rcases U1.mp this.symm with v | v
    ·exact z v
    ·exact hb v
  rw [e]
  exact M6 (hp.filter _) x
 have hd : ∀ x, Cv.ev d2 x * (c' * α) = Cv.ev d1 x * (c * β) := fun x => by
  have := CM (D := prL (qs.filter fun q => decide (Cv.ev D q = 0))) (A := d2.map (· * (c' * α))) (B := d1.map (· * (c * β))) (by
   have := Fm (S := qs.filter fun q => decide (Cv.ev D q = 0)) (c := 1) (by decide)
   intro z; apply this
   rw [show (prL (qs.filter fun q => decide (Cv.ev D q = 0))).map (· * (1 : Rat)) = prL (qs.filter fun q => decide (Cv.ev D q = 0)) by simp]
   exact z) (fun x => by
   rw [Cv.ev_scale, Cv.ev_scale, Cb]
   have e := hDe x
   rw [evD', evD, hS] at e
   grind) x
  rw [Cv.ev_scale, Cv.ev_scale] at this
  exact this
 have hn : ∀ x, Cv.ev n2 x * (c' * α) = Cv.ev n1 x * (c * β * k) := fun x => by
  have := CM (D := prL (qs.filter fun q => decide (Cv.ev D q = 0))) (A := n2.map (· * (c' * α))) (B := n1.map (· * (c * β * k))) (by
   have := Fm (S := qs.filter fun q => decide (Cv.ev D q = 0)) (c := 1) (by decide)
   intro z; apply this
   rw [show (prL (qs.filter fun q => decide (Cv.ev D q = 0))).map (· * (1 : Rat)) = prL (qs.filter fun q => decide (Cv.ev D q = 0)) by simp]
   exact z) (fun x => by
   rw [Cv.ev_scale, Cv.ev_scale, Cb]
   have e := hN x
   have e2 : Cv.ev N' x * α = Cv.ev N x * (β * k) := by
    have : Cv.ev N' x * α = (k * k⁻¹) * (Cv.ev N' x * α) := by rw [kk, Vd]
    rw [this]
    have : k * k⁻¹ * (Cv.ev N' x * α) = k * (Cv.ev N' x * k⁻¹ * α) := by grind
    rw [this, e]; grind
   rw [evN', evN, hS] at e2
   grind) x
  rw [Cv.ev_scale, Cv.ev_scale] at this
  exact this
 have ca : c' * α ≠ 0 := fun z => by
  rcases U1.mp z with w | w
  ·exact hc' w
  ·exact ha w
 have cb : c * β ≠ 0 := fun z => by
  rcases U1.mp z with w | w
  ·exact hc w
  ·exact hb w
 have ed : d2.map (· * (c' * α)) = d1.map (· * (c * β)) := AW (Bs h2.gd ca) (Bs h1.gd cb) fun x => by rw [Cv.ev_scale, Cv.ev_scale]; exact hd x
 have hl : d2.length = d1.length := by
  have := congrArg SW ed
  rwa [T7, T7] at this
 have ec : c' * α = c * β := by
  have e := congrArg (fun l : List Rat => l[d1.length - 1]?) ed
  rw [T3, T3, ← hl, h2.last, hl, h1.last] at e
  have this : (1 : Rat) * (c' * α) = 1 * (c * β) := Sj.inj e
  rw [Vd, Vd] at this
  exact this
 have can : ∀ {u v : Rat}, u * (c' * α) = v * (c' * α) → u = v := fun {u v} h => by
  have : (u - v) * (c' * α) = 0 := by grind
  rcases U1.mp this with w | w
  ·grind
  ·exact absurd w ca
 refine ⟨AW h2.gn (Bs h1.gn hk) fun x => can ?_, AW h2.gd h1.gd fun x => can ?_⟩
 ·rw [Cv.ev_scale, hn x, ec]; grind
 ·rw [hd x, ec]
end
theorem Gg (x : Rat) : ∀ rs : List Rat, rs.Pairwise (· ≤ ·) → (∀ y ∈ rs.take (rs.filter fun y => decide (y < x)).length, y < x) ∧ ∀ y ∈ rs.drop (rs.filter fun y => decide (y < x)).length, x ≤ y
 | [], _ => ⟨(fun _ h => nomatch h), (fun _ h => nomatch h)⟩
 | a :: r, h => by
   have hp := List.pairwise_cons.mp h
   by_cases z : a < x
   ·have ih := Gg x r hp.2
    rw [Vz (p := fun y => decide (y < x)) (by exact decide_eq_true z), TR, List.take_succ_cons, List.drop_succ_cons]
    refine ⟨fun y hy => ?_, ih.2⟩
    rcases SA.mp hy with w | w
    ·rw [w]; exact z
    ·exact ih.1 y w
   ·have hx : x ≤ a := Rat.not_lt.mp z
    have e : (a :: r).filter (fun y => decide (y < x)) = [] := by
     rw [List.filter_eq_nil_iff]
     intro y hy w
     have hay : a ≤ y := by
      rcases SA.mp hy with v | v
      ·rw [v]; exact Rat.le_refl
      ·exact hp.1 y v
     exact Rat.not_lt.mpr (Vn hx hay) (of_decide_eq_true w)
    rw [e]
    refine ⟨(fun _ h => nomatch h), fun y hy => ?_⟩
    rcases SA.mp hy with v | v
    ·rw [v]; exact hx
    ·exact Vn hx (hp.1 y v)
theorem JV {x : Rat} {rs : List Rat} {k : Nat} (h : rs.Pairwise (· ≤ ·)) (hk : k = (rs.filter fun y => decide (y < x)).length) : (rs.take k ++ x :: rs.drop k).Pairwise (· ≤ ·) := by
 subst hk
 obtain ⟨c1, c2⟩ := Gg x rs h
 refine List.pairwise_append.mpr ⟨h.take, List.pairwise_cons.mpr ⟨c2, h.drop⟩, fun a ha b hb => ?_⟩
 have h1 := c1 a ha
 rcases SA.mp hb with z | z
 ·rw [z]; exact Rat.le_of_lt h1
 ·exact Vn (Rat.le_of_lt h1) (c2 b z)
theorem Mu {x : Rat} {rs : List Rat} {k : Nat} : (rs.take k ++ x :: rs.drop k).Perm (x :: rs) := by
 have := List.perm_middle (a := x) (l₁ := rs.take k) (l₂ := rs.drop k)
 rwa [UQ] at this
theorem Fi {l m : List Rat} (h1 : l.Pairwise (· ≤ ·)) (h2 : m.Pairwise (· ≤ ·)) (h : l.Perm m) : l = m := List.Perm.eq_of_pairwise (fun _ _ _ _ a b => Rat.le_antisymm a b) h1 h2 h
theorem Mh {x y : Rat} : decide ((y - x).num < 0) = decide (y < x) := by
 by_cases z : y < x
 ·rw [decide_eq_true z, decide_eq_true]
  rcases Int.lt_or_le (y - x).num 0 with w | w
  ·exact w
  ·have h := Rat.num_nonneg.mp w
   exfalso
   have h2 := (Rat.lt_iff_sub_pos _ _).mp z
   have : (0 : Rat) < 0 := by
    have e : x - y = -(y - x) := by grind
    grind
   exact absurd this (Rat.lt_irrefl)
 ·rw [decide_eq_false z, decide_eq_false]
  intro w
  have h := Rat.not_lt.mp z
  have : 0 ≤ y - x := by grind
  have := Rat.num_nonneg.mpr this
  lia
inductive JA (K : Su) (vs : List V) (H : Hp) (Q : VK) (E_3 : XK) : Prop
 | mk (r : Addr) (y : Rat) (h1 : vs = [.ref r]) (h2 : Az K H (.ref r) y) (h3 : y ≠ 0) (h4 : ∀ p, H p = none → Q (.ref p) (upd H p (nT (Tv (y.den : Int) y.num)))) : JA K vs H Q E_3
def r32 : Rat := ⟨3, 2, by decide, by decide⟩
theorem OH : nT r32 = .tup [.int 3, .int 2] := rfl
theorem Pw : r32 ≠ 0 := fun z => by
 have := congrArg Rat.num z
 exact absurd this (by decide)
inductive Jt (K : Su) (vs : List V) (H : Hp) (Q : VK) (E_3 : XK) : Prop
 | mk (a : _) (h1 : vs = [.ref a]) (h2 : Pen H a) (h3 : ∀ (y : Rat) (r : Addr) (H' : Hp), Mv a H H' → Pen H' a → H' r = some (nT y) → y ≠ 0 → RB 8 y → Q (.ref r) H') : Jt K vs H Q E_3
inductive Hu (K : Su) (vs : List V) (H : Hp) (Q : VK) (E_3 : XK) : Prop
 | mk (t1 t2 a1 b1 l1 a2 b2 l2 : Addr) (A1 B1 A2 B2 : List Rat) (us ws : List V) (m n : Nat) (h1 : vs = [.ref t1, .ref t2]) (h2 : SqT K H t1 [.ref a1, .ref b1, .ref l1]) (h3 : SqT K H t2 [.ref a2, .ref b2, .ref l2]) (h4 : Crv K H a1 A1) (h5 : Crv K H b1 B1) (h6 : Crv K H a2 A2) (h7 : Crv K H b2 B2) (h8 : (∀ q ∈ A1, RB m q)) (h9 : (∀ q ∈ B1, RB m q)) (h10 : (∀ q ∈ A2, RB n q)) (h11 : (∀ q ∈ B2, RB n q)) (h12 : m + n ≤ 7300000) (h13 : A1.length ≤ 6) (h14 : B1.length ≤ 6) (h15 : A2.length ≤ 6) (h16 : B2.length ≤ 6) (h17 : B1 ≠ []) (h18 : B2 ≠ []) (h19 : SqL K H l1 us) (h20 : SqL K H l2 ws) (h21 : us.length = ws.length) (h22 : (∀ X, Cv.ev A1 X * Cv.ev B2 X = Cv.ev A2 X * Cv.ev B1 X)) (h23 : ∀ H', Af H H' → Q (.bl true) H') : Hu K vs H Q E_3
inductive LL (K : Su) (vs : List V) (H : Hp) (Q : VK) (E_3 : XK) : Prop
 | mk (l : Addr) (zs : List V) (qs : List Rat) (h1 : vs = [.ref l]) (h2 : SqL K H l zs) (h3 : Au K H zs qs) (h4 : qs.length ≤ 12) (h5 : (∀ q ∈ qs, RB 40 q)) (h6 : ∀ p us rs H', Af H H' → H' p = some (.lst us) → Au K H' us rs → rs.Perm qs → rs.Pairwise (· ≤ ·) → Q (.ref p) H') : LL K vs H Q E_3
theorem HY {K : Su} {H : Hp} {p l : Addr} {ls : List V} {rs : List Rat} (pn : Pen H p) (e : H l = some (.lst ls)) (h : Au K H ls rs) : l ≠ p := fun z => by
 obtain ⟨c0, c1, c2, ep⟩ := pn
 rw [z, ep] at e
 cases e
 cases h with
 | cons h1 _ =>
   obtain ⟨r, er, _⟩ := h1
   cases er
structure St5 (K : Su) (Pt p l lh : Addr) (zs ys : List V) (qs hs : List Rat) (H : Hp) : Prop where
 pen : Pen H p
 lp : l ≠ p
 hp : lh ≠ p
 el : H l = some (.lst zs)
 nz : AM H zs qs
 eh : H lh = some (.lst ys)
 ny : Au K H ys hs
 ct : CF Pt FE H
structure Fd5 (K : Su) (p t a b lf : Addr) (ls : List V) (n' d' rs : List Rat) (H : Hp) : Prop where
 tup : SqT K H t [.ref a, .ref b, .ref lf]
 cn : Crv K H a n'
 cd : Crv K H b d'
 el : H lf = some (.lst ls)
 nl : Au K H ls rs
 ne : lf ≠ p
section
variable {K : Su} {Pt p l lh t a b lf : Addr} {zs ys ls : List V} {qs hs n' d' rs : List Rat} {H H' : Hp}
theorem St5.same (h : St5 K Pt p l lh zs ys qs hs H) (s : Af H H') : St5 K Pt p l lh zs ys qs hs H' := ⟨h.pen.sm s, h.lp, h.hp, s _ _ h.el, AM.same h.nz s, s _ _ h.eh, Au.same h.ny s, h.ct.same s⟩
theorem St5.mv (h : St5 K Pt p l lh zs ys qs hs H) (m : Mv p H H') (pn : Pen H' p) : St5 K Pt p l lh zs ys qs hs H' := ⟨pn, h.lp, h.hp, m _ _ h.lp h.el, AM.mv h.nz h.pen m, m _ _ h.hp h.eh, Au.mv h.ny h.pen m, PX h.ct h.pen m⟩
theorem St5.but (h : St5 K Pt p l lh zs ys qs hs H) (m : C2 Pt H H') (c : CF Pt FE H') : St5 K Pt p l lh zs ys qs hs H' := ⟨Nq h.pen h.ct m, h.lp, h.hp, HZ h.el h.ct m, KW h.nz h.ct m, HZ h.eh h.ct m, Paired.mapP h.ny fun _ _ z => z.but h.ct m, c⟩
theorem Fd5.same (h : Fd5 K p t a b lf ls n' d' rs H) (s : Af H H') : Fd5 K p t a b lf ls n' d' rs H' := ⟨h.tup.same s, h.cn.same s, h.cd.same s, s _ _ h.el, Au.same h.nl s, h.ne⟩
theorem Fd5.mv (h : Fd5 K p t a b lf ls n' d' rs H) (pn : Pen H p) (m : Mv p H H') : Fd5 K p t a b lf ls n' d' rs H' := ⟨h.tup.mv pn m, h.cn.mv pn m, h.cd.mv pn m, m _ _ h.ne h.el, Au.mv h.nl pn m, h.ne⟩
theorem Fd5.but (h : Fd5 K p t a b lf ls n' d' rs H) (c : CF Pt FE H) (m : C2 Pt H H') : Fd5 K p t a b lf ls n' d' rs H' := ⟨h.tup.but c m, h.cn.but c m, h.cd.but c m, HZ h.el c m, Paired.mapP h.nl fun _ _ z => z.but c m, h.ne⟩
end
theorem Nl {K : Su} {H : Hp} {us zs ys : List V} {qs hs : List Rat} (hp : Paired (NR H) us (zs.zip ys)) (hz : AM H zs qs) (hy : Au K H ys hs) : Et K H us ((qs.zip hs).map fun p => [p.1, p.2]) := by
 have l1 := hp.length
 have l2 := hz.length
 have l3 := hy.length
 refine DP (by rw [l1, T7, Vf, Vf, l2, l3]) fun j v ps hv hps => ?_
 obtain ⟨pr, hpr, tt, rfl, ht⟩ := Paired.get hp hv
 obtain ⟨hz1, hy1⟩ := Vh.mp hpr
 obtain ⟨x, hx, rx, er, hrx⟩ := Paired.get hz hz1
 obtain ⟨y, hy2, hny⟩ := Paired.get hy hy1
 rw [T3, (Vh (z := (x, y))).mpr ⟨hx, hy2⟩] at hps
 cases hps
 exact ⟨tt, _, rx, rfl, SqT.of ht, .cons ⟨rx, er, SqT.of hrx⟩ (.cons hny .nil), by rw [er]; rfl, hrx⟩
theorem LD : ∀ l : List (Rat × Rat), (Bb (l.map fun p => [p.1, p.2])).length = l.length
 | [] => rfl
 | a :: r => by
   have := LD r
   show ((BS [a.1, a.2]) ++ Bb (r.map fun p => [p.1, p.2])).length = r.length + 1
   rw [T6, this]
   show 1 + r.length = _
   lia
theorem Mp {qs hs n d : List Rat} {x : Rat} (h : x ∈ AV qs hs n d) : x ∈ qs := by
 unfold AV at h
 obtain ⟨pr, hpr, rfl⟩ := UA.mp h
 exact (SU (show (pr.1, pr.2) ∈ qs.zip hs from (Sr.mp hpr).1)).1
theorem Mn {a b x y : Rat} (ha : a ≠ 0) (h : a * x + b = a * y + b) : x = y := by
 have : a * (x - y) = 0 := by grind
 rcases U1.mp this with z | z
 ·exact absurd z ha
 ·grind
theorem Lc {a b : Rat} (ha : a ≠ 0) (y : Rat) : ∃ x, a * x + b = y := ⟨(y - b) * a⁻¹, by
 have : a * ((y - b) * a⁻¹) = (a * a⁻¹) * (y - b) := by grind
 rw [this, Ut a ha]; grind⟩
theorem Hf {qs hs : List Rat} (hl : qs.length = hs.length) (T : Nat) : (qs.drop T ++ qs.take T).zip (hs.drop T ++ hs.take T) = (qs.zip hs).drop T ++ (qs.zip hs).take T := by
 rw [List.zip_append (by rw [Tg, Tg, hl])]
 show VC Prod.mk _ _ ++ VC Prod.mk _ _ = (VC Prod.mk qs hs).drop T ++ (VC Prod.mk qs hs).take T
 rw [List.drop_zipWith, List.take_zipWith]
theorem Dw {α : Type} (l : List α) (T : Nat) : (l.drop T ++ l.take T).Perm l := by
 have := US (l₁ := l.drop T) (l₂ := l.take T)
 rwa [UQ] at this
theorem Mo {qs hs n d : List Rat} (hl : qs.length = hs.length) (T : Nat) : (AV (qs.drop T ++ qs.take T) (hs.drop T ++ hs.take T) n d).Perm (AV qs hs n d) := by
 unfold AV
 rw [Hf hl]
 exact ((Dw _ T).filter _).map _
theorem JP {qs hs n d : List Rat} {k : Rat} (hk : k ≠ 0) : AV qs (hs.map fun y => k * y) (n.map (· * k)) d = AV qs hs n d := by
 have := El (n1 := n) (d1 := d) (n2 := n.map (· * k)) (d2 := d) (fun x => x) qs hs (hs.map fun y => k * y) (by rw [T7]) fun i x y z e1 e2 e3 => by
  rw [T3, e2] at e3
  cases e3
  rw [Cv.ev_scale]
  constructor
  ·rintro ⟨a, b⟩
   exact ⟨a, by rw [b]; grind⟩
  ·rintro ⟨a, b⟩
   refine ⟨a, ?_⟩
   have : k * (Cv.ev n x - y * Cv.ev d x) = 0 := by grind
   rcases U1.mp this with w | w
   ·exact absurd w hk
   ·grind
 rw [VA] at this
 rw [this, VA]
section
variable {P : Program} {w : World} {K : Su} {mg : Str → Option Value} {base : Heap}
theorem CH : Ao ["_law_script", "_law_k", "_law_cell"] ["_law_script", "_law_k"] (Ae (top 56)) := ⟨rfl, rfl, rfl, by decide +kernel, rfl, by decide +kernel, by decide +kernel⟩
theorem IU {f : Addr} {fd : FuncData} (F : Fun K "_law_pen" "_law_pen" (top 56) f fd) (Qr : mg "len" = none) (hT : P.given.tree = none) :
 AH P w K mg base CX0 33 f fd ["_law_script", "_law_k"] (LO K) := by
 refine F.ok CH (fun vs H Q E h => ?_) (fun cdv A outer s H vs Q E hr h => ?_)
 ·obtain ⟨_, _, _, rfl, _⟩ := h; rfl
 refine ⟨_, (Ad (K := K) (Aj (i := 2) CH.nd rfl (Or.inl rfl) (Ah AK (Ah Ap Ac (pv 1)) Ac))
  (Ad (K := K) (Bj (K := K) (AA EV (pv 1) (Av (BV K) rfl Qr AJ (A0 (pv 0) Ab)) (AB _)) (Ag (Aj (i := 2) CH.nd rfl (Or.inl rfl) (Ai (ixL K) (pv 0) (pv 1) (fun u v => rfl)))) (Ag (Bj (K := K) (AA FK (Av (BV K) rfl Qr AJ (A0 (pv 0) Ab)) Ac (AB _)) (Ag (Aj (i := 2) CH.nd rfl (Or.inl rfl) (Ah AK (Ai (ixL K) (pv 0) (Ah Cm (pv 1) (Av (BV K) rfl Qr AJ (A0 (pv 0) Ab))) (fun u v => rfl)) (Ah Ap Ac (pv 1))))) AY (by rfl) (by rfl))) (by rfl) (by rfl))
  (Ad (K := K) (Bj (K := K) (AA PJ (pv 2) (Ah Md Ac Ac) (AB _)) (Ag (As (AS (A0 (Ah AX (pv 2) (Ah Md Ac Ac)) (A0 (Ah Cm (pv 2) Ac) (A0 Ac Ab)))))) AY (by rfl) (by rfl))
  (Ag (As (AS (A0 Ac (A0 (Ah AK (Ah Cm (pv 2) Ac) (Ah Ap Ac (pv 1))) (A0 Ac Ab)))))) (by rfl)) (by rfl)) (by rfl)), ?_⟩
 obtain ⟨a, ns, k, rfl, hS, h63, h0, h62, q⟩ := h
 have hl : (ns.map V.int).length = ns.length := T7 _
 have P3 : 3 ≤ sizeLine := by decide
 have C1 : Pb 10 18 := by unfold Pb; decide
 refine ⟨_, rfl, _, _, rfl, rfl, .inl ⟨by decide, by decide⟩, _, _, rfl, rfl, ?_⟩
 refine ⟨_, rfl, _, rfl, a, _, rfl, .inl hS, _, _, rfl, rfl, _, rfl, ?_⟩
 rw [hl]
 have hk1 : k < (ns.length : Int) → ∃ v : Int, atI (ns.map V.int) k = some (.int v) := fun c => Kx h0 c
 have hk2 : 0 < (ns.length : Int) → ∃ v : Int, atI (ns.map V.int) (k % (ns.length : Int)) = some (.int v) := fun c => Kx (UI _ (by lia)) (UJ _ c)
 refine JU (fun c => ?_) (fun c => ?_)
 ·obtain ⟨v, hv⟩ := (hk1 (of_decide_eq_true c))
  refine ⟨_, rfl, _, rfl, a, _, _, _, rfl, rfl, hS, hv, ?_⟩
  refine ⟨_, rfl, _, _, rfl, rfl, C1, _, _, rfl, rfl, _, rfl, ?_⟩
  refine JU (fun c => ?_) (fun c => ?_)
  ·exact ⟨_, rfl, _, _, rfl, rfl, C1, _, _, rfl, rfl, _, rfl, _, _, rfl, rfl, (by first | decide | (dsimp only; decide)), P3, fun p hp => q p _ _ hp⟩
  ·exact ⟨_, rfl, _, _, rfl, rfl, (by first | decide | (dsimp only; decide)), _, rfl, _, _, rfl, rfl, .inl ⟨by decide, by decide⟩, _, _, rfl, rfl, P3, fun p hp => q p _ _ hp⟩
 ·refine ⟨_, rfl, a, _, rfl, .inl hS, _, _, rfl, rfl, _, rfl, ?_⟩
  rw [hl]
  refine JU (fun c => ?_) (fun c => ?_)
  ·obtain ⟨v, hv⟩ := (hk2 (of_decide_eq_true c))
   have c' : 0 < (((ns.map V.int).length : Nat) : Int) := by rw [hl]; exact of_decide_eq_true c
   rw [← hl] at hv
   refine ⟨_, rfl, _, rfl, _, rfl, a, _, rfl, .inl hS, _, _, rfl, rfl, c', a, _, _, _, rfl, rfl, hS, hv, _, rfl, _, _, rfl, rfl, .inl ⟨by decide, by decide⟩, _, _, rfl, rfl, ?_⟩
   refine ⟨_, rfl, _, _, rfl, rfl, C1, _, _, rfl, rfl, _, rfl, ?_⟩
   refine JU (fun c => ?_) (fun c => ?_)
   ·exact ⟨_, rfl, _, _, rfl, rfl, C1, _, _, rfl, rfl, _, rfl, _, _, rfl, rfl, (by first | decide | (dsimp only; decide)), P3, fun p hp => q p _ _ hp⟩
   ·exact ⟨_, rfl, _, _, rfl, rfl, (by first | decide | (dsimp only; decide)), _, rfl, _, _, rfl, rfl, .inl ⟨by decide, by decide⟩, _, _, rfl, rfl, P3, fun p hp => q p _ _ hp⟩
  ·refine ⟨_, rfl, _, _, rfl, rfl, C1, _, _, rfl, rfl, _, rfl, ?_⟩
   refine JU (fun c => ?_) (fun c => ?_)
   ·exact ⟨_, rfl, _, _, rfl, rfl, C1, _, _, rfl, rfl, _, rfl, _, _, rfl, rfl, (by first | decide | (dsimp only; decide)), P3, fun p hp => q p _ _ hp⟩
   ·exact ⟨_, rfl, _, _, rfl, rfl, (by first | decide | (dsimp only; decide)), _, rfl, _, _, rfl, rfl, .inl ⟨by decide, by decide⟩, _, _, rfl, rfl, P3, fun p hp => q p _ _ hp⟩
theorem BJ : Ao ["_law_top", "_law_bottom", "_law_one", "_law_other"] ["_law_top", "_law_bottom"] (Ae (top 58)) := ⟨rfl, rfl, rfl, by decide +kernel, rfl, by decide +kernel, by decide +kernel⟩
theorem FT {f : Addr} {fd : FuncData} (F : Fun K "_law_lowest" "_law_lowest" (top 58) f fd) (QA : mg "abs" = none) (hT : P.given.tree = none) :
 AH P w K mg base CX0 33 f fd ["_law_top", "_law_bottom"] (CQ) := by
 refine F.ok BJ (fun vs H Q E h => ?_) (fun cdv A outer s H vs Q E hr h => ?_)
 ·obtain ⟨_, _, rfl, _⟩ := h; rfl
 refine ⟨_, (Ad (K := K) (Aj (i := 2) BJ.nd rfl (Or.inl rfl) (Av Es rfl QA Io (A0 (pv 0) Ab)))
  (Ad (K := K) (Aj (i := 3) BJ.nd rfl (Or.inl rfl) (Av Es rfl QA Io (A0 (pv 1) Ab)))
  (Ad (K := K) (Ed PassesOwn.never (AA FK (pv 3) Ac (AB _)) (Ag (Ot (i := 2) (j := 3) rfl BJ.nd rfl rfl (by decide) rfl rfl (A0 (pv 3) (A0 (Ah Cm (pv 2) (pv 3)) Ab)) (by with_unfolding_all rfl))))
  (Ad (K := K) (Bj (K := K) (AA EV (pv 1) Ac (AB _)) (Ag (Aj (i := 2) BJ.nd rfl (Or.inl rfl) (Ah AX Ac (pv 2)))) AY (by rfl) (by rfl))
  (Ag (As (AO (A0 (Ah (BL hr hT) (pv 0) (pv 2)) (A0 (Ah (BL hr hT) (pv 1) (pv 2)) Ab))))) (by rfl)) (by rfl)) (by rfl)) (by rfl)), ?_⟩
 obtain ⟨a, b, rfl, hb, q⟩ := h
 refine ⟨_, rfl, a, rfl, ?_⟩
 refine ⟨_, rfl, b, rfl, ?_⟩
 refine Iw (L3 H a b fun H a b σ H' => H' = H ∧ ∃ (x y : Int), σ = [some (.int a), some (.int b), some (.int x), some (.int y)] ∧ 0 ≤ x ∧ 0 ≤ y ∧ Tt x y = Tt a b) (fun σ _ => mu 3 σ)
  ⟨rfl, _, _, rfl, ?_, ?_, ?_⟩ ?_ ?_
 ·rw [Nm.abs_if]; exact VD _
 ·rw [Nm.abs_if]; exact VD _
 ·rw [Nm.abs_if, Nm.abs_if]; rfl
 ·rintro σ H' hR1
  refine BB hR1 fun hq1 hz3 => ?_
  refine Cs hz3 fun x y hz3' => ?_
  clear hz3
  refine GD hz3' fun hq2 hx hy hg => ?_
  clear hz3'
  obtain rfl := hq1
  obtain rfl := hq2
  try clear hR1
  refine ⟨_, rfl, _, _, rfl, rfl, _, rfl, ?_⟩
  by_cases hy0 : y = 0
  ·subst hy0
   refine JT ?_
   have e : (Tt a b : Int) = x := by rw [← hg, Int.gcd_zero]; lia
   subst e
   refine ⟨_, rfl, _, _, rfl, rfl, _, rfl, ?_⟩
   have hd : Nm.msr a b ≠ 0 := Nm.msr_ne hb
   have fin : ∀ p, H' p = none → Q (.ref p) (upd H' p (.tup [.int (a.fdiv (Nm.msr a b)), .int (b.fdiv (Nm.msr a b))])) := fun p hp => by
    rw [Nm.top_msr hb, Nm.bottom_msr hb]; exact q p hp
   by_cases hb0 : b < 0
   ·have hd' : Nm.msr a b = 0 - (Tt a b : Int) := by unfold Nm.msr; rw [if_pos hb0]; lia
    rw [hd'] at hd fin
    refine BN (by rw [decide_eq_true hb0] <;> rfl) ⟨_, rfl, _, _, rfl, rfl, ?_⟩
    exact ⟨_, rfl, _, rfl, _, _, rfl, rfl, hd, _, rfl, _, rfl, _, _, rfl, rfl, hd, (by decide : 2 ≤ sizeLine), fin⟩
   ·have hd' : Nm.msr a b = (Tt a b : Int) := by unfold Nm.msr; rw [if_neg hb0]
    rw [hd'] at hd fin
    refine Be (by rw [decide_eq_false hb0] <;> rfl) ?_
    exact ⟨_, rfl, _, rfl, _, _, rfl, rfl, hd, _, rfl, _, rfl, _, _, rfl, rfl, hd, (by decide : 2 ≤ sizeLine), fin⟩
  ·have hyp : 0 < y := by lia
   refine BN (by rw [decide_eq_true hyp] <;> rfl) ?_
   refine ⟨_, rfl, _, rfl, _, rfl, _, _, rfl, rfl, hyp, _, _, rfl, ⟨rfl, y, x % y, rfl, hy, UI _ hy0, ?_⟩, ?_⟩
   ·rw [Nm.gcd_turn]; exact hg
   ·show (x % y).toNat < y.toNat
    have := UJ x hyp
    lia
 ·rintro σ H' Q1 Q2 hm hR2
  obtain ⟨v, e, i, j, e1, e2, k, ek, q1⟩ := hR2
  try clear hR2
  exact ⟨v, e, i, j, e1, e2, k, ek, hm _ _ q1⟩
theorem Cq : Ao ["_law_pen_here", "_law_many", "_law_drawn", "_law_number_here"] ["_law_pen_here", "_law_many"] (Ae (top 57)) := ⟨rfl, rfl, rfl, by decide +kernel, rfl, by decide +kernel, by decide +kernel⟩
theorem HW {f : Addr} {fd : FuncData} (F : Fun K "_law_draw" "_law_draw" (top 57) f fd) (hT : P.given.tree = none) :
 AH P w K mg base CX0 33 f fd ["_law_pen_here", "_law_many"] (Hq) := by
 refine F.ok Cq (fun vs H Q E h => ?_) (fun cdv A outer s H vs Q E hr h => ?_)
 ·obtain ⟨_, _, rfl, _⟩ := h; rfl
 refine ⟨_, (Ad (K := K) (EB (Ah AK (Ai (ixL K) (pv 0) Ac (fun u v => rfl)) Ac) (EC (pv 0) Ac CT))
  (Ad (K := K) (Bj (K := K) (AA FK (Ai (ixL K) (pv 0) Ac (fun u v => rfl)) Ac (AB _)) (Ad (K := K) (Aj (i := 2) Cq.nd rfl (Or.inl rfl) (Ah Cm (Ai (ixL K) (pv 0) Ac (fun u v => rfl)) (pv 1)))
  (Ad (K := K) (EB (Ah (BL hr hT) (Ai (ixL K) (pv 0) Ac (fun u v => rfl)) (pv 1)) (EC (pv 0) Ac CT))
  (Ag (As (pv 2))) (by rfl)) (by rfl)) AY (by rfl) (by rfl))
  (Ad (K := K) (Aj (i := 3) Cq.nd rfl (Or.inl rfl) (Ah Cm (Ah Ap (Ah AK (Ah AK (Ai (ixL K) (pv 0) Ac (fun u v => rfl)) (Ah Ap Ac (Ai (ixL K) (pv 0) Ac (fun u v => rfl)))) Ac) Ac) Ac))
  (Ad (K := K) (Aj (i := 3) Cq.nd rfl (Or.inl rfl) (Ah Cm (Ah Ap (pv 3) (Ah AK (Ah AK (Ah Cm (pv 3) Ac) (Ai (ixL K) (pv 0) Ac (fun u v => rfl))) Ac)) Ac))
  (Ag (As (Ah Cm (Ah (BL hr hT) (Ah Cm (Ah Ap (pv 3) (Ah AK (Ah Cm (pv 3) Ac) Ac)) Ac) Ac) (pv 1)))) (by rfl)) (by rfl)) (by rfl)) (by rfl)), ?_⟩
 obtain ⟨a, m, rfl, ⟨c0, c1, c2, hp⟩, h1, h2, q0⟩ := h
 have q : ∀ d c0' c2' : Int, 0 ≤ d → d < m → Q (.int d) (upd H a (.lst [.int c0', .int c1, .int c2'])) := fun d _ _ h3 h4 => q0 d _ h3 h4 .put .put
 have hm : m ≠ 0 := by lia
 have q' : ∀ (o : HO) (d c0' c2' : Int), 0 ≤ d → d < m → Q (.int d) (upd (upd H a o) a (.lst [.int c0', .int c1, .int c2'])) := fun o d c0' c2' h3 h4 => by rw [N3]; exact q d c0' c2' h3 h4
 refine ⟨_, rfl, a, _, _, _, rfl, rfl, SqL.of hp, rfl, _, _, rfl, rfl, _, rfl, a, _, _, _, rfl, rfl, hp, rfl, ?_⟩
 refine ⟨_, rfl, a, _, _, _, rfl, rfl, SqL.of Aa, rfl, _, _, rfl, rfl, _, rfl, ?_⟩
 refine JU (fun c => ?_) (fun c => ?_)
 ·refine ⟨_, rfl, a, _, _, _, rfl, rfl, SqL.of Aa, rfl, _, rfl, _, _, rfl, rfl, (by lia : 0 < m), ?_⟩
  refine ⟨_, rfl, a, _, _, _, rfl, rfl, SqL.of Aa, rfl, _, rfl, _, _, rfl, rfl, hm, _, rfl, a, _, _, _, rfl, rfl, Aa, rfl, ?_⟩
  refine ⟨_, rfl, ?_⟩
  exact q' _ _ _ _ (UI _ (by lia)) (UJ _ (by lia))
 ·have cl : ∀ z : Int, 0 < z → (0 : Int) < z := fun _ h => h
  refine ⟨_, rfl, a, _, _, _, rfl, rfl, SqL.of Aa, rfl, _, rfl, a, _, _, _, rfl, rfl, SqL.of Aa, rfl, _, _, rfl, rfl, .inl ⟨by decide, by decide⟩, _, _, rfl, rfl, _, _, rfl, rfl, _, _, rfl, rfl, .inr (.inl ⟨by decide, by decide⟩), _, _, rfl, rfl, (by first | decide | (dsimp only; decide)), ?_⟩
  have n1 := UI ((c1 + 40503 * (c2 + 1) + 1) * 48271) (show (2147483647 : Int) ≠ 0 by decide)
  have n2 := UJ ((c1 + 40503 * (c2 + 1) + 1) * 48271) (show (0 : Int) < 2147483647 by decide)
  generalize hN : (c1 + 40503 * (c2 + 1) + 1) * 48271 % 2147483647 = N at n1 n2
  refine ⟨_, rfl, _, rfl, _, _, rfl, rfl, (by first | decide | (dsimp only; decide)), _, rfl, a, _, _, _, rfl, rfl, SqL.of Aa, rfl, _, _, rfl, rfl, _, _, rfl, rfl, _, _, rfl, rfl, .inl ?_, _, _, rfl, rfl, (by first | decide | (dsimp only; decide)), ?_⟩
  ·(try rw [hN]); lia
  try rw [hN]
  have n3 := UI (N * (N % 65521 + (c2 + 1) + 3)) (show (2147483629 : Int) ≠ 0 by decide)
  have n4 := UJ (N * (N % 65521 + (c2 + 1) + 3)) (show (0 : Int) < 2147483629 by decide)
  generalize N * (N % 65521 + (c2 + 1) + 3) % 2147483629 = M at n3 n4
  refine ⟨_, rfl, _, rfl, _, _, rfl, rfl, (by first | decide | (dsimp only; decide)), _, _, rfl, rfl, _, _, rfl, rfl, .inl ⟨by lia, by lia⟩, _, _, rfl, rfl, (by first | decide | (dsimp only; decide)), _, _, rfl, rfl, (by first | decide | (dsimp only; decide)), _, rfl, _, _, rfl, rfl, (by lia : 0 < m), ?_⟩
  exact q _ _ _ (UI _ (by lia)) (UJ _ (by lia))
theorem FD : Ao ["_law_pen_here"] ["_law_pen_here"] (Ae (top 62)) := ⟨rfl, rfl, rfl, by decide +kernel, rfl, by decide +kernel, by decide +kernel⟩
theorem FQ {f : Addr} {fd : FuncData} (F : Fun K "_law_number" "_law_number" (top 62) f fd) (Qy : Fd P w K mg base 33 "_law_lowest" ["_law_top", "_law_bottom"] (CQ)) (Qu : Fd P w K mg base 33 "_law_draw" ["_law_pen_here", "_law_many"] (Hq)) (hT : P.given.tree = none) :
 AH P w K mg base CX0 34 f fd ["_law_pen_here"] (IA 8) := by
 refine F.ok FD (fun vs H Q E h => ?_) (fun cdv A outer s H vs Q E hr h => ?_)
 ·obtain ⟨_, rfl, _⟩ := h; rfl
 refine ⟨_, (Ad (K := K) (Bj (K := K) (AA FK (Ak Qu hr rfl (A0 (pv 0) (A0 Ac Ab))) Ac (AB _)) (Ag (As (Ak Qy hr rfl (A0 (Ah AX (Ak Qu hr rfl (A0 (pv 0) (A0 Ac Ab))) Ac) (A0 (Ah AK Ac (Ak Qu hr rfl (A0 (pv 0) (A0 (Ai (ixL K) (AS (A0 Ac (A0 Ac Ab))) (Ak Qu hr rfl (A0 (pv 0) (A0 Ac Ab))) (fun u v => rfl)) Ab)))) Ab))))) AY (by rfl) (by rfl))
  (Ag (As (Ak Qy hr rfl (A0 (Ah AX (Ak Qu hr rfl (A0 (pv 0) (A0 Ac Ab))) Ac) (A0 (Ah AK Ac (Ak Qu hr rfl (A0 (pv 0) (A0 Ac Ab)))) Ab))))) (by rfl)), ?_⟩
 obtain ⟨a, rfl, pn, q⟩ := h
 have b8 : ∀ x : Int, -200 < x → x < 200 → Bd 8 x := fun x h1 h2 => by unfold Bd; lia
 refine ⟨_, rfl, a, 6, rfl, pn, by decide, by decide, fun w H1 w0 w1 o1 p1 => ⟨_, _, rfl, rfl, _, rfl, ?_⟩⟩
 refine JU (fun c => ?_) (fun c => ?_)
 ·refine ⟨_, rfl, a, 19, rfl, p1, by decide, by decide, fun d H2 d0 d1 o2 p2 => ⟨_, _, rfl, rfl, ?_⟩⟩
  refine ⟨_, rfl, (by decide : 2 ≤ sizeLine), fun l hl => ?_⟩
  refine ⟨_, rfl, a, 2, rfl, p2.same hl, by decide, by decide, fun e H3 e0 e1 o3 p3 => ?_⟩
  obtain ⟨v, hv, hm⟩ := (NP (xs := [1, 4]) (i := e) e0 e1)
  have hv1 : 1 ≤ v ∧ v ≤ 4 := by simp at hm; lia
  have hl3 : H3 l = some (.lst [.int 1, .int 4]) := by
   refine GA p2 fun x0 x1 x2 ex => ?_
   rw [o3 l (Aw ex hl).symm]; exact Aa
  refine ⟨l, _, _, _, rfl, rfl, SqL.of hl3, hv, a, v, rfl, p3, by lia, by lia, fun g H4 g0 g1 o4 p4 => ⟨_, _, rfl, rfl, _, _, rfl, by lia, fun r hr => ?_⟩⟩
  exact q _ r _ (o1.mv.trans (o2.mv.trans ((Mv.new hl).trans (o3.mv.trans (o4.mv.trans (Mv.new hr)))))) (p4.same hr) Aa (Bd.num (b8 _ (by lia) (by lia))) (Bd.den (by lia) (b8 _ (by lia) (by lia)))
 ·refine ⟨_, rfl, a, 199, rfl, p1, by decide, by decide, fun d H2 d0 d1 o2 p2 => ⟨_, _, rfl, rfl, ?_⟩⟩
  refine ⟨_, rfl, a, 9, rfl, p2, by decide, by decide, fun e H3 e0 e1 o3 p3 => ⟨_, _, rfl, rfl, _, _, rfl, by lia, fun r hr => ?_⟩⟩
  exact q _ r _ (o1.mv.trans (o2.mv.trans (o3.mv.trans (Mv.new hr)))) (p3.same hr) Aa (Bd.num (b8 _ (by lia) (by lia))) (Bd.den (by lia) (b8 _ (by lia) (by lia)))
theorem HA : Ao ["_law_a", "_law_b"] ["_law_a", "_law_b"] (Ae (top 59)) := ⟨rfl, rfl, rfl, by decide +kernel, rfl, by decide +kernel, by decide +kernel⟩
theorem HV {f : Addr} {fd : FuncData} (F : Fun K "_law_plus" "_law_plus" (top 59) f fd) (Qy : Fd P w K mg base 33 "_law_lowest" ["_law_top", "_law_bottom"] (CQ)) (hT : P.given.tree = none) :
 AH P w K mg base CX0 34 f fd ["_law_a", "_law_b"] (CS K (· + ·)) := by
 refine F.ok HA (fun vs H Q E h => ?_) (fun cdv A outer s H vs Q E hr h => ?_)
 ·obtain ⟨_, _, _, _, _, _, rfl, _⟩ := h; rfl
 refine ⟨_, (Ag (As (Ak Qy hr rfl (A0 (Ah AK (Ah Ap (Ai (ixT K) (pv 0) Ac (fun u v => rfl)) (Ai (ixT K) (pv 1) Ac (fun u v => rfl))) (Ah Ap (Ai (ixT K) (pv 1) Ac (fun u v => rfl)) (Ai (ixT K) (pv 0) Ac (fun u v => rfl)))) (A0 (Ah Ap (Ai (ixT K) (pv 0) Ac (fun u v => rfl)) (Ai (ixT K) (pv 1) Ac (fun u v => rfl))) Ab))))), ?_⟩
 obtain ⟨x, y, p, q, m, n, rfl, ⟨r, rfl, hr⟩, ⟨u, rfl, hu⟩, hp, hq, hmn, k⟩ := h
 refine ⟨_, rfl, r, _, _, _, rfl, rfl, hr, rfl, _, rfl, u, _, _, _, rfl, rfl, hu, rfl, _, _, rfl, rfl, B0.bd hp.1 hq.2, _, rfl, u, _, _, _, rfl, rfl, hu, rfl, _, rfl, r, _, _, _, rfl, rfl, hr, rfl, _, _, rfl, rfl, B0.bd hq.1 hp.2, _, _, rfl, rfl, ?_⟩
 refine ⟨_, rfl, r, _, _, _, rfl, rfl, hr, rfl, _, rfl, u, _, _, _, rfl, rfl, hu, rfl, _, _, rfl, rfl, B0.bd hp.2 hq.2, ?_⟩
 refine ⟨_, _, rfl, TH (Nm.den_ne p) (Nm.den_ne q), fun z hz => ?_⟩
 have e := k z hz
 try dsimp only at e
 rw [← Nm.plus_eq] at e
 exact e
theorem BI : Ao ["_law_pen_here", "_law_many", "_law_found", "_law_k", "_law_x"] ["_law_pen_here", "_law_many"] (Ae (top 63)) := ⟨rfl, rfl, rfl, by decide +kernel, rfl, by decide +kernel, by decide +kernel⟩
theorem FP {f : Addr} {fd : FuncData} (F : Fun K "_law_places" "_law_places" (top 63) f fd) (QF : Fd P w K mg base 34 "_law_number" ["_law_pen_here"] (IA 8)) (QM : Fd P w K mg base 34 "_law_plus" ["_law_a", "_law_b"] (CS K (· + ·))) (Qs : mg "range" = none) (hT : P.given.tree = none) :
 AH P w K mg base CX0 35 f fd ["_law_pen_here", "_law_many"] (Ey K 8) := by
 refine F.ok BI (fun vs H Q E h => ?_) (fun cdv A outer s H vs Q E hr h => ?_)
 ·obtain ⟨_, _, rfl, _⟩ := h; rfl
 refine ⟨_, (Ad (K := K) (Aj (i := 2) BI.nd rfl (Or.inl rfl) (AS Ab))
  (Ad (K := K) (Bh (K := K) PassesOwn.never rfl (BQ rfl Qs (A0 (pv 1) Ab)) (Ay (i := 3) BI.nd rfl (Or.inl rfl)) (Ad (K := K) (Aj (i := 4) BI.nd rfl (Or.inl rfl) (Ak QF hr rfl (A0 (pv 0) Ab)))
  (Ad (K := K) (Ed PassesOwn.never (AA (inD K hr) (pv 4) (pv 2) (by with_unfolding_all rfl)) (Ag (Aj (i := 4) BI.nd rfl (Or.inl rfl) (Ak QM hr rfl (A0 (pv 4) (A0 (AO (A0 Ac (A0 Ac Ab))) Ab))))))
  (Ag (CI (ED K PySem.F.plainAttrs_list PySem.F.slot_list_append PySem.F.type_list_append DR (pv 2) (A0 (pv 4) Ab)))) (by rfl)) (by rfl)) (by rfl))
  (Ag (As (pv 2))) (by rfl)) (by rfl)), ?_⟩
 obtain ⟨a, m, rfl, pn, h0, h100, q⟩ := h
 have P0 : 0 ≤ sizeLine := by decide
 have P2 : 2 ≤ sizeLine := by decide
 refine ⟨P0, fun l hl => ?_⟩
 have la : l ≠ a := pn.ne' hl
 obtain ⟨M, hM⟩ : ∃ M : Nat, (M : Int) = m := ⟨m.toNat, by lia⟩
 subst hM
 refine ⟨_, rfl, (M : Int), rfl, by lia, by lia, ?_⟩
 rw [Td]
 refine C0 (n := M) (L4 a H M l fun a H M l i σ H' => Mv a H H' ∧ Pen H' a ∧ ∃ zs qs z3 z4, σ = [some (.ref a), some (.int (M : Int)), some (.ref l), z3, z4] ∧ H' l = some (.lst zs) ∧ AM H' zs qs ∧ qs.length = i ∧ qs.Nodup ∧ ∀ q ∈ qs, RB (8 + 8) q) ⟨Mv.new hl, pn.same hl, [], [], none, none, rfl, Aa, .nil, rfl, List.nodup_nil, (fun _ h => nomatch h)⟩ ?_ ?_
 ·rintro i σ H' hi hR1
  refine Dm hR1 fun mv pn' hz7 => ?_
  refine Ie hz7 fun zs qs z3 z4 hz7' => ?_
  clear hz7
  refine MR hz7' fun hq6 el hz hql hnd hb => ?_
  clear hz7'
  obtain rfl := hq6
  try clear hR1
  refine ⟨_, rfl, a, rfl, pn', fun x0 r H3 m3 p3 hr bn bd => ?_⟩
  have el3 := m3 _ _ la el
  have hz3 := AM.mv hz pn' m3
  have hzl := hz.length
  refine ⟨fun μ σ H4 => Af H3 H4 ∧ ∃ (r : Addr) (x : Rat) (j : Nat), σ = [some (.ref a), some (.int (M : Int)), some (.ref l), some (.int (0 + (i : Int))), some (.ref r)] ∧ H4 r = some (nT x) ∧ x = x0 + (j : Rat) ∧ μ = cnt x qs ∧ j + cnt x qs ≤ qs.length,
   ⟨_, Af.refl _, r, x0, 0, rfl, hr, (by have z : ((0 : Nat) : Rat) = 0 := rfl; rw [z]; grind), rfl, by have := MI x0 qs; lia⟩, ?_⟩
  rintro μ σ H4 hR2
  refine BB hR2 fun s4 hz10 => ?_
  refine GA hz10 fun r' x j hz10' => ?_
  clear hz10
  refine DG hz10' fun hq8 hr' hx hq9 hj => ?_
  clear hz10'
  obtain rfl := hq8
  obtain rfl := hq9
  try clear hR2
  have hxb : RB (8 + 8) x := by
   rw [hx]
   exact (RB.plus ⟨bn, bd⟩ (Oj (j := j) (by lia))).mono (by lia)
  refine ⟨_, rfl, _, rfl, ?_⟩
  refine inN (Az.of hr') (SqL.of (s4 _ _ el3)) (AM.same hz3 s4).nums ?_
  refine ⟨_, rfl, ?_⟩
  by_cases hin : x ∈ qs
  ·refine BN (by rw [decide_eq_true hin] <;> rfl) ⟨_, fun _ _ h => h, ?_⟩
   refine ⟨_, rfl, P2, fun t ht => ⟨_, _, _, _, 8 + 8, 1, rfl, Az.of ((Af.new ht) _ _ hr'), Az.of (Aa (o := nT 1)), hxb, RB.one (by decide), by lia, fun u hu => ?_⟩⟩
   refine ⟨_, JY hin, (s4.trans (Af.new ht)).trans (Af.new hu), u, x + 1, j + 1, rfl, Aa, ?_, rfl, by have := JY hin; lia⟩
   rw [hx, Rat.natCast_add]
   have z : ((1 : Nat) : Rat) = 1 := rfl
   rw [z]; grind
  ·refine Be (by rw [decide_eq_false hin] <;> rfl) ?_
   have el4 := s4 _ _ el3
   refine ⟨_, rfl, .inl ⟨rfl, _, SqL.of el4⟩, _, rfl, l, zs, .ref r', rfl, rfl, el4, Sl (show zs.length < 300 by lia) (by decide), ?_⟩
   refine ⟨Mv.put' ((mv.trans m3).trans s4.mv) hl, (p3.sm s4).put' la, zs ++ [.ref r'], qs ++ [x], _, _, rfl, Aa, Paired.snoc (AM.put (AM.same hz3 s4) el4) (Eu.put ⟨_, rfl, hr'⟩ el4), by simp [hql], ?_, fun c hc => ?_⟩
   ·rw [List.nodup_append]
    exact ⟨hnd, by simp, fun b hb c hc => by rw [Ub.mp hc]; exact fun z => hin (z ▸ hb)⟩
   ·rcases SD.mp hc with z | z
    ·exact hb c z
    ·rw [Ub.mp z]; exact hxb
 ·rintro σ H' hR3
  refine Dm hR3 fun mv pn' hz12 => ?_
  refine Ie hz12 fun zs qs z3 z4 hz12' => ?_
  clear hz12
  refine MR hz12' fun hq11 el hz hql hnd hb => ?_
  clear hz12'
  obtain rfl := hq11
  try clear hR3
  exact ⟨_, rfl, q l H' zs qs mv pn' hl el hz (by rw [hql]) hnd hb⟩
theorem Gp : Ao ["places"] ["places"] (Ae (top 30)) := ⟨rfl, rfl, rfl, by decide +kernel, rfl, by decide +kernel, by decide +kernel⟩
theorem Gw {f : Addr} {fd : FuncData} (F : Fun K "are_unlike" "are_unlike" (top 30) f fd) (Qr : mg "len" = none) (b_set : mg "set" = none) (hT : P.given.tree = none) :
 AH P w K mg base CX0 33 f fd ["places"] (Fp K) := by
 refine F.ok Gp (fun vs H Q E h => ?_) (fun cdv A outer s H vs Q E hr h => ?_)
 ·obtain ⟨_, _, _, rfl, _⟩ := h; rfl
 refine ⟨_, (Ag (As (Df FL (Av Lo rfl Qr AJ (A0 (DO (Qd K rfl hr.units) rfl b_set P6 (A0 (pv 0) Ab)) Ab)) (Av (BV K) rfl Qr AJ (A0 (pv 0) Ab)) (AB _)))), ?_⟩
 obtain ⟨l, ys, qs, rfl, hS, hn, hnd, h17, q⟩ := h
 have hl := hn.length
 refine ⟨_, rfl, l, ys, qs, rfl, hS, hn, hnd, h17, fun p hp => ⟨p, qs.length, rfl, Aa, by lia, ?_⟩⟩
 have s1 : Af H (upd H p (MV p qs.length)) := Af.new hp
 refine ⟨_, rfl, l, ys, rfl, .inl (Af.seq s1 hS), rfl, ?_⟩
 have e : (V.int ((qs.length : Nat) : Int) = V.int ((ys.length : Nat) : Int)) := by rw [hl]
 rw [decide_eq_true e]
 exact q _ s1
theorem EZ : Ao ["places", "fewest"] ["places", "fewest"] (Ae (top 31)) := ⟨rfl, rfl, rfl, by decide +kernel, rfl, by decide +kernel, by decide +kernel⟩
theorem Ff {f : Addr} {fd : FuncData} (F : Fun K "check_places" "check_places" (top 31) f fd) (Rn : Fd P w K mg base 33 "are_unlike" ["places"] (Fp K)) (Qr : mg "len" = none) {t_MOST_TOLD : Tok} (c_MOST_TOLD : mg "MOST_TOLD" = some (.int 12 t_MOST_TOLD)) (hT : P.given.tree = none) :
 AH P w K mg base CX0 34 f fd ["places", "fewest"] (Hs K) := by
 refine F.ok EZ (fun vs H Q E h => ?_) (fun cdv A outer s H vs Q E hr h => ?_)
 ·obtain ⟨_, _, _, _, rfl, _⟩ := h; rfl
 refine ⟨_, (Ad (K := K) (Bj (K := K) (PW.pt (M0 (AA EV (Av (BV K) rfl Qr AJ (A0 (pv 0) Ab)) (pv 1) (AB _)) (JB (AA FK (Av (BV K) rfl Qr AJ (A0 (pv 0) Ab)) (DN (v := .int 12) rfl c_MOST_TOLD ⟨_, rfl⟩) (AB _))))) (Ag Ci) AY (by rfl) (by rfl))
  (Ag (Bj (K := K) (HH (HE (Ak Rn hr rfl (A0 (pv 0) Ab)))) (Ag Ci) AY (by rfl) (by rfl))) (by rfl)), ?_⟩
 obtain ⟨l, few, ys, qs, rfl, hS, hn, hnd, h12, hf, q⟩ := h
 have hl := hn.length
 refine ⟨_, rfl, l, ys, rfl, .inl hS, _, rfl, _, _, rfl, rfl, _, rfl, ?_⟩
 refine Be (by rw [decide_eq_false (show ¬ ((ys.length : Int) < few) by lia)] <;> rfl) ?_
 refine ⟨_, rfl, l, ys, rfl, .inl hS, _, _, rfl, rfl, _, rfl, ?_⟩
 refine Be (by rw [decide_eq_false (show ¬ ((12 : Int) < (ys.length : Int)) by lia)] <;> rfl) ?_
 exact ⟨_, rfl, l, ys, qs, rfl, hS, hn, hnd, by lia, fun H' s => ⟨_, rfl, JT (q H' s)⟩⟩
theorem EA : Ao ["places", "heights"] ["places", "heights"] (Ae (top 35)) := ⟨rfl, rfl, rfl, by decide +kernel, rfl, by decide +kernel, by decide +kernel⟩
theorem EH {f : Addr} {fd : FuncData} (F : Fun K "check_heights" "check_heights" (top 35) f fd) (Ro : Fd P w K mg base 34 "check_places" ["places", "fewest"] (Hs K)) (Qr : mg "len" = none) (hT : P.given.tree = none) :
 AH P w K mg base CX0 35 f fd ["places", "heights"] (Fv K) := by
 refine F.ok EA (fun vs H Q E h => ?_) (fun cdv A outer s H vs Q E hr h => ?_)
 ·obtain ⟨_, _, _, _, _, rfl, _⟩ := h; rfl
 refine ⟨_, (Ad (K := K) (CI (Ak Ro hr rfl (A0 (pv 0) (A0 Ac Ab))))
  (Ag (Bj (K := K) (AA GQ (Av (BV K) rfl Qr AJ (A0 (pv 1) Ab)) (Av (BV K) rfl Qr AJ (A0 (pv 0) Ab)) (AB _)) (Ag Ci) AY (by rfl) (by rfl))) (by rfl)), ?_⟩
 obtain ⟨lp, lh, zs, ys, qs, rfl, hS, hN, hnd, h1, h12, hH, hl, q⟩ := h
 refine ⟨_, rfl, lp, 1, zs, qs, rfl, hS, hN, hnd, h12, by lia, fun H1 s1 => ?_⟩
 exact ⟨_, rfl, lh, ys, rfl, .inl (Af.seq s1 hH), _, rfl, lp, zs, rfl, .inl (Af.seq s1 hS), rfl, _, rfl, Be (by rw [hl, decide_eq_true rfl]; rfl) (q H1 s1)⟩
theorem Bc : Ao ["one", "other", "great", "small", "rest"] ["one", "other"] (Ae (top 7)) := ⟨rfl, rfl, rfl, by decide +kernel, rfl, by decide +kernel, by decide +kernel⟩
theorem Eh {f : Addr} {fd : FuncData} (F : Fun K "common_measure" "common_measure" (top 7) f fd) (QA : mg "abs" = none) (hT : P.given.tree = none) :
 AH P w K mg base CX0 33 f fd ["one", "other"] (IB) := by
 refine F.ok Bc (fun vs H Q E h => ?_) (fun cdv A outer s H vs Q E hr h => ?_)
 ·obtain ⟨_, _, rfl, _⟩ := h; rfl
 refine ⟨_, (Ad (K := K) (Aj (i := 2) Bc.nd rfl (Or.inl rfl) (Av Es rfl QA Io (A0 (pv 0) Ab)))
  (Ad (K := K) (Aj (i := 3) Bc.nd rfl (Or.inl rfl) (Av Es rfl QA Io (A0 (pv 1) Ab)))
  (Ad (K := K) (Ed PassesOwn.never (AA GQ (pv 3) Ac (AB _)) (Ad (K := K) (Aj (i := 4) Bc.nd rfl (Or.inl rfl) (Ah Cm (pv 2) (pv 3)))
  (Ad (K := K) (Aj (i := 2) Bc.nd rfl (Or.inl rfl) (pv 3))
  (Ag (Aj (i := 3) Bc.nd rfl (Or.inl rfl) (pv 4))) (by rfl)) (by rfl)))
  (Ag (As (pv 2))) (by rfl)) (by rfl)) (by rfl)), ?_⟩
 obtain ⟨a, b, rfl, q⟩ := h
 refine ⟨_, rfl, a, rfl, ?_⟩
 refine ⟨_, rfl, b, rfl, ?_⟩
 refine Iw (L3 H a b fun H a b σ H' => H' = H ∧ ∃ (x y : Int) (r : Option V), σ = [some (.int a), some (.int b), some (.int x), some (.int y), r] ∧ 0 ≤ x ∧ 0 ≤ y ∧ Tt x y = Tt a b) (fun σ _ => mu 3 σ)
  ⟨rfl, _, _, none, rfl, ?_, ?_, ?_⟩ ?_ ?_
 ·rw [Nm.abs_if]; exact VD _
 ·rw [Nm.abs_if]; exact VD _
 ·rw [Nm.abs_if, Nm.abs_if]; rfl
 ·rintro σ H' hR1
  refine BB hR1 fun hq13 hz15 => ?_
  refine GA hz15 fun x y r hz15' => ?_
  clear hz15
  refine GD hz15' fun hq14 hx hy hg => ?_
  clear hz15'
  obtain rfl := hq13
  obtain rfl := hq14
  try clear hR1
  refine ⟨_, rfl, rfl, _, rfl, ?_⟩
  by_cases hy0 : y = 0
  ·subst hy0
   refine Be (by rw [decide_eq_true rfl] <;> rfl) ⟨_, rfl, ?_⟩
   have e : (Tt a b : Int) = x := by rw [← hg, Int.gcd_zero]; lia
   rw [e] at q
   exact q
  ·refine BN (by rw [decide_eq_false (fun z => hy0 (V.int.inj z))] <;> rfl) ?_
   have hyp : 0 < y := by lia
   refine ⟨_, rfl, _, rfl, _, _, rfl, rfl, hyp, ?_⟩
   refine ⟨_, rfl, _, rfl, ⟨rfl, y, x % y, _, rfl, hy, UI _ hy0, ?_⟩, ?_⟩
   ·rw [Nm.gcd_turn]; exact hg
   ·show (x % y).toNat < y.toNat
    have := UJ x hyp
    lia
 ·rintro σ H' Q1 Q2 hm hR2
  obtain ⟨v, e, s1, k, ek, q1⟩ := hR2
  try clear hR2
  exact ⟨v, e, s1, k, ek, hm _ _ q1⟩
theorem Cp : Ao ["numbers", "bottom", "number"] ["numbers"] (Ae (top 15)) := ⟨rfl, rfl, rfl, by decide +kernel, rfl, by decide +kernel, by decide +kernel⟩
theorem HR {f : Addr} {fd : FuncData} (F : Fun K "bottom_of" "bottom_of" (top 15) f fd) (QG : Fd P w K mg base 33 "common_measure" ["one", "other"] (IB)) (hT : P.given.tree = none) :
 AH P w K mg base CX0 34 f fd ["numbers"] (ES K) := by
 refine F.ok Cp (fun vs H Q E h => ?_) (fun cdv A outer s H vs Q E hr h => ?_)
 ·obtain ⟨_, _, _, _, _, rfl, _⟩ := h; rfl
 refine ⟨_, (Ad (K := K) (Aj (i := 1) Cp.nd rfl (Or.inl rfl) Ac)
  (Ad (K := K) (Bh (K := K) PassesOwn.never rfl (piS K (pv 0)) (Ay (i := 2) Cp.nd rfl (Or.inl rfl)) (Ag (Aj (i := 1) Cp.nd rfl (Or.inl rfl) (Ah Ap (pv 1) (Ah (BL hr hT) (Ai (ixT K) (pv 2) Ac (fun u v => rfl)) (Ak QG hr rfl (A0 (pv 1) (A0 (Ai (ixT K) (pv 2) Ac (fun u v => rfl)) Ab))))))) (by rfl))
  (Ag (As (pv 1))) (by rfl)) (by rfl)), ?_⟩
 obtain ⟨b, r, xs, qs, n, rfl, hS, hn, hB, hz, q⟩ := h
 have hl := hn.length
 refine NL (b := b) (a := r) (xs := xs) rfl (L4 H r qs n fun H r qs n i σ H' => H' = H ∧ ∃ (B : Int) (z : Option V), σ = [some (.ref r), some (.int B), z] ∧ 0 < B ∧ (∀ q ∈ qs.take i, (q.den : Int) ∣ B) ∧ Bd (n * i + 1) B) ⟨rfl, 1, none, rfl, by decide, fun q hq => by simp at hq, by unfold Bd; rw [Nat.mul_zero]; decide⟩ (fun i σ H' _ p => by rw [p.1]; exact hS) ?_ ?_
 ·rintro i x σ H' hx hR1
  refine BB hR1 fun hq17 hz19 => ?_
  refine Cs hz19 fun B z hz19' => ?_
  clear hz19
  refine GD hz19' fun hq18 hB0 hdv hbd => ?_
  clear hz19'
  obtain rfl := hq17
  obtain rfl := hq18
  try clear hR1
  obtain ⟨c, hc, r', rfl, hr⟩ := (Paired.get hn hx)
  have hi : i < qs.length := (SF.mp hc).1
  have hcm : c ∈ qs := T5 hc
  have hd0 : 0 < (c.den : Int) := by have := c.den_pos; lia
  obtain ⟨l1, l2, l3⟩ := (Mq hB0 hd0)
  have g0 : (Tt B c.den : Int) ≠ 0 := by have := Nm.gcd_pos (a := B) (b := c.den) (by lia); lia
  have bd2 : Bd n (Int.fdiv c.den (Tt B c.den : Int)) := (hB c hcm).fdiv
  have hni : n * i ≤ n * qs.length := VE n (by lia)
  have hnm : n * (qs.length + 2) = n * qs.length + 2 * n := by rw [Ur]; lia
  refine ⟨_, rfl, _, rfl, r', _, _, _, rfl, rfl, hr, rfl, _, rfl, _, rfl, r', _, _, _, rfl, rfl, hr, rfl, _, _, rfl, _, _, rfl, rfl, g0, _, _, rfl, rfl, B0.bd hbd bd2 (by lia), ?_⟩
  refine ⟨rfl, _, _, rfl, l1, fun q' hq' => ?_, ?_⟩
  ·rw [TX, hc] at hq'
   rcases SD.mp hq' with z | z
   ·exact Int.dvd_trans (hdv q' z) l2
   ·have : q' = c := by simpa using z
    subst this; exact l3
  ·have := hbd.mul bd2
   rw [Ur, VF, show n * i + n + 1 = n * i + 1 + n by lia]
   exact this
 ·rintro σ H' hR2
  refine BB hR2 fun hq22 hz24 => ?_
  refine Cs hz24 fun B z hz24' => ?_
  clear hz24
  refine GD hz24' fun hq23 hB0 hdv hbd => ?_
  clear hz24'
  obtain rfl := hq22
  obtain rfl := hq23
  try clear hR2
  rw [hl, TZ] at hdv
  rw [hl] at hbd
  exact ⟨_, rfl, q B hB0 hdv hbd⟩
theorem Hy : Ao ["numbers", "bottom"] ["numbers", "bottom"] (Ae (top 16)) := ⟨rfl, rfl, rfl, by decide +kernel, rfl, by decide +kernel, by decide +kernel⟩
theorem HK {f : Addr} {fd : FuncData} (F : Fun K "tops_over" "tops_over" (top 16) f fd) (hT : P.given.tree = none) :
 AH P w K mg base CX0 33 f fd ["numbers", "bottom"] (DY K) := by
 refine F.ok Hy (fun vs H Q E h => ?_) (fun cdv A outer s H vs Q E hr h => ?_)
 ·obtain ⟨_, _, _, _, _, _, _, rfl, _⟩ := h; rfl
 refine ⟨_, (Ag (As (Cj rfl (N := ["number", "bottom"]) (nt := 1) (js := [1]) (Ba.look (NX := ["numbers", "bottom"]) (sc := Ae (top 16)) rfl rfl (by decide +kernel)) (piS K (pv 0)) (fun u1 u2 u3 u4 u5 => (Ay (i := 0) (show List.Nodup (["number", "bottom"] : List Str) from by decide +kernel) rfl (Or.inl rfl))) (AD (by decide)) (fun u1 u2 u3 u4 u5 => Bp) (fun u1 u2 u3 u4 u5 => (Ah Ap (Ai (ixT K) (pv 0) Ac (fun u v => rfl)) (Ah (BL hr hT) (pv 1) (Ai (ixT K) (pv 0) Ac (fun u v => rfl)))))))), ?_⟩
 obtain ⟨b, r, xs, qs, B, m, n, rfl, hS, hn, hbB, hbn, hmn, hz, q⟩ := h
 have hl := hn.length
 refine JQ (b := b) (a := r) (xs := xs) rfl (fun i zs H' => H' = H ∧ zs = ((qs.take i).map (Ar B)).map V.int) ⟨rfl, rfl⟩ (fun i zs H' hi p => ⟨by rw [p.1]; exact hS, by rw [p.2, T7, T7, SX]; lia⟩) (by rw [hl]; exact Sw (AN hz)) ?_ ?_
 ·rintro i x zs H' hx ⟨rfl, rfl⟩
  obtain ⟨c, hc, r', rfl, hr⟩ := (Paired.get hn hx)
  have hcm : c ∈ qs := T5 hc
  have hd0 : (c.den : Int) ≠ 0 := by have := c.den_pos; lia
  refine ⟨_, rfl, r', _, _, _, rfl, rfl, hr, rfl, _, rfl, _, rfl, r', _, _, _, rfl, rfl, hr, rfl, _, _, rfl, rfl, hd0, _, _, rfl, rfl, B0.bd (hbn c hcm) (hbB.fdiv (y := c.den)) (by lia), rfl, ?_⟩
  rw [TX, hc, TY, TY]
  rfl
 ·rintro zs H' ⟨rfl, rfl⟩ p hp
  rw [hl, TZ]
  exact q p hp
theorem Du : Ao ["numbers", "width"] ["numbers"] (Ae (top 14)) := ⟨rfl, rfl, rfl, by decide +kernel, rfl, by decide +kernel, by decide +kernel⟩
theorem IS {f : Addr} {fd : FuncData} (F : Fun K "curve_of" "curve_of" (top 14) f fd) (Qr : mg "len" = none) (QB : mg "tuple" = none) {a_NOUGHT : Addr} (c_NOUGHT : mg "NOUGHT" = some (.ref a_NOUGHT)) (n_NOUGHT : ∀ H : Hp, Az K H (.ref a_NOUGHT) (0)) (hT : P.given.tree = none) :
 AH P w K mg base CX0 33 f fd ["numbers"] (DK K) := by
 refine F.ok Du (fun vs H Q E h => ?_) (fun cdv A outer s H vs Q E hr h => ?_)
 ·obtain ⟨_, _, _, rfl, _⟩ := h; rfl
 refine ⟨_, (Ad (K := K) (Aj (i := 1) Du.nd rfl (Or.inl rfl) (Av (BV K) rfl Qr AJ (A0 (pv 0) Ab)))
  (Ad (K := K) (Ed PassesOwn.never (PW.pt (JC (AA FK (pv 1) Ac (AB _)) (HC (AA (eqD K hr.units) (Ai (ixL K) (pv 0) (Ah AX (pv 1) Ac) (fun u v => rfl)) (DN (v := .ref a_NOUGHT) rfl c_NOUGHT rfl) (AB _))))) (Ag (Aj (i := 1) Du.nd rfl (Or.inl rfl) (Ah AX (pv 1) Ac))))
  (Ag (As (DO (Ob K) rfl QB Je (A0 (BW (slL K) (pv 0) Ce (Cd (pv 1))) Ab)))) (by rfl)) (by rfl)), ?_⟩
 obtain ⟨r, xs, qs, rfl, hS, hn, hz, q⟩ := h
 have hl := hn.length
 refine ⟨_, rfl, r, xs, rfl, .inl hS, ?_⟩
 refine Pd (L3 H r qs fun H r qs σ H' => H' = H ∧ ∃ (v : Nat), σ = [some (.ref r), some (.int (v : Int))] ∧ v ≤ qs.length ∧ ∀ j q, v ≤ j → qs[j]? = some q → q = 0) (fun σ _ => mu 1 σ) ⟨rfl, qs.length, by rw [← hl]; rfl, SK _, fun j q hj e => absurd (SF.mp e).1 (by lia)⟩ ?_
 rintro σ H' hR1
 refine BB hR1 fun hq27 hz29 => ?_
 refine NN hz29 fun v hz29' => ?_
 clear hz29
 refine Dm hz29' fun hq28 hv hall => ?_
 clear hz29'
 obtain rfl := hq27
 obtain rfl := hq28
 try clear hR1
 have fin : (v = 0 ∨ ∃ q, qs[v - 1]? = some q ∧ q ≠ 0) → ∀ p, H' p = none → ∀ p', upd H' p (.lst (CA xs none (some (v : Int)))) p' = none → Q (.ref p') (upd (upd H' p (.lst (CA xs none (some (v : Int))))) p' (.tup (CA xs none (some (v : Int))))) := fun hc p hp p' hp' => by
  have e : CA xs none (some (v : Int)) = xs.take v := by
   unfold CA
   have e1 : HT.sIx xs.length 0 none = 0 := rfl
   have e2 : HT.sIx xs.length xs.length (some (v : Int)) = min v xs.length := HT.sIx_nat _ _ v
   rw [e1, e2, Ul, Um]
   apply U7
   intro i
   rw [V9, V9]
   split <;> split <;> first | rfl | lia | (rename_i h1 h2; exact (Ux (by lia)).symm) | (rename_i h1 h2; exact Ux (by lia))
  have sm : Af H' (upd (upd H' p (.lst (CA xs none (some (v : Int))))) p' (.tup (CA xs none (some (v : Int))))) := (Af.new hp).trans (Af.new hp')
  refine q p' _ sm ⟨xs.take v, SqT.of (by rw [e]; exact Aa), ?_⟩
  rw [← Cv.take_strip qs v hall hc]
  exact Paired.take v (Au.same hn sm)
 refine ⟨_, rfl, _, _, rfl, rfl, _, rfl, ?_⟩
 by_cases hv0 : v = 0
 ·subst hv0
  refine JT (JT ?_)
  exact ⟨_, rfl, _, rfl, _, rfl, r, xs, rfl, hS, fun p hp => ⟨p, _, rfl, .inl ⟨SqL.of Aa, fun p' hp' => fin (.inl rfl) p hp p' hp'⟩⟩⟩
 ·refine BN (by rw [decide_eq_true (show (0 : Int) < (v : Int) by lia)] <;> rfl) ?_
  have hvi : v - 1 < qs.length := by lia
  have hq : qs[v - 1]? = some qs[v - 1] := Uc hvi
  obtain ⟨x, hx, hxn⟩ := (Paired.get' hn hq)
  have hat : atI xs ((v : Int) - 1) = some x := by
   rw [show (v : Int) - 1 = ((v - 1 : Nat) : Int) by lia]
   exact Bv hx
  refine ⟨_, rfl, _, rfl, _, _, rfl, rfl, r, xs, _, x, rfl, rfl, hS, hat, ?_⟩
  refine eqN hxn (n_NOUGHT _) ?_
  refine ⟨_, rfl, ?_⟩
  by_cases hq0 : qs[v - 1] = 0
  ·refine BN (by rw [decide_eq_true hq0] <;> rfl) (Pc ?_)
   refine ⟨_, rfl, _, _, rfl, rfl, ⟨rfl, v - 1, ?_, by lia, fun j q' hj e => ?_⟩, ?_⟩
   ·show [some (V.ref r), some (V.int ((v : Int) - 1))] = [some (V.ref r), some (V.int ((v - 1 : Nat) : Int))]
    rw [show (v : Int) - 1 = ((v - 1 : Nat) : Int) by lia]
   ·by_cases hjv : v ≤ j
    ·exact hall j q' hjv e
    ·have : j = v - 1 := by lia
     subst this
     rw [hq] at e
     cases e
     exact hq0
   ·show ((v : Int) - 1).toNat < (v : Int).toNat
    lia
  ·refine Be (by rw [decide_eq_false hq0] <;> rfl) ?_
   exact ⟨_, rfl, _, rfl, _, rfl, r, xs, rfl, hS, fun p hp => ⟨p, _, rfl, .inl ⟨SqL.of Aa, fun p' hp' => fin (.inr ⟨_, hq, hq0⟩) p hp p' hp'⟩⟩⟩
theorem D9 : Ao ["top", "bottom", "measure"] ["top", "bottom"] (Ae (top 8)) := ⟨rfl, rfl, rfl, by decide +kernel, rfl, by decide +kernel, by decide +kernel⟩
theorem HM {f : Addr} {fd : FuncData} (F : Fun K "number_of" "number_of" (top 8) f fd) (QG : Fd P w K mg base 33 "common_measure" ["one", "other"] (IB)) (hT : P.given.tree = none) :
 AH P w K mg base CX0 34 f fd ["top", "bottom"] (CQ) := by
 refine F.ok D9 (fun vs H Q E h => ?_) (fun cdv A outer s H vs Q E hr h => ?_)
 ·obtain ⟨_, _, rfl, _⟩ := h; rfl
 refine ⟨_, (Ad (K := K) (Bj (K := K) (AA FL (pv 1) Ac (AB _)) (Ag Ci) AY (by rfl) (by rfl))
  (Ad (K := K) (Aj (i := 2) D9.nd rfl (Or.inl rfl) (Ak QG hr rfl (A0 (pv 0) (A0 (pv 1) Ab))))
  (Ad (K := K) (Bj (K := K) (AA EV (pv 1) Ac (AB _)) (Ag (Aj (i := 2) D9.nd rfl (Or.inl rfl) (Dy Ct (pv 2)))) AY (by rfl) (by rfl))
  (Ag (As (AO (A0 (Ah (BL hr hT) (pv 0) (pv 2)) (A0 (Ah (BL hr hT) (pv 1) (pv 2)) Ab))))) (by rfl)) (by rfl)) (by rfl)), ?_⟩
 obtain ⟨a, b, rfl, hb, q⟩ := h
 refine ⟨_, rfl, rfl, _, rfl, ?_⟩
 refine Be (by rw [decide_eq_false (fun z => hb (V.int.inj z))] <;> rfl) ?_
 refine ⟨_, rfl, _, rfl, a, b, rfl, ?_⟩
 refine ⟨_, rfl, _, _, rfl, rfl, _, rfl, ?_⟩
 have hd : Nm.msr a b ≠ 0 := Nm.msr_ne hb
 have fin : ∀ p, H p = none → Q (.ref p) (upd H p (.tup [.int (a.fdiv (Nm.msr a b)), .int (b.fdiv (Nm.msr a b))])) := fun p hp => by
  rw [Nm.top_msr hb, Nm.bottom_msr hb]; exact q p hp
 by_cases hb0 : b < 0
 ·have hd' : Nm.msr a b = -(Tt a b : Int) := by unfold Nm.msr; rw [if_pos hb0]
  rw [hd'] at hd fin
  refine BN (by rw [decide_eq_true hb0] <;> rfl) ⟨_, rfl, _, rfl, ?_⟩
  exact ⟨_, rfl, _, rfl, _, _, rfl, rfl, hd, _, rfl, _, rfl, _, _, rfl, rfl, hd, (by decide : 2 ≤ sizeLine), fin⟩
 ·have hd' : Nm.msr a b = (Tt a b : Int) := by unfold Nm.msr; rw [if_neg hb0]
  rw [hd'] at hd fin
  refine Be (by rw [decide_eq_false hb0] <;> rfl) ?_
  exact ⟨_, rfl, _, rfl, _, _, rfl, rfl, hd, _, rfl, _, rfl, _, _, rfl, rfl, hd, (by decide : 2 ≤ sizeLine), fin⟩
theorem Gn : Ao ["tops", "bottom"] ["tops", "bottom"] (Ae (top 17)) := ⟨rfl, rfl, rfl, by decide +kernel, rfl, by decide +kernel, by decide +kernel⟩
theorem Gv {f : Addr} {fd : FuncData} (F : Fun K "curve_over" "curve_over" (top 17) f fd) (QQ : Fd P w K mg base 33 "curve_of" ["numbers"] (DK K)) (Qz : Fd P w K mg base 34 "number_of" ["top", "bottom"] (CQ)) (hT : P.given.tree = none) :
 AH P w K mg base CX0 35 f fd ["tops", "bottom"] (BH K) := by
 refine F.ok Gn (fun vs H Q E h => ?_) (fun cdv A outer s H vs Q E hr h => ?_)
 ·obtain ⟨_, _, _, rfl, _⟩ := h; rfl
 refine ⟨_, (Ag (As (Ak QQ hr rfl (A0 (Cj rfl (N := ["top", "bottom"]) (nt := 1) (js := [1]) (Ba.look (NX := ["tops", "bottom"]) (sc := Ae (top 17)) rfl rfl (by decide +kernel)) (piS K (pv 0)) (fun u1 u2 u3 u4 u5 => (Ay (i := 0) (show List.Nodup (["top", "bottom"] : List Str) from by decide +kernel) rfl (Or.inl rfl))) (AD (by decide)) (fun u1 u2 u3 u4 u5 => Bp) (fun u1 u2 u3 u4 u5 => (Ak Qz hr rfl (A0 (pv 0) (A0 (pv 1) Ab))))) Ab)))), ?_⟩
 obtain ⟨l, ts, b, rfl, hS, hb, hz, q⟩ := h
 have ll : (ts.map V.int).length = ts.length := T7 _
 refine JQ (b := true) (a := l) (xs := ts.map V.int) rfl (L4 H K ts b fun H K ts b i zs H' => Af H H' ∧ zs.length = i ∧ Au K H' zs ((ts.take i).map fun t => Tv t b)) ⟨Af.refl _, rfl, .nil⟩ (fun i zs H' _ p => ⟨Af.seq p.1 hS, p.2.1⟩) (by rw [ll]; exact Sw (AN hz)) ?_ ?_
 ·rintro i x zs H' hx ⟨sm, hl, hn⟩
  rw [T3] at hx
  cases et : ts[i]? with
  | none => rw [et] at hx; cases hx
  | some t =>
    rw [et] at hx
    cases hx
    refine ⟨_, rfl, _, rfl, t, b, rfl, hb, fun p hp => ⟨sm.trans (Af.new hp), by simp [hl], ?_⟩⟩
    rw [TX, et, TY]
    exact Paired.snoc (Au.same hn (Af.new hp)) (Az.of Aa)
 ·rintro zs H' ⟨sm, hl, hn⟩ p hp
  rw [ll, TZ] at hn
  refine ⟨p, zs, _, rfl, SqL.of Aa, Au.same hn (Af.new hp), by rw [T7]; exact hz, fun r H2 s2 c => q r H2 ((sm.trans (Af.new hp)).trans s2) c⟩
theorem BP : Ao ["first", "second", "product", "k", "j"] ["first", "second"] (Ae (top 20)) := ⟨rfl, rfl, rfl, by decide +kernel, rfl, by decide +kernel, by decide +kernel⟩
theorem EF {f : Addr} {fd : FuncData} (F : Fun K "whole_product" "whole_product" (top 20) f fd) (Qs : mg "range" = none) (Qr : mg "len" = none) (hT : P.given.tree = none) :
 AH P w K mg base CX0 33 f fd ["first", "second"] (Fs K) := by
 refine F.ok BP (fun vs H Q E h => ?_) (fun cdv A outer s H vs Q E hr h => ?_)
 ·obtain ⟨_, _, _, _, _, _, rfl, _⟩ := h; rfl
 refine ⟨_, (Ad (K := K) (Aj (i := 2) BP.nd rfl (Or.inl rfl) (Ah EE (AS (A0 Ac Ab)) (Ah AX (Ah AK (Av (BV K) rfl Qr AJ (A0 (pv 0) Ab)) (Av (BV K) rfl Qr AJ (A0 (pv 1) Ab))) Ac)))
  (Ad (K := K) (Bh (K := K) PassesOwn.never rfl (BQ rfl Qs (A0 (Av (BV K) rfl Qr AJ (A0 (pv 0) Ab)) Ab)) (Ay (i := 3) BP.nd rfl (Or.inl rfl)) (Ag (Bh (K := K) PassesOwn.never rfl (BQ rfl Qs (A0 (Av (BV K) rfl Qr AJ (A0 (pv 1) Ab)) Ab)) (Ay (i := 4) BP.nd rfl (Or.inl rfl)) (Ag (EB (Ah AK (Ai (ixL K) (pv 2) (Ah AK (pv 3) (pv 4)) (fun u v => rfl)) (Ah Ap (Ai (ixL K) (pv 0) (pv 3) (fun u v => rfl)) (Ai (ixL K) (pv 1) (pv 4) (fun u v => rfl)))) (EC (pv 2) (Ah AK (pv 3) (pv 4)) CT))) (by rfl))) (by rfl))
  (Ag (As (pv 2))) (by rfl)) (by rfl)), ?_⟩
 obtain ⟨f, g, fs, gs, m, n, rfl, hf, hg, hg1, hf1000, hg1000, hbf, hbg, hmn, q⟩ := h
 have lf : (fs.map V.int).length = fs.length := T7 _
 have lg : (gs.map V.int).length = gs.length := T7 _
 have P1 : 1 ≤ sizeLine := by decide
 have hfg : fs.length * gs.length ≤ 1000 * 1000 := Vo hf1000 hg1000
 refine ⟨P1, fun o ho => ?_⟩
 have hf0 : SqL K (upd H o (.lst [.int 0])) f (fs.map V.int) := LJ hf ho
 have hg0 : SqL K (upd H o (.lst [.int 0])) g (gs.map V.int) := LJ hg ho
 refine ⟨_, rfl, f, _, rfl, .inl hf0, _, rfl, g, _, rfl, .inl hg0, _, _, rfl, rfl, _, _, rfl, rfl, o, _, _, rfl, rfl, Aa, ?_, ?_, ?_, fun p hp => ?_⟩
 ·rw [lf, lg]; lia
 ·rw [lf, lg]; lia
 ·show 1 * (((fs.map V.int).length : Int) + ((gs.map V.int).length : Int) - 1).toNat ≤ sizeLine
  rw [lf, lg, Ui]
  exact Sv (KY hf1000 hg1000) (by decide : 2 * 1000 ≤ sizeLine)
 have hpH : H p = none := by
  cases z : H p with
  | none => rfl
  | some u => rw [(Af.new ho) p u z] at hp; cases hp
 have eL : (((fs.map V.int).length : Int) + ((gs.map V.int).length : Int) - 1).toNat = fs.length + gs.length - 1 := by rw [lf, lg]; exact Mj hg1
 rw [eL]
 have s0 : Af H (upd (upd H o (.lst [.int 0])) p (.lst (SV (fs.length + gs.length - 1) [V.int 0]).flatten)) := (Af.new ho).trans (Af.new hp)
 have e0 : (SV (fs.length + gs.length - 1) [V.int 0]).flatten = (SV (fs.length + gs.length - 1) (0 : Int)).map V.int := by rw [List.flatten_replicate_singleton, List.map_replicate]
 rw [e0] at s0 ⊢
 refine ⟨_, rfl, f, _, rfl, .inl (Af.seq s0 hf), _, rfl, by rw [lf]; lia, by rw [lf]; lia, ?_⟩
 rw [lf, Td]
 refine C0 (n := fs.length) (L8 H f g p fs gs m n fun H f g p fs gs m n i σ H' => Af H H' ∧ ∃ (ps : List Int) (z3 z4 : Option V), σ = [some (.ref f), some (.ref g), some (.ref p), z3, z4] ∧ H' p = some (.lst (ps.map V.int)) ∧ ps.length = fs.length + gs.length - 1 ∧ (∀ x, Cv.evI ps x = Cv.evI (fs.take i) x * Cv.evI gs x) ∧ ∀ t ∈ ps, Up (i * gs.length) (m + n) t)
  ⟨s0, _, none, none, rfl, Aa, T8, fun x => ?_, fun t ht => ?_⟩ ?_ ?_
 ·rw [Cv.evI_zeros, UD]
  show (0 : Rat) = 0 * _
  grind
 ·rw [(Vp.mp ht).2]; exact SN _
 ·rintro i σ H' hi hR1
  refine BB hR1 fun sm hz31 => ?_
  refine GA hz31 fun ps z3 z4 hz31' => ?_
  clear hz31
  refine DG hz31' fun hq30 ep hpl hev hup => ?_
  clear hz31'
  obtain rfl := hq30
  try clear hR1
  have hfi : fs[i]? = some fs[i] := Uc hi
  refine ⟨_, rfl, g, _, rfl, .inl (Af.seq sm hg), _, rfl, by rw [lg]; lia, by rw [lg]; lia, ?_⟩
  rw [lg, Td]
  refine C0 (n := gs.length) (fun j σ H' => Af H H' ∧ ∃ (ps : List Int) (z4 : Option V), σ = [some (.ref f), some (.ref g), some (.ref p), some (.int (0 + (i : Int))), z4] ∧ H' p = some (.lst (ps.map V.int)) ∧ ps.length = fs.length + gs.length - 1 ∧ (∀ x, Cv.evI ps x = Cv.evI (fs.take i) x * Cv.evI gs x + (fs[i] : Rat) * x ^ i * Cv.evI (gs.take j) x) ∧ ∀ t ∈ ps, Up (i * gs.length + j) (m + n) t)
   ⟨sm, ps, z4, rfl, ep, hpl, fun x => ?_, hup⟩ ?_ ?_
  ·rw [hev x, UD]
   show _ = _ + _ * (0 : Rat)
   grind
  ·rintro j σ H2 hj hR2
   refine BB hR2 fun sm2 hz33 => ?_
   refine Cs hz33 fun ps2 z4' hz33' => ?_
   clear hz33
   refine DG hz33' fun hq32 ep2 hpl2 hev2 hup2 => ?_
   clear hz33'
   obtain rfl := hq32
   try clear hR2
   have hgj : gs[j]? = some gs[j] := Uc hj
   have hij : i + j < ps2.length := OG hi hj hpl2
   have hpj : ps2[i + j]? = some ps2[i + j] := Uc hij
   have bm : B0 fs[i] gs[j] := B0.bd (hbf _ (Ud hi)) (hbg _ (Ud hj)) (by lia)
   refine ⟨_, rfl, _, rfl, _, rfl, _, _, rfl, rfl, p, _, _, _, rfl, rfl, SqL.of ep2, CN hpj (by lia), _, rfl, _, rfl, f, _, _, _, rfl, rfl, Af.seq sm2 hf, CN hfi (by lia), _, rfl, _, rfl, g, _, _, _, rfl, rfl, Af.seq sm2 hg, CN hgj (by lia), _, _, rfl, rfl, bm, _, _, rfl, rfl, ?_⟩
   refine ⟨_, rfl, _, rfl, _, rfl, _, _, rfl, rfl, p, _, _, i + j, rfl, rfl, ep2, En (by rw [T7]; exact hij) (by lia), ?_⟩
   refine ⟨sm2.put hpH, ps2.set (i + j) (ps2[i + j] + fs[i] * gs[j]), _, rfl, ?_, by rw [Ti]; exact hpl2, fun x => ?_, fun t ht => ?_⟩
   ·rw [Aa, TV]
   ·rw [Cv.evI_set x ps2 (i + j) _ _ hpj, hev2 x, Cv.evI_take_succ x gs j _ hgj, TJ, Nm.pow_add]
    grind
   ·rcases VG ht with z | z
    ·exact (hup2 t z).mono (by lia)
    ·subst z
     exact (hup2 _ (Ud hij)).add ((hbf _ (Ud hi)).mul (hbg _ (Ud hj)))
  ·rintro σ H2 hR3
   refine BB hR3 fun sm2 hz35 => ?_
   refine Cs hz35 fun ps2 z4' hz35' => ?_
   clear hz35
   refine DG hz35' fun hq34 ep2 hpl2 hev2 hup2 => ?_
   clear hz35'
   obtain rfl := hq34
   try clear hR3
   refine ⟨sm2, ps2, _, _, rfl, ep2, hpl2, fun x => ?_, fun t ht => ?_⟩
   ·rw [hev2 x, TZ, Cv.evI_take_succ x fs i _ hfi]
    grind
   ·have := hup2 t ht
    rw [Uh, Ui]
    exact this
 ·rintro σ H' hR4
  refine BB hR4 fun sm hz37 => ?_
  refine GA hz37 fun ps z3 z4 hz37' => ?_
  clear hz37
  refine DG hz37' fun hq36 ep hpl hev hup => ?_
  clear hz37'
  obtain rfl := hq36
  try clear hR4
  refine ⟨_, rfl, q p H' ps sm hpH ep hpl (fun x => ?_) (fun t ht => ?_)⟩
  ·rw [hev x, TZ]
  ·exact (hup t ht).bd (k := 20) (by lia)
theorem Bx : Ao ["knots", "steps", "bottom", "step_tops", "tops", "scale", "k"] ["knots", "steps"] (Ae (top 48)) := ⟨rfl, rfl, rfl, by decide +kernel, rfl, by decide +kernel, by decide +kernel⟩
theorem IT {f : Addr} {fd : FuncData} (F : Fun K "by_steps" "by_steps" (top 48) f fd) (Qt : Fd P w K mg base 34 "bottom_of" ["numbers"] (ES K)) (Qv : Fd P w K mg base 33 "tops_over" ["numbers", "bottom"] (DY K)) (Qx : Fd P w K mg base 35 "curve_over" ["tops", "bottom"] (BH K)) (QH : Fd P w K mg base 33 "whole_product" ["first", "second"] (Fs K)) (Qs : mg "range" = none) (Qr : mg "len" = none) (hT : P.given.tree = none) :
 AH P w K mg base CX0 36 f fd ["knots", "steps"] (DL K) := by
 refine F.ok Bx (fun vs H Q E h => ?_) (fun cdv A outer s H vs Q E hr h => ?_)
 ·obtain ⟨_, _, _, _, _, _, _, rfl, _⟩ := h; rfl
 refine ⟨_, (Ad (K := K) (Aj (i := 2) Bx.nd rfl (Or.inl rfl) (Ak Qt hr rfl (A0 (pv 1) Ab)))
  (Ad (K := K) (Aj (i := 3) Bx.nd rfl (Or.inl rfl) (Ak Qv hr rfl (A0 (pv 1) (A0 (pv 2) Ab))))
  (Ad (K := K) (Aj (i := 4) Bx.nd rfl (Or.inl rfl) (AS Ab))
  (Ad (K := K) (Aj (i := 5) Bx.nd rfl (Or.inl rfl) Ac)
  (Ad (K := K) (Bh (K := K) PassesOwn.never rfl (K9 rfl Qs (A0 (Ah AX (Av (BV K) rfl Qr AJ (A0 (pv 0) Ab)) Ac) (A0 (Dy Ct Ac) (A0 (Dy Ct Ac) Ab)))) (Ay (i := 6) Bx.nd rfl (Or.inl rfl)) (Ad (K := K) (Aj (i := 4) Bx.nd rfl (Or.inl rfl) (Ak QH hr rfl (A0 (pv 4) (A0 (AS (A0 (Dy Ct (Ai (ixT K) (Ai (ixL K) (pv 0) (pv 6) (fun u v => rfl)) Ac (fun u v => rfl))) (A0 (Ai (ixT K) (Ai (ixL K) (pv 0) (pv 6) (fun u v => rfl)) Ac (fun u v => rfl)) Ab))) Ab))))
  (Ad (K := K) (Aj (i := 5) Bx.nd rfl (Or.inl rfl) (Ah Ap (pv 5) (Ai (ixT K) (Ai (ixL K) (pv 0) (pv 6) (fun u v => rfl)) Ac (fun u v => rfl))))
  (Ag (EB (Ah AK (Ai (ixL K) (pv 4) Ac (fun u v => rfl)) (Ah Ap (Ai (ixL K) (pv 3) (pv 6) (fun u v => rfl)) (pv 5))) (EC (pv 4) Ac CT))) (by rfl)) (by rfl)) (by rfl))
  (Ag (As (Ak Qx hr rfl (A0 (pv 4) (A0 (Ah Ap (pv 2) (pv 5)) Ab))))) (by rfl)) (by rfl)) (by rfl)) (by rfl)) (by rfl)), ?_⟩
 obtain ⟨rk, rst, xs, ys, ks, ss, n, rfl, hk, hnk, hs, hns, hlen, h30, hbk, hbs, hn4, q⟩ := h
 have hlk := hnk.length
 have hls := hns.length
 have P0 : 0 ≤ sizeLine := by decide
 have P2 : 2 ≤ sizeLine := by decide
 have hnq : n * ks.length ≤ 2048000 * 12 := Vo hn4 h30
 have hnq' : n * ss.length = n * ks.length := by rw [hlen]
 refine ⟨_, rfl, true, rst, ys, ss, n, rfl, hs, hns, (fun c hc => (hbs c hc).2), by rw [Ur]; lia, fun B hB0 hdv hbB => ?_⟩
 refine ⟨_, rfl, _, rfl, true, rst, ys, ss, B, n * ss.length + 1, n, rfl, hs, hns, hbB, (fun c hc => (hbs c hc).1), by lia, by lia, fun st h1 => ?_⟩
 refine ⟨P0, fun tp h2 => ?_⟩
 have s2 : Af H (upd (upd H st (.lst ((ss.map (Ar B)).map V.int))) tp (.lst [])) := (Af.new h1).trans (Af.new h2)
 have est : (upd (upd H st (.lst ((ss.map (Ar B)).map V.int))) tp (.lst [])) st = some (.lst ((ss.map (Ar B)).map V.int)) := (Af.new h2) _ _ Aa
 have etp : (upd (upd H st (.lst ((ss.map (Ar B)).map V.int))) tp (.lst [])) tp = some (.lst (([] : List Int).map V.int)) := Aa
 generalize upd (upd H st (.lst ((ss.map (Ar B)).map V.int))) tp (.lst []) = H2 at s2 est etp ⊢
 refine ⟨_, rfl, rk, xs, rfl, .inl (Af.seq s2 hk), _, _, rfl, rfl, _, rfl, _, rfl, _, _, rfl, ⟨by lia, by lia, by decide, by decide⟩, ?_⟩
 have eT : ((xs.length : Int) - 1 - -1).toNat = ks.length := Ny hlk
 rw [eT]
 refine J7 (n := ks.length) (L8 H2 rk rst B st ks ss n fun H2 rk rst B st ks ss n i σ H' => Af H2 H' ∧ ∃ (tp : Addr) (ts : List Int) (s : Int) (z : Option V), σ = [some (.ref rk), some (.ref rst), some (.int B), some (.ref st), some (.ref tp), some (.int s), z] ∧ H' tp = some (.lst (ts.map V.int)) ∧ ts.length = i ∧ s ≠ 0 ∧
  (∀ x, Cv.evI ts x = BM (ks.drop (ks.length - i)) (ss.drop (ks.length - i)) x * ((B : Rat) * (s : Rat))) ∧ (∀ t ∈ ts, Bd (n * ks.length + n * i + 21 * i + 2 * n + 30) t) ∧ Bd (n * i + 1) s)
  ⟨Af.refl _, tp, [], 1, none, rfl, etp, rfl, by decide, fun x => ?_, (fun _ h => nomatch h), ?_⟩ ?_ ?_
 ·rw [Um, UE (SK _)]
  show (0 : Rat) = 0 * _
  grind
 ·exact (show Bd 1 1 by unfold Bd; decide).mono (by lia)
 ·rintro i σ H' hi hR1
  refine BB hR1 fun sm hz39 => ?_
  refine Ie hz39 fun tp' ts s z hz39' => ?_
  clear hz39
  refine MQ hz39' fun hq38 etp' htl hs0 he hbt hbsc => ?_
  clear hz39'
  obtain rfl := hq38
  try clear hR1
  have hj : ks.length - 1 - i < ks.length := OF hi
  have hj2 : ks.length - 1 - i < ss.length := by lia
  have hkq : ks[ks.length - 1 - i]? = some ks[ks.length - 1 - i] := Uc hj
  have hsq : ss[ks.length - 1 - i]? = some ss[ks.length - 1 - i] := Uc hj2
  have hcm : ks[ks.length - 1 - i] ∈ ks := Ud hj
  have hsm : ss[ks.length - 1 - i] ∈ ss := Ud hj2
  generalize ks[ks.length - 1 - i] = c at hkq hcm
  generalize ss[ks.length - 1 - i] = d at hsq hsm
  obtain ⟨xk, hxk, rk', rfl, hrk⟩ := (Paired.get' hnk hkq)
  have ei : (xs.length : Int) - 1 - (i : Int) = ((ks.length - 1 - i : Nat) : Int) := Mm hlk hi
  have hat : atI xs ((xs.length : Int) - 1 - (i : Int)) = some (.ref rk') := by rw [ei]; exact Bv hxk
  have hat2 : atI ((ss.map (Ar B)).map V.int) ((xs.length : Int) - 1 - (i : Int)) = some (.int (Ar B d)) := CN (by rw [T3, hsq]; rfl) ei
  have hni : n * i ≤ n * ks.length := VE n (by lia)
  have hni1 : n * (i + 1) = n * i + n := by rw [Ur, VF]
  have bt : Bd (n * ks.length + n + 1) (Ar B d) := ((hbs d hsm).1.mul (hbB.fdiv (y := d.den))).mono (by lia)
  have sH := s2.trans sm
  have hrk1 := hrk.same sH
  refine ⟨_, rfl, _, rfl, _, rfl, rk, xs, _, _, rfl, rfl, Af.seq sH hk, hat, rk', _, _, _, rfl, rfl, hrk1, rfl, _, rfl, _, rfl, _, rfl, rk, xs, _, _, rfl, rfl, Af.seq sH hk, hat, rk', _, _, _, rfl, rfl, hrk1, rfl, P2, fun g hg => ?_⟩
  have sg : Af H' (upd H' g (.lst [.int (-c.num), .int (c.den : Int)])) := Af.new hg
  have eg : (upd H' g (.lst [.int (-c.num), .int (c.den : Int)])) g = some (.lst ([-c.num, (c.den : Int)].map V.int)) := Aa
  generalize upd H' g (.lst [.int (-c.num), .int (c.den : Int)]) = Hg at sg eg ⊢
  have blin : ∀ t ∈ [-c.num, (c.den : Int)], Bd n t := fun t ht => by
   rcases SA.mp ht with z | z
   ·subst z; exact (hbk c hcm).1.neg
   ·rw [Ub.mp z]; exact (hbk c hcm).2
  refine ⟨tp', g, ts, [-c.num, (c.den : Int)], n * ks.length + n * i + 21 * i + 2 * n + 30, n, rfl, SqL.of (sg _ _ etp'), SqL.of eg, (show 1 ≤ 2 by decide), by lia, (show 2 ≤ 1000 by decide), hbt, blin, by lia, fun pr H6 ps s6 hpr epr hpl hpe hpb => ?_⟩
  have hpl' : ps.length = i + 1 := by rw [hpl, htl]; rfl
  have hp0 : 0 < ps.length := by rw [hpl']; exact Uv i
  have h0 : ps[0]? = some ps[0] := Uc hp0
  have sg6 := sg.trans s6
  have s06 := sH.trans sg6
  have ms : B0 s (c.den : Int) := B0.bd hbsc (hbk c hcm).2 (by lia)
  have bs' : Bd (n * (i + 1) + 1) (s * (c.den : Int)) := (hbsc.mul (hbk c hcm).2).mono (by lia)
  refine ⟨_, rfl, _, rfl, _, rfl, rk, xs, _, _, rfl, rfl, Af.seq s06 hk, hat, rk', _, _, _, rfl, rfl, hrk.same s06, rfl, _, _, rfl, rfl, ms, ?_⟩
  refine ⟨_, rfl, pr, _, _, _, rfl, rfl, SqL.of epr, CN h0 rfl, _, rfl, _, rfl, st, _, _, _, rfl, rfl, SqL.of (sg6 _ _ (sm _ _ est)), hat2, _, rfl, _, _, rfl, rfl, B0.bd bt bs' (by lia), _, _, rfl, rfl, ?_⟩
  refine ⟨_, rfl, pr, _, _, 0, rfl, rfl, epr, En (by rw [T7]; lia) rfl, ?_⟩
  have sm2 : Af H2 (upd H6 pr (.lst ((ps.map V.int).set 0 (.int (ps[0] + Ar B d * (s * (c.den : Int))))))) := fun bb u zz => by
   have z1 := sg _ _ (sm bb u zz)
   rw [Aq (Aw z1 hpr)]
   exact s6 bb u z1
  refine ⟨sm2, pr, ps.set 0 (ps[0] + Ar B d * (s * (c.den : Int))), s * (c.den : Int), _, rfl, ?_, by rw [Ti]; exact hpl', TH hs0 (Nm.den_ne c), fun x => ?_, fun t ht => ?_, bs'⟩
  ·rw [Aa, TV]
  ·rw [Cv.evI_set x ps 0 _ _ h0, hpe x, MC, he x, TM, Ij rfl hi hkq, Ij hlen.symm hi hsq]
   show _ = (d + (x - c) * BM _ _ x) * _
   rw [TJ, TJ, CP (hdv d hsm)]
   grind
  ·rcases VG ht with zz | zz
   ·exact (hpb t zz).mono (by lia)
   ·subst zz
    have b1 := (hpb _ (Ud hp0)).mono (n := n * ks.length + n * i + 21 * i + 2 * n + 30 + n + 20) (by lia)
    have b2 := (bt.mul bs').mono (n := n * ks.length + n * i + 21 * i + 2 * n + 30 + n + 20) (by lia)
    exact (Bd.add b1 b2).mono (by lia)
 ·rintro σ H' hR2
  refine BB hR2 fun sm hz43 => ?_
  refine Ie hz43 fun tp' ts s z hz43' => ?_
  clear hz43
  refine MQ hz43' fun hq42 etp' htl hs0 he hbt hbsc => ?_
  clear hz43'
  obtain rfl := hq42
  try clear hR2
  have hb0 : B * s ≠ 0 := TH (by lia) hs0
  refine ⟨_, rfl, _, rfl, _, rfl, _, _, rfl, rfl, B0.bd hbB hbsc (by lia), tp', ts, B * s, rfl, SqL.of etp', hb0, by lia, fun p H6 s6 c6 => ?_⟩
  refine q p H6 _ ((s2.trans sm).trans s6) c6 (by have := Cv.strip_length (ts.map fun t => Tv t (B * s)); rw [T7] at this; lia) (AI _) (fun c hc => ?_) fun x => ?_
  ·have hc' := Cv.strip_mem _ c hc
   obtain ⟨t, ht, rfl⟩ := (UA.mp hc')
   exact RB.div (m := 0) ((hbt t ht).mono (by lia)) ((hbB.mul hbsc).mono (by lia)) hb0
  rw [Cv.ev_strip]
  have h7 := Ig hb0 x ts
  rw [he x, UC, Ul, Ul, ← TJ] at h7
  exact Nj (Nm.cast_ne hb0) h7
theorem Hz : Ao ["places"] ["places"] (Ae (top 51)) := ⟨rfl, rfl, rfl, by decide +kernel, rfl, by decide +kernel, by decide +kernel⟩
theorem HN {f : Addr} {fd : FuncData} (F : Fun K "nought_at" "nought_at" (top 51) f fd) (QS : Fd P w K mg base 36 "by_steps" ["knots", "steps"] (DL K)) (Qr : mg "len" = none) {a_NOUGHT : Addr} (c_NOUGHT : mg "NOUGHT" = some (.ref a_NOUGHT)) (n_NOUGHT : ∀ H : Hp, Az K H (.ref a_NOUGHT) (0)) (hT : P.given.tree = none) :
 AH P w K mg base CX0 37 f fd ["places"] (DZ K) := by
 refine F.ok Hz (fun vs H Q E h => ?_) (fun cdv A outer s H vs Q E hr h => ?_)
 ·obtain ⟨_, _, _, _, rfl, _⟩ := h; rfl
 refine ⟨_, (Ag (As (Ak QS hr rfl (A0 (Ah Dz (pv 0) (AS (A0 (DN (v := .ref a_NOUGHT) rfl c_NOUGHT rfl) Ab))) (A0 (Ah Dz (Ah EE (AS (A0 (DN (v := .ref a_NOUGHT) rfl c_NOUGHT rfl) Ab)) (Av (BV K) rfl Qr AJ (A0 (pv 0) Ab))) (AS (A0 (AO (A0 Ac (A0 Ac Ab))) Ab))) Ab))))), ?_⟩
 obtain ⟨l, zs, qs, n, rfl, hl, hN, hb, hn1, hn, h12, q⟩ := h
 have P1 : 1 ≤ sizeLine := by decide
 have P2 : 2 ≤ sizeLine := by decide
 have P60 : 60 ≤ sizeLine := by decide
 have hzl := hN.length
 refine ⟨_, rfl, P1, fun o1 h1 => ?_⟩
 have n1 := Af.new (o := .lst [.ref a_NOUGHT]) h1
 refine ⟨l, o1, zs, [.ref a_NOUGHT], rfl, rfl, n1 _ _ hl, Aa, Sv (show _ ≤ 60 by rw [Tp]; lia) P60, fun o2 h2 => ?_⟩
 have n2 := Af.new (o := .lst (zs ++ [.ref a_NOUGHT])) h2
 have s2 := n1.trans n2
 have e2 := Aa (H := upd H o1 (.lst [.ref a_NOUGHT])) (a := o2) (o := .lst (zs ++ [.ref a_NOUGHT]))
 generalize upd (upd H o1 (.lst [.ref a_NOUGHT])) o2 (.lst (zs ++ [.ref a_NOUGHT])) = H2 at s2 e2 ⊢
 refine ⟨P1, fun o3 h3 => ?_⟩
 have n3 := Af.new (o := .lst [.ref a_NOUGHT]) h3
 refine ⟨_, rfl, l, zs, rfl, .inl (SqL.of (n3 _ _ (s2 _ _ hl))), o3, _, [.ref a_NOUGHT], rfl, rfl, Aa, by lia, by lia, Sv (show _ ≤ 60 by show 1 * _ ≤ 60; lia) P60, fun o4 h4 => ?_⟩
 rw [Td, Pu]
 have n4 := n3.trans (Af.new (o := .lst (SV zs.length (.ref a_NOUGHT))) h4)
 have e4 := Aa (H := upd H2 o3 (.lst [.ref a_NOUGHT])) (a := o4) (o := .lst (SV zs.length (.ref a_NOUGHT)))
 generalize upd (upd H2 o3 (.lst [.ref a_NOUGHT])) o4 (.lst (SV zs.length (.ref a_NOUGHT))) = H4 at n4 e4 ⊢
 refine ⟨P2, fun t5 h5 => ⟨P1, fun o6 h6 => ?_⟩⟩
 have n5 := Af.new (o := .tup [.int 1, .int 1]) h5
 have n6 := Af.new (o := .lst [.ref t5]) h6
 have e5 := n6 _ _ (Aa (H := H4) (a := t5) (o := .tup [.int 1, .int 1]))
 refine ⟨o4, o6, _, _, rfl, rfl, n6 _ _ (n5 _ _ e4), Aa, Sv (show _ ≤ 60 by rw [Tp, T8]; lia) P60, fun o7 h7 => ?_⟩
 have n7 := Af.new (o := .lst (SV zs.length (.ref a_NOUGHT) ++ [.ref t5])) h7
 have s47 := (n5.trans n6).trans n7
 have s27 := n4.trans s47
 have e7 := Aa (H := upd (upd H4 t5 (.tup [.int 1, .int 1])) o6 (.lst [.ref t5])) (a := o7) (o := .lst (SV zs.length (.ref a_NOUGHT) ++ [.ref t5]))
 have e5 := n7 _ _ e5
 generalize upd (upd (upd H4 t5 (.tup [.int 1, .int 1])) o6 (.lst [.ref t5])) o7 (.lst (SV zs.length (.ref a_NOUGHT) ++ [.ref t5])) = H7 at s27 e7 e5 ⊢
 have hrb0 : RB n (0 : Rat) := ⟨(show Bd 1 0 by unfold Bd; decide).mono hn1, (show Bd 1 1 by unfold Bd; decide).mono hn1⟩
 have hrb1 : RB n (1 : Rat) := ⟨(show Bd 1 1 by unfold Bd; decide).mono hn1, (show Bd 1 1 by unfold Bd; decide).mono hn1⟩
 refine ⟨o2, o7, _, _, qs ++ [0], SV qs.length 0 ++ [1], n, rfl, SqL.of (s27 _ _ e2), Paired.append (Au.same hN (s2.trans s27)) (.cons (n_NOUGHT _) .nil), SqL.of e7, ?_, by rw [T6, T6, T8]; rfl, by rw [T6, Tp]; lia, ?_, ?_, by lia, fun p H' cs s8 cC hcl hg hrb hev => ?_⟩
 ·rw [← hzl]
  exact Paired.append (IW (n_NOUGHT _) _) (.cons ⟨t5, rfl, SqT.of e5⟩ .nil)
 ·intro c hc
  rcases SD.mp hc with z | z
  ·exact hb c z
  ·rw [Ub.mp z]; exact hrb0
 ·intro c hc
  rcases SD.mp hc with z | z
  ·rw [Vt z]; exact hrb0
  ·rw [Ub.mp z]; exact hrb1
 have ecs : cs = prL qs := AW hg (D0 qs) fun x => by rw [hev x, Ei, Cb]
 rw [ecs] at cC hrb
 refine q p H' ((s2.trans s27).trans s8) cC fun c hc => (hrb c hc).mono ?_
 have e : (qs ++ [(0 : Rat)]).length = qs.length + 1 := by rw [T6, Tp]
 have := VE n (show qs.length + 1 ≤ 7 by lia)
 rw [e]
 lia
theorem Nd : Ao ["a", "b"] ["a", "b"] (Ae (top 11)) := ⟨rfl, rfl, rfl, by decide +kernel, rfl, by decide +kernel, by decide +kernel⟩
theorem Nu {f : Addr} {fd : FuncData} (F : Fun K "over" "over" (top 11) f fd) (Qz : Fd P w K mg base 34 "number_of" ["top", "bottom"] (CQ)) (hT : P.given.tree = none) :
 AH P w K mg base CX0 35 f fd ["a", "b"] (Hn K) := by
 refine F.ok Nd (fun vs H Q E h => ?_) (fun cdv A outer s H vs Q E hr h => ?_)
 ·obtain ⟨_, _, _, _, _, _, rfl, _⟩ := h; rfl
 refine ⟨_, (Ag (As (Ak Qz hr rfl (A0 (Ah Ap (Ai (ixT K) (pv 0) Ac (fun u v => rfl)) (Ai (ixT K) (pv 1) Ac (fun u v => rfl))) (A0 (Ah Ap (Ai (ixT K) (pv 0) Ac (fun u v => rfl)) (Ai (ixT K) (pv 1) Ac (fun u v => rfl))) Ab))))), ?_⟩
 obtain ⟨x, y, p, q, m, n, rfl, ⟨r, rfl, hr'⟩, ⟨u, rfl, hu⟩, q0, hp, hq, hmn, k⟩ := h
 have hn : q.num ≠ 0 := fun z => q0 (Vl.mp z)
 refine ⟨_, rfl, r, _, _, _, rfl, rfl, hr', rfl, _, rfl, u, _, _, _, rfl, rfl, hu, rfl, _, _, rfl, rfl, B0.bd hp.1 hq.2, ?_⟩
 refine ⟨_, rfl, r, _, _, _, rfl, rfl, hr', rfl, _, rfl, u, _, _, _, rfl, rfl, hu, rfl, _, _, rfl, rfl, B0.bd hp.2 hq.1, ?_⟩
 refine ⟨_, _, rfl, TH (Nm.den_ne p) hn, fun z hz => ?_⟩
 have e := k z hz
 rw [← Ka p q q0] at e
 exact e
theorem AE : Ao ["first", "second", "lead", "often", "rest", "shift", "top", "k"] ["first", "second"] (Ae (top 26)) := ⟨rfl, rfl, rfl, by decide +kernel, rfl, by decide +kernel, by decide +kernel⟩
theorem Eg {f : Addr} {fd : FuncData} (F : Fun K "whole_division" "whole_division" (top 26) f fd) (QT : mg "list" = none) (Qs : mg "range" = none) (Qr : mg "len" = none) (hT : P.given.tree = none) :
 AH P w K mg base CX0 33 f fd ["first", "second"] (LP K) := by
 refine F.ok AE (fun vs H Q E h => ?_) (fun cdv A outer s H vs Q E hr h => ?_)
 ·obtain ⟨_, _, _, _, _, _, _, rfl, _⟩ := h; rfl
 refine ⟨_, (Ad (K := K) (Aj (i := 2) AE.nd rfl (Or.inr rfl) (Ai (ixL K) (pv 1) (Dy Ct Ac) (fun u v => rfl)))
  (Ad (K := K) (Aj (i := 3) AE.nd rfl (Or.inl rfl) (AS Ab))
  (Ad (K := K) (Aj (i := 4) AE.nd rfl (Or.inl rfl) (DO (PM K) rfl QT NO (A0 (pv 0) Ab)))
  (Ad (K := K) (Bh (K := K) PassesOwn.never rfl (K9 rfl Qs (A0 (Ah AX (Av (BV K) rfl Qr AJ (A0 (pv 0) Ab)) (Av (BV K) rfl Qr AJ (A0 (pv 1) Ab))) (A0 (Dy Ct Ac) (A0 (Dy Ct Ac) Ab)))) (Ay (i := 5) AE.nd rfl (Or.inl rfl)) (Ad (K := K) (Aj (i := 6) AE.nd rfl (Or.inl rfl) (Ai (ixL K) (pv 4) (Dy Ct Ac) (fun u v => rfl)))
  (Ad (K := K) (Aj (i := 3) AE.nd rfl (Or.inl rfl) (Ah Dz (AS (A0 (pv 6) Ab)) (Cj rfl (N := ["number", "lead"]) (nt := 1) (js := [2]) (Ba.look (NX := ["first", "second", "lead", "often", "rest", "shift", "top", "k"]) (sc := Ae (top 26)) rfl rfl (by decide +kernel)) (piL K (pv 3)) (fun u1 u2 u3 u4 u5 => (Ay (i := 0) (show List.Nodup (["number", "lead"] : List Str) from by decide +kernel) rfl (Or.inl rfl))) (AD (by decide)) (fun u1 u2 u3 u4 u5 => Bp) (fun u1 u2 u3 u4 u5 => (Ah Ap (pv 1) (pv 0))))))
  (Ad (K := K) (M5 (i := 4) rfl AE.nd rfl rfl (N := ["number", "lead"]) (nt := 1) (js := [2]) (Ba.look (NX := ["first", "second", "lead", "often", "rest", "shift", "top", "k"]) (sc := Ae (top 26)) rfl rfl (by decide +kernel)) (piL K (BW (slL K) (pv 4) Ce (Cd (Dy Ct Ac)))) (fun u1 u2 u3 u4 u5 => (Ay (i := 0) (show List.Nodup (["number", "lead"] : List Str) from by decide +kernel) rfl (Or.inl rfl))) (AD (by decide)) (fun u1 u2 u3 u4 u5 => Bp) (fun u1 u2 u3 u4 u5 => (Ah Ap (pv 1) (pv 0))) rfl)
  (Ag (Bh (K := K) PassesOwn.never rfl (BQ rfl Qs (A0 (Ah AX (Av (BV K) rfl Qr AJ (A0 (pv 1) Ab)) Ac) Ab)) (Ay (i := 7) AE.nd rfl (Or.inl rfl)) (Ag (EB (Ah AX (Ai (ixL K) (pv 4) (Ah AK (pv 7) (pv 5)) (fun u v => rfl)) (Ah Ap (pv 6) (Ai (ixL K) (pv 1) (pv 7) (fun u v => rfl)))) (EC (pv 4) (Ah AK (pv 7) (pv 5)) CT))) (by rfl))) (by rfl)) (by rfl)) (by rfl)) (by rfl))
  (Ag (As (AO (A0 (pv 3) (A0 (pv 4) Ab))))) (by rfl)) (by rfl)) (by rfl)) (by rfl)), ?_⟩
 obtain ⟨f, g, fs, gs, lead, M, L, rfl, hf, hg, hlead, hf1000, hg1000, hbf, hbg, hM, hL, q⟩ := h
 have P0 : 0 ≤ sizeLine := by decide
 have P1 : 1 ≤ sizeLine := by decide
 have P2 : 2 ≤ sizeLine := by decide
 have lf : (fs.map V.int).length = fs.length := T7 _
 have lg : (gs.map V.int).length = gs.length := T7 _
 have hg1 : 1 ≤ gs.length := by have := (SF.mp hlead).1; lia
 have hlv : (gs.map V.int)[(gs.map V.int).length - 1]? = some (V.int lead) := by rw [lg, T3, hlead]; rfl
 have bl : Bd L lead := hbg _ (T5 hlead)
 refine ⟨_, rfl, _, rfl, g, _, _, _, rfl, rfl, hg, DF hlv, ?_⟩
 refine ⟨P0, fun oa hoa => ?_⟩
 have s1 : Af H (upd H oa (.lst [])) := Af.new hoa
 refine ⟨_, rfl, f, _, rfl, .inl (Af.seq s1 hf), fun ra hra => ?_⟩
 have s2 := s1.trans (Af.new (o := .lst (fs.map V.int)) hra)
 have hraH : H ra = none := by
  cases z : H ra with
  | none => rfl
  | some u => rw [s1 ra u z] at hra; cases hra
 refine ⟨_, rfl, f, _, rfl, .inl (Af.seq s2 hf), _, rfl, g, _, rfl, .inl (Af.seq s2 hg), _, _, rfl, rfl, _, rfl, _, rfl, _, _, rfl, ⟨by rw [lf, lg]; lia, by rw [lf, lg]; lia, by decide, by decide⟩, ?_⟩
 have eT : (((fs.map V.int).length : Int) - ((gs.map V.int).length : Int) - -1).toNat = fs.length + 1 - gs.length := by rw [lf, lg]; lia
 rw [eT]
 have ra0 : (upd (upd H oa (.lst [])) ra (.lst (fs.map V.int))) ra = some (.lst (fs.map V.int)) := Aa
 have oa0 : (upd (upd H oa (.lst [])) ra (.lst (fs.map V.int))) oa = some (.lst (([] : List Int).map V.int)) := (Af.new hra) _ _ Aa
 refine J7 (n := fs.length + 1 - gs.length) (L8 H f g lead fs gs M L fun H f g lead fs gs M L j σ H' => Af H H' ∧ ∃ (oa ra : Addr) (os rs : List Int) (z5 z6 z7 : Option V), σ = [some (.ref f), some (.ref g), some (.int lead), some (.ref oa), some (.ref ra), z5, z6, z7] ∧ H' oa = some (.lst (os.map V.int)) ∧ H' ra = some (.lst (rs.map V.int)) ∧ os.length = j ∧ rs.length = fs.length - j ∧
  (∀ x, Cv.evI fs x * ((lead ^ j : Int) : Rat) = Cv.evI os x * x ^ (fs.length + 1 - gs.length - j) * Cv.evI gs x + Cv.evI rs x) ∧ (∀ t ∈ os, Bd (M + j * (L + 1)) t) ∧ (∀ t ∈ rs, Bd (M + j * (L + 1)) t) ∧ (j = 0 → rs = fs) ∧ (os ≠ [] → ∃ t, fs[fs.length - 1]? = some t ∧ os[os.length - 1]? = some (lead ^ (os.length - 1) * t)))
  ⟨s2, oa, ra, [], fs, none, none, none, rfl, oa0, ra0, rfl, rfl, fun x => ?_, (fun _ h => nomatch h), (fun t ht => (hbf t ht).mono (by lia)), fun _ => rfl, fun h => absurd rfl h⟩ ?_ ?_
 ·rw [Uo]
  show Cv.evI fs x * ((1 : Int) : Rat) = 0 * _ * _ + _
  rw [Rat.intCast_one]; grind
 ·rintro j σ H' hj hR1
  refine BB hR1 fun sm hz45 => ?_
  refine OZ hz45 fun oa ra os rs z5 z6 z7 hz45' => ?_
  clear hz45
  refine O4 hz45' fun hq44 eo er hol hrl hev hbo hbr hfs htop => ?_
  clear hz45'
  obtain rfl := hq44
  try clear hR1
  have hjL : j * (L + 1) ≤ fs.length * (L + 1) := Uj _ (by lia)
  have hjL1 : (j + 1) * (L + 1) = j * (L + 1) + L + 1 := by rw [Uh]; lia
  have hrp : rs.length - 1 < rs.length := by lia
  have hr0 : rs[rs.length - 1]? = some rs[rs.length - 1] := Uc hrp
  generalize htp : rs[rs.length - 1] = tp at hr0
  have btp : Bd (M + j * (L + 1)) tp := by rw [← htp]; exact hbr _ (Ud hrp)
  have hrv : (rs.map V.int)[(rs.map V.int).length - 1]? = some (V.int tp) := by rw [T7, T3, hr0]; rfl
  refine ⟨_, rfl, _, rfl, ra, _, _, _, rfl, rfl, SqL.of er, DF hrv, ?_⟩
  refine ⟨_, rfl, P1, fun t1 ht1 => ?_⟩
  have sa : Af H' (upd H' t1 (.lst [.int tp])) := Af.new ht1
  refine C6 ⟨_, rfl, oa, rfl, ⟨_, SqL.of (sa _ _ eo)⟩, ?_⟩
  refine Cw (xs := os.map V.int) (L5 H' t1 tp os lead fun H' t1 tp os lead i zs H2 => H2 = upd H' t1 (.lst [.int tp]) ∧ zs = ((os.take i).map (lead * ·)).map V.int) ⟨rfl, rfl⟩ (fun i zs H2 hi p => ⟨by rw [p.1]; exact SqL.of (sa _ _ eo), by rw [p.2, T7, T7, SX]; rw [T7] at hi; lia⟩) (by rw [T7]; exact Sw (AN (by lia))) ?_ ?_
  ·rintro i v zs H2 hv ⟨rfl, rfl⟩
   rw [T3] at hv
   cases et : os[i]? with
   | none => rw [et] at hv; cases hv
   | some t =>
     rw [et] at hv
     cases hv
     exact ⟨_, rfl, _, rfl, _, _, rfl, rfl, B0.bd bl (hbo t (T5 et)) (by lia), rfl, FX i et⟩
  rintro zs H2 ⟨rfl, rfl⟩ l1 hl1
  rw [show os.take (os.map V.int).length = os by rw [T7, TZ]]
  have sb := sa.trans (Af.new (o := .lst ((os.map (lead * ·)).map V.int)) hl1)
  have et1 := (Af.new (o := .lst ((os.map (lead * ·)).map V.int)) hl1) _ _ (Aa (H := H') (a := t1) (o := .lst [.int tp]))
  refine ⟨t1, l1, _, _, rfl, rfl, et1, Aa, by rw [T7, T7]; exact Sw (AN (by show 1 + os.length ≤ 1000; lia)), fun o2 ho2 => ?_⟩
  have sc := sb.trans (Af.new (o := .lst ([V.int tp] ++ (os.map (lead * ·)).map V.int)) ho2)
  have eo2 : (upd (upd (upd H' t1 (.lst [.int tp])) l1 (.lst ((os.map (lead * ·)).map V.int))) o2 (.lst ([V.int tp] ++ (os.map (lead * ·)).map V.int))) o2 = some (.lst ((tp :: os.map (lead * ·)).map V.int)) := Aa
  generalize upd (upd (upd H' t1 (.lst [.int tp])) l1 (.lst ((os.map (lead * ·)).map V.int))) o2 (.lst ([V.int tp] ++ (os.map (lead * ·)).map V.int)) = H3 at sc eo2 ⊢
  have er3 := sc _ _ er
  have smc := sm.trans sc
  have rt : (rs.map V.int).take ((rs.map V.int).length - 1) = (rs.take (rs.length - 1)).map V.int := by rw [T7, VH]
  refine C6 ⟨_, rfl, _, rfl, _, rfl, ra, _, rfl, SqL.of er3, fun c hc => ?_⟩
  rw [MH, rt]
  have sd : Af H3 (upd H3 c (.lst ((rs.take (rs.length - 1)).map V.int))) := Af.new hc
  refine ⟨c, rfl, ⟨_, SqL.of Aa⟩, ?_⟩
  refine Cw (xs := (rs.take (rs.length - 1)).map V.int) (L4 H3 c rs lead fun H3 c rs lead i zs H2 => H2 = upd H3 c (.lst ((rs.take (rs.length - 1)).map V.int)) ∧ zs = (((rs.take (rs.length - 1)).take i).map (lead * ·)).map V.int) ⟨rfl, rfl⟩ (fun i zs H2 hi p => ⟨by rw [p.1]; exact SqL.of Aa, by rw [p.2, T7, T7, SX]; rw [T7] at hi; lia⟩) (by rw [T7, SX]; exact Sw (AN (by lia))) ?_ ?_
  ·rintro i v zs H2 hv ⟨rfl, rfl⟩
   rw [T3] at hv
   cases et : (rs.take (rs.length - 1))[i]? with
   | none => rw [et] at hv; cases hv
   | some t =>
     rw [et] at hv
     cases hv
     exact ⟨_, rfl, _, rfl, _, _, rfl, rfl, B0.bd bl (hbr t (Vm (T5 et))) (by lia), rfl, FX i et⟩
  rintro zs H2 ⟨rfl, rfl⟩ r2 hr2
  have ez : (rs.take (rs.length - 1)).take ((rs.take (rs.length - 1)).map V.int).length = rs.take (rs.length - 1) := by rw [T7, TZ]
  rw [ez]
  have se := sd.trans (Af.new (o := .lst (((rs.take (rs.length - 1)).map (lead * ·)).map V.int)) hr2)
  have er2 : (upd (upd H3 c (.lst ((rs.take (rs.length - 1)).map V.int))) r2 (.lst (((rs.take (rs.length - 1)).map (lead * ·)).map V.int))) r2 = some (.lst (((rs.take (rs.length - 1)).map (lead * ·)).map V.int)) := Aa
  have hr2H : H r2 = none := by
   cases z : H r2 with
   | none => rfl
   | some u => rw [sd r2 u (smc r2 u z)] at hr2; cases hr2
  have r2o : r2 ≠ o2 := fun z => by rw [z, sd _ _ eo2] at hr2; cases hr2
  have eo4 := se _ _ eo2
  have sm4 := smc.trans se
  generalize upd (upd H3 c (.lst ((rs.take (rs.length - 1)).map V.int))) r2 (.lst (((rs.take (rs.length - 1)).map (lead * ·)).map V.int)) = H4 at er2 eo4 sm4 ⊢
  have rl4 : ((rs.take (rs.length - 1)).map (lead * ·)).length = fs.length - (j + 1) := by rw [T7, SX]; lia
  have ev4 : ∀ x, Cv.evI ((rs.take (rs.length - 1)).map (lead * ·)) x = (lead : Rat) * (Cv.evI rs x - (tp : Rat) * x ^ (rs.length - 1)) := fun x => by
   rw [Cv.evI_scale, Cv.evI_last x rs tp hr0]; grind
  have br4 : ∀ t ∈ (rs.take (rs.length - 1)).map (lead * ·), Bd (M + j * (L + 1) + L) t := fun t ht => by
   obtain ⟨u, hu, rfl⟩ := (UA.mp ht)
   exact (bl.mul (hbr u (Vm hu))).mono (by lia)
  generalize (rs.take (rs.length - 1)).map (lead * ·) = r4 at er2 rl4 ev4 br4
  refine ⟨_, rfl, g, _, rfl, .inl (Af.seq sm4 hg), _, _, rfl, rfl, _, rfl, by rw [lg]; lia, by rw [lg]; lia, ?_⟩
  have eN : (((gs.map V.int).length : Int) - 1).toNat = gs.length - 1 := by rw [lg]; lia
  rw [eN]
  have hsh : ((fs.map V.int).length : Int) - ((gs.map V.int).length : Int) - (j : Int) = ((fs.length - gs.length - j : Nat) : Int) := by rw [lf, lg]; lia
  rw [hsh]
  generalize hS : fs.length - gs.length - j = S at hsh ⊢
  refine C0 (n := gs.length - 1) (L15 H o2 tp os lead f g r2 S fs j rs gs M L fun H o2 tp os lead f g r2 S fs j rs gs M L i σ H5 => Af H H5 ∧ H5 o2 = some (.lst ((tp :: os.map (lead * ·)).map V.int)) ∧ ∃ (ps : List Int) (z7 : Option V), σ = [some (.ref f), some (.ref g), some (.int lead), some (.ref o2), some (.ref r2), some (.int (S : Int)), some (.int tp), z7] ∧ H5 r2 = some (.lst (ps.map V.int)) ∧ ps.length = fs.length - (j + 1) ∧
   (∀ x, Cv.evI ps x = (lead : Rat) * (Cv.evI rs x - (tp : Rat) * x ^ (rs.length - 1)) - (tp : Rat) * x ^ S * Cv.evI (gs.take i) x) ∧ (∀ k t, ps[k]? = some t → Bd (if k < S + i then M + j * (L + 1) + L + 1 else M + j * (L + 1) + L) t))
   ⟨sm4, eo4, r4, _, rfl, er2, rl4, fun x => ?_, fun k t ht => ?_⟩ ?_ ?_
  ·rw [ev4 x, UD]
   show _ = _ - _ * (0 : Rat)
   grind
  ·split
   ·exact (br4 t (T5 ht)).mono (by lia)
   ·exact br4 t (T5 ht)
  ·rintro i σ H5 hi hR2
   refine Dm hR2 fun sm5 eo5 hz47 => ?_
   refine Cs hz47 fun ps z7' hz47' => ?_
   clear hz47
   refine DG hz47' fun hq46 ep hpl hev5 hbp => ?_
   clear hz47'
   obtain rfl := hq46
   try clear hR2
   have hgi : gs[i]? = some gs[i] := Uc (by lia)
   have hik : i + S < ps.length := by lia
   have hpk : ps[i + S]? = some ps[i + S] := Uc hik
   have bm : B0 tp gs[i] := B0.bd btp (hbg _ (Ud (by lia))) (by lia)
   refine ⟨_, rfl, _, rfl, _, rfl, _, _, rfl, rfl, r2, _, _, _, rfl, rfl, SqL.of ep, CN hpk (by lia), _, rfl, _, rfl, _, rfl, g, _, _, _, rfl, rfl, Af.seq sm5 hg, CN hgi (by lia), _, _, rfl, rfl, bm, _, _, rfl, rfl, ?_⟩
   refine ⟨_, rfl, _, rfl, _, rfl, _, _, rfl, rfl, r2, _, _, i + S, rfl, rfl, ep, En (by rw [T7]; exact hik) (by lia), ?_⟩
   refine ⟨sm5.put hr2H, by rw [Aq (Ne.symm r2o)]; exact eo5, ps.set (i + S) (ps[i + S] + -(tp * gs[i])), _, rfl, ?_, by rw [Ti]; exact hpl, fun x => ?_, fun k t ht => ?_⟩
   ·rw [Aa, TV, ← Ug]
   ·rw [Cv.evI_set x ps (i + S) _ _ hpk, hev5 x, Cv.evI_take_succ x gs i _ hgi, Rat.intCast_neg, TJ, Nm.pow_add]
    grind
   ·by_cases hk : k = i + S
    ·subst hk
     rw [SG hik] at ht
     cases ht
     rw [if_pos (by lia), ← Ug]
     have b1 := hbp _ _ hpk
     rw [if_neg (by lia)] at b1
     exact Bd.sub b1 ((btp.mul (hbg _ (Ud (by lia)))).mono (by lia))
    ·rw [SH (fun z => hk z.symm)] at ht
     have b1 := hbp k t ht
     split
     ·split at b1
      ·exact b1
      ·exact b1.mono (by lia)
     ·rw [if_neg (by lia)] at b1; exact b1
  ·rintro σ H5 hR3
   refine Dm hR3 fun sm5 eo5 hz49 => ?_
   refine Cs hz49 fun ps z7' hz49' => ?_
   clear hz49
   refine DG hz49' fun hq48 ep hpl hev5 hbp => ?_
   clear hz49'
   obtain rfl := hq48
   try clear hR3
   have hgl : gs.take (gs.length - 1) = gs.take (gs.length - 1) := rfl
   refine ⟨sm5, o2, r2, tp :: os.map (lead * ·), ps, _, _, _, rfl, eo5, ep, by rw [TR, T7]; lia, hpl, fun x => ?_, fun t ht => ?_, fun t ht => ?_, fun z => absurd z (by lia), fun _ => ?_⟩
   ·have h1 := hev x
    have h2 := hev5 x
    have h3 := Cv.evI_last x gs lead hlead
    have e1 : fs.length + 1 - gs.length - j = S + 1 := by lia
    have e2 : fs.length + 1 - gs.length - (j + 1) = S := by lia
    have e3 : rs.length - 1 = S + (gs.length - 1) := by lia
    rw [e1] at h1
    rw [e2, h2, Cv.evI_cons, Cv.evI_scale, Uq, TJ, ← Us, h1, h3, e3, Nm.pow_add, TN]
    grind
   ·rcases SA.mp ht with z | z
    ·rw [z]; exact btp.mono (by lia)
    ·obtain ⟨u, hu, rfl⟩ := (UA.mp z)
     exact (bl.mul (hbo u hu)).mono (by lia)
   ·obtain ⟨k, hk⟩ := (List.getElem?_of_mem ht)
    have := hbp k t hk
    split at this <;> exact this.mono (by lia)
   ·by_cases hj0 : j = 0
    ·have ho : os = [] := U0 (by lia)
     rw [hfs hj0] at hr0
     refine ⟨tp, hr0, ?_⟩
     rw [ho]
     show some tp = some (lead ^ 0 * tp)
     rw [Uo, Tx]
    ·obtain ⟨t, ht, ho⟩ := htop (fun z => by rw [z] at hol; exact hj0 hol.symm)
     refine ⟨t, ht, ?_⟩
     rw [TR, T7, Vb]
     have e : os.length = (os.length - 1) + 1 := by lia
     rw [e, TU, T3, ho]
     show some (lead * (lead ^ (os.length - 1) * t)) = some (lead ^ (os.length - 1 + 1) * t)
     rw [Uq]
     congr 1
     grind
 ·rintro σ H' hR4
  refine BB hR4 fun sm hz51 => ?_
  refine OZ hz51 fun oa ra os rs z5 z6 z7 hz51' => ?_
  clear hz51
  refine O4 hz51' fun hq50 eo er hol hrl hev hbo hbr hfs htop => ?_
  clear hz51'
  obtain rfl := hq50
  try clear hR4
  refine ⟨_, rfl, _, rfl, P2, fun p hp => ?_⟩
  have s9 : Af H' (upd H' p (.tup [.ref oa, .ref ra])) := Af.new hp
  refine q p oa ra _ os rs (sm.trans s9) Aa (s9 _ _ eo) (s9 _ _ er) ⟨hol, ?_, fun x => ?_, (fun t ht => by rw [hol]; exact hbo t ht), (fun t ht => by rw [hol]; exact hbr t ht), htop⟩
  ·rw [hrl]; lia
  ·have := hev x
   rw [UC, TM, Uu] at this
   rw [hol]
   exact this
theorem DM : Ao ["base", "many", "power", "turn"] ["base", "many"] (Ae (top 25)) := ⟨rfl, rfl, rfl, by decide +kernel, rfl, by decide +kernel, by decide +kernel⟩
theorem KS {f : Addr} {fd : FuncData} (F : Fun K "raised" "raised" (top 25) f fd) (Qs : mg "range" = none) (hT : P.given.tree = none) :
 AH P w K mg base CX0 33 f fd ["base", "many"] (Fq) := by
 refine F.ok DM (fun vs H Q E h => ?_) (fun cdv A outer s H vs Q E hr h => ?_)
 ·obtain ⟨_, _, _, rfl, _⟩ := h; rfl
 refine ⟨_, (Ad (K := K) (Aj (i := 2) DM.nd rfl (Or.inl rfl) Ac)
  (Ad (K := K) (Bh (K := K) PassesOwn.never rfl (BQ rfl Qs (A0 (pv 1) Ab)) (Ay (i := 3) DM.nd rfl (Or.inl rfl)) (Ag (Aj (i := 2) DM.nd rfl (Or.inl rfl) (Ah Ap (pv 2) (pv 0)))) (by rfl))
  (Ag (As (pv 2))) (by rfl)) (by rfl)), ?_⟩
 obtain ⟨b, n, L, rfl, hn, hb, hL, q⟩ := h
 refine ⟨_, rfl, _, rfl, by lia, by lia, ?_⟩
 rw [Td]
 refine C0 (n := n) (L3 H b n fun H b n i σ H' => H' = H ∧ ∃ z, σ = [some (.int b), some (.int n), some (.int (b ^ i)), z]) ⟨rfl, none, by rw [Uo]; rfl⟩ ?_ ?_
 ·rintro i σ H' hi ⟨rfl, z, rfl⟩
  have hLi : L * i ≤ L * n := VE _ (by lia)
  exact ⟨_, rfl, _, rfl, _, _, rfl, rfl, B0.bd (Bd.pow hb i) hb (by lia), rfl, some (.int (0 + (i : Int))), by rw [Uq]; rfl⟩
 ·rintro σ H' ⟨rfl, z, rfl⟩
  exact ⟨_, rfl, q⟩
theorem BZ : Ao ["one", "other", "bottom", "under", "second", "parts", "scale", "often"] ["one", "other"] (Ae (top 27)) := ⟨rfl, rfl, rfl, by decide +kernel, rfl, by decide +kernel, by decide +kernel⟩
theorem JL {f : Addr} {fd : FuncData} (F : Fun K "divided" "divided" (top 27) f fd) (Qt : Fd P w K mg base 34 "bottom_of" ["numbers"] (ES K)) (Qv : Fd P w K mg base 33 "tops_over" ["numbers", "bottom"] (DY K)) (Rp : Fd P w K mg base 33 "whole_division" ["first", "second"] (LP K)) (Qx : Fd P w K mg base 35 "curve_over" ["tops", "bottom"] (BH K)) (F_raised : Fd P w K mg base 33 "raised" ["base", "many"] (Fq)) (Qr : mg "len" = none) (hT : P.given.tree = none) :
 AH P w K mg base CX0 36 f fd ["one", "other"] (Hr K) := by
 refine F.ok BZ (fun vs H Q E h => ?_) (fun cdv A outer s H vs Q E hr h => ?_)
 ·obtain ⟨_, _, _, _, _, _, _, rfl, _⟩ := h; rfl
 refine ⟨_, (Ad (K := K) (Bj (K := K) (AA FL (Av (BV K) rfl Qr AJ (A0 (pv 1) Ab)) Ac (AB _)) (Ag Ci) AY (by rfl) (by rfl))
  (Ad (K := K) (Aj (i := 2) BZ.nd rfl (Or.inl rfl) (Ak Qt hr rfl (A0 (pv 0) Ab)))
  (Ad (K := K) (Aj (i := 3) BZ.nd rfl (Or.inr rfl) (Ak Qt hr rfl (A0 (pv 1) Ab)))
  (Ad (K := K) (Aj (i := 4) BZ.nd rfl (Or.inl rfl) (Ak Qv hr rfl (A0 (pv 1) (A0 (pv 3) Ab))))
  (Ad (K := K) (Aj (i := 5) BZ.nd rfl (Or.inl rfl) (Ak Rp hr rfl (A0 (Ak Qv hr rfl (A0 (pv 0) (A0 (pv 2) Ab))) (A0 (pv 4) Ab))))
  (Ad (K := K) (Aj (i := 6) BZ.nd rfl (Or.inl rfl) (Ah Ap (pv 2) (Ak F_raised hr rfl (A0 (Ai (ixL K) (pv 4) (Dy Ct Ac) (fun u v => rfl)) (A0 (Av (BV K) rfl Qr AJ (A0 (Ai (ixT K) (pv 5) Ac (fun u v => rfl)) Ab)) Ab)))))
  (Ad (K := K) (Aj (i := 7) BZ.nd rfl (Or.inl rfl) (Ak Qx hr rfl (A0 (Cj rfl (N := ["top", "under"]) (nt := 1) (js := [3]) (Ba.look (NX := ["one", "other", "bottom", "under", "second", "parts", "scale", "often"]) (sc := Ae (top 27)) rfl rfl (by decide +kernel)) (piL K (Ai (ixT K) (pv 5) Ac (fun u v => rfl))) (fun u1 u2 u3 u4 u5 => (Ay (i := 0) (show List.Nodup (["top", "under"] : List Str) from by decide +kernel) rfl (Or.inl rfl))) (AD (by decide)) (fun u1 u2 u3 u4 u5 => Bp) (fun u1 u2 u3 u4 u5 => (Ah Ap (pv 0) (pv 1)))) (A0 (pv 6) Ab))))
  (Ag (As (AO (A0 (pv 7) (A0 (Ak Qx hr rfl (A0 (Ai (ixT K) (pv 5) Ac (fun u v => rfl)) (A0 (pv 6) Ab))) Ab))))) (by rfl)) (by rfl)) (by rfl)) (by rfl)) (by rfl)) (by rfl)) (by rfl)), ?_⟩
 obtain ⟨r, u, qs, ps, g, d, L, rfl, ⟨xs, hS, hn⟩, ⟨ys, hT', hm⟩, gq, hne, gp, hB, hC, hn1, hq8, hp8, q⟩ := h
 have P2 : 2 ≤ sizeLine := by decide
 have hl := hn.length
 have hly := hm.length
 have hp1 : 1 ≤ ps.length := TQ.mpr hne
 have nq : d * qs.length ≤ d * 7 := VE _ hq8
 have np : L * ps.length ≤ L * 7 := VE _ hp8
 refine ⟨_, rfl, u, ys, rfl, .inr hT', rfl, _, rfl, ?_⟩
 refine Be (by rw [decide_eq_false (fun z => by have := V.int.inj z; lia)] <;> rfl) ?_
 refine ⟨_, rfl, false, r, xs, qs, d, rfl, hS, hn, (fun c hc => (hB c hc).2), by rw [Ur]; lia, fun B hB0 hdB hbB => ?_⟩
 refine ⟨_, rfl, false, u, ys, ps, L, rfl, hT', hm, (fun c hc => (hC c hc).2), by rw [Ur]; lia, fun U hU0 hdU hbU => ?_⟩
 refine ⟨_, rfl, _, rfl, false, u, ys, ps, U, L * ps.length + 1, L, rfl, hT', hm, hbU, (fun c hc => (hC c hc).1), by lia, by lia, fun se hse => ?_⟩
 have s1 : Af H (upd H se (.lst ((ps.map (Ar U)).map V.int))) := Af.new hse
 refine ⟨_, rfl, _, rfl, false, r, xs, qs, B, d * qs.length + 1, g, rfl, SqT.same hS s1, Au.same hn s1, hbB, (fun c hc => (hB c hc).1), by lia, by lia, fun fa hfa => ?_⟩
 have s2 := s1.trans (Af.new (o := .lst ((qs.map (Ar B)).map V.int)) hfa)
 have ese := (Af.new (o := .lst ((qs.map (Ar B)).map V.int)) hfa) _ _ (Aa (H := H) (a := se) (o := .lst ((ps.map (Ar U)).map V.int)))
 have efa : (upd (upd H se (.lst ((ps.map (Ar U)).map V.int))) fa (.lst ((qs.map (Ar B)).map V.int))) fa = some (.lst ((qs.map (Ar B)).map V.int)) := Aa
 generalize upd (upd H se (.lst ((ps.map (Ar U)).map V.int))) fa (.lst ((qs.map (Ar B)).map V.int)) = H2 at s2 ese efa ⊢
 obtain ⟨lead, hlead, hl0⟩ := (GF gp hne hU0 hdU)
 have bF : ∀ t ∈ qs.map (Ar B), Bd (g + d * 7 + 1) t := fun t ht => by
  obtain ⟨c, hc, rfl⟩ := (UA.mp ht)
  exact ((hB c hc).1.mul (hbB.fdiv (y := c.den))).mono (by lia)
 have bG : ∀ t ∈ ps.map (Ar U), Bd (L * 8 + 1) t := fun t ht => by
  obtain ⟨c, hc, rfl⟩ := (UA.mp ht)
  exact ((hC c hc).1.mul (hbU.fdiv (y := c.den))).mono (by lia)
 refine ⟨_, rfl, fa, se, qs.map (Ar B), ps.map (Ar U), lead, g + d * 7 + 1, L * 8 + 1, rfl, SqL.of efa, SqL.of ese, hlead, by rw [T7]; lia, by rw [T7]; lia, bF, bG, by rw [T7]; have := Uj (L * 8 + 1 + 1) hq8; lia, by lia, fun pt pa pb H3 os rs s3 ept epa epb dv => ?_⟩
 have ese3 := s3 _ _ ese
 have hol : os.length = qs.length + 1 - ps.length := by have := dv.ol; rw [T7, T7] at this; exact this
 have hk8 : os.length ≤ 7 := by lia
 have hkb : os.length * (L * 8 + 1 + 1) ≤ 7 * (L * 8 + 1 + 1) := Uj _ hk8
 have hkc : (L * 8 + 1) * os.length ≤ (L * 8 + 1) * 7 := VE _ hk8
 have hlv : ((ps.map (Ar U)).map V.int)[((ps.map (Ar U)).map V.int).length - 1]? = some (V.int lead) := by rw [T7, T3, hlead]; rfl
 have blead : Bd (L * 8 + 1) lead := bG _ (T5 hlead)
 have lo : (os.map V.int).length = os.length := T7 _
 have bpow : Bd ((L * 8 + 1) * os.length + 1) (lead ^ os.length) := Bd.pow blead _
 refine ⟨_, rfl, _, rfl, _, rfl, se, _, _, _, rfl, rfl, SqL.of ese3, DF hlv, _, rfl, pt, _, _, _, rfl, rfl, SqT.of ept, rfl, pa, _, rfl, .inl (SqL.of epa), lead, os.length, L * 8 + 1, by rw [lo]; rfl, by lia, blead, by lia, _, _, rfl, rfl, B0.bd hbB bpow (by lia), ?_⟩
 have hsc : B * lead ^ os.length ≠ 0 := TH (by lia) (Int.pow_ne_zero hl0)
 refine C6 ⟨_, rfl, pt, _, _, _, rfl, rfl, SqT.of ept, rfl, pa, rfl, ⟨_, SqL.of epa⟩, ?_⟩
 refine Cw (xs := os.map V.int) (fun i zs H4 => H4 = H3 ∧ zs = ((os.take i).map (· * U)).map V.int) ⟨rfl, rfl⟩ (fun i zs H4 hi p => ⟨by rw [p.1]; exact SqL.of epa, by rw [p.2, T7, T7, SX]; rw [T7] at hi; lia⟩) (by rw [lo]; exact Sw (AN (by lia))) ?_ ?_
 ·rintro i v zs H4 hv ⟨rfl, rfl⟩
  rw [T3] at hv
  cases et : os[i]? with
  | none => rw [et] at hv; cases hv
  | some t =>
    rw [et] at hv
    cases hv
    refine ⟨_, rfl, _, rfl, _, _, rfl, rfl, B0.bd (dv.ob t (T5 et)) hbU (by lia), rfl, ?_⟩
    rw [TX, et, TY, TY]
    rfl
 rintro zs H4 ⟨rfl, rfl⟩ l1 hl1
 rw [show os.take (os.map V.int).length = os by rw [lo, TZ]]
 have s4 : Af H4 (upd H4 l1 (.lst ((os.map (· * U)).map V.int))) := Af.new hl1
 refine ⟨_, rfl, l1, os.map (· * U), _, rfl, SqL.of Aa, hsc, by rw [T7]; lia, fun a H5 s5 ca => ?_⟩
 have s45 := s4.trans s5
 refine ⟨_, rfl, _, rfl, pt, _, _, _, rfl, rfl, SqT.of (s45 _ _ ept), rfl, _, rfl, pb, rs, _, rfl, SqL.of (s45 _ _ epb), hsc, by rw [dv.rl, T7, T7]; lia, fun b H6 s6 cb => ?_⟩
 refine ⟨P2, fun p hp => ?_⟩
 have s7 : Af H6 (upd H6 p (.tup [.ref a, .ref b])) := Af.new hp
 have go : Bi ((os.map (· * U)).map fun t => Tv t (B * lead ^ os.length)) := by
  by_cases h0 : os = []
  ·left; rw [h0]; rfl
  ·obtain ⟨t, ht, ho⟩ := (dv.top h0)
   have hqn : qs ≠ [] := fun z => by rw [z] at ht; cases ht
   obtain ⟨t', ht', h0'⟩ := (GF gq hqn hB0 hdB)
   rw [ht] at ht'
   cases ht'
   right
   refine ⟨_, by rw [T7, T7, T3, T3, ho]; rfl, fun z => ?_⟩
   have z2 : (lead ^ (os.length - 1) * t * U) ≠ 0 := TH (TH (Int.pow_ne_zero hl0) h0') (by lia)
   exact P4 z2 hsc z
 rw [Cu go] at ca
 have hsl := Cv.strip_length (rs.map fun t => Tv t (B * lead ^ os.length))
 refine q p a b _ _ _ (((((s2.trans s3).trans s45).trans s6).trans s7)) Aa (ca.same (s6.trans s7)) (cb.same s7) go (AI _) (by rw [T7, T7]; exact hol) ?_ (fun x => ?_) fun c hc => ?_
 ·rw [T7, dv.rl, T7, T7] at hsl
  lia
 ·rw [Cv.ev_strip]
  have h1 := dv.ev x
  have h2 := Kq (os.map (· * U)) _ hsc x
  have h3 := Kq rs _ hsc x
  have h4 : Cv.evI (os.map (· * U)) x = Cv.evI os x * (U : Rat) := by
   have := Cv.evI_scale x U os
   rw [show os.map (· * U) = os.map (U * ·) from Vj fun t _ => Int.mul_comm t U, this, Rat.mul_comm]
  have h5 : Cv.evI (qs.map (Ar B)) x = Cv.ev qs x * (B : Rat) := DI hdB x
  have h6 : Cv.evI (ps.map (Ar U)) x = Cv.ev ps x * (U : Rat) := DI hdU x
  have hc : ((B * lead ^ os.length : Int) : Rat) ≠ 0 := Nm.cast_ne hsc
  have h7 : ((B * lead ^ os.length : Int) : Rat) = (B : Rat) * ((lead ^ os.length : Int) : Rat) := TJ ..
  generalize Cv.ev ((os.map (· * U)).map fun t => Tv t (B * lead ^ os.length)) x = X at h2 ⊢
  generalize Cv.ev (rs.map fun t => Tv t (B * lead ^ os.length)) x = Y at h3 ⊢
  generalize ((B * lead ^ os.length : Int) : Rat) = C at *
  have h8 : (Cv.ev qs x - (X * Cv.ev ps x + Y)) * C = 0 := by
   rw [h5, h6] at h1
   rw [h4] at h2
   have : Cv.ev qs x * C = (X * C) * Cv.ev ps x + Y * C := by rw [h2, h3, h7]; grind
   grind
  rcases U1.mp h8 with z | z
  ·grind
  ·exact absurd z hc
 ·obtain ⟨t', ht', rfl⟩ := (UA.mp hc)
  obtain ⟨t, ht, rfl⟩ := (UA.mp ht')
  exact RB.div (m := 0) (((dv.ob t ht).mul hbU).mono (by lia)) ((hbB.mul bpow).mono (by lia)) hsc
theorem LS : Ao ["a", "b"] ["a", "b"] (Ae (top 10)) := ⟨rfl, rfl, rfl, by decide +kernel, rfl, by decide +kernel, by decide +kernel⟩
theorem Me {f : Addr} {fd : FuncData} (F : Fun K "times" "times" (top 10) f fd) (Qz : Fd P w K mg base 34 "number_of" ["top", "bottom"] (CQ)) (hT : P.given.tree = none) :
 AH P w K mg base CX0 35 f fd ["a", "b"] (CS K (· * ·)) := by
 refine F.ok LS (fun vs H Q E h => ?_) (fun cdv A outer s H vs Q E hr h => ?_)
 ·obtain ⟨_, _, _, _, _, _, rfl, _⟩ := h; rfl
 refine ⟨_, (Ag (As (Ak Qz hr rfl (A0 (Ah Ap (Ai (ixT K) (pv 0) Ac (fun u v => rfl)) (Ai (ixT K) (pv 1) Ac (fun u v => rfl))) (A0 (Ah Ap (Ai (ixT K) (pv 0) Ac (fun u v => rfl)) (Ai (ixT K) (pv 1) Ac (fun u v => rfl))) Ab))))), ?_⟩
 obtain ⟨x, y, p, q, m, n, rfl, ⟨r, rfl, hr⟩, ⟨u, rfl, hu⟩, hp, hq, hmn, k⟩ := h
 refine ⟨_, rfl, r, _, _, _, rfl, rfl, hr, rfl, _, rfl, u, _, _, _, rfl, rfl, hu, rfl, _, _, rfl, rfl, B0.bd hp.1 hq.1, ?_⟩
 refine ⟨_, rfl, r, _, _, _, rfl, rfl, hr, rfl, _, rfl, u, _, _, _, rfl, rfl, hu, rfl, _, _, rfl, rfl, B0.bd hp.2 hq.2, ?_⟩
 refine ⟨_, _, rfl, TH (Nm.den_ne p) (Nm.den_ne q), fun z hz => ?_⟩
 have e := k z hz
 try dsimp only at e
 rw [← Nm.times_eq] at e
 exact e
theorem KJ : Ao ["curve", "number"] ["curve", "number"] (Ae (top 22)) := ⟨rfl, rfl, rfl, by decide +kernel, rfl, by decide +kernel, by decide +kernel⟩
theorem KQ {f : Addr} {fd : FuncData} (F : Fun K "scaled" "scaled" (top 22) f fd) (QQ : Fd P w K mg base 33 "curve_of" ["numbers"] (DK K)) (QU : Fd P w K mg base 35 "times" ["a", "b"] (CS K (· * ·))) (hT : P.given.tree = none) :
 AH P w K mg base CX0 36 f fd ["curve", "number"] (E7 K) := by
 refine F.ok KJ (fun vs H Q E h => ?_) (fun cdv A outer s H vs Q E hr h => ?_)
 ·obtain ⟨_, _, _, _, _, _, rfl, _⟩ := h; rfl
 refine ⟨_, (Ag (As (Ak QQ hr rfl (A0 (Cj rfl (N := ["each", "number"]) (nt := 1) (js := [1]) (Ba.look (NX := ["curve", "number"]) (sc := Ae (top 22)) rfl rfl (by decide +kernel)) (piT K (pv 0)) (fun u1 u2 u3 u4 u5 => (Ay (i := 0) (show List.Nodup (["each", "number"] : List Str) from by decide +kernel) rfl (Or.inl rfl))) (AD (by decide)) (fun u1 u2 u3 u4 u5 => Bp) (fun u1 u2 u3 u4 u5 => (Ak QU hr rfl (A0 (pv 0) (A0 (pv 1) Ab))))) Ab)))), ?_⟩
 obtain ⟨r, u, qs, y, m, n, rfl, ⟨xs, hS, hn⟩, hy, hB, hb, hmn, hz, q⟩ := h
 have hl := hn.length
 refine C6 ⟨_, rfl, r, rfl, ⟨_, hS⟩, ?_⟩
 refine OK (xs := xs) (L4 H K qs y fun H K qs y i zs H' => Af H H' ∧ zs.length = i ∧ Au K H' zs ((qs.take i).map (· * y))) ⟨Af.refl _, rfl, .nil⟩ (fun i zs H' _ p => ⟨hS.same p.1, p.2.1⟩) (by rw [hl]; exact Sw (AN hz)) ?_ ?_
 ·rintro i x zs H' hx ⟨sm, hzl, hzn⟩
  obtain ⟨c, hc, hxn⟩ := (Paired.get hn hx)
  refine ⟨_, rfl, _, rfl, _, _, c, y, m, n, rfl, hxn.same sm, hy.same sm, hB c (T5 hc), hb, by lia, fun p hp => ⟨sm.trans (Af.new hp), by simp [hzl], ?_⟩⟩
  rw [TX, hc, TY]
  exact Paired.snoc (Au.same hzn (Af.new hp)) (Az.of Aa)
 ·rintro zs H' ⟨sm, hzl, hzn⟩ p hp
  rw [hl, TZ] at hzn
  exact ⟨p, zs, _, rfl, SqL.of Aa, Au.same hzn (Af.new hp), by rw [T7]; exact hz, fun r H2 s2 c => q r H2 ((sm.trans (Af.new hp)).trans s2) c⟩
theorem Bk : Ao ["tops", "x", "height", "scale", "top"] ["tops", "x"] (Ae (top 18)) := ⟨rfl, rfl, rfl, by decide +kernel, rfl, by decide +kernel, by decide +kernel⟩
theorem Fb {f : Addr} {fd : FuncData} (F : Fun K "whole_height" "whole_height" (top 18) f fd) (QC : mg "reversed" = none) (hT : P.given.tree = none) :
 AH P w K mg base CX0 33 f fd ["tops", "x"] (N9 K) := by
 refine F.ok Bk (fun vs H Q E h => ?_) (fun cdv A outer s H vs Q E hr h => ?_)
 ·obtain ⟨_, _, _, _, _, _, rfl, _⟩ := h; rfl
 refine ⟨_, (Ad (K := K) (Aj (i := 2) Bk.nd rfl (Or.inl rfl) Ac)
  (Ad (K := K) (Aj (i := 3) Bk.nd rfl (Or.inl rfl) Ac)
  (Ad (K := K) (Bh (K := K) PassesOwn.never rfl (NY K rfl QC (pv 0)) (Ay (i := 4) Bk.nd rfl (Or.inl rfl)) (Ad (K := K) (Aj (i := 2) Bk.nd rfl (Or.inl rfl) (Ah AK (Ah Ap (pv 2) (Ai (ixT K) (pv 1) Ac (fun u v => rfl))) (Ah Ap (pv 4) (pv 3))))
  (Ag (Aj (i := 3) Bk.nd rfl (Or.inl rfl) (Ah Ap (pv 3) (Ai (ixT K) (pv 1) Ac (fun u v => rfl))))) (by rfl)) (by rfl))
  (Ag (As (AO (A0 (Ah Ap (pv 2) (Ai (ixT K) (pv 1) Ac (fun u v => rfl))) (A0 (pv 3) Ab))))) (by rfl)) (by rfl)) (by rfl)), ?_⟩
 obtain ⟨l, rx, ts, x, m, n, rfl, hS, ⟨_, erx, hx⟩, hB, hbx, hz, q⟩ := h
 cases erx
 have tl : (ts.map V.int).length = ts.length := T7 _
 have hz2 : m + n * ts.length + 4 * n + ts.length + 4 ≤ 100000000 := by
  have e : (n + 1) * (ts.length + 4) = n * ts.length + 4 * n + ts.length + 4 := by rw [Uh, Ur]; lia
  lia
 have P2 : 2 ≤ sizeLine := by decide
 refine ⟨_, rfl, _, rfl, l, _, rfl, hS, ?_⟩
 refine Ko (L7 H l rx x ts m n fun H l rx x ts m n i σ H' => H' = H ∧ ∃ (h s : Int) (z : Option V), σ = [some (.ref l), some (.ref rx), some (.int h), some (.int s), z] ∧ s = (x.den : Int) ^ i ∧ s ≠ 0 ∧
  (h : Rat) * ((x.den : Int) : Rat) = Cv.evI (ts.drop (ts.length - i)) x * (s : Rat) ∧ Bd (m + n * i + i + 2) h ∧ Bd (n * i + 1) s)
  ⟨rfl, 0, 1, none, rfl, rfl, by decide, ?_, ?_, ?_⟩ (fun i σ H' _ p => by rw [p.1]; exact hS) ?_ ?_
 ·rw [Um, UE (SK _)]
  show ((0 : Int) : Rat) * _ = 0 * _
  rw [Vq]; grind
 ·exact (show Bd 1 0 by unfold Bd; decide).mono (by lia)
 ·exact (show Bd 1 1 by unfold Bd; decide).mono (by lia)
 ·rintro i v σ H' hi hv hR1
  refine BB hR1 fun hq52 hz54 => ?_
  refine GA hz54 fun h s z hz54' => ?_
  clear hz54
  refine MR hz54' fun hq53 es hs0 he hbh hbs => ?_
  clear hz54'
  obtain rfl := hq52
  obtain rfl := hq53
  try clear hR1
  rw [tl] at hi hv
  have hj : ts.length - 1 - i < ts.length := by lia
  have htq : ts[ts.length - 1 - i]? = some ts[ts.length - 1 - i] := Uc hj
  have htm : ts[ts.length - 1 - i] ∈ ts := Ud hj
  rw [T3, htq] at hv
  cases hv
  generalize ts[ts.length - 1 - i] = t at htq htm
  have bt := hB _ htm
  have hni : n * i ≤ n * ts.length := VE n (by lia)
  have hni1 : n * (i + 1) = n * i + n := by rw [Ur, VF]
  refine ⟨_, rfl, _, rfl, rx, _, _, _, rfl, rfl, hx, rfl, _, _, rfl, rfl, B0.bd hbh hbx.1 (by lia), _, rfl, _, rfl, _, _, rfl, rfl, B0.bd bt hbs (by lia), _, _, rfl, rfl, ?_⟩
  refine ⟨_, rfl, _, rfl, rx, _, _, _, rfl, rfl, hx, rfl, _, _, rfl, rfl, B0.bd hbs hbx.2 (by lia), ⟨rfl, _, _, _, rfl, ?_, TH hs0 (Nm.den_ne x), ?_, ?_, ?_⟩⟩
  ·rw [es, Uq]
  ·rw [Ij rfl hi htq, Cv.evI_cons, Rat.intCast_add, TJ, TJ, TJ, Nm.num_mul x]
   grind
  ·have b1 := hbh.mul hbx.1
   have b2 := bt.mul hbs
   exact (Bd.add (b1.mono (n := m + n * i + i + 2 + n) (by lia)) (b2.mono (by lia))).mono (by lia)
  ·exact (hbs.mul hbx.2).mono (by lia)
 ·rintro σ H' hR2
  refine BB hR2 fun hq55 hz57 => ?_
  refine GA hz57 fun h s z hz57' => ?_
  clear hz57
  refine MR hz57' fun hq56 es hs0 he hbh hbs => ?_
  clear hz57'
  obtain rfl := hq55
  obtain rfl := hq56
  try clear hR2
  rw [tl] at es he hbh hbs
  rw [UC, Ul] at he
  refine ⟨_, rfl, _, rfl, rx, _, _, _, rfl, rfl, hx, rfl, _, _, rfl, rfl, B0.bd hbh hbx.2 (by lia), _, rfl, P2, fun p hp => ?_⟩
  exact q _ _ p es hs0 (by rw [TJ]; exact he) ((hbh.mul hbx.2).mono (by rw [Uh, Ur]; lia)) hbs hp
theorem Dc : Ao ["curve", "x", "bottom", "told"] ["curve", "x"] (Ae (top 19)) := ⟨rfl, rfl, rfl, by decide +kernel, rfl, by decide +kernel, by decide +kernel⟩
theorem HP {f : Addr} {fd : FuncData} (F : Fun K "height_at" "height_at" (top 19) f fd) (Qt : Fd P w K mg base 34 "bottom_of" ["numbers"] (ES K)) (QN : Fd P w K mg base 33 "whole_height" ["tops", "x"] (N9 K)) (Qz : Fd P w K mg base 34 "number_of" ["top", "bottom"] (CQ)) (Qv : Fd P w K mg base 33 "tops_over" ["numbers", "bottom"] (DY K)) (hT : P.given.tree = none) :
 AH P w K mg base CX0 35 f fd ["curve", "x"] (DJ K) := by
 refine F.ok Dc (fun vs H Q E h => ?_) (fun cdv A outer s H vs Q E hr h => ?_)
 ·obtain ⟨_, _, _, _, _, _, _, rfl, _⟩ := h; rfl
 refine ⟨_, (Ad (K := K) (Aj (i := 2) Dc.nd rfl (Or.inl rfl) (Ak Qt hr rfl (A0 (pv 0) Ab)))
  (Ad (K := K) (Aj (i := 3) Dc.nd rfl (Or.inl rfl) (Ak QN hr rfl (A0 (Ak Qv hr rfl (A0 (pv 0) (A0 (pv 2) Ab))) (A0 (pv 1) Ab))))
  (Ag (As (Ak Qz hr rfl (A0 (Ai (ixT K) (pv 3) Ac (fun u v => rfl)) (A0 (Ah Ap (pv 2) (Ai (ixT K) (pv 3) Ac (fun u v => rfl))) Ab))))) (by rfl)) (by rfl)), ?_⟩
 obtain ⟨r, rx, qs, x, g, d, m, rfl, ⟨xs, hS, hn⟩, ⟨_, erx, hx⟩, hB, hbx, hz, h1000, q⟩ := h
 cases erx
 have hl := hn.length
 have e1 : d * (qs.length + 2) = d * qs.length + d * 2 := Ur ..
 have e2 : (m + 1) * (qs.length + 4) = m * qs.length + qs.length + (m + 1) * 4 := by rw [Ur, Uh, Ui]
 refine ⟨_, rfl, false, r, xs, qs, d, rfl, hS, hn, (fun q hq => (hB q hq).2), by lia, fun B hB0 hdv hbB => ?_⟩
 refine ⟨_, rfl, _, rfl, false, r, xs, qs, B, d * qs.length + 1, g, rfl, hS, hn, hbB, (fun q hq => (hB q hq).1), by lia, h1000, fun l hl0 => ?_⟩
 have tl : (qs.map (Ar B)).length = qs.length := T7 _
 have hx1 : SqT K (upd H l (.lst ((qs.map (Ar B)).map V.int))) rx [.int x.num, .int x.den] := SqT.same hx (Af.new hl0)
 have tB : ∀ t ∈ qs.map (Ar B), Bd (g + (d * qs.length + 1)) t := fun t ht => by
  obtain ⟨c, hc, rfl⟩ := (UA.mp ht)
  exact ((hB c hc).1.mul (hbB.fdiv (y := c.den))).mono (by lia)
 refine ⟨_, rfl, l, rx, qs.map (Ar B), x, g + (d * qs.length + 1), m, rfl, SqL.of Aa, ⟨rx, rfl, hx1⟩, tB, hbx, by rw [tl]; lia, fun h s p es hs0 he hbh hbs hp => ?_⟩
 rw [tl] at hbs
 have ep : SqT K (upd (upd H l (.lst ((qs.map (Ar B)).map V.int))) p (.tup [.int h, .int s])) p [.int h, .int s] := SqT.of Aa
 have hb0 : B * s ≠ 0 := TH (by lia) hs0
 refine ⟨_, rfl, p, _, _, _, rfl, rfl, ep, rfl, _, rfl, _, rfl, p, _, _, _, rfl, rfl, ep, rfl, _, _, rfl, rfl, B0.bd hbB hbs (by lia), _, _, rfl, hb0, fun u hu => ?_⟩
 have ev := DI hdv x
 have e : Tv h (B * s) = Cv.ev qs x := Nm.div_eq hb0 (by
  have he' : (h : Rat) = Cv.ev ((qs.map (Ar B)).map fun t : Int => (t : Rat)) x * (s : Rat) := he
  rw [he', ev, TJ]; grind)
 rw [tl] at hbh
 have e3 : (m + 1) * (qs.length + 2) = m * qs.length + qs.length + (m + 1) * 2 := by rw [Ur, Uh, Ui]
 have d1 : 1 ≤ d ∨ qs.length = 0 := by
  cases qs with
  | nil => exact .inr rfl
  | cons c r =>
    left
    have := (hB c (Sy ..)).2
    unfold Bd at this
    rcases Nat.eq_zero_or_pos d with z | z
    ·rw [z] at this
     have := c.den_pos
     lia
    ·exact z
 refine q u _ (((Af.new hl0).trans (Af.new hp)).trans (Af.new hu)) ?_ ?_
 ·rw [← e]; exact Aa
 ·rw [← e]
  exact RB.div (m := 0) (hbh.mono (by lia)) ((hbB.mul hbs).mono (by lia)) hb0
theorem BY : Ao ["pair", "places", "common", "under", "turned"] ["pair", "places"] (Ae (top 52)) := ⟨rfl, rfl, rfl, by decide +kernel, rfl, by decide +kernel, by decide +kernel⟩
theorem Fe {f : Addr} {fd : FuncData} (F : Fun K "lowest_terms" "lowest_terms" (top 52) f fd) (Rq : Fd P w K mg base 37 "nought_at" ["places"] (DZ K)) (QV : Fd P w K mg base 35 "over" ["a", "b"] (Hn K)) (R5 : Fd P w K mg base 36 "divided" ["one", "other"] (Hr K)) (QO : Fd P w K mg base 36 "scaled" ["curve", "number"] (E7 K)) (QP : Fd P w K mg base 35 "height_at" ["curve", "x"] (DJ K)) {a_NOUGHT : Addr} (c_NOUGHT : mg "NOUGHT" = some (.ref a_NOUGHT)) (n_NOUGHT : ∀ H : Hp, Az K H (.ref a_NOUGHT) (0)) (hT : P.given.tree = none) :
 AH P w K mg base CX0 38 f fd ["pair", "places"] (Ft K) := by
 refine F.ok BY (fun vs H Q E h => ?_) (fun cdv A outer s H vs Q E hr h => ?_)
 ·obtain ⟨_, _, _, _, _, _, _, _, _, _, rfl, _⟩ := h; rfl
 refine ⟨_, (Ad (K := K) (Aj (i := 2) BY.nd rfl (Or.inl rfl) (Ak Rq hr rfl (A0 (Cj rfl (N := ["x", "pair"]) (nt := 1) (js := [0]) (Ba.look (NX := ["pair", "places", "common", "under", "turned"]) (sc := Ae (top 52)) rfl rfl (by decide +kernel)) (piL K (pv 1)) (fun u1 u2 u3 u4 u5 => (Ay (i := 0) (show List.Nodup (["x", "pair"] : List Str) from by decide +kernel) rfl (Or.inl rfl))) (AD (by decide)) (fun u1 u2 u3 u4 u5 => HD (AA (eqD K hr.units) (Ak QP hr rfl (A0 (Ai (ixT K) (pv 1) Ac (fun u v => rfl)) (A0 (pv 0) Ab))) (DN (v := .ref a_NOUGHT) rfl c_NOUGHT rfl) (AB _))) (fun u1 u2 u3 u4 u5 => (pv 0))) Ab)))
  (Ad (K := K) (Aj (i := 3) BY.nd rfl (Or.inl rfl) (Ai (ixT K) (Ak R5 hr rfl (A0 (Ai (ixT K) (pv 0) Ac (fun u v => rfl)) (A0 (pv 2) Ab))) Ac (fun u v => rfl)))
  (Ad (K := K) (Aj (i := 4) BY.nd rfl (Or.inl rfl) (Ak QV hr rfl (A0 (AO (A0 Ac (A0 Ac Ab))) (A0 (Ai (ixT K) (pv 3) (Dy Ct Ac) (fun u v => rfl)) Ab))))
  (Ag (As (AO (A0 (Ak QO hr rfl (A0 (Ai (ixT K) (Ak R5 hr rfl (A0 (Ai (ixT K) (pv 0) Ac (fun u v => rfl)) (A0 (pv 2) Ab))) Ac (fun u v => rfl)) (A0 (pv 4) Ab))) (A0 (Ak QO hr rfl (A0 (pv 3) (A0 (pv 4) Ab))) Ab))))) (by rfl)) (by rfl)) (by rfl)), ?_⟩
 obtain ⟨t, lp, pN, pD, zs, qs, N, D, G, nx, rfl, hT, cN, cD, gN, gD, hD0, hS, hZ, hnd, h12, hNl, hDl, bN, bD, bq, hnx1, hnx, hG, hz, q⟩ := h
 have P2 : 2 ≤ sizeLine := by decide
 have hzl := hZ.length
 obtain ⟨L, hL⟩ : ∃ L, L = 16 * nx + 200 := ⟨_, rfl⟩
 obtain ⟨E0, hE⟩ : ∃ E0, E0 = G + 13 + 130 * L + 1000 := ⟨_, rfl⟩
 have hx17 : (nx + 1) * (D.length + 4) ≤ 1001 * 17 := Vo (by lia) (by lia)
 refine C6 ⟨_, rfl, lp, rfl, ⟨_, hS⟩, ?_⟩
 refine Kg (xs := zs) (L4 H K qs D fun H K qs D i us W => Af H W ∧ us.length ≤ i ∧ Au K W us ((qs.take i).filter fun q => decide (Cv.ev D q = 0))) ⟨Af.refl _, SK _, .nil⟩ (fun i us W _ h => ⟨Af.seq h.1 hS, h.2.1⟩) (Sw (AN (by lia))) ?_ ?_
 ·rintro i v us W hv ⟨sw, hul, hun⟩
  obtain ⟨x, hx, rx, rfl, hrx⟩ := (Paired.get hZ hv)
  refine ⟨_, rfl, t, _, _, _, rfl, rfl, hT.same sw, rfl, _, rfl, pD, rx, D, x, G, 1, nx, rfl, cD.same sw, Az.same ⟨rx, rfl, hrx⟩ sw, bD, bq x (T5 hx), by lia, by lia, fun p1 W1 s1 e1 _ => ?_⟩
  refine eqN (Az.of e1) (n_NOUGHT _) ?_
  refine ⟨_, rfl, ?_⟩
  have et : (qs.take (i + 1)).filter (fun q => decide (Cv.ev D q = 0)) = (qs.take i).filter (fun q => decide (Cv.ev D q = 0)) ++ [x].filter (fun q => decide (Cv.ev D q = 0)) := by rw [TX, hx, VI]; rfl
  by_cases h0 : Cv.ev D x = 0
  ·refine BN (decide_eq_true h0) ⟨_, rfl, sw.trans s1, by rw [T6, Tp]; lia, ?_⟩
   rw [et, Vz (by exact decide_eq_true h0)]
   exact Paired.snoc (Au.same hun s1) (Az.same ⟨rx, rfl, hrx⟩ (sw.trans s1))
  ·refine Be (decide_eq_false h0) ⟨sw.trans s1, by lia, ?_⟩
   rw [et, Vy (by simpa using h0), List.filter_nil, SR]
   exact Au.same hun s1
 rintro us W ⟨sw, hul, hun⟩ l1 hl1
 rw [hzl, TZ] at hun
 generalize hSS : qs.filter (fun q => decide (Cv.ev D q = 0)) = S at hun q
 have hSn : S.Nodup := by rw [← hSS]; exact hnd.filter _
 have hSq : ∀ x ∈ S, x ∈ qs ∧ Cv.ev D x = 0 := fun x hx => by
  rw [← hSS] at hx
  exact ⟨(Sr.mp hx).1, by simpa using (Sr.mp hx).2⟩
 have hSl : S.length ≤ 6 := by rw [← hSS]; exact Sv (List.length_filter_le ..) h12
 have n1 := Af.new (o := .lst us) hl1
 refine ⟨l1, us, S, nx, rfl, Aa, Au.same hun n1, fun x hx => bq x (hSq x hx).1, hnx1, hnx, hSl, fun pc H2 s2 cC bC => ?_⟩
 have sA := (sw.trans n1).trans s2
 have hpl := BK S
 have hpn : prL S ≠ [] := fun z => by rw [z] at hpl; cases hpl
 rw [← hL] at bC
 clear n1 s2 hl1 hul hun sw
 refine ⟨_, rfl, t, _, _, _, rfl, rfl, hT.same sA, rfl, _, rfl, pD, pc, D, prL S, G, 1, L, rfl, cD.same sA, cC, gD, hpn, D0 S, bD, bC, by lia, hDl, by lia, fun p1 a1 b1 H3 os rs s3 e3 ca cb go gr hol hrl hev hrb => ?_⟩
 have hdv := GY gD go gr hrl hev hSn fun x hx => (hSq x hx).2
 have hos0 : os ≠ [] := fun z => hD0 (by
  have := AW gD (.inl rfl) fun x => by rw [hdv x, z]; show _ * 0 = (0 : Rat); rw [V7]
  exact this)
 obtain ⟨u, hu, hu0⟩ : ∃ u, os[os.length - 1]? = some u ∧ u ≠ 0 := by
  rcases go with h | h
  ·exact absurd h hos0
  ·exact h
 have sB := sA.trans s3
 refine ⟨p1, _, _, _, rfl, rfl, SqT.of e3, rfl, P2, fun t5 h5 => ?_⟩
 have n5 := Af.new (o := .tup [.int 1, .int 1]) h5
 obtain ⟨vs1, hva, hvn⟩ := (ca.same n5)
 obtain ⟨vu, hvu, hnu⟩ := (Paired.get' hvn hu)
 have hvl := hvn.length
 rw [← hvl] at hvu
 have bu := hrb u (T5 hu)
 refine ⟨_, rfl, _, rfl, a1, vs1, _, _, rfl, rfl, hva, DF hvu, ?_⟩
 refine ⟨_, _, 1, u, 1, E0, rfl, ⟨t5, rfl, SqT.of Aa⟩, hnu, hu0, RB.one (by decide), bu.mono (by lia), by lia, fun tw htw => ?_⟩
 have n6 := Af.new (o := nT (1 / u)) htw
 have etw := Aa (H := upd H3 t5 (.tup [.int 1, .int 1])) (a := tw) (o := nT (1 / u))
 have sC := sB.trans (n5.trans n6)
 have ca6 := (ca.same n5).same n6
 have cC6 := ((cC.same s3).same n5).same n6
 generalize upd (upd H3 t5 (.tup [.int 1, .int 1])) tw (nT (1 / u)) = H6 at etw sC ca6 cC6 ⊢
 clear n5 n6 hva hvn hvu hnu h5 htw hvl
 refine ⟨_, rfl, t, _, _, _, rfl, rfl, hT.same sC, rfl, _, rfl, pN, pc, N, prL S, G, 1, L, rfl, cN.same sC, cC6, gN, hpn, D0 S, bN, bC, by lia, hNl, by lia, fun p2 a2 b2 H7 ot rt s7 e7 ca2 cb2 go2 gr2 hol2 hrl2 hev2 hrb2 => ?_⟩
 have hdv2 := GY gN go2 gr2 hrl2 hev2 hSn fun x hx => hz x (hSq x hx).1 (hSq x hx).2
 have hw0 : (1 / u : Rat) ≠ 0 := fun z => by
  have : (1 / u) * u = 1 := TF hu0
  rw [z, V8] at this
  exact absurd this (by decide)
 have bw : RB (E0 + 1) (1 / u) := (RB.over (RB.one (n := 1) (by decide)) (bu.mono (V5 hE.symm)) hu0).mono (by lia)
 refine ⟨p2, _, _, _, rfl, rfl, SqT.of e7, rfl, _, rfl, a2, tw, ot, 1 / u, E0, E0 + 1, rfl, ca2, Az.of (s7 _ _ etw), fun c hc => (hrb2 c hc).mono (by lia), bw, by lia, by lia, fun pa H8 s8 cA => ?_⟩
 refine ⟨_, rfl, _, rfl, a1, tw, os, 1 / u, E0, E0 + 1, rfl, (ca6.same s7).same s8, Az.of (s8 _ _ (s7 _ _ etw)), fun c hc => (hrb c hc).mono (by lia), bw, by lia, by lia, fun pb H9 s9 cB => ⟨P2, fun pf hpf => ?_⟩⟩
 have nf := Af.new (o := .tup [.ref pa, .ref pb]) hpf
 have e1 := Cu (Bs go2 hw0)
 have e2 := Cu (Bs go hw0)
 rw [e1] at cA
 rw [e2] at cB
 have huw : u * (1 / u) = 1 := by rw [Rat.mul_comm]; exact TF hu0
 refine q pf pa pb _ _ _ u ((((sC.trans s7).trans s8).trans s9).trans nf) Aa ((cA.same s9).same nf) (cB.same nf) (Bs go2 hw0) (Bs go hw0) ?_ hu0 (fun x => ?_) (fun x => ?_) ?_ ?_ (fun c hc => ?_) fun c hc => ?_
 ·rw [T7, T3, hu]
  exact congrArg some huw
 ·rw [hdv2 x, Cv.ev_scale]
  have : u * prV x S * (Cv.ev ot x * (1 / u)) = (u * (1 / u)) * (prV x S * Cv.ev ot x) := by grind
  rw [this, huw, Vd]
 ·rw [hdv x, Cv.ev_scale]
  have : u * prV x S * (Cv.ev os x * (1 / u)) = (u * (1 / u)) * (prV x S * Cv.ev os x) := by grind
  rw [this, huw, Vd]
 ·rw [T7, hol2]; lia
 ·rw [T7, hol]; lia
 ·obtain ⟨y, hy, rfl⟩ := (UA.mp hc)
  exact (((hrb2 y hy).mono (V5 hE.symm)).times bw).mono (by lia)
 ·obtain ⟨y, hy, rfl⟩ := (UA.mp hc)
  exact (((hrb y hy).mono (V5 hE.symm)).times bw).mono (by lia)
theorem FC : Ao ["pair", "x", "y", "room"] ["pair", "x", "y"] (Ae (top 37)) := ⟨rfl, rfl, rfl, by decide +kernel, rfl, by decide +kernel, by decide +kernel⟩
theorem JK {f : Addr} {fd : FuncData} (F : Fun K "lack_at" "lack_at" (top 37) f fd) (QN : Fd P w K mg base 33 "whole_height" ["tops", "x"] (N9 K)) (Qr : mg "len" = none) (hT : P.given.tree = none) :
 AH P w K mg base CX0 34 f fd ["pair", "x", "y"] (Jy K) := by
 refine F.ok FC (fun vs H Q E h => ?_) (fun cdv A outer s H vs Q E hr h => ?_)
 ·obtain ⟨_, _, _, _, _, _, _, _, _, _, rfl, _⟩ := h; rfl
 refine ⟨_, (Ad (K := K) (Aj (i := 3) FC.nd rfl (Or.inl rfl) (Ah (BL hr hT) (Av (BV K) rfl Qr AJ (A0 (pv 0) Ab)) Ac))
  (Ag (As (Ah AX (Ah Ap (Ai (ixT K) (pv 2) Ac (fun u v => rfl)) (Ai (ixT K) (Ak QN hr rfl (A0 (BW (slL K) (pv 0) Ce (Cd (pv 3))) (A0 (pv 1) Ab))) Ac (fun u v => rfl))) (Ah Ap (Ai (ixT K) (pv 2) Ac (fun u v => rfl)) (Ai (ixT K) (Ak QN hr rfl (A0 (BW (slL K) (pv 0) (Cd (pv 3)) Ce) (A0 (pv 1) Ab))) Ac (fun u v => rfl)))))) (by rfl)), ?_⟩
 obtain ⟨l, rx, ry, ts, x, y, R, m, nx, ny, rfl, hS, hl, hx, ⟨_, ery, hy⟩, hB, bx, by_, hz, q⟩ := h
 cases ery
 have hz1 : (nx + 1) * (R + 4) = (nx + 1) * (R + 2) + (nx + 1) * 2 := by rw [← Ur]
 generalize hP : (nx + 1) * (R + 2) = P at *
 refine ⟨_, rfl, l, _, rfl, .inl hS, _, _, rfl, rfl, by decide, ?_⟩
 have eR : (((ts.map V.int).length : Nat) : Int).fdiv 2 = (R : Int) := by
  rw [T7, hl, Vu _ (by decide)]; lia
 rw [eR]
 have ht1 : (ts.take R).length = R := by rw [SX]; lia
 have ht2 : (ts.drop R).length = R := by rw [Tg]; lia
 refine ⟨_, rfl, ry, _, _, _, rfl, rfl, hy, rfl, _, rfl, _, rfl, _, rfl, l, _, rfl, hS, fun p1 h1 => ?_⟩
 have c1 : CA (ts.map V.int) none (some (R : Int)) = (ts.take R).map V.int := by rw [Gf, VH]
 rw [c1]
 have n1 := Af.new (o := .lst ((ts.take R).map V.int)) h1
 have e1 : (upd H p1 (.lst ((ts.take R).map V.int))) p1 = some (.lst ((ts.take R).map V.int)) := Aa
 generalize upd H p1 (.lst ((ts.take R).map V.int)) = H1 at n1 e1 ⊢
 refine ⟨_, rfl, p1, rx, ts.take R, x, m, nx, rfl, SqL.of e1, hx.same n1, fun t ht => hB t (Vm ht), bx, by rw [ht1]; lia, fun hN s p2 es hs0 ehN bN bs hp2 => ?_⟩
 rw [ht1] at es bN bs
 have n2 := Af.new (o := .tup [.int hN, .int s]) hp2
 refine ⟨p2, _, _, _, rfl, rfl, SqT.of Aa, rfl, _, _, rfl, rfl, B0.bd by_.2 bN (by lia), ?_⟩
 have s2 := n1.trans n2
 generalize upd H1 p2 (.tup [.int hN, .int s]) = H2 at s2 ⊢
 refine ⟨_, rfl, ry, _, _, _, rfl, rfl, hy.same s2, rfl, _, rfl, _, rfl, _, rfl, l, _, rfl, Af.seq s2 hS, fun p3 h3 => ?_⟩
 have c2 : CA (ts.map V.int) (some (R : Int)) none = (ts.drop R).map V.int := by rw [DE, List.map_drop]
 rw [c2]
 have n3 := s2.trans (Af.new (o := .lst ((ts.drop R).map V.int)) h3)
 have e3 : (upd H2 p3 (.lst ((ts.drop R).map V.int))) p3 = some (.lst ((ts.drop R).map V.int)) := Aa
 generalize upd H2 p3 (.lst ((ts.drop R).map V.int)) = H3 at n3 e3 ⊢
 refine ⟨_, rfl, p3, rx, ts.drop R, x, m, nx, rfl, SqL.of e3, hx.same n3, fun t ht => hB t (VJ ht), bx, by rw [ht2]; lia, fun hD s' p4 es' hs0' ehD bD bs' hp4 => ?_⟩
 rw [ht2] at es' bD bs'
 have n4 := Af.new (o := .tup [.int hD, .int s']) hp4
 refine ⟨p4, _, _, _, rfl, rfl, SqT.of Aa, rfl, _, _, rfl, rfl, B0.bd by_.1 bD (by lia), _, _, rfl, rfl, ?_⟩
 refine q _ _ (n3.trans n4) ?_ ?_
 ·rw [TK, TJ, TJ, ehN, ehD, es', ← es, TJ, Nm.num_mul y]
  grind
 ·exact Bd.sub (n := m + P + ny) ((by_.2.mul bN).mono (by lia)) ((by_.1.mul bD).mono (by lia))
theorem Ea : Ao ["pair", "x"] ["pair", "x"] (Ae (top 38)) := ⟨rfl, rfl, rfl, by decide +kernel, rfl, by decide +kernel, by decide +kernel⟩
theorem Ef {f : Addr} {fd : FuncData} (F : Fun K "with_nought_at" "with_nought_at" (top 38) f fd) (Qs : mg "range" = none) (Qr : mg "len" = none) (hT : P.given.tree = none) :
 AH P w K mg base CX0 33 f fd ["pair", "x"] (Hm K) := by
 refine F.ok Ea (fun vs H Q E h => ?_) (fun cdv A outer s H vs Q E hr h => ?_)
 ·obtain ⟨_, _, _, _, _, _, rfl, _⟩ := h; rfl
 refine ⟨_, (Ag (As (Cj rfl (N := ["k", "pair", "x"]) (nt := 1) (js := [0, 1]) (Ba.look (NX := ["pair", "x"]) (sc := Ae (top 38)) rfl rfl (by decide +kernel)) (BQ rfl Qs (A0 (Av (BV K) rfl Qr AJ (A0 (pv 0) Ab)) Ab)) (fun u1 u2 u3 u4 u5 => (Ay (i := 0) (show List.Nodup (["k", "pair", "x"] : List Str) from by decide +kernel) rfl (Or.inl rfl))) (AD (by decide)) (fun u1 u2 u3 u4 u5 => Bp) (fun u1 u2 u3 u4 u5 => (Ah AX (Ah Ap (Ai (ixT K) (pv 2) Ac (fun u v => rfl)) (Ai (ixL K) (pv 1) (Ah AX (pv 0) Ac) (fun u v => rfl))) (Ah Ap (Ai (ixT K) (pv 2) Ac (fun u v => rfl)) (Ai (ixL K) (pv 1) (pv 0) (fun u v => rfl)))))))), ?_⟩
 obtain ⟨l, rx, ts, x, m, n, rfl, hS, ⟨_, erx, hx⟩, h1, h100, hlast, hB, bx, hz, q⟩ := h
 cases erx
 have tl : (ts.map V.int).length = ts.length := T7 _
 refine C6 ⟨_, rfl, l, _, rfl, .inl hS, _, rfl, by rw [tl]; lia, by rw [tl]; lia, ?_⟩
 rw [Td, tl]
 refine OL (L3 H x ts fun H x ts i zs G => G = H ∧ zs = ((So i).map fun k => (x.den : Int) * (if k = 0 then 0 else ts.getD (k - 1) 0) - x.num * ts.getD k 0).map V.int) ⟨rfl, rfl⟩ (fun i zs G _ h => by rw [h.2, T7, T7, UL]) (Sw (AN (by lia))) ?_ ?_
 ·rintro i zs G hi ⟨rfl, rfl⟩
  have at_i : atI (ts.map V.int) (0 + (i : Int)) = some (.int (ts.getD i 0)) := by
   rw [Int.zero_add]
   refine Bv ?_
   rw [T3, Uc hi, U6, Uc hi]; rfl
  have at_p : atI (ts.map V.int) (0 + (i : Int) - 1) = some (.int (if i = 0 then 0 else ts.getD (i - 1) 0)) := by
   by_cases z : i = 0
   ·subst z
    rw [if_pos rfl]
    have : atI (ts.map V.int) (-1) = some (.int 0) := DF (by
     rw [tl, T3, Uc (by lia)]
     rw [U6, Uc (by lia)] at hlast
     exact congrArg (fun t => some (V.int t)) hlast)
    exact this
   ·rw [if_neg z, show (0 : Int) + (i : Int) - 1 = ((i - 1 : Nat) : Int) by lia]
    refine Bv ?_
    rw [T3, Uc (by lia), U6, Uc (by lia)]; rfl
  have bp : Bd m (if i = 0 then 0 else ts.getD (i - 1) 0) := by
   split
   ·exact (show Bd 0 0 by unfold Bd; decide).mono (by lia)
   ·exact CL hB _
  refine ⟨_, rfl, rx, _, _, _, rfl, rfl, hx, rfl, _, rfl, _, rfl, _, _, rfl, rfl, l, _, _, _, rfl, rfl, hS, at_p, _, _, rfl, rfl, B0.bd bx.2 bp (by lia), ?_⟩
  refine ⟨_, rfl, rx, _, _, _, rfl, rfl, hx, rfl, _, rfl, _, rfl, l, _, _, _, rfl, rfl, hS, at_i, _, _, rfl, rfl, B0.bd bx.1 (CL hB i) (by lia), _, _, rfl, rfl, rfl, ?_⟩
  rw [Uz, TY, TY]
  rfl
 rintro zs G ⟨hG, rfl⟩ p hp
 obtain rfl : H = G := hG.symm
 refine q p _ (Af.new hp) Aa fun t ht => ?_
 unfold shI at ht
 obtain ⟨k, _, rfl⟩ := (UA.mp ht)
 have bp : Bd m (if k = 0 then 0 else ts.getD (k - 1) 0) := by
  split
  ·exact (show Bd 0 0 by unfold Bd; decide).mono (by lia)
  ·exact CL hB _
 exact Bd.sub (n := m + n) ((bx.2.mul bp).mono (by lia)) ((bx.1.mul (CL hB k)).mono (by lia))
theorem BG : Ao ["tops", "measure", "top"] ["tops"] (Ae (top 39)) := ⟨rfl, rfl, rfl, by decide +kernel, rfl, by decide +kernel, by decide +kernel⟩
theorem Ee {f : Addr} {fd : FuncData} (F : Fun K "without_common" "without_common" (top 39) f fd) (QG : Fd P w K mg base 33 "common_measure" ["one", "other"] (IB)) (hT : P.given.tree = none) :
 AH P w K mg base CX0 34 f fd ["tops"] (LK K) := by
 refine F.ok BG (fun vs H Q E h => ?_) (fun cdv A outer s H vs Q E hr h => ?_)
 ·obtain ⟨_, _, _, rfl, _⟩ := h; rfl
 refine ⟨_, (Ad (K := K) (Aj (i := 1) BG.nd rfl (Or.inr rfl) Ac)
  (Ad (K := K) (Bh (K := K) PassesOwn.never rfl (piL K (pv 0)) (Ay (i := 2) BG.nd rfl (Or.inl rfl)) (Ag (Aj (i := 1) BG.nd rfl (Or.inr rfl) (Ak QG hr rfl (A0 (pv 1) (A0 (pv 2) Ab))))) (by rfl))
  (Ag (As (Cj rfl (N := ["top", "measure"]) (nt := 1) (js := [1]) (Ba.look (NX := ["tops", "measure", "top"]) (sc := Ae (top 39)) rfl rfl (by decide +kernel)) (piL K (pv 0)) (fun u1 u2 u3 u4 u5 => (Ay (i := 0) (show List.Nodup (["top", "measure"] : List Str) from by decide +kernel) rfl (Or.inl rfl))) (AD (by decide)) (fun u1 u2 u3 u4 u5 => Bp) (fun u1 u2 u3 u4 u5 => (Ah (BL hr hT) (pv 0) (pv 1)))))) (by rfl)) (by rfl)), ?_⟩
 obtain ⟨l, ts, m, rfl, hS, hne, h100, hB, q⟩ := h
 have tl : (ts.map V.int).length = ts.length := T7 _
 refine ⟨_, rfl, l, rfl, ⟨_, hS⟩, Gd (xs := ts.map V.int) (L3 H l ts fun H l ts i σ G => G = H ∧ ∃ (g : Int) (z : Option V), σ = [some (.ref l), some (.int g), z] ∧ 0 ≤ g ∧ (∀ t ∈ ts.take i, g ∣ t) ∧ (g = 0 → ∀ t ∈ ts.take i, t = 0)) ⟨rfl, 0, none, rfl, by decide, (fun _ h => nomatch h), fun _ _ h => nomatch h⟩ (fun i σ G _ h => by rw [h.1]; exact hS) ?_ ?_⟩
 ·rintro i v σ G hv hR1
  refine BB hR1 fun hq60 hz62 => ?_
  refine Cs hz62 fun g z hz62' => ?_
  clear hz62
  refine GD hz62' fun hq61 g0 hg hg0 => ?_
  clear hz62'
  obtain rfl := hq60
  obtain rfl := hq61
  try clear hR1
  rw [T3] at hv
  cases ht : ts[i]? with
  | none => rw [ht] at hv; cases hv
  | some t =>
    rw [ht] at hv
    cases hv
    refine ⟨_, rfl, _, rfl, g, t, rfl, rfl, _, _, rfl, by lia, fun u hu => ?_, fun z u hu => ?_⟩
    ·rw [TX, ht] at hu
     rcases SD.mp hu with w | w
     ·exact Int.dvd_trans (Tw ..) (hg u w)
     ·rw [show u = t from Ub.mp w]; exact Tz ..
    ·have z' : Tt g t = 0 := by lia
     rw [Int.gcd_eq_zero_iff] at z'
     rw [TX, ht] at hu
     rcases SD.mp hu with w | w
     ·exact hg0 z'.1 u w
     ·rw [show u = t from Ub.mp w]; exact z'.2
 rintro σ G hR2
 refine BB hR2 fun hG hz64 => ?_
 refine Cs hz64 fun g z hz64' => ?_
 clear hz64
 refine GD hz64' fun hq63 g0 hg hg0 => ?_
 clear hz64'
 obtain rfl := hq63
 try clear hR2
 obtain rfl : H = G := hG.symm
 rw [tl, TZ] at hg hg0
 have gne : g ≠ 0 := fun z => by
  obtain ⟨t, ht, hn⟩ := hne
  exact hn (hg0 z t ht)
 refine C6 ⟨_, rfl, l, rfl, ⟨_, hS⟩, ?_⟩
 refine Cw (xs := ts.map V.int) (fun i zs G => G = H ∧ zs = ((ts.take i).map fun t => t.fdiv g).map V.int) ⟨rfl, rfl⟩ (fun i zs G hi h => ⟨by rw [h.1]; exact hS, by rw [h.2, T7, T7, SX]; lia⟩) (Sw (AN (by lia))) ?_ ?_
 ·rintro i v zs G hv ⟨rfl, rfl⟩
  rw [T3] at hv
  cases ht : ts[i]? with
  | none => rw [ht] at hv; cases hv
  | some t =>
    rw [ht] at hv
    cases hv
    refine ⟨_, rfl, _, rfl, _, _, rfl, rfl, gne, rfl, ?_⟩
    rw [TX, ht, TY, TY]
    rfl
 rintro zs G ⟨hG, rfl⟩ p hp
 obtain rfl : H = G := hG.symm
 rw [tl, TZ]
 refine q p _ g _ (Af.new hp) Aa gne (by rw [T7]) (fun j => ?_) fun t ht => ?_
 ·rw [U6, U6, T3]
  cases ht : ts[j]? with
  | none => exact Vk _
  | some t =>
    show g * t.fdiv g = t
    rw [Vu _ g0]
    exact Int.mul_ediv_cancel' (hg t (T5 ht))
 ·obtain ⟨u, hu, rfl⟩ := (UA.mp ht)
  rw [Vu _ g0]
  have b := hB u hu
  unfold Bd at b ⊢
  exact Tr (Int.natAbs_ediv_le_natAbs ..) b
theorem Bo : Ao ["both", "x", "y", "low", "high", "lack", "other"] ["both", "x", "y"] (Ae (top 40)) := ⟨rfl, rfl, rfl, by decide +kernel, rfl, by decide +kernel, by decide +kernel⟩
theorem HS {f : Addr} {fd : FuncData} (F : Fun K "both_with" "both_with" (top 40) f fd) (R6 : Fd P w K mg base 34 "lack_at" ["pair", "x", "y"] (Jy K)) (R7 : Fd P w K mg base 33 "with_nought_at" ["pair", "x"] (Hm K)) (Rr : Fd P w K mg base 34 "without_common" ["tops"] (LK K)) (Qw : mg "zip" = none) (hT : P.given.tree = none) :
 AH P w K mg base CX0 35 f fd ["both", "x", "y"] (Jz K) := by
 refine F.ok Bo (fun vs H Q E h => ?_) (fun cdv A outer s H vs Q E hr h => ?_)
 ·obtain ⟨_, _, _, _, _, _, _, _, _, _, _, _, _, _, _, _, _, _, _, _, _, rfl, _⟩ := h; rfl
 refine ⟨_, (Ad (K := K) (Aj (i := 3) Bo.nd rfl (Or.inl rfl) (Ai (ixT K) (pv 0) Ac (fun u v => rfl)))
  (Ad (K := K) (Aj (i := 4) Bo.nd rfl (Or.inl rfl) (Ai (ixT K) (pv 0) Ac (fun u v => rfl)))
  (Ad (K := K) (Aj (i := 5) Bo.nd rfl (Or.inr rfl) (Ak R6 hr rfl (A0 (Ai (ixT K) (pv 3) Ac (fun u v => rfl)) (A0 (pv 1) (A0 (pv 2) Ab)))))
  (Ad (K := K) (Aj (i := 6) Bo.nd rfl (Or.inr rfl) (Ak R6 hr rfl (A0 (Ai (ixT K) (pv 4) Ac (fun u v => rfl)) (A0 (pv 1) (A0 (pv 2) Ab)))))
  (Ad (K := K) (Bj (K := K) (PW.pt (JC (AA FL (pv 5) Ac (AB _)) (HC (AA GQ (pv 6) Ac (AB _))))) (Ag (Aj (i := 4) Bo.nd rfl (Or.inl rfl) (AO (A0 (Ah AK (Ai (ixT K) (pv 4) Ac (fun u v => rfl)) Ac) (A0 (Ak R7 hr rfl (A0 (Ai (ixT K) (pv 4) Ac (fun u v => rfl)) (A0 (pv 1) Ab))) Ab))))) AY (by rfl) (by rfl))
  (Ad (K := K) (Bj (K := K) (PW.pt (JC (AA GQ (pv 5) Ac (AB _)) (HC (AA GQ (pv 6) Ac (AB _))))) (Ag (Aj (i := 4) Bo.nd rfl (Or.inl rfl) (AO (A0 (Ai (ixT K) (pv 4) Ac (fun u v => rfl)) (A0 (Ak Rr hr rfl (A0 (Cj rfl (N := ["a", "b", "lack", "other"]) (nt := 2) (js := [5, 6]) (Ba.look (NX := ["both", "x", "y", "low", "high", "lack", "other"]) (sc := Ae (top 40)) rfl rfl (by decide +kernel)) (M8 K rfl Qw (A0 (Ai (ixT K) (pv 3) Ac (fun u v => rfl)) (A0 (Ai (ixT K) (pv 4) Ac (fun u v => rfl)) Ab))) (fun u1 u2 u3 u4 u5 => (pgT K (n := 2) rfl (CW (Ay (i := 0) (show List.Nodup (["a", "b", "lack", "other"] : List Str) from by decide +kernel) rfl (Or.inl rfl)) (CW (Ay (i := 1) (show List.Nodup (["a", "b", "lack", "other"] : List Str) from by decide +kernel) rfl (Or.inl rfl)) HI)))) (GI (CG (by decide) (CG (by decide) Fo))) (fun u1 u2 u3 u4 u5 => Bp) (fun u1 u2 u3 u4 u5 => (Ah AX (Ah Ap (pv 2) (pv 1)) (Ah Ap (pv 3) (pv 0))))) Ab)) Ab))))) AY (by rfl) (by rfl))
  (Ad (K := K) (Bj (K := K) (AA GQ (pv 5) Ac (AB _)) (Ag (Aj (i := 3) Bo.nd rfl (Or.inl rfl) (AO (A0 (Ah AK (Ai (ixT K) (pv 3) Ac (fun u v => rfl)) Ac) (A0 (Ak R7 hr rfl (A0 (Ai (ixT K) (pv 3) Ac (fun u v => rfl)) (A0 (pv 1) Ab))) Ab))))) AY (by rfl) (by rfl))
  (Ag (As (FJ (AA EV (Ai (ixT K) (pv 3) Ac (fun u v => rfl)) (Ai (ixT K) (pv 4) Ac (fun u v => rfl)) (AB _)) (AO (A0 (pv 3) (A0 (pv 4) Ab))) (AO (A0 (pv 4) (A0 (pv 3) Ab)))))) (by rfl)) (by rfl)) (by rfl)) (by rfl)) (by rfl)) (by rfl)) (by rfl)), ?_⟩
 obtain ⟨b, rx, ry, v1, v2, r1, r2, ts1, ts2, w, v, n, R, ps, A, S, C, nx, ny, x, y, rfl, hb, ⟨p1, l1, rfl, hp1, hl1⟩, ⟨p2, l2, rfl, hp2, hl2⟩, I, eR, hw, hx, hy, bx, by_, hnd, hk, hn12, hC, hA, hSz, q⟩ := h
 have P2 : 2 ≤ sizeLine := by decide
 refine Cs I.bd fun a1 a2 hz65' => ?_
 refine DG hz65' fun ba1 ba2 hA1 hA2 hAS => ?_
 clear hz65'
 have hz1 : (nx + 1) * (R + 4) = (nx + 1) * (R + 2) + (nx + 1) * 2 := by rw [← Ur]
 have hz2 : (nx + 1) * 2 ≤ (nx + 1) * (R + 2) := VE _ (by lia)
 obtain ⟨c0, hc0⟩ : ∃ c0, c0 = (nx + 1) * (R + 2) + ny := ⟨_, rfl⟩
 have hcC : c0 + 2 ≤ C := by lia
 have hnx : nx + 1 ≤ C := by lia
 have hR1 : 1 ≤ R := by lia
 have z1a : ts1.getD (R - 1) 0 = 0 := (I.z1 (R - 1) (by lia) (by lia)).1
 have z1b : ts1.getD (R + (R - 1)) 0 = 0 := (I.z1 (R - 1) (by lia) (by lia)).2
 have z2a : ts2.getD (R - 1) 0 = 0 := (I.z2 (R - 1) (by lia) (by lia)).1
 have z2b : ts2.getD (R + (R - 1)) 0 = 0 := (I.z2 (R - 1) (by lia) (by lia)).2
 have last1 : ts1.getD (ts1.length - 1) 0 = 0 := by rw [I.l1, show 2 * R - 1 = R + (R - 1) by lia]; exact z1b
 have last2 : ts2.getD (ts2.length - 1) 0 = 0 := by rw [I.l2, show 2 * R - 1 = R + (R - 1) by lia]; exact z2b
 have den0 : (((x.den : Int)) : Rat) ≠ 0 := J5 (Nm.den_ne x)
 have denx : (((x.den : Int)) : Rat) * x = ((x.num : Int) : Rat) := by rw [Nm.num_mul x]; grind
 have hs : (((y.den : Int) * (x.den : Int) ^ R : Int) : Rat) ≠ 0 := J5 (TH (Nm.den_ne y) (Int.pow_ne_zero (Nm.den_ne x)))
 refine ⟨_, rfl, b, _, _, _, rfl, rfl, hb, rfl, _, rfl, b, _, _, _, rfl, rfl, hb, rfl, ?_⟩
 refine ⟨_, rfl, p1, _, _, _, rfl, rfl, hp1, rfl, _, rfl, _, rfl, l1, rx, ry, ts1, x, y, R, a1, nx, ny, rfl, hl1, I.l1, hx, hy, ba1, bx, by_, by lia, fun L1 H1 s1 eL1 bL1 => ?_⟩
 refine ⟨_, rfl, p2, _, _, _, rfl, rfl, hp2.same s1, rfl, _, rfl, _, rfl, l2, rx, ry, ts2, x, y, R, a2, nx, ny, rfl, Af.seq s1 hl2, I.l2, hx.same s1, hy.same s1, ba2, bx, by_, by lia, fun L2 H2 s2 eL2 bL2 => ?_⟩
 have s2 := s1.trans s2
 have bL1 : Bd (a1 + (c0 + 1)) L1 := bL1.mono (by lia)
 have bL2 : Bd (a2 + (c0 + 1)) L2 := bL2.mono (by lia)
 have eL1 : (L1 : Rat) = (((y.den : Int) * (x.den : Int) ^ R : Int) : Rat) * (Cv.ev (ic (ts1.take R)) x - y * Cv.ev (ic (ts1.drop R)) x) := eL1
 have eL2 : (L2 : Rat) = (((y.den : Int) * (x.den : Int) ^ R : Int) : Rat) * (Cv.ev (ic (ts2.take R)) x - y * Cv.ev (ic (ts2.drop R)) x) := eL2
 clear hz1 hz2 s1 hC hc0 hb
 by_cases h1 : L1 = 0
 ·by_cases h2 : L2 = 0
  ·exact absurd ⟨N7 ((Em hs eL1).mp h1), N7 ((Em hs eL2).mp h2)⟩ (I.inv.some hw hnd)
  ·-- lack = 0, other ≠ 0
   have hN1 : Cv.ev (ic (ts1.take R)) x = y * Cv.ev (ic (ts1.drop R)) x := by have := (Em hs eL1).mp h1; exact N7 this
   refine ⟨_, rfl, rfl, _, rfl, BN (decide_eq_true (by rw [h1])) ⟨_, rfl, rfl, _, rfl, BN (by rw [decide_eq_false fun z => h2 (V.int.inj z)]; rfl) ?_⟩⟩
   refine ⟨_, rfl, p2, _, _, _, rfl, rfl, hp2.same s2, rfl, _, _, rfl, rfl, _, rfl, p2, _, _, _, rfl, rfl, hp2.same s2, rfl, _, rfl, ?_⟩
   refine ⟨l2, rx, ts2, x, a2, nx, rfl, Af.seq s2 hl2, hx.same s2, by rw [I.l2]; lia, by rw [I.l2]; lia, last2, ba2, bx, by lia, fun l9 G9 s9 e9 b9 => ⟨P2, fun p9 hp9 => ?_⟩⟩
   have s9 := s2.trans s9
   have n9 := Af.new (o := .tup [.int (r2 + 2), .ref l9]) hp9
   have ep9 : (upd G9 p9 (.tup [.int (r2 + 2), .ref l9])) p9 = some (.tup [.int (r2 + 2), .ref l9]) := Aa
   have e9 := n9 _ _ e9
   have s9 := s9.trans n9
   generalize upd G9 p9 (.tup [.int (r2 + 2), .ref l9]) = G at ep9 e9 s9 ⊢
   clear n9 hp9
   refine ⟨_, rfl, rfl, _, rfl, Be (by rw [decide_eq_true (by rw [h1])]; rfl) (JT ?_)⟩
   refine ⟨_, rfl, rfl, _, rfl, Be (by rw [decide_eq_true (by rw [h1])]; rfl) ?_⟩
   have un := I.inv.stepA (y := y) den0 denx hN1 (Fw I.l2 hR1 z2a) (Fy I.l2 hR1 z2a z2b)
   have len1 := I.l1
   have len2 := (E2 x.num x.den ts2).trans I.l2
   have zer1 : ∀ j, (ps ++ [(x, y)]).length + 1 ≤ j → j < R → ts1.getD j 0 = 0 ∧ ts1.getD (R + j) 0 = 0 := fun j h => I.z1 j (by rw [T6] at h; lia)
   have zer2 : ∀ j, (ps ++ [(x, y)]).length + 1 ≤ j → j < R → (shI x.num x.den ts2).getD j 0 = 0 ∧ (shI x.num x.den ts2).getD (R + j) 0 = 0 := by rw [T6]; exact Fz (c := x.num) (d := x.den) I.z2
   have bda := ba1
   have bdb := b9
   refine ⟨_, rfl, p1, _, _, _, rfl, rfl, hp1.same s9, rfl, _, rfl, p9, _, _, _, rfl, rfl, SqT.of ep9, rfl, _, _, rfl, rfl, _, rfl, ?_⟩
   by_cases hlt : r1 < r2 + 2
   ·refine BN (decide_eq_true hlt) ⟨_, rfl, _, rfl, P2, fun t9 ht9 => ?_⟩
    have n9 := Af.new (o := .tup [.ref p1, .ref p9]) ht9
    exact q t9 _ _ _ _ _ _ _ (s9.trans n9) (SqT.of Aa) ⟨p1, _, rfl, (hp1.same s9).same n9, Af.seq n9 (Af.seq s9 hl1)⟩ ⟨p9, _, rfl, (SqT.of ep9).same n9, Af.seq n9 (SqL.of e9)⟩ ⟨un.inv hlt, len1, len2, zer1, zer2, _, _, bda, bdb, by lia, by lia, by lia⟩
   ·refine Be (decide_eq_false hlt) ⟨_, rfl, _, rfl, P2, fun t9 ht9 => ?_⟩
    have n9 := Af.new (o := .tup [.ref p9, .ref p1]) ht9
    exact q t9 _ _ _ _ _ _ _ (s9.trans n9) (SqT.of Aa) ⟨p9, _, rfl, (SqT.of ep9).same n9, Af.seq n9 (SqL.of e9)⟩ ⟨p1, _, rfl, (hp1.same s9).same n9, Af.seq n9 (Af.seq s9 hl1)⟩ ⟨un.turn hlt, len2, len1, zer2, zer1, _, _, bdb, bda, by lia, by lia, by lia⟩
 ·by_cases h2 : L2 = 0
  ·-- lack ≠ 0, other = 0
   have hN2 : Cv.ev (ic (ts2.take R)) x = y * Cv.ev (ic (ts2.drop R)) x := by have := (Em hs eL2).mp h2; exact N7 this
   refine ⟨_, rfl, rfl, _, rfl, Be (decide_eq_false fun z => h1 (V.int.inj z)) (JT ?_)⟩
   refine ⟨_, rfl, rfl, _, rfl, BN (by rw [decide_eq_false fun z => h1 (V.int.inj z)]; rfl) ⟨_, rfl, rfl, _, rfl, Be (by rw [decide_eq_true (by rw [h2])]; rfl) ?_⟩⟩
   refine ⟨_, rfl, rfl, _, rfl, BN (by rw [decide_eq_false fun z => h1 (V.int.inj z)]; rfl) ?_⟩
   refine ⟨_, rfl, p1, _, _, _, rfl, rfl, hp1.same s2, rfl, _, _, rfl, rfl, _, rfl, p1, _, _, _, rfl, rfl, hp1.same s2, rfl, _, rfl, ?_⟩
   refine ⟨l1, rx, ts1, x, a1, nx, rfl, Af.seq s2 hl1, hx.same s2, by rw [I.l1]; lia, by rw [I.l1]; lia, last1, ba1, bx, by lia, fun l9 G9 s9 e9 b9 => ⟨P2, fun p9 hp9 => ?_⟩⟩
   have s9 := s2.trans s9
   have n9 := Af.new (o := .tup [.int (r1 + 2), .ref l9]) hp9
   have ep9 : (upd G9 p9 (.tup [.int (r1 + 2), .ref l9])) p9 = some (.tup [.int (r1 + 2), .ref l9]) := Aa
   have e9 := n9 _ _ e9
   have s9 := s9.trans n9
   generalize upd G9 p9 (.tup [.int (r1 + 2), .ref l9]) = G at ep9 e9 s9 ⊢
   clear n9 hp9
   have un := I.inv.stepB (y := y) den0 denx hN2 (Fw I.l1 hR1 z1a) (Fy I.l1 hR1 z1a z1b)
   have len1 := (E2 x.num x.den ts1).trans I.l1
   have len2 := I.l2
   have zer2 : ∀ j, (ps ++ [(x, y)]).length + 1 ≤ j → j < R → ts2.getD j 0 = 0 ∧ ts2.getD (R + j) 0 = 0 := fun j h => I.z2 j (by rw [T6] at h; lia)
   have zer1 : ∀ j, (ps ++ [(x, y)]).length + 1 ≤ j → j < R → (shI x.num x.den ts1).getD j 0 = 0 ∧ (shI x.num x.den ts1).getD (R + j) 0 = 0 := by rw [T6]; exact Fz (c := x.num) (d := x.den) I.z1
   have bda := b9
   have bdb := ba2
   refine ⟨_, rfl, p9, _, _, _, rfl, rfl, SqT.of ep9, rfl, _, rfl, p2, _, _, _, rfl, rfl, hp2.same s9, rfl, _, _, rfl, rfl, _, rfl, ?_⟩
   by_cases hlt : r1 + 2 < r2
   ·refine BN (decide_eq_true hlt) ⟨_, rfl, _, rfl, P2, fun t9 ht9 => ?_⟩
    have n9 := Af.new (o := .tup [.ref p9, .ref p2]) ht9
    exact q t9 _ _ _ _ _ _ _ (s9.trans n9) (SqT.of Aa) ⟨p9, _, rfl, (SqT.of ep9).same n9, Af.seq n9 (SqL.of e9)⟩ ⟨p2, _, rfl, (hp2.same s9).same n9, Af.seq n9 (Af.seq s9 hl2)⟩ ⟨un.inv hlt, len1, len2, zer1, zer2, _, _, bda, bdb, by lia, by lia, by lia⟩
   ·refine Be (decide_eq_false hlt) ⟨_, rfl, _, rfl, P2, fun t9 ht9 => ?_⟩
    have n9 := Af.new (o := .tup [.ref p2, .ref p9]) ht9
    exact q t9 _ _ _ _ _ _ _ (s9.trans n9) (SqT.of Aa) ⟨p2, _, rfl, (hp2.same s9).same n9, Af.seq n9 (Af.seq s9 hl2)⟩ ⟨p9, _, rfl, (SqT.of ep9).same n9, Af.seq n9 (SqL.of e9)⟩ ⟨un.turn hlt, len2, len1, zer2, zer1, _, _, bdb, bda, by lia, by lia, by lia⟩
  ·-- both
   refine ⟨_, rfl, rfl, _, rfl, Be (decide_eq_false fun z => h1 (V.int.inj z)) (JT ?_)⟩
   refine ⟨_, rfl, rfl, _, rfl, BN (by rw [decide_eq_false fun z => h1 (V.int.inj z)]; rfl) ⟨_, rfl, rfl, _, rfl, BN (by rw [decide_eq_false fun z => h2 (V.int.inj z)]; rfl) ?_⟩⟩
   refine ⟨_, rfl, p2, _, _, _, rfl, rfl, hp2.same s2, rfl, ?_⟩
   refine C6 ⟨_, rfl, p1, _, _, _, rfl, rfl, hp1.same s2, rfl, _, rfl, p2, _, _, _, rfl, rfl, hp2.same s2, rfl, l1, l2, ts1.map V.int, ts2.map V.int, rfl, Af.seq s2 hl1, Af.seq s2 hl2, ?_⟩
   have tl1 : (ts1.map V.int).length = 2 * R := by rw [T7]; exact I.l1
   have tl2 : (ts2.map V.int).length = 2 * R := by rw [T7]; exact I.l2
   have hmin : min (ts1.map V.int).length (ts2.map V.int).length = 2 * R := by lia
   refine OJ (xs := ts1.map V.int) (ys := ts2.map V.int) (L5 H2 L1 ts2 L2 ts1 fun H2 L1 ts2 L2 ts1 i zs G => Af H2 G ∧ zs = ((So i).map fun k => L1 * ts2.getD k 0 - L2 * ts1.getD k 0).map V.int) ⟨Af.refl _, rfl⟩ (fun i zs G _ h => ⟨Af.seq (s2.trans h.1) hl1, Af.seq (s2.trans h.1) hl2, by rw [h.2, T7, T7, UL]⟩) (Sw (AN (by lia))) ?_ ?_
   ·rintro i u1 u2 T zs G hu1 hu2 hT ⟨sg, rfl⟩
    have hi : i < 2 * R := by have := (SF.mp hu1).1; lia
    have g1 : ts1[i]? = some (ts1.getD i 0) := by rw [U6, Uc (by have := I.l1; lia)]; rfl
    have g2 : ts2[i]? = some (ts2.getD i 0) := by rw [U6, Uc (by have := I.l2; lia)]; rfl
    rw [T3, g1] at hu1
    rw [T3, g2] at hu2
    cases hu1
    cases hu2
    refine ⟨_, rfl, _, rfl, _, _, rfl, rfl, B0.bd bL1 (CL ba2 i) (by lia), _, rfl, _, rfl, _, _, rfl, rfl, B0.bd bL2 (CL ba1 i) (by lia), _, _, rfl, rfl, sg.trans (Af.new hT), ?_⟩
    rw [Uz, TY, TY]
    rfl
   rintro zs G ⟨sg, rfl⟩ m9 hm9
   rw [hmin]
   generalize hms : ((So (2 * R)).map fun k => L1 * ts2.getD k 0 - L2 * ts1.getD k 0) = ms
   have msl : ms.length = 2 * R := by rw [← hms, T7, UL]
   have msg : ∀ j, ms.getD j 0 = L1 * ts2.getD j 0 - L2 * ts1.getD j 0 := fun j => by
    rcases Va j (2 * R) with z | z
    ·rw [← hms, U6, T3, UP z]; rfl
    ·rw [D3 (by lia), D3 (by have := I.l2; lia), D3 (by have := I.l1; lia), Vk, Vk]; rfl
   have bms : ∀ t ∈ ms, Bd (a1 + a2 + (c0 + 2)) t := fun t ht => by
    rw [← hms] at ht
    obtain ⟨k, _, rfl⟩ := (UA.mp ht)
    exact Bd.sub (n := a1 + a2 + (c0 + 1)) ((bL1.mul (CL ba2 k)).mono (by lia)) ((bL2.mul (CL ba1 k)).mono (by lia))
   have hne : ∃ t ∈ ms, t ≠ 0 := by
    have top := CO.mix (m := 1) (a := (L1 : Rat)) (b := (L2 : Rat)) I.inv.top2 I.inv.le1 I.inv.lt (J5 h1) (N' := ic (ms.take R)) (D' := ic (ms.drop R)) (J0 (g := 1) R fun j => by rw [Tx, msg]) (J1 (g := 1) R fun j => by rw [Tx, msg])
    have key : ∀ j, ((ms.getD j 0 : Int) : Rat) ≠ 0 → ∃ t ∈ ms, t ≠ 0 := fun j hj => by
     have h0 : ms.getD j 0 ≠ 0 := fun z => hj (by rw [z]; exact Vq)
     rcases Va j ms.length with z | z
     ·exact ⟨_, GW z, h0⟩
     ·exact absurd (D3 z) h0
    rcases top with ⟨j, _, hj⟩ | ⟨j, _, hj⟩
    ·rw [Bf, Bt] at hj
     split at hj
     ·exact key j hj
     ·exact absurd Vq hj
    ·rw [Bf, Bu] at hj
     exact key _ hj
   refine ⟨m9, ms, a1 + a2 + (c0 + 2), rfl, SqL.of Aa, hne, by rw [msl]; lia, bms, fun l8 G8 g us s8 e8 g0 usl husg bus => ⟨P2, fun p8 hp8 => ?_⟩⟩
   have s8 := ((s2.trans sg).trans (Af.new (o := .lst (ms.map V.int)) hm9)).trans s8
   have n8 := Af.new (o := .tup [.int r2, .ref l8]) hp8
   have ep8 : (upd G8 p8 (.tup [.int r2, .ref l8])) p8 = some (.tup [.int r2, .ref l8]) := Aa
   have e8 := n8 _ _ e8
   have s8 := s8.trans n8
   generalize upd G8 p8 (.tup [.int r2, .ref l8]) = G7 at ep8 e8 s8 ⊢
   have husg : ∀ j, g * us.getD j 0 = L1 * ts2.getD j 0 - L2 * ts1.getD j 0 := fun j => by rw [husg j, msg j]
   have usl : us.length = 2 * R := usl.trans msl
   clear n8 hp8 hne bms msg hms msl sg hm9
   refine ⟨_, rfl, rfl, _, rfl, BN (by rw [decide_eq_false fun z => h1 (V.int.inj z)]; rfl) ?_⟩
   refine ⟨_, rfl, p1, _, _, _, rfl, rfl, hp1.same s8, rfl, _, _, rfl, rfl, _, rfl, p1, _, _, _, rfl, rfl, hp1.same s8, rfl, _, rfl, ?_⟩
   refine ⟨l1, rx, ts1, x, a1, nx, rfl, Af.seq s8 hl1, hx.same s8, by rw [I.l1]; lia, by rw [I.l1]; lia, last1, ba1, bx, by lia, fun l9 G9 s9 e9 b9 => ⟨P2, fun p9 hp9 => ?_⟩⟩
   have s9G := s9.trans (Af.new (o := .tup [.int (r1 + 2), .ref l9]) hp9)
   have s9 := s8.trans s9
   have n9 := Af.new (o := .tup [.int (r1 + 2), .ref l9]) hp9
   have ep9 : (upd G9 p9 (.tup [.int (r1 + 2), .ref l9])) p9 = some (.tup [.int (r1 + 2), .ref l9]) := Aa
   have e9 := n9 _ _ e9
   have s9 := s9.trans n9
   generalize upd G9 p9 (.tup [.int (r1 + 2), .ref l9]) = G at ep9 e9 s9 s9G ⊢
   clear n9 hp9
   have un := I.inv.stepC (y := y) (s := (((y.den : Int) * (x.den : Int) ^ R : Int) : Rat)) den0 denx (J5 h1) (J5 g0) eL1 eL2 (Fw I.l1 hR1 z1a) (Fy I.l1 hR1 z1a z1b) (J0 R husg) (J1 R husg)
   have len1 := (E2 x.num x.den ts1).trans I.l1
   have len2 := usl
   have zer1 : ∀ j, (ps ++ [(x, y)]).length + 1 ≤ j → j < R → (shI x.num x.den ts1).getD j 0 = 0 ∧ (shI x.num x.den ts1).getD (R + j) 0 = 0 := by rw [T6]; exact Fz (c := x.num) (d := x.den) I.z1
   have zer2 : ∀ j, (ps ++ [(x, y)]).length + 1 ≤ j → j < R → us.getD j 0 = 0 ∧ us.getD (R + j) 0 = 0 := fun j h hj => by
    rw [T6] at h
    have q1 := I.z1 j (by lia) hj
    have q2 := I.z2 j (by lia) hj
    exact ⟨IZ g0 husg q1.1 q2.1, IZ g0 husg q1.2 q2.2⟩
   have bda := b9
   have bdb := bus
   have sG : Af G7 G := s9G
   refine ⟨_, rfl, p9, _, _, _, rfl, rfl, SqT.of ep9, rfl, _, rfl, p8, _, _, _, rfl, rfl, (SqT.of (K := K) ep8).same sG, rfl, _, _, rfl, rfl, _, rfl, ?_⟩
   by_cases hlt : r1 + 2 < r2
   ·refine BN (decide_eq_true hlt) ⟨_, rfl, _, rfl, P2, fun t9 ht9 => ?_⟩
    have n9 := Af.new (o := .tup [.ref p9, .ref p8]) ht9
    exact q t9 _ _ _ _ _ _ _ (s9.trans n9) (SqT.of Aa) ⟨p9, _, rfl, (SqT.of ep9).same n9, Af.seq n9 (SqL.of e9)⟩ ⟨p8, _, rfl, ((SqT.of (K := K) ep8).same sG).same n9, Af.seq n9 (Af.seq sG (SqL.of (K := K) e8))⟩ ⟨un.inv hlt, len1, len2, zer1, zer2, _, _, bda, bdb, by lia, by lia, by lia⟩
   ·refine Be (decide_eq_false hlt) ⟨_, rfl, _, rfl, P2, fun t9 ht9 => ?_⟩
    have n9 := Af.new (o := .tup [.ref p8, .ref p9]) ht9
    exact q t9 _ _ _ _ _ _ _ (s9.trans n9) (SqT.of Aa) ⟨p8, _, rfl, ((SqT.of (K := K) ep8).same sG).same n9, Af.seq n9 (Af.seq sG (SqL.of (K := K) e8))⟩ ⟨p9, _, rfl, (SqT.of ep9).same n9, Af.seq n9 (SqL.of e9)⟩ ⟨un.turn hlt, len2, len1, zer2, zer1, _, _, bdb, bda, by lia, by lia, by lia⟩
theorem AL : Ao ["places", "heights", "width", "room", "first", "second", "both", "x", "y", "tops"] ["places", "heights", "width"] (Ae (top 41)) := ⟨rfl, rfl, rfl, by decide +kernel, rfl, by decide +kernel, by decide +kernel⟩
theorem Fc {f : Addr} {fd : FuncData} (F : Fun K "pair_through" "pair_through" (top 41) f fd) (Rt : Fd P w K mg base 35 "both_with" ["both", "x", "y"] (Jz K)) (Qx : Fd P w K mg base 35 "curve_over" ["tops", "bottom"] (BH K)) (Qw : mg "zip" = none) (Qr : mg "len" = none) (hT : P.given.tree = none) :
 AH P w K mg base CX0 36 f fd ["places", "heights", "width"] (Jw K) := by
 refine F.ok AL (fun vs H Q E h => ?_) (fun cdv A outer s H vs Q E hr h => ?_)
 ·obtain ⟨_, _, _, _, _, _, _, _, _, _, _, rfl, _⟩ := h; rfl
 refine ⟨_, (Ad (K := K) (Aj (i := 3) AL.nd rfl (Or.inl rfl) (Ah AK (Av (BV K) rfl Qr AJ (A0 (pv 0) Ab)) Ac))
  (Ad (K := K) (Aj (i := 4) AL.nd rfl (Or.inl rfl) (AO (A0 (Ah Ap Ac (Ah AX Ac (pv 2))) (A0 (Ah Dz (AS (A0 Ac Ab)) (Ah EE (AS (A0 Ac Ab)) (Ah AX (Ah Ap Ac (pv 3)) Ac))) Ab))))
  (Ad (K := K) (Aj (i := 5) AL.nd rfl (Or.inl rfl) (AO (A0 (Ah AK (Ah Ap Ac (Ah AX Ac (Ah AX (pv 3) (pv 2)))) Ac) (A0 (Ah Dz (Ah Dz (Ah EE (AS (A0 Ac Ab)) (pv 3)) (AS (A0 Ac Ab))) (Ah EE (AS (A0 Ac Ab)) (Ah AX (pv 3) Ac))) Ab))))
  (Ad (K := K) (Aj (i := 6) AL.nd rfl (Or.inl rfl) (FJ (AA EV (Ai (ixT K) (pv 4) Ac (fun u v => rfl)) (Ai (ixT K) (pv 5) Ac (fun u v => rfl)) (AB _)) (AO (A0 (pv 4) (A0 (pv 5) Ab))) (AO (A0 (pv 5) (A0 (pv 4) Ab)))))
  (Ad (K := K) (Bh (K := K) PassesOwn.never rfl (M8 K rfl Qw (A0 (pv 0) (A0 (pv 1) Ab))) (pgT K (n := 2) rfl (CW (Ay (i := 7) AL.nd rfl (Or.inl rfl)) (CW (Ay (i := 8) AL.nd rfl (Or.inl rfl)) HI))) (Ag (Aj (i := 6) AL.nd rfl (Or.inl rfl) (Ak Rt hr rfl (A0 (pv 6) (A0 (pv 7) (A0 (pv 8) Ab)))))) (by rfl))
  (Ad (K := K) (Aj (i := 9) AL.nd rfl (Or.inl rfl) (Ai (ixT K) (Ai (ixT K) (pv 6) Ac (fun u v => rfl)) Ac (fun u v => rfl)))
  (Ag (As (AO (A0 (Ak Qx hr rfl (A0 (BW (slL K) (pv 9) Ce (Cd (pv 3))) (A0 Ac Ab))) (A0 (Ak Qx hr rfl (A0 (BW (slL K) (pv 9) (Cd (pv 3)) Ce) (A0 Ac Ab))) Ab))))) (by rfl)) (by rfl)) (by rfl)) (by rfl)) (by rfl)) (by rfl)), ?_⟩
 obtain ⟨lp, lh, zs, ys, qs, hs, W, n, nx, ny, C, rfl, hP, hZ, hH, hY, hql, hhl, hn1, hn12, hnd, hW1, hWn, bq, bh, hC, hG, q⟩ := h
 have P1 : 1 ≤ sizeLine := by decide
 have P2 : 2 ≤ sizeLine := by decide
 have P60 : 60 ≤ sizeLine := by decide
 have hzl := hZ.length
 refine ⟨_, rfl, lp, _, rfl, .inl hP, _, _, rfl, rfl, ?_⟩
 have eR : ((zs.length : Nat) : Int) + 1 = ((n + 1 : Nat) : Int) := by lia
 rw [eR]
 refine ⟨_, rfl, _, _, rfl, rfl, _, _, rfl, rfl, .inl ⟨by decide, by decide⟩, P1, fun o1 ho1 => ⟨P1, fun o2 ho2 => ?_⟩⟩
 have n1 := Af.new (o := .lst [.int 1]) ho1
 have n2 := Af.new (o := .lst [.int 0]) ho2
 refine ⟨_, rfl, _, _, rfl, rfl, .inl ⟨by decide, by decide⟩, _, _, rfl, rfl, o2, _, [.int 0], rfl, rfl, Aa, by lia, by lia, Sv (show _ ≤ 60 by show 1 * _ ≤ 60; lia) P60, fun o3 ho3 => ?_⟩
 have e3 : (SV (2 * ((n + 1 : Nat) : Int) - 1).toNat [V.int 0]).flatten = (SV (2 * (n + 1) - 1) (0 : Int)).map V.int := by rw [show (2 * ((n + 1 : Nat) : Int) - 1).toNat = 2 * (n + 1) - 1 by lia, Ni]
 rw [e3]
 have n3 := Af.new (o := .lst ((SV (2 * (n + 1) - 1) (0 : Int)).map V.int)) ho3
 refine ⟨o1, o3, [.int 1], _, rfl, rfl, n3 _ _ (n2 _ _ Aa), Aa, Sv (show _ ≤ 60 by rw [Tp, T7, T8]; lia) P60, fun k1 hk1 => ⟨P2, fun f1 hf1 => ?_⟩⟩
 have n4 := Af.new (o := .lst ([V.int 1] ++ (SV (2 * (n + 1) - 1) (0 : Int)).map V.int)) hk1
 have n5 := Af.new (o := .tup [.int (2 * (1 - (W : Int))), .ref k1]) hf1
 have sF := (((n1.trans n2).trans n3).trans n4).trans n5
 have ek1 := n5 _ _ (Aa (H := upd (upd (upd H o1 (.lst [.int 1])) o2 (.lst [.int 0])) o3 (.lst ((SV (2 * (n + 1) - 1) (0 : Int)).map V.int))) (a := k1) (o := .lst ([V.int 1] ++ (SV (2 * (n + 1) - 1) (0 : Int)).map V.int)))
 have ef1 := Aa (H := upd (upd (upd (upd H o1 (.lst [.int 1])) o2 (.lst [.int 0])) o3 (.lst ((SV (2 * (n + 1) - 1) (0 : Int)).map V.int))) k1 (.lst ([V.int 1] ++ (SV (2 * (n + 1) - 1) (0 : Int)).map V.int))) (a := f1) (o := .tup [.int (2 * (1 - (W : Int))), .ref k1])
 generalize upd (upd (upd (upd (upd H o1 (.lst [.int 1])) o2 (.lst [.int 0])) o3 (.lst ((SV (2 * (n + 1) - 1) (0 : Int)).map V.int))) k1 (.lst ([V.int 1] ++ (SV (2 * (n + 1) - 1) (0 : Int)).map V.int))) f1 (.tup [.int (2 * (1 - (W : Int))), .ref k1]) = HF at sF ek1 ef1 ⊢
 have ek1 : HF k1 = some (.lst ((Dj (n + 1)).map V.int)) := ek1
 clear n1 n2 n3 n4 n5 e3 ho1 ho2 ho3 hk1 hf1
 refine ⟨_, rfl, _, rfl, _, _, rfl, rfl, _, _, rfl, rfl, _, _, rfl, rfl, .inl ⟨by decide, by decide⟩, _, _, rfl, rfl, P1, fun o5 ho5 => ?_⟩
 have s8 := Af.new (o := .lst [.int 0]) ho5
 have e5 := Aa (H := HF) (a := o5) (o := .lst [.int 0])
 generalize upd HF o5 (.lst [.int 0]) = A1 at s8 e5 ⊢
 refine ⟨_, rfl, o5, _, [.int 0], rfl, rfl, e5, by lia, by lia, Sv (show _ ≤ 60 by show 1 * _ ≤ 60; lia) P60, fun o6 ho6 => ?_⟩
 rw [Td, Ni]
 have s8 := s8.trans (Af.new (o := .lst ((SV (n + 1) (0 : Int)).map V.int)) ho6)
 have e6 := Aa (H := A1) (a := o6) (o := .lst ((SV (n + 1) (0 : Int)).map V.int))
 generalize upd A1 o6 (.lst ((SV (n + 1) (0 : Int)).map V.int)) = A2 at s8 e6 ⊢
 refine ⟨P1, fun o7 ho7 => ?_⟩
 have n3 := Af.new (o := .lst [.int 1]) ho7
 have e7 := Aa (H := A2) (a := o7) (o := .lst [.int 1])
 have e6 := n3 _ _ e6
 have s8 := s8.trans n3
 generalize upd A2 o7 (.lst [.int 1]) = A3 at s8 e6 e7 ⊢
 refine ⟨o6, o7, _, _, rfl, rfl, e6, e7, Sv (show _ ≤ 60 by rw [Tp, T7, T8]; lia) P60, fun o8 ho8 => ?_⟩
 have s8 := s8.trans (Af.new (o := .lst ((SV (n + 1) (0 : Int)).map V.int ++ [V.int 1])) ho8)
 have e8 := Aa (H := A3) (a := o8) (o := .lst ((SV (n + 1) (0 : Int)).map V.int ++ [V.int 1]))
 generalize upd A3 o8 (.lst ((SV (n + 1) (0 : Int)).map V.int ++ [V.int 1])) = A4 at s8 e8 ⊢
 refine ⟨P1, fun o9 ho9 => ?_⟩
 have n5 := Af.new (o := .lst [.int 0]) ho9
 have e9 := Aa (H := A4) (a := o9) (o := .lst [.int 0])
 have e8 := n5 _ _ e8
 have s8 := s8.trans n5
 generalize upd A4 o9 (.lst [.int 0]) = A5 at s8 e8 e9 ⊢
 refine ⟨_, rfl, _, _, rfl, rfl, o9, _, [.int 0], rfl, rfl, e9, by lia, by lia, Sv (show _ ≤ 60 by show 1 * _ ≤ 60; lia) P60, fun o10 ho10 => ?_⟩
 have e10 : (SV (((n + 1 : Nat) : Int) - 1).toNat [V.int 0]).flatten = (SV (n + 1 - 1) (0 : Int)).map V.int := by rw [show (((n + 1 : Nat) : Int) - 1).toNat = n + 1 - 1 by lia, Ni]
 rw [e10]
 have n6 := Af.new (o := .lst ((SV (n + 1 - 1) (0 : Int)).map V.int)) ho10
 have e8 := n6 _ _ e8
 have ea := Aa (H := A5) (a := o10) (o := .lst ((SV (n + 1 - 1) (0 : Int)).map V.int))
 have s8 := s8.trans n6
 generalize upd A5 o10 (.lst ((SV (n + 1 - 1) (0 : Int)).map V.int)) = A6 at s8 e8 ea ⊢
 refine ⟨o8, o10, _, _, rfl, rfl, e8, ea, Sv (show _ ≤ 60 by rw [T6, Tp, T7, T8, T7, T8]; lia) P60, fun k2 hk2 => ?_⟩
 have esec : (SV (n + 1) (0 : Int)).map V.int ++ [V.int 1] ++ (SV (n + 1 - 1) (0 : Int)).map V.int = (BF (n + 1)).map V.int := by unfold BF; rw [TY, TY]; rfl
 rw [esec]
 have s8 := s8.trans (Af.new (o := .lst ((BF (n + 1)).map V.int)) hk2)
 have ek2 := Aa (H := A6) (a := k2) (o := .lst ((BF (n + 1)).map V.int))
 generalize upd A6 k2 (.lst ((BF (n + 1)).map V.int)) = A7 at s8 ek2 ⊢
 refine ⟨P2, fun f2 hf2 => ?_⟩
 have n8 := Af.new (o := .tup [.int (2 * (1 - (((n + 1 : Nat) : Int) - (W : Int))) + 1), .ref k2]) hf2
 have ef2 := Aa (H := A7) (a := f2) (o := .tup [.int (2 * (1 - (((n + 1 : Nat) : Int) - (W : Int))) + 1), .ref k2])
 have ek2 := n8 _ _ ek2
 have s8 := s8.trans n8
 generalize upd A7 f2 (.tup [.int (2 * (1 - (((n + 1 : Nat) : Int) - (W : Int))) + 1), .ref k2]) = HG at s8 ek2 ef2 ⊢
 have sG := sF.trans s8
 have ef1 := s8 _ _ ef1
 have ek1 := s8 _ _ ek1
 clear n3 n5 n6 n8 esec e10 sF s8
 have er2 : (2 * (1 - (((n + 1 : Nat) : Int) - (W : Int))) + 1) = 2 * (1 - ((n : Int) + 1 - W)) + 1 := by lia
 rw [er2] at ef2
 have un := Qe (n := n) hW1 hWn
 refine ⟨_, rfl, f1, _, _, _, rfl, rfl, SqT.of ef1, rfl, _, rfl, f2, _, _, _, rfl, rfl, SqT.of ef2, rfl, _, _, rfl, rfl, _, rfl, ?_⟩
 by_cases hlt : 2 * (1 - (W : Int)) < 2 * (1 - ((n : Int) + 1 - W)) + 1
 ·refine BN (decide_eq_true hlt) ⟨_, rfl, _, rfl, P2, fun b0 hb0 => ?_⟩
  have nb := Af.new (o := .tup [.ref f1, .ref f2]) hb0
  obtain ⟨va, vb, ra, rb, Ta, Tb, hb0, R1, R2, S0⟩ : ∃ (va vb : V) (ra rb : Int) (Ta Tb : List Int), SqT K (upd HG b0 (.tup [.ref f1, .ref f2])) b0 [va, vb] ∧ Rpr K (upd HG b0 (.tup [.ref f1, .ref f2])) va ra Ta ∧ Rpr K (upd HG b0 (.tup [.ref f1, .ref f2])) vb rb Tb ∧ PSt (W : Int) ((n : Int) + 1 - W) n (n + 1) ((qs.zip hs).take 0) (gAS C 0).1 (gAS C 0).2 ra Ta rb Tb :=
   ⟨_, _, _, _, _, _, SqT.of Aa, ⟨f1, k1, rfl, SqT.of (nb _ _ ef1), SqL.of (nb _ _ ek1)⟩, ⟨f2, k2, rfl, SqT.of (nb _ _ ef2), SqL.of (nb _ _ ek2)⟩, ⟨un.inv hlt, Ep n, DU n, Ge n, ET n, 1, 1, J8 _, GK _, SK 1, SK 1, SK 2⟩⟩
  have sB := sG.trans nb
  generalize upd HG b0 (.tup [.ref f1, .ref f2]) = H0 at sB hb0 R1 R2 ⊢
  refine ⟨_, rfl, _, rfl, lp, lh, zs, ys, rfl, Af.seq sB hP, Af.seq sB hH, Km (xs := zs) (ys := ys) (L11 H lp lh W n f1 f2 K qs hs C fun H lp lh W n f1 f2 K qs hs C i σ G => Af H G ∧ ∃ (b : Addr) (va vb : V) (ra rb : Int) (Ta Tb : List Int) (z7 z8 : Option V), σ = [some (.ref lp), some (.ref lh), some (.int (W : Int)), some (.int ((n + 1 : Nat) : Int)), some (.ref f1), some (.ref f2), some (.ref b), z7, z8, none] ∧ SqT K G b [va, vb] ∧ Rpr K G va ra Ta ∧ Rpr K G vb rb Tb ∧ PSt (W : Int) ((n : Int) + 1 - W) n (n + 1) ((qs.zip hs).take i) (gAS C i).1 (gAS C i).2 ra Ta rb Tb) ⟨sB, b0, va, vb, ra, rb, Ta, Tb, none, none, rfl, hb0, R1, R2, S0⟩ (fun i σ G _ h => ⟨Af.seq h.1 hP, Af.seq h.1 hH⟩) ?_ ?_⟩
  ·rintro i x y T σ G hx hy hT hR1
   refine BB hR1 fun sg hz67 => ?_
   refine NM hz67 fun b va vb ra rb Ta Tb z7 z8 hz67' => ?_
   clear hz67
   refine DG hz67' fun hq66 hb R1 R2 S => ?_
   clear hz67'
   obtain rfl := hq66
   try clear hR1
   obtain ⟨qx, hqx, rx, rfl, hrx⟩ := (Paired.get hZ hx)
   obtain ⟨hv, hhv, ry, rfl, hry⟩ := (Paired.get hY hy)
   have hi : i < n := by have := (SF.mp hqx).1; lia
   have nT := Af.new (o := .tup [.ref rx, .ref ry]) hT
   have sT := sg.trans nT
   refine ⟨T, _, rfl, SqT.of Aa, rfl, _, _, rfl, _, _, rfl, rfl, ?_⟩
   have ezip : (qs.zip hs)[i]? = some (qx, hv) := by rw [Vh]; exact ⟨hqx, hhv⟩
   have etake : (qs.zip hs).take (i + 1) = (qs.zip hs).take i ++ [(qx, hv)] := by rw [TX, ezip]; rfl
   have hlen : ((qs.zip hs).take i).length = i := by rw [SX, Vf]; lia
   have hm := Eo C (i := i) (n := n) (by lia)
   have hl := Ic C i
   refine ⟨_, rfl, _, rfl, _, rfl, b, rx, ry, va, vb, ra, rb, Ta, Tb, (W : Int), (n : Int) + 1 - W, n, n + 1, (qs.zip hs).take i, (gAS C i).1, (gAS C i).2, C, nx, ny, qx, hv, rfl, hb.same nT, R1.same nT, R2.same nT, S, rfl, by lia, Az.same ⟨rx, rfl, hrx⟩ sT, Az.same ⟨ry, rfl, hry⟩ sT, bq qx (T5 hqx), bh hv (T5 hhv), ?_, by lia, hn12, hC, by lia, by lia, fun b' G' v1' v2' r1' r2' us1 us2 s' hb' R1' R2' S' => ?_⟩
   ·rw [← etake, VH, Vx (by lia)]
    exact (T4 _ _).nodup hnd
   ·refine ⟨sT.trans s', b', v1', v2', r1', r2', us1, us2, _, _, rfl, hb', R1', R2', ?_⟩
    rw [etake]
    exact S'
  rintro σ G hR2
  refine BB hR2 fun sg hz74 => ?_
  refine NM hz74 fun b va vb ra rb Ta Tb z7 z8 hz74' => ?_
  clear hz74
  refine DG hz74' fun hq72 hb hq73 R2 S => ?_
  clear hz74'
  obtain rfl := hq72
  refine Cs hq73 fun pa la hz76' => ?_
  refine Dm hz76' fun hq75 hpa hla => ?_
  clear hz76'
  obtain rfl := hq75
  try clear hR2
  have hmin : min zs.length ys.length = n := by rw [hZ.length, hY.length]; lia
  rw [hmin, UB (by rw [Vf]; lia)] at S
  have hR := S.l1
  refine Cs S.bd fun a1 a2 hz77' => ?_
  refine DG hz77' fun ba1 ba2 hA1 hA2 hAS => ?_
  clear hz77'
  have hgl := Ic C n
  refine ⟨_, rfl, b, _, _, _, rfl, rfl, hb, rfl, pa, _, _, _, rfl, rfl, hpa, rfl, ?_⟩
  refine ⟨_, rfl, _, rfl, _, rfl, la, _, rfl, hla, fun s1 hs1 => ?_⟩
  have c1 : CA (Ta.map V.int) none (some ((n + 1 : Nat) : Int)) = (Ta.take (n + 1)).map V.int := by rw [Gf, VH]
  rw [c1]
  have n1 := Af.new (o := .lst ((Ta.take (n + 1)).map V.int)) hs1
  refine ⟨s1, Ta.take (n + 1), 1, rfl, SqL.of Aa, by decide, by rw [SX]; lia, fun pN G1 sN cN => ?_⟩
  have sgN := n1.trans sN
  refine ⟨_, rfl, _, rfl, _, rfl, la, _, rfl, Af.seq sgN hla, fun s2 hs2 => ?_⟩
  have c2 : CA (Ta.map V.int) (some ((n + 1 : Nat) : Int)) none = (Ta.drop (n + 1)).map V.int := by rw [DE, List.map_drop]
  rw [c2]
  have n2 := Af.new (o := .lst ((Ta.drop (n + 1)).map V.int)) hs2
  refine ⟨s2, Ta.drop (n + 1), 1, rfl, SqL.of Aa, by decide, by rw [Tg]; lia, fun pD G2 sD cD => ⟨P2, fun t ht => ?_⟩⟩
  have n3 := Af.new (o := .tup [.ref pN, .ref pD]) ht
  rw [Mx] at cN cD
  refine q t pN pD _ ra rb _ _ _ _ ((((sg.trans sgN).trans n2).trans sD).trans n3) (SqT.of Aa) (((cN.same n2).same sD).same n3) (cD.same n3) ?_ ?_ S.inv
  ·exact Kk (fun t ht => ba1 t (Vm ht)) (by lia)
  ·exact Kk (fun t ht => ba1 t (VJ ht)) (by lia)
 ·refine Be (decide_eq_false hlt) ⟨_, rfl, _, rfl, P2, fun b0 hb0 => ?_⟩
  have nb := Af.new (o := .tup [.ref f2, .ref f1]) hb0
  obtain ⟨va, vb, ra, rb, Ta, Tb, hb0, R1, R2, S0⟩ : ∃ (va vb : V) (ra rb : Int) (Ta Tb : List Int), SqT K (upd HG b0 (.tup [.ref f2, .ref f1])) b0 [va, vb] ∧ Rpr K (upd HG b0 (.tup [.ref f2, .ref f1])) va ra Ta ∧ Rpr K (upd HG b0 (.tup [.ref f2, .ref f1])) vb rb Tb ∧ PSt (W : Int) ((n : Int) + 1 - W) n (n + 1) ((qs.zip hs).take 0) (gAS C 0).1 (gAS C 0).2 ra Ta rb Tb :=
   ⟨_, _, _, _, _, _, SqT.of Aa, ⟨f2, k2, rfl, SqT.of (nb _ _ ef2), SqL.of (nb _ _ ek2)⟩, ⟨f1, k1, rfl, SqT.of (nb _ _ ef1), SqL.of (nb _ _ ek1)⟩, ⟨un.turn hlt, DU n, Ep n, ET n, Ge n, 1, 1, GK _, J8 _, SK 1, SK 1, SK 2⟩⟩
  have sB := sG.trans nb
  generalize upd HG b0 (.tup [.ref f2, .ref f1]) = H0 at sB hb0 R1 R2 ⊢
  refine ⟨_, rfl, _, rfl, lp, lh, zs, ys, rfl, Af.seq sB hP, Af.seq sB hH, Km (xs := zs) (ys := ys) (L11 H lp lh W n f1 f2 K qs hs C fun H lp lh W n f1 f2 K qs hs C i σ G => Af H G ∧ ∃ (b : Addr) (va vb : V) (ra rb : Int) (Ta Tb : List Int) (z7 z8 : Option V), σ = [some (.ref lp), some (.ref lh), some (.int (W : Int)), some (.int ((n + 1 : Nat) : Int)), some (.ref f1), some (.ref f2), some (.ref b), z7, z8, none] ∧ SqT K G b [va, vb] ∧ Rpr K G va ra Ta ∧ Rpr K G vb rb Tb ∧ PSt (W : Int) ((n : Int) + 1 - W) n (n + 1) ((qs.zip hs).take i) (gAS C i).1 (gAS C i).2 ra Ta rb Tb) ⟨sB, b0, va, vb, ra, rb, Ta, Tb, none, none, rfl, hb0, R1, R2, S0⟩ (fun i σ G _ h => ⟨Af.seq h.1 hP, Af.seq h.1 hH⟩) ?_ ?_⟩
  ·rintro i x y T σ G hx hy hT hR3
   refine BB hR3 fun sg hz79 => ?_
   refine NM hz79 fun b va vb ra rb Ta Tb z7 z8 hz79' => ?_
   clear hz79
   refine DG hz79' fun hq78 hb R1 R2 S => ?_
   clear hz79'
   obtain rfl := hq78
   try clear hR3
   obtain ⟨qx, hqx, rx, rfl, hrx⟩ := (Paired.get hZ hx)
   obtain ⟨hv, hhv, ry, rfl, hry⟩ := (Paired.get hY hy)
   have hi : i < n := by have := (SF.mp hqx).1; lia
   have nT := Af.new (o := .tup [.ref rx, .ref ry]) hT
   have sT := sg.trans nT
   refine ⟨T, _, rfl, SqT.of Aa, rfl, _, _, rfl, _, _, rfl, rfl, ?_⟩
   have ezip : (qs.zip hs)[i]? = some (qx, hv) := by rw [Vh]; exact ⟨hqx, hhv⟩
   have etake : (qs.zip hs).take (i + 1) = (qs.zip hs).take i ++ [(qx, hv)] := by rw [TX, ezip]; rfl
   have hlen : ((qs.zip hs).take i).length = i := by rw [SX, Vf]; lia
   have hm := Eo C (i := i) (n := n) (by lia)
   have hl := Ic C i
   refine ⟨_, rfl, _, rfl, _, rfl, b, rx, ry, va, vb, ra, rb, Ta, Tb, (W : Int), (n : Int) + 1 - W, n, n + 1, (qs.zip hs).take i, (gAS C i).1, (gAS C i).2, C, nx, ny, qx, hv, rfl, hb.same nT, R1.same nT, R2.same nT, S, rfl, by lia, Az.same ⟨rx, rfl, hrx⟩ sT, Az.same ⟨ry, rfl, hry⟩ sT, bq qx (T5 hqx), bh hv (T5 hhv), ?_, by lia, hn12, hC, by lia, by lia, fun b' G' v1' v2' r1' r2' us1 us2 s' hb' R1' R2' S' => ?_⟩
   ·rw [← etake, VH, Vx (by lia)]
    exact (T4 _ _).nodup hnd
   ·refine ⟨sT.trans s', b', v1', v2', r1', r2', us1, us2, _, _, rfl, hb', R1', R2', ?_⟩
    rw [etake]
    exact S'
  rintro σ G hR4
  refine BB hR4 fun sg hz86 => ?_
  refine NM hz86 fun b va vb ra rb Ta Tb z7 z8 hz86' => ?_
  clear hz86
  refine DG hz86' fun hq84 hb hq85 R2 S => ?_
  clear hz86'
  obtain rfl := hq84
  refine Cs hq85 fun pa la hz88' => ?_
  refine Dm hz88' fun hq87 hpa hla => ?_
  clear hz88'
  obtain rfl := hq87
  try clear hR4
  have hmin : min zs.length ys.length = n := by rw [hZ.length, hY.length]; lia
  rw [hmin, UB (by rw [Vf]; lia)] at S
  have hR := S.l1
  refine Cs S.bd fun a1 a2 hz89' => ?_
  refine DG hz89' fun ba1 ba2 hA1 hA2 hAS => ?_
  clear hz89'
  have hgl := Ic C n
  refine ⟨_, rfl, b, _, _, _, rfl, rfl, hb, rfl, pa, _, _, _, rfl, rfl, hpa, rfl, ?_⟩
  refine ⟨_, rfl, _, rfl, _, rfl, la, _, rfl, hla, fun s1 hs1 => ?_⟩
  have c1 : CA (Ta.map V.int) none (some ((n + 1 : Nat) : Int)) = (Ta.take (n + 1)).map V.int := by rw [Gf, VH]
  rw [c1]
  have n1 := Af.new (o := .lst ((Ta.take (n + 1)).map V.int)) hs1
  refine ⟨s1, Ta.take (n + 1), 1, rfl, SqL.of Aa, by decide, by rw [SX]; lia, fun pN G1 sN cN => ?_⟩
  have sgN := n1.trans sN
  refine ⟨_, rfl, _, rfl, _, rfl, la, _, rfl, Af.seq sgN hla, fun s2 hs2 => ?_⟩
  have c2 : CA (Ta.map V.int) (some ((n + 1 : Nat) : Int)) none = (Ta.drop (n + 1)).map V.int := by rw [DE, List.map_drop]
  rw [c2]
  have n2 := Af.new (o := .lst ((Ta.drop (n + 1)).map V.int)) hs2
  refine ⟨s2, Ta.drop (n + 1), 1, rfl, SqL.of Aa, by decide, by rw [Tg]; lia, fun pD G2 sD cD => ⟨P2, fun t ht => ?_⟩⟩
  have n3 := Af.new (o := .tup [.ref pN, .ref pD]) ht
  rw [Mx] at cN cD
  refine q t pN pD _ ra rb _ _ _ _ ((((sg.trans sgN).trans n2).trans sD).trans n3) (SqT.of Aa) (((cN.same n2).same sD).same n3) (cD.same n3) ?_ ?_ S.inv
  ·exact Kk (fun t ht => ba1 t (Vm ht)) (by lia)
  ·exact Kk (fun t ht => ba1 t (VJ ht)) (by lia)
theorem GL : Ao ["places", "bottom"] ["places"] (Ae (top 36)) := ⟨rfl, rfl, rfl, by decide +kernel, rfl, by decide +kernel, by decide +kernel⟩
theorem KR {f : Addr} {fd : FuncData} (F : Fun K "rising" "rising" (top 36) f fd) (Qt : Fd P w K mg base 34 "bottom_of" ["numbers"] (ES K)) (QW : mg "sorted" = none) (hT : P.given.tree = none) (hbm : Bm mg base) (hl : EN K f 225 = true) :
 AH P w K mg base CX0 38 f fd ["places"] (Jv K 225) := by
 refine F.okL hl GL (fun vs H Q E h => ?_) (fun cdc A outer s H vs Q E hcd hr h => ?_)
 ·obtain ⟨_, _, _, _, rfl, _⟩ := h; rfl
 refine ⟨_, (Ad (K := K) (Aj (i := 1) GL.nd rfl (Or.inr rfl) (Ak Qt hr rfl (A0 (pv 0) Ab)))
  (Ag (As (M9 K (k := 33) hr (fun _ => rfl) rfl QW (pv 0) (Nr (sc := Ae (top 36)) hcd hbm)))) (by rfl)), ?_⟩
 obtain ⟨l, xs, qs, n, rfl, hS, hN, hb, hn6, h20, hct, q⟩ := h
 have hxl := hN.length
 have hn22 : n * (qs.length + 2) ≤ 1000000 * 22 := Vo hn6 (by lia)
 have hn20 : n * qs.length ≤ 1000000 * 20 := Vo hn6 h20
 refine ⟨_, rfl, true, l, xs, qs, n, rfl, hS, hN, fun q hq => (hb q hq).2, by lia, fun B hB hd bB => ?_⟩
 refine ⟨_, rfl, l, rfl, hct, fun f c' cl ctv H2 C hfree LN => ?_⟩
 have hS2 := LQ hS hct LN.old
 refine ⟨f, _, ["place"], cl, xs, qs.map (EM B), rfl, hS2, by rw [T7]; lia, by lia, Le fun a => rfl, C, fun os hcn hci => ⟨_, ON (k := 32) (fr := ["bottom"]) (ws := [.int B]) (Ok := fun vs r => ∃ x q, vs = [x] ∧ q ∈ qs ∧ Az K H2 x q ∧ r = .int (EM B q)) LN C hfree hcn hci ⟨rfl, rfl, rfl, by decide +kernel, by decide +kernel⟩ (lk1 _) (.cons 1 rfl rfl rfl rfl .nil) (fun A outer s E vs r H' Q hr hvl ho hm hQ => ?_), fun i x kk hx hkk Q' hQ => ?_⟩, fun p ys hp hz => ?_⟩
 ·refine Cs ho fun x c hz93' => ?_
  refine GD hz93' fun hq90 hc hq91 hq92 => ?_
  clear hz93'
  obtain rfl := hq90
  obtain ⟨rx, rfl, hrx⟩ := hq91
  obtain rfl := hq92
  refine ⟨_, (Ah Ap (Ai (ixT K) (pv 0) Ac (fun u v => rfl)) (Ah (BL hr hT) (pv 1) (Ai (ixT K) (pv 0) Ac (fun u v => rfl)))), ?_⟩
  have hr' := hrx.same hm
  have hdc : (c.den : Int) ≠ 0 := Nm.den_ne c
  have bq : Bd (n * qs.length + 1) (B.fdiv (c.den : Int)) := by
   rw [Vu _ (by lia)]
   unfold Bd at bB ⊢
   exact Tr (Int.natAbs_ediv_le_natAbs ..) bB
  exact ⟨_, rfl, rx, _, _, _, rfl, rfl, hr', rfl, _, rfl, _, rfl, rx, _, _, _, rfl, rfl, hr', rfl, _, _, rfl, rfl, hdc, _, _, rfl, rfl, B0.bd (hb c hc).1 bq (by lia), hQ⟩
 ·rw [T3] at hkk
  obtain ⟨c, hc, hcn'⟩ := (Paired.get hN hx)
  rw [hc] at hkk
  cases hkk
  exact ⟨rfl, Af.refl _, _, ⟨x, c, rfl, T5 hc, hcn'.but hct LN.old, rfl⟩, hQ⟩
 ·refine NN hz fun zs hz95' => ?_
  refine Dm hz95' fun hperm hq94 hsort => ?_
  clear hz95'
  obtain rfl := hq94
  have hpz := LV (B := B) (show Au K H2 xs qs from Paired.mapP hN fun _ _ z => z.but hct LN.old)
  obtain ⟨rs, hrs, hpr⟩ := (EU hperm.symm (IK hpz))
  obtain ⟨ek, hnum⟩ := (KN hpr)
  have nN := Af.new (o := .lst (zs.map Prod.snd)) hp
  refine q p _ _ rs (C2.trans LN.old nN.b) (LN.tab.same nN) (MB LN.tab LN.old hp) Aa (Au.same hnum nN) hrs ?_
  have h1 : (rs.map (EM B)).Pairwise (· ≤ ·) := by
   rw [ek]
   exact Vg.mpr hsort
  refine List.Pairwise.imp_of_mem (fun {a b} ha hb' h => ?_) (Vg.mp h1)
  exact NF hB (hd a (hrs.mem_iff.mp ha)) (hd b (hrs.mem_iff.mp hb')) h
theorem FA : Ao ["quotient", "x", "y", "below"] ["quotient", "x", "y"] (Ae (top 53)) := ⟨rfl, rfl, rfl, by decide +kernel, rfl, by decide +kernel, by decide +kernel⟩
theorem JJ {f : Addr} {fd : FuncData} (F : Fun K "reaches" "reaches" (top 53) f fd) (QP : Fd P w K mg base 35 "height_at" ["curve", "x"] (DJ K)) (QU : Fd P w K mg base 35 "times" ["a", "b"] (CS K (· * ·))) {a_NOUGHT : Addr} (c_NOUGHT : mg "NOUGHT" = some (.ref a_NOUGHT)) (n_NOUGHT : ∀ H : Hp, Az K H (.ref a_NOUGHT) (0)) (hT : P.given.tree = none) :
 AH P w K mg base CX0 36 f fd ["quotient", "x", "y"] (Ex K) := by
 refine F.ok FA (fun vs H Q E h => ?_) (fun cdv A outer s H vs Q E hr h => ?_)
 ·obtain ⟨_, _, _, _, _, _, _, _, _, _, _, _, rfl, _⟩ := h; rfl
 refine ⟨_, (Ad (K := K) (Aj (i := 3) FA.nd rfl (Or.inl rfl) (Ak QP hr rfl (A0 (Ai (ixT K) (pv 0) Ac (fun u v => rfl)) (A0 (pv 1) Ab))))
  (Ag (As (Mc (Df (neD K hr.units) (pv 3) (DN (v := .ref a_NOUGHT) rfl c_NOUGHT rfl) (AB _)) (Ma (Df (eqD K hr.units) (Ak QP hr rfl (A0 (Ai (ixT K) (pv 0) Ac (fun u v => rfl)) (A0 (pv 1) Ab))) (Ak QU hr rfl (A0 (pv 2) (A0 (pv 3) Ab))) (AB _)))))) (by rfl)), ?_⟩
 obtain ⟨t, rx, ry, pn, pd, n', d', x, y, E, nx, ny, rfl, hT, cn, cd, bn, bd, hnl, hdl, hx, hy, bx, by_, hE, hnx, hny, q⟩ := h
 have k1 : E * (d'.length + 2) ≤ 3000000 * 15 := Vo hE (by lia)
 have k2 : (nx + 1) * (d'.length + 4) ≤ 1001 * 17 := Vo (by lia) (by lia)
 have k3 : E * (n'.length + 2) ≤ 3000000 * 15 := Vo hE (by lia)
 have k4 : (nx + 1) * (n'.length + 4) ≤ 1001 * 17 := Vo (by lia) (by lia)
 refine ⟨_, rfl, t, _, _, _, rfl, rfl, hT, rfl, _, rfl, pd, rx, d', x, E, E, nx, rfl, cd, hx, bd, bx, by lia, by lia, fun p1 H1 s1 e1 b1 => ?_⟩
 refine ⟨_, rfl, ?_⟩
 refine eqN (Az.of e1) (n_NOUGHT _) ?_
 refine ⟨_, rfl, ?_⟩
 by_cases h0 : Cv.ev d' x = 0
 ·refine Be (by rw [decide_eq_true h0]; rfl) ?_
  have := q H1 s1
  rw [decide_eq_false (fun z => z.1 h0)] at this
  exact this
 ·refine BN (by rw [decide_eq_false h0]; rfl) ?_
  refine ⟨_, rfl, t, _, _, _, rfl, rfl, hT.same s1, rfl, _, rfl, pn, rx, n', x, E, E, nx, rfl, cn.same s1, hx.same s1, bn, bx, by lia, by lia, fun p2 H2 s2 e2 b2 => ?_⟩
  refine ⟨_, rfl, _, rfl, _, _, y, Cv.ev d' x, ny, _, rfl, (hy.same s1).same s2, Az.of (s2 _ _ e1), by_, b1, by lia, fun p3 h3 => ?_⟩
  have n3 := Af.new (o := nT (y * Cv.ev d' x)) h3
  refine eqN (Az.of (n3 _ _ e2)) (Az.of Aa) ?_
  have := q _ ((s1.trans s2).trans n3)
  have e : decide (Cv.ev d' x ≠ 0 ∧ Cv.ev n' x = y * Cv.ev d' x) = decide (Cv.ev n' x = y * Cv.ev d' x) := by
   by_cases z : Cv.ev n' x = y * Cv.ev d' x
   ·rw [decide_eq_true z, decide_eq_true ⟨h0, z⟩]
   ·rw [decide_eq_false z, decide_eq_false fun w => z w.2]
  rw [e] at this
  exact this
theorem BU : Ao ["places", "heights", "width", "quotient", "left"] ["places", "heights", "width"] (Ae (top 54)) := ⟨rfl, rfl, rfl, by decide +kernel, rfl, by decide +kernel, by decide +kernel⟩
theorem DS {f : Addr} {fd : FuncData} (F : Fun K "quotient_through" "quotient_through" (top 54) f fd) (Ru : Fd P w K mg base 35 "check_heights" ["places", "heights"] (Fv K)) (Rv : Fd P w K mg base 38 "lowest_terms" ["pair", "places"] (Ft K)) (Rw : Fd P w K mg base 36 "pair_through" ["places", "heights", "width"] (Jw K)) (F_rising : Fd P w K mg base 38 "rising" ["places"] (Jv K 225)) (Rx : Fd P w K mg base 36 "reaches" ["quotient", "x", "y"] (Ex K)) (Qr : mg "len" = none) (Qw : mg "zip" = none) (hT : P.given.tree = none) :
 AH P w K mg base CX0 39 f fd ["places", "heights", "width"] (LM K 225) := by
 refine F.ok BU (fun vs H Q E h => ?_) (fun cdv A outer s H vs Q E hr h => ?_)
 ·obtain ⟨_, _, _, _, _, _, _, _, _, _, _, rfl, _⟩ := h; rfl
 refine ⟨_, (Ad (K := K) (CI (Ak Ru hr rfl (A0 (pv 0) (A0 (pv 1) Ab))))
  (Ad (K := K) (Bj (K := K) (PW.pt (M0 (AA EV (pv 2) Ac (AB _)) (JB (AA FK (pv 2) (Av (BV K) rfl Qr AJ (A0 (pv 0) Ab)) (AB _))))) (Ag Ci) AY (by rfl) (by rfl))
  (Ad (K := K) (Aj (i := 3) BU.nd rfl (Or.inr rfl) (Ak Rv hr rfl (A0 (Ak Rw hr rfl (A0 (pv 0) (A0 (pv 1) (A0 (pv 2) Ab)))) (A0 (pv 0) Ab))))
  (Ad (K := K) (M5 (i := 4) rfl BU.nd rfl rfl (N := ["x", "y", "quotient"]) (nt := 2) (js := [3]) (Ba.look (NX := ["places", "heights", "width", "quotient", "left"]) (sc := Ae (top 54)) rfl rfl (by decide +kernel)) (M8 K rfl Qw (A0 (pv 0) (A0 (pv 1) Ab))) (fun u1 u2 u3 u4 u5 => (pgT K (n := 2) rfl (CW (Ay (i := 0) (show List.Nodup (["x", "y", "quotient"] : List Str) from by decide +kernel) rfl (Or.inl rfl)) (CW (Ay (i := 1) (show List.Nodup (["x", "y", "quotient"] : List Str) from by decide +kernel) rfl (Or.inl rfl)) HI)))) (GI (CG (by decide) (CG (by decide) Fo))) (fun u1 u2 u3 u4 u5 => HD (HH (HE (Ak Rx hr rfl (A0 (pv 2) (A0 (pv 0) (A0 (pv 1) Ab))))))) (fun u1 u2 u3 u4 u5 => (pv 0)) rfl)
  (Ag (As (AO (A0 (Ai (ixT K) (pv 3) Ac (fun u v => rfl)) (A0 (Ai (ixT K) (pv 3) Ac (fun u v => rfl)) (A0 (Ak F_rising hr rfl (A0 (pv 4) Ab)) Ab)))))) (by rfl)) (by rfl)) (by rfl)) (by rfl)), ?_⟩
 obtain ⟨lp, lh, zs, ys, qs, hs, W, n, nx, ny, C, rfl, hP, hZT, hH, hY, hql, hhl, hn1, hn12, hnd, hW1, hWn, bq, bh, hnx1, hnx, hny, hC, hG, hct, q⟩ := h
 have P3 : 3 ≤ sizeLine := by decide
 have hZ : Au K H zs qs := hZT.nums
 have hzl := hZ.length
 have hyl := hY.length
 refine ⟨_, rfl, _, rfl, lp, lh, zs, ys, qs, rfl, hP, hZT, hnd, by lia, by lia, hH, by lia, fun H1 s1 => ?_⟩
 refine ⟨_, rfl, _, _, rfl, rfl, _, rfl, Be (decide_eq_false (by lia)) ?_⟩
 refine ⟨_, rfl, _, rfl, lp, zs, rfl, .inl (Af.seq s1 hP), _, _, rfl, rfl, _, rfl, Be (decide_eq_false (by lia)) ?_⟩
 refine ⟨_, rfl, _, rfl, _, rfl, lp, lh, zs, ys, qs, hs, W, n, nx, ny, C, rfl, Af.seq s1 hP, Au.same hZ s1, Af.seq s1 hH, Au.same hY s1, hql, hhl, hn1, by lia, hnd, hW1, hWn, bq, bh, hC, by lia, fun t pN pD H2 r1 r2 N D N2 D2 s2 hT cN cD bN bD I => ?_⟩
 have s12 := s1.trans s2
 have hfst : (qs.zip hs).map Prod.fst = qs := Vx (by lia)
 have hzln : (qs.zip hs).length = n := by rw [Vf]; lia
 have hr1 := I.fin hzln
 have hDne := I.below hzln (by lia) (by rw [hfst]; exact hnd)
 have hNl : (Cv.strip N).length ≤ W := Dq fun j hj => I.le1.1 j (by lia)
 have hDl : (Cv.strip D).length ≤ n + 1 - W := Dq fun j hj => I.le1.2 j (by lia)
 have eS : (qs.filter fun q => decide (Cv.ev (Cv.strip D) q = 0)) = qs.filter fun q => decide (Cv.ev D q = 0) := by
  congr 1
  funext q
  rw [Cv.ev_strip]
 refine ⟨_, rfl, t, lp, pN, pD, zs, qs, Cv.strip N, Cv.strip D, (gAS C n).2 + 1, nx, rfl, hT, cN, cD, AI N, AI D, hDne, Af.seq s12 hP, Au.same hZ s12, hnd, by lia, by lia, by lia, fun c hc => bN c (Cv.strip_mem _ _ hc), fun c hc => bD c (Cv.strip_mem _ _ hc), bq, hnx1, by lia, by lia, fun x hx h0 => ?_, fun p a b H3 n' d' c s3 ep cn cd gn gd hlast hc0 evN evD hnl hdl bn bd => ?_⟩
 ·rw [Cv.ev_strip] at h0 ⊢
  obtain ⟨i, hi, rfl⟩ := (Vc hx)
  have hm : (qs[i], hs[i]) ∈ qs.zip hs := by
   have : (qs.zip hs)[i]'(by lia) = (qs[i], hs[i]) := Vw ..
   rw [← this]; exact Ud _
  have := I.on1 _ hm
  rw [this, h0, V7]
 rw [eS] at evN evD
 have s13 := s12.trans s3
 have bn : ∀ y ∈ n', RB 240000 y := fun y hy => (bn y hy).mono (by lia)
 have bd : ∀ y ∈ d', RB 240000 y := fun y hy => (bd y hy).mono (by lia)
 refine C6 ⟨_, rfl, _, rfl, lp, lh, zs, ys, rfl, Af.seq s13 hP, Af.seq s13 hH, ?_⟩
 have hmin : min zs.length ys.length = n := by lia
 refine ND (xs := zs) (ys := ys) (fun i us W => Af H3 W ∧ us.length ≤ i ∧ Au K W us (AV (qs.take i) (hs.take i) n' d')) ⟨Af.refl _, SK _, .nil⟩ (fun i us W _ h => ⟨Af.seq (s13.trans h.1) hP, Af.seq (s13.trans h.1) hH, h.2.1⟩) (Sw (AN (by lia))) ?_ ?_
 ·rintro i v u T us W hv hu hTn ⟨sw, hul, hun⟩
  obtain ⟨x, hx, rx, rfl, hrx⟩ := (Paired.get hZ hv)
  obtain ⟨y, hy, ry, rfl, hry⟩ := (Paired.get hY hu)
  have nT := Af.new (o := .tup [.ref rx, .ref ry]) hTn
  have sW := sw.trans nT
  refine ⟨_, rfl, _, rfl, _, rfl, p, rx, ry, a, b, n', d', x, y, 240000, nx, ny, rfl, SqT.of (sW _ _ ep), cn.same sW, cd.same sW, bn, bd, by lia, by lia, Az.same ⟨rx, rfl, hrx⟩ (s13.trans sW), Az.same ⟨ry, rfl, hry⟩ (s13.trans sW), bq x (T5 hx), bh y (T5 hy), by lia, by lia, hny, fun W1 s1' => ⟨_, rfl, ?_⟩⟩
  have hxl := (SF.mp hx).1
  have et : AV (qs.take (i + 1)) (hs.take (i + 1)) n' d' = AV (qs.take i) (hs.take i) n' d' ++ AV [x] [y] n' d' := by
   unfold AV
   rw [TX, TX, hx, hy, List.zip_append (by rw [SX, SX]; lia), VI, TY]; rfl
  have sW1 := sW.trans s1'
  rw [et]
  by_cases h0 : Cv.ev d' x ≠ 0 ∧ Cv.ev n' x = y * Cv.ev d' x
  ·refine Be (by rw [decide_eq_true h0]; rfl) ⟨sW1, by lia, ?_⟩
   have : AV [x] [y] n' d' = [] := by
    unfold AV
    show (([(x, y)] : List (Rat × Rat)).filter _).map Prod.fst = []
    rw [Vy (by show ¬ (!decide (Cv.ev d' x ≠ 0 ∧ Cv.ev n' x = y * Cv.ev d' x)) = true; rw [decide_eq_true h0]; decide)]; rfl
   rw [this, SR]
   exact Au.same hun (nT.trans s1')
  ·refine BN (by rw [decide_eq_false h0]; rfl) ⟨_, rfl, sW1, by rw [T6, Tp]; lia, ?_⟩
   have : AV [x] [y] n' d' = [x] := by
    unfold AV
    show (([(x, y)] : List (Rat × Rat)).filter _).map Prod.fst = [x]
    rw [Vz (by show (!decide (Cv.ev d' x ≠ 0 ∧ Cv.ev n' x = y * Cv.ev d' x)) = true; rw [decide_eq_false h0]; rfl)]; rfl
   rw [this]
   exact Paired.snoc (Au.same hun (nT.trans s1')) (Az.same ⟨rx, rfl, hrx⟩ (s13.trans sW1))
 rintro us W ⟨sw, hul, hun⟩ l1 hl1
 rw [hmin, UB (by lia), UB (by lia)] at hun
 rw [hmin] at hul
 have n1 := Af.new (o := .lst us) hl1
 have sL := (s13.trans sw).trans n1
 have s3L := sw.trans n1
 have hls := hun.length
 have hleft : ∀ x ∈ AV qs hs n' d', x ∈ qs := fun x hx => by
  unfold AV at hx
  obtain ⟨pr, hpr, rfl⟩ := (UA.mp hx)
  rw [← hfst]
  exact UZ (Sr.mp hpr).1
 refine ⟨_, rfl, p, _, _, _, rfl, rfl, SqT.of (s3L _ _ ep), rfl, _, rfl, p, _, _, _, rfl, rfl, SqT.of (s3L _ _ ep), rfl, ?_⟩
 refine ⟨_, rfl, l1, us, AV qs hs n' d', nx, rfl, SqL.of Aa, Au.same hun n1, fun x hx => bq x (hleft x hx), by lia, by lia, hct.same sL, fun pr H5 rsV rs m5 ct5 _ e5 hn5 hperm hpw => ⟨P3, fun tf htf => ?_⟩⟩
 have nf := Af.new (o := .tup [.ref a, .ref b, .ref pr]) htf
 have hctL := hct.same sL
 exact q tf a b pr _ r1 r2 N D N2 D2 n' d' rs rsV c (C2.trans (Af.b sL) (C2.trans m5 nf.b)) (ct5.same nf) (SqT.of Aa) (((cn.same s3L).but hctL m5).same nf) (((cd.same s3L).but hctL m5).same nf) gn gd hlast hc0 I hDne (fun x => by rw [← Cv.ev_strip]; exact evN x) (fun x => by rw [← Cv.ev_strip]; exact evD x) (by lia) (by lia) (nf _ _ e5) (Au.same hn5 nf) hperm hpw bn bd
theorem Eb : Ao ["_law_pen_here", "_law_number_here"] ["_law_pen_here"] (Ae (top 65)) := ⟨rfl, rfl, rfl, by decide +kernel, rfl, by decide +kernel, by decide +kernel⟩
theorem HU {f : Addr} {fd : FuncData} (F : Fun K "_law_some" "_law_some" (top 65) f fd) (QF : Fd P w K mg base 34 "_law_number" ["_law_pen_here"] (IA 8)) (b_int : mg "int" = none) (hT : P.given.tree = none) :
 AH P w K mg base CX0 35 f fd ["_law_pen_here"] (Jt K) := by
 refine F.ok Eb (fun vs H Q E h => ?_) (fun cdv A outer s H vs Q E hr h => ?_)
 ·obtain ⟨_, rfl, _⟩ := h; rfl
 refine ⟨_, (Ad (K := K) (Aj (i := 1) Eb.nd rfl (Or.inl rfl) (Ak QF hr rfl (A0 (pv 0) Ab)))
  (Ag (As (Ai (ixL K) (AS (A0 (pv 1) (A0 (AO (A0 Ac (A0 Ac Ab))) Ab))) (DO Lp rfl b_int P7 (A0 (Df (eqD K hr.units) (pv 1) (AO (A0 Ac (A0 Ac Ab))) (AB _)) Ab)) (fun u v => rfl)))) (by rfl)), ?_⟩
 obtain ⟨a, rfl, pn, q⟩ := h
 have P2 : 2 ≤ sizeLine := by decide
 refine ⟨_, rfl, a, rfl, pn, fun y r H1 m1 p1 hr bn bd => ?_⟩
 refine ⟨_, rfl, P2, fun t ht => ⟨P2, fun l hl => ?_⟩⟩
 have n1 := Af.new (o := .tup [.int 3, .int 2]) ht
 have n2 := Af.new (o := .lst [.ref r, .ref t]) hl
 refine ⟨_, rfl, P2, fun u hu => ?_⟩
 have n3 := Af.new (o := .tup [.int 0, .int 1]) hu
 have n13 := (n1.trans n2).trans n3
 refine eqN (Az.of (n13 _ _ hr)) (Az.of (Aa (o := nT 0))) ?_
 refine .inr ⟨_, rfl, ?_⟩
 by_cases h0 : y = 0
 ·refine ⟨l, _, 1, .ref t, rfl, by rw [decide_eq_true h0]; rfl, SqL.of (n3 _ _ Aa), rfl, ?_⟩
  exact q r32 t _ (m1.trans n13.mv) (p1.sm n13) (by rw [OH]; exact (n2.trans n3) _ _ Aa) Pw ⟨by unfold Bd; decide, by unfold Bd; decide⟩
 ·refine ⟨l, _, 0, .ref r, rfl, by rw [decide_eq_false h0]; rfl, SqL.of (n3 _ _ Aa), rfl, ?_⟩
  exact q y r _ (m1.trans n13.mv) (p1.sm n13) (n13 _ _ hr) h0 ⟨bn, bd⟩
theorem Gr : Ao ["_law_a", "_law_b"] ["_law_a", "_law_b"] (Ae (top 60)) := ⟨rfl, rfl, rfl, by decide +kernel, rfl, by decide +kernel, by decide +kernel⟩
theorem Gy {f : Addr} {fd : FuncData} (F : Fun K "_law_minus" "_law_minus" (top 60) f fd) (Qy : Fd P w K mg base 33 "_law_lowest" ["_law_top", "_law_bottom"] (CQ)) (hT : P.given.tree = none) :
 AH P w K mg base CX0 34 f fd ["_law_a", "_law_b"] (CS K (· - ·)) := by
 refine F.ok Gr (fun vs H Q E h => ?_) (fun cdv A outer s H vs Q E hr h => ?_)
 ·obtain ⟨_, _, _, _, _, _, rfl, _⟩ := h; rfl
 refine ⟨_, (Ag (As (Ak Qy hr rfl (A0 (Ah AX (Ah Ap (Ai (ixT K) (pv 0) Ac (fun u v => rfl)) (Ai (ixT K) (pv 1) Ac (fun u v => rfl))) (Ah Ap (Ai (ixT K) (pv 1) Ac (fun u v => rfl)) (Ai (ixT K) (pv 0) Ac (fun u v => rfl)))) (A0 (Ah Ap (Ai (ixT K) (pv 0) Ac (fun u v => rfl)) (Ai (ixT K) (pv 1) Ac (fun u v => rfl))) Ab))))), ?_⟩
 obtain ⟨x, y, p, q, m, n, rfl, ⟨r, rfl, hr⟩, ⟨u, rfl, hu⟩, hp, hq, hmn, k⟩ := h
 refine ⟨_, rfl, r, _, _, _, rfl, rfl, hr, rfl, _, rfl, u, _, _, _, rfl, rfl, hu, rfl, _, _, rfl, rfl, B0.bd hp.1 hq.2, _, rfl, u, _, _, _, rfl, rfl, hu, rfl, _, rfl, r, _, _, _, rfl, rfl, hr, rfl, _, _, rfl, rfl, B0.bd hq.1 hp.2, _, _, rfl, rfl, ?_⟩
 refine ⟨_, rfl, r, _, _, _, rfl, rfl, hr, rfl, _, rfl, u, _, _, _, rfl, rfl, hu, rfl, _, _, rfl, rfl, B0.bd hp.2 hq.2, ?_⟩
 refine ⟨_, _, rfl, TH (Nm.den_ne p) (Nm.den_ne q), fun z hz => ?_⟩
 have e := k z hz
 try dsimp only at e
 rw [← Nm.minus_eq] at e
 exact e
theorem C5 : Ao ["_law_some_here", "_law_found", "_law_x", "_law_at"] ["_law_some_here"] (Ae (top 67)) := ⟨rfl, rfl, rfl, by decide +kernel, rfl, by decide +kernel, by decide +kernel⟩
theorem FO {f : Addr} {fd : FuncData} (F : Fun K "_law_rising" "_law_rising" (top 67) f fd) (Ry : Fd P w K mg base 34 "_law_minus" ["_law_a", "_law_b"] (CS K (· - ·))) (Qr : mg "len" = none) (hT : P.given.tree = none) :
 AH P w K mg base CX0 35 f fd ["_law_some_here"] (LL K) := by
 refine F.ok C5 (fun vs H Q E h => ?_) (fun cdv A outer s H vs Q E hr h => ?_)
 ·obtain ⟨_, _, _, rfl, _⟩ := h; rfl
 refine ⟨_, (Ad (K := K) (Aj (i := 1) C5.nd rfl (Or.inl rfl) (AS Ab))
  (Ad (K := K) (Bh (K := K) PassesOwn.never rfl (piL K (pv 0)) (Ay (i := 2) C5.nd rfl (Or.inr rfl)) (Ad (K := K) (Aj (i := 3) C5.nd rfl (Or.inl rfl) (Av (BV K) rfl Qr AJ (A0 (Cj rfl (N := ["_law_y", "_law_x"]) (nt := 1) (js := [2]) (Ba.look (NX := ["_law_some_here", "_law_found", "_law_x", "_law_at"]) (sc := Ae (top 67)) rfl rfl (by decide +kernel)) (piL K (pv 1)) (fun u1 u2 u3 u4 u5 => (Ay (i := 0) (show List.Nodup (["_law_y", "_law_x"] : List Str) from by decide +kernel) rfl (Or.inl rfl))) (AD (by decide)) (fun u1 u2 u3 u4 u5 => HD (AA EV (Ai (ixT K) (Ak Ry hr rfl (A0 (pv 0) (A0 (pv 1) Ab))) Ac (fun u v => rfl)) Ac (AB _))) (fun u1 u2 u3 u4 u5 => (pv 0))) Ab)))
  (Ag (CI (ED K PySem.F.plainAttrs_list PySem.F.slot_list_insert PySem.F.type_list_insert L0 (pv 1) (A0 (pv 3) (A0 (pv 2) Ab))))) (by rfl)) (by rfl))
  (Ag (As (pv 1))) (by rfl)) (by rfl)), ?_⟩
 obtain ⟨l, zs, qs, rfl, hl, hz, h12, hb, q⟩ := h
 have P0 : 0 ≤ sizeLine := by decide
 have hzl := hz.length
 refine ⟨P0, fun f hf => ?_⟩
 have s0 : Af H (upd H f (.lst [])) := Af.new hf
 refine ⟨_, rfl, l, rfl, ⟨_, Af.seq s0 hl⟩, Gd (xs := zs) (L5 H l f K qs fun H l f K qs i σ G => Af H G ∧ ∃ us rs z2 z3, σ = [some (.ref l), some (.ref f), z2, z3] ∧ G f = some (.lst us) ∧ Au K G us rs ∧ rs.Perm (qs.take i) ∧ rs.Pairwise (· ≤ ·)) ⟨s0, [], [], none, none, rfl, Aa, .nil, .nil, .nil⟩ (fun i σ G _ h => Af.seq h.1 hl) ?_ ?_⟩
 ·rintro i v σ G hv hR1
  refine BB hR1 fun sg hz101 => ?_
  refine Ie hz101 fun us rs y2 y3 hz101' => ?_
  clear hz101
  refine DG hz101' fun hq100 ef hus hperm hpw => ?_
  clear hz101'
  obtain rfl := hq100
  try clear hR1
  obtain ⟨x, hx, hvx⟩ := (Paired.get hz hv)
  obtain ⟨rx, rfl, _⟩ := (id hvx)
  have bx := hb x (T5 hx)
  have hul := hus.length
  have hrl : rs.length ≤ 12 := by rw [hperm.length_eq, SX]; lia
  have hrb : ∀ c ∈ rs, RB 40 c := fun c hc => hb c (Vm (hperm.mem_iff.mp hc))
  refine C6 ⟨_, rfl, f, rfl, ⟨_, SqL.of ef⟩, ?_⟩
  refine Kg (xs := us) (L3 G rs x fun G rs x j ws W => Af G W ∧ ws.length = ((rs.take j).filter fun y => decide (y < x)).length ∧ ws.length ≤ j) ⟨Af.refl _, rfl, SK _⟩ (fun j ws W _ h => ⟨SqL.of (h.1 _ _ ef), h.2.2⟩) (Sw (AN (by lia))) ?_ ?_
  ·rintro j u ws W hu ⟨sw, hwl, hwj⟩
   obtain ⟨y, hy, hyn⟩ := (Paired.get hus hu)
   have sgw := sg.trans sw
   refine ⟨_, rfl, _, rfl, _, _, y, x, 40, 40, rfl, hyn.same sw, hvx.same sgw, hrb y (T5 hy), bx, by decide, fun p2 hp2 => ?_⟩
   have n2 := Af.new (o := nT (y - x)) hp2
   have et : ((rs.take (j + 1)).filter fun y => decide (y < x)).length = ((rs.take j).filter fun y => decide (y < x)).length + ([y].filter fun y => decide (y < x)).length := by rw [TX, hy, VI, T6]; rfl
   refine ⟨p2, _, _, _, rfl, rfl, SqT.of (Aa (o := nT (y - x))), rfl, _, _, rfl, rfl, _, rfl, ?_⟩
   have hd := Mh (x := x) (y := y)
   by_cases z : y < x
   ·refine BN (by rw [hd, decide_eq_true z]) ⟨_, rfl, sw.trans n2, ?_, by rw [T6, Tp]; lia⟩
    rw [et, Vz (p := fun y => decide (y < x)) (by exact decide_eq_true z), T6, Tp, hwl]; rfl
   ·refine Be (by rw [hd, decide_eq_false z]) ⟨sw.trans n2, ?_, by lia⟩
    rw [et, Vy (p := fun y => decide (y < x)) (by simpa using z), hwl]; rfl
  rintro ws W ⟨sw, hwl, hwj⟩ lu hlu
  rw [hul, TZ] at hwl
  have n1 := Af.new (o := .lst ws) hlu
  have sw1 := sw.trans n1
  refine ⟨lu, ws, rfl, .inl (SqL.of Aa), ?_⟩
  generalize upd W lu (.lst ws) = W1 at sw1 ⊢
  have ef1 := sw1 _ _ ef
  have sg1 := sg.trans sw1
  refine ⟨_, rfl, .inl ⟨rfl, _, SqL.of ef1⟩, _, rfl, _, rfl, f, us, _, ws.length, .ref rx, rfl, rfl, rfl, ef1, by lia, by lia, ?_⟩
  have nz := Au.put (o := .lst (us.take ws.length ++ V.ref rx :: us.drop ws.length)) (Au.same hus sw1) ef1
  refine ⟨sg1.put hf, _, rs.take ws.length ++ x :: rs.drop ws.length, _, _, rfl, Aa, Paired.append (Paired.take _ nz) (.cons (Az.put (hvx.same sg1) ef1) (CJ _ nz)), ?_, JV hpw hwl⟩
  refine Mu.trans ?_
  rw [TX, hx]
  exact (List.Perm.cons x hperm).trans (US (l₁ := [x]))
 rintro σ G hR2
 refine BB hR2 fun sg hz103 => ?_
 refine Ie hz103 fun us rs y2 y3 hz103' => ?_
 clear hz103
 refine DG hz103' fun hq102 ef hus hperm hpw => ?_
 clear hz103'
 obtain rfl := hq102
 try clear hR2
 rw [hzl, TZ] at hperm
 exact ⟨_, rfl, q f us rs G sg ef hus hperm hpw⟩
theorem Cc : Ao ["one", "other", "bottom", "under", "product"] ["one", "other"] (Ae (top 21)) := ⟨rfl, rfl, rfl, by decide +kernel, rfl, by decide +kernel, by decide +kernel⟩
theorem Gu {f : Addr} {fd : FuncData} (F : Fun K "multiplied" "multiplied" (top 21) f fd) (Qt : Fd P w K mg base 34 "bottom_of" ["numbers"] (ES K)) (QH : Fd P w K mg base 33 "whole_product" ["first", "second"] (Fs K)) (Qx : Fd P w K mg base 35 "curve_over" ["tops", "bottom"] (BH K)) (Qv : Fd P w K mg base 33 "tops_over" ["numbers", "bottom"] (DY K)) (hT : P.given.tree = none) :
 AH P w K mg base CX0 36 f fd ["one", "other"] (Ho K) := by
 refine F.ok Cc (fun vs H Q E h => ?_) (fun cdv A outer s H vs Q E hr h => ?_)
 ·obtain ⟨_, _, _, _, _, _, rfl, _⟩ := h; rfl
 refine ⟨_, (Ad (K := K) (Aj (i := 2) Cc.nd rfl (Or.inl rfl) (Ak Qt hr rfl (A0 (pv 0) Ab)))
  (Ad (K := K) (Aj (i := 3) Cc.nd rfl (Or.inl rfl) (Ak Qt hr rfl (A0 (pv 1) Ab)))
  (Ad (K := K) (Aj (i := 4) Cc.nd rfl (Or.inl rfl) (Ak QH hr rfl (A0 (Ak Qv hr rfl (A0 (pv 0) (A0 (pv 2) Ab))) (A0 (Ak Qv hr rfl (A0 (pv 1) (A0 (pv 3) Ab))) Ab))))
  (Ag (As (Ak Qx hr rfl (A0 (pv 4) (A0 (Ah Ap (pv 2) (pv 3)) Ab))))) (by rfl)) (by rfl)) (by rfl)), ?_⟩
 obtain ⟨ra, rb, qs, rs, m, n, rfl, ⟨xa, hSa, hna⟩, ⟨xb, hSb, hnb⟩, hq, hr', hn, hl1, hl2, hr1, q⟩ := h
 have la := hna.length
 have lb := hnb.length
 have nq : m * qs.length ≤ m * 6 := VE _ hl1
 have nr : n * rs.length ≤ n * 6 := VE _ hl2
 refine ⟨_, rfl, false, ra, xa, qs, m, rfl, hSa, hna, (fun c hc => (hq c hc).2), by rw [Ur]; lia, fun B hB0 hdB hbB => ?_⟩
 refine ⟨_, rfl, false, rb, xb, rs, n, rfl, hSb, hnb, (fun c hc => (hr' c hc).2), by rw [Ur]; lia, fun U hU0 hdU hbU => ?_⟩
 refine ⟨_, rfl, _, rfl, false, ra, xa, qs, B, m * qs.length + 1, m, rfl, hSa, hna, hbB, (fun c hc => (hq c hc).1), by lia, by lia, fun l1 h1 => ?_⟩
 have s1 : Af H (upd H l1 (.lst ((qs.map (Ar B)).map V.int))) := Af.new h1
 have e1 : upd H l1 (.lst ((qs.map (Ar B)).map V.int)) l1 = some (.lst ((qs.map (Ar B)).map V.int)) := Aa
 generalize upd H l1 (.lst ((qs.map (Ar B)).map V.int)) = H1 at s1 e1 ⊢
 refine ⟨_, rfl, _, rfl, false, rb, xb, rs, U, n * rs.length + 1, n, rfl, hSb.same s1, Au.same hnb s1, hbU, (fun c hc => (hr' c hc).1), by lia, by lia, fun l2 h2 => ?_⟩
 have s2 : Af H1 (upd H1 l2 (.lst ((rs.map (Ar U)).map V.int))) := Af.new h2
 have e2 : upd H1 l2 (.lst ((rs.map (Ar U)).map V.int)) l2 = some (.lst ((rs.map (Ar U)).map V.int)) := Aa
 generalize upd H1 l2 (.lst ((rs.map (Ar U)).map V.int)) = H2 at s2 e2 ⊢
 have tB : ∀ t ∈ qs.map (Ar B), Bd (m * qs.length + m + 1) t := fun t ht => by
  obtain ⟨c, hc, rfl⟩ := (UA.mp ht)
  exact ((hq c hc).1.mul (hbB.fdiv (y := c.den))).mono (by lia)
 have tU : ∀ t ∈ rs.map (Ar U), Bd (n * rs.length + n + 1) t := fun t ht => by
  obtain ⟨c, hc, rfl⟩ := (UA.mp ht)
  exact ((hr' c hc).1.mul (hbU.fdiv (y := c.den))).mono (by lia)
 refine ⟨l1, l2, qs.map (Ar B), rs.map (Ar U), _, _, rfl, SqL.of (s2 _ _ e1), SqL.of e2, by rw [T7]; exact hr1, by rw [T7]; lia, by rw [T7]; lia, tB, tU, by lia, fun p H3 ps s3 hp ep hpl hpe hpb => ?_⟩
 rw [T7, T7] at hpl
 have hBU : B * U ≠ 0 := TH (by lia) (by lia)
 refine ⟨_, rfl, _, rfl, _, rfl, _, _, rfl, rfl, B0.bd hbB hbU (by lia), p, ps, B * U, rfl, SqL.of ep, hBU, by lia, fun r H4 s4 hc => ?_⟩
 refine q r H4 _ (s1.trans (s2.trans (s3.trans s4))) hc (AI _) (fun X => ?_)
 ·rw [Cv.ev_strip]
  have h0 := L2.Ig hBU X ps
  rw [hpe X] at h0
  have hb : ∀ x, Cv.evI (qs.map (Ar B)) x = Cv.ev qs x * (B : Rat) := fun x => DI hdB x
  have hu : ∀ x, Cv.evI (rs.map (Ar U)) x = Cv.ev rs x * (U : Rat) := fun x => DI hdU x
  rw [hb X, hu X, TJ] at h0
  have b0 : (B : Rat) ≠ 0 := Nm.cast_ne (by lia)
  have u0 : (U : Rat) ≠ 0 := Nm.cast_ne (by lia)
  grind
theorem Gs : Ao ["_law_one", "_law_other"] ["_law_one", "_law_other"] (Ae (top 66)) := ⟨rfl, rfl, rfl, by decide +kernel, rfl, by decide +kernel, by decide +kernel⟩
theorem Gz {f : Addr} {fd : FuncData} (F : Fun K "_law_alike" "_law_alike" (top 66) f fd) (R8 : Fd P w K mg base 36 "multiplied" ["one", "other"] (Ho K)) (Qr : mg "len" = none) (hT : P.given.tree = none) :
 AH P w K mg base CX0 37 f fd ["_law_one", "_law_other"] (Hu K) := by
 refine F.ok Gs (fun vs H Q E h => ?_) (fun cdv A outer s H vs Q E hr h => ?_)
 ·obtain ⟨_, _, _, _, _, _, _, _, _, _, _, _, _, _, _, _, rfl, _⟩ := h; rfl
 refine ⟨_, (Ag (As (Mc (Df (eqD K hr.units) (Ak R8 hr rfl (A0 (Ai (ixT K) (pv 0) Ac (fun u v => rfl)) (A0 (Ai (ixT K) (pv 1) Ac (fun u v => rfl)) Ab))) (Ak R8 hr rfl (A0 (Ai (ixT K) (pv 1) Ac (fun u v => rfl)) (A0 (Ai (ixT K) (pv 0) Ac (fun u v => rfl)) Ab))) (AB _)) (Ma (Df FL (Av (BV K) rfl Qr AJ (A0 (Ai (ixT K) (pv 0) Ac (fun u v => rfl)) Ab)) (Av (BV K) rfl Qr AJ (A0 (Ai (ixT K) (pv 1) Ac (fun u v => rfl)) Ab)) (AB _)))))), ?_⟩
 obtain ⟨t1, t2, a1, b1, l1, a2, b2, l2, A1, B1, A2, B2, us, ws, m, n, rfl, hT1, hT2, cA1, cB1, cA2, cB2, bA1, bB1, bA2, bB2, hmn, kA1, kB1, kA2, kB2, nB1, nB2, hl1, hl2, hlen, rel, q⟩ := h
 have z1 := TQ.mpr nB1
 have z2 := TQ.mpr nB2
 refine ⟨_, rfl, t1, _, _, _, rfl, rfl, hT1, rfl, _, rfl, t2, _, _, _, rfl, rfl, hT2, rfl, a1, b2, A1, B2, m, n, rfl, cA1, cB2, bA1, bB2, hmn, kA1, kB2, z2, fun p1 H1 cs s1 c1 g1 e1 => ?_⟩
 refine ⟨_, rfl, t2, _, _, _, rfl, rfl, hT2.same s1, rfl, _, rfl, t1, _, _, _, rfl, rfl, hT1.same s1, rfl, a2, b1, A2, B1, n, m, rfl, cA2.same s1, cB1.same s1, bA2, bB1, by lia, kA2, kB1, z1, fun p2 H2 cs2 s2 c2 g2 e2 => ?_⟩
 have ec : cs2 = cs := AW g2 g1 fun x => by rw [e2 x, e1 x, rel x]
 subst ec
 refine eqT (c1.same s2) c2 ?_
 have s12 := s1.trans s2
 refine ⟨_, rfl, BN (by rw [decide_eq_true rfl]; rfl) ?_⟩
 refine ⟨_, rfl, t1, _, _, _, rfl, rfl, hT1.same s12, rfl, l1, us, rfl, .inl (Af.seq s12 hl1), _, rfl, t2, _, _, _, rfl, rfl, hT2.same s12, rfl, l2, ws, rfl, .inl (Af.seq s12 hl2), rfl, ?_⟩
 rw [hlen, decide_eq_true rfl]
 exact q _ s12
theorem D7 : Ao ["points", "told", "point", "k"] ["points"] (Ae (top 32)) := ⟨rfl, rfl, rfl, by decide +kernel, rfl, by decide +kernel, by decide +kernel⟩
theorem JI {f : Addr} {fd : FuncData} (F : Fun K "told_in" "told_in" (top 32) f fd) (Qs : mg "range" = none) (Qr : mg "len" = none) (hT : P.given.tree = none) :
 AH P w K mg base CX0 33 f fd ["points"] (Hj K) := by
 refine F.ok D7 (fun vs H Q E h => ?_) (fun cdv A outer s H vs Q E hr h => ?_)
 ·obtain ⟨_, _, _, rfl, _⟩ := h; rfl
 refine ⟨_, (Ad (K := K) (Aj (i := 1) D7.nd rfl (Or.inl rfl) (AS Ab))
  (Ad (K := K) (Bh (K := K) PassesOwn.never rfl (piT K (pv 0)) (Ay (i := 2) D7.nd rfl (Or.inl rfl)) (Ag (Bh (K := K) PassesOwn.never rfl (BQ rfl Qs (A0 (Ah AX (Av (BV K) rfl Qr AJ (A0 (pv 2) Ab)) Ac) Ab)) (Ay (i := 3) D7.nd rfl (Or.inl rfl)) (Ag (CI (ED K PySem.F.plainAttrs_list PySem.F.slot_list_append PySem.F.type_list_append DR (pv 1) (A0 (AO (A0 (Ai (ixT K) (pv 2) Ac (fun u v => rfl)) (A0 (pv 3) (A0 (Ai (ixT K) (pv 2) (Ah AK (pv 3) Ac) (fun u v => rfl)) Ab)))) Ab)))) (by rfl))) (by rfl))
  (Ag (As (pv 1))) (by rfl)) (by rfl)), ?_⟩
 obtain ⟨r, xs, pss, rfl, hS, hp, h23, h100, q⟩ := h
 have P0 : 0 ≤ sizeLine := by decide
 have P3 : 3 ≤ sizeLine := by decide
 have hxl := hp.length
 refine ⟨P0, fun p hp0 => ?_⟩
 refine ⟨_, rfl, r, rfl, ⟨_, SqT.same hS (Af.new hp0)⟩, Fn (xs := xs) (L5 H r p K pss fun H r p K pss i σ H' => Af H H' ∧ ∃ ys z2 z3, σ = [some (.ref r), some (.ref p), z2, z3] ∧ H' p = some (.lst ys) ∧ Gk K H' ys (Bb (pss.take i))) ⟨Af.new hp0, [], none, none, rfl, Aa, .nil⟩ (fun i σ H' _ h => hS.same h.1) ?_ ?_⟩
 ·rintro i v σ H' hv hR1
  refine BB hR1 fun sm hz105 => ?_
  refine GA hz105 fun ys z2 z3 hz105' => ?_
  clear hz105
  refine Dm hz105' fun hq104 ep hys => ?_
  clear hz105'
  obtain rfl := hq104
  try clear hR1
  obtain ⟨ps, hps, a, zs, pp, rfl, hzs, hzn, hz0, hpp⟩ := (Paired.get hp hv)
  have hpl := h23 ps (T5 hps)
  have hzl := hzn.length
  have hyl : ys.length ≤ 200 := by
   have h1 := C3 (pss.take i) (h23.take i)
   rw [SX] at h1
   rw [hys.length]; lia
  refine ⟨_, rfl, a, zs, rfl, .inr (hzs.same sm), _, _, rfl, rfl, _, rfl, by lia, by lia, ?_⟩
  rw [show (((zs.length : Nat) : Int) - 1).toNat = ps.length - 1 from DC hzl]
  refine C0 (n := ps.length - 1) (L8 H r p a K pss i ps fun H r p a K pss i ps k σ H2 => Af H H2 ∧ ∃ ys2 z3, σ = [some (.ref r), some (.ref p), some (.ref a), z3] ∧ H2 p = some (.lst ys2) ∧ Gk K H2 ys2 (Bb (pss.take i) ++ (BS ps).take k)) ⟨sm, ys, z3, rfl, ep, by rw [UD, SR]; exact hys⟩ ?_ ?_
  ·rintro k σ H2 hk hR2
   refine BB hR2 fun sm2 hz109 => ?_
   refine Cs hz109 fun ys2 z3' hz109' => ?_
   clear hz109
   refine Dm hz109' fun hq108 ep2 hys2 => ?_
   clear hz109'
   obtain rfl := hq108
   try clear hR2
   have g0 := Bw (l := ps) (i := 0) (by lia)
   have gk := Bw (l := ps) (i := k + 1) (by lia)
   obtain ⟨xk, hxk, hnk⟩ := (Paired.get' hzn gk)
   have ak : atI zs (0 + (k : Int) + 1) = some xk := by rw [show 0 + (k : Int) + 1 = ((k + 1 : Nat) : Int) by lia]; exact Bv hxk
   have hyl2 : ys2.length ≤ 204 := by
    have h1 := hys.length
    have h2 := Bl ps
    rw [hys2.length, T6, SX]; exact NA hyl hk hpl h1
   refine ⟨_, rfl, .inl ⟨rfl, _, SqL.of ep2⟩, _, rfl, a, zs, _, .ref pp, rfl, rfl, hzs.same sm2, Bv (j := 0) hz0, _, rfl, _, rfl, _, rfl, _, _, rfl, rfl, a, zs, _, xk, rfl, rfl, hzs.same sm2, ak, P3, fun t ht => ?_⟩
   have s3 : Af H2 (upd H2 t (.tup [.ref pp, .int (0 + (k : Int)), xk])) := Af.new ht
   have tp : t ≠ p := (Aw ep2 ht).symm
   have hp3 : (upd (upd H2 t (.tup [.ref pp, .int (0 + (k : Int)), xk])) p (.lst (ys2 ++ [.ref t]))) pp = some (nT (ps.getD 0 0)) := by
    have z := s3 _ _ (sm2 _ _ hpp)
    rw [Aq (EX z (s3 _ _ ep2) (fun z => by cases z))]; exact z
   refine ⟨p, ys2, .ref t, rfl, rfl, s3 _ _ ep2, Sl (show ys2.length < 300 by lia) (by decide), (sm2.trans s3).put hp0, ys2 ++ [.ref t], _, rfl, Aa, ?_⟩
   have gt : (BS ps)[k]? = some ⟨ps.getD 0 0, (k : Int), ps.getD (k + 1) 0⟩ := by
    unfold BS
    rw [T3, UP hk]; rfl
   rw [TX, gt, ← To]
   refine Paired.snoc (Gk.put (Gk.same hys2 s3) (s3 _ _ ep2)) ⟨t, pp, xk, rfl, SqT.of ?_, hp3, ((hnk.same sm2).same s3).put (s3 _ _ ep2)⟩
   rw [Aq tp, Aa, Int.zero_add]
  ·rintro σ H2 hR3
   refine BB hR3 fun sm2 hz111 => ?_
   refine Cs hz111 fun ys2 z3' hz111' => ?_
   clear hz111
   refine Dm hz111' fun hq110 ep2 hys2 => ?_
   clear hz111'
   obtain rfl := hq110
   try clear hR3
   refine ⟨sm2, ys2, _, _, rfl, ep2, ?_⟩
   have e : pss.take (i + 1) = pss.take i ++ [ps] := by rw [TX, hps]; rfl
   rw [e, KH]
   have et : (BS ps).take (ps.length - 1) = BS ps := UB (by rw [Bl]; exact SK _)
   rw [et] at hys2
   exact hys2
 ·rintro σ H' hR4
  refine BB hR4 fun sm hz113 => ?_
  refine GA hz113 fun ys z2 z3 hz113' => ?_
  clear hz113
  refine Dm hz113' fun hq112 ep hys => ?_
  clear hz113'
  obtain rfl := hq112
  try clear hR4
  rw [hxl, TZ] at hys
  exact ⟨_, rfl, q p H' ys sm hp0 ep hys⟩
theorem ID : Ao ["points"] ["points"] (Ae (top 33)) := ⟨rfl, rfl, rfl, by decide +kernel, rfl, by decide +kernel, by decide +kernel⟩
theorem IQ {f : Addr} {fd : FuncData} (F : Fun K "knots_of" "knots_of" (top 33) f fd) (Rz : Fd P w K mg base 33 "told_in" ["points"] (Hj K)) (hT : P.given.tree = none) :
 AH P w K mg base CX0 34 f fd ["points"] (E8 K) := by
 refine F.ok ID (fun vs H Q E h => ?_) (fun cdv A outer s H vs Q E hr h => ?_)
 ·obtain ⟨_, _, _, rfl, _⟩ := h; rfl
 refine ⟨_, (Ag (As (Cj rfl (N := ["told"]) (nt := 1) (js := []) (Ba.look (NX := ["points"]) (sc := Ae (top 33)) rfl rfl (by decide +kernel)) (piL K (Ak Rz hr rfl (A0 (pv 0) Ab))) (fun u1 u2 u3 u4 u5 => (Ay (i := 0) (show List.Nodup (["told"] : List Str) from by decide +kernel) rfl (Or.inl rfl))) (AD (by decide)) (fun u1 u2 u3 u4 u5 => Bp) (fun u1 u2 u3 u4 u5 => (Ai (ixT K) (pv 0) Ac (fun u v => rfl)))))), ?_⟩
 obtain ⟨r, xs, pss, rfl, hS, hp, h23, h100, q⟩ := h
 refine C6 ⟨_, rfl, r, xs, pss, rfl, hS, hp, h23, h100, fun w Hw ws sw hw ew htw => ⟨w, rfl, ⟨_, SqL.of ew⟩, ?_⟩⟩
 have hwl : ws.length ≤ 200 := by
  have h1 := C3 pss fun ps hp => by have := h23 ps hp; lia
  rw [htw.length]; lia
 refine Cw (xs := ws) (L2 Hw pss fun Hw pss i zs H' => H' = Hw ∧ zs.length = i ∧ AM Hw zs (((Bb pss).take i).map Gj.x)) ⟨rfl, rfl, .nil⟩ (fun i zs H' _ h => ⟨by rw [h.1]; exact SqL.of ew, h.2.1⟩) (Sw (AN (by lia))) ?_ ?_
 ·rintro i v zs H' hv ⟨rfl, hzl, hzn⟩
  obtain ⟨t, ht, a, rx, rn, rfl, ha, hx, _⟩ := (Paired.get htw hv)
  have hx : Eu H' (.ref rx) t.x := ⟨_, rfl, hx⟩
  refine ⟨_, rfl, a, _, _, _, rfl, rfl, ha, rfl, rfl, by simp [hzl], ?_⟩
  rw [TX, ht, TY]
  exact Paired.snoc hzn hx
 rintro zs H' ⟨rfl, hzl, hzn⟩ p hp0
 rw [htw.length, TZ] at hzn
 exact q p _ zs (sw.trans (Af.new hp0)) (sw.free hp0) Aa (AM.same hzn (Af.new hp0))
theorem D8 : Ao ["points", "slopes", "point"] ["points"] (Ae (top 44)) := ⟨rfl, rfl, rfl, by decide +kernel, rfl, by decide +kernel, by decide +kernel⟩
theorem HL {f : Addr} {fd : FuncData} (F : Fun K "slopes_in" "slopes_in" (top 44) f fd) (Qr : mg "len" = none) (hT : P.given.tree = none) :
 AH P w K mg base CX0 33 f fd ["points"] (Ew K) := by
 refine F.ok D8 (fun vs H Q E h => ?_) (fun cdv A outer s H vs Q E hr h => ?_)
 ·obtain ⟨_, _, _, rfl, _⟩ := h; rfl
 refine ⟨_, (Ad (K := K) (Aj (i := 1) D8.nd rfl (Or.inl rfl) Mb)
  (Ad (K := K) (Bh (K := K) PassesOwn.never rfl (piT K (pv 0)) (Ay (i := 2) D8.nd rfl (Or.inl rfl)) (Ag (Bj (K := K) (AA FL (Av (BV K) rfl Qr AJ (A0 (pv 2) Ab)) Ac (AB _)) (Ag Ci) AY (by rfl) (by rfl))) (by rfl))
  (Ag (As (pv 1))) (by rfl)) (by rfl)), ?_⟩
 obtain ⟨r, xs, pss, rfl, hS, hp, h2, h100, q⟩ := h
 refine fun d hd => ?_
 refine ⟨_, rfl, r, rfl, ⟨_, SqT.same hS (Af.new hd)⟩, Fn (xs := xs) (fun i σ H' => Af H H' ∧ ∃ z2, σ = [some (.ref r), some (.ref d), z2]) ⟨Af.new hd, none, rfl⟩ (fun i σ H' _ h => hS.same h.1) ?_ ?_⟩
 ·rintro i v σ H' hv ⟨sm, z2, rfl⟩
  obtain ⟨ps, hps, a, us, p, rfl, hus, hun, hu0, hp0⟩ := (Paired.get hp hv)
  have hpl := h2 ps (T5 hps)
  have hul := hun.length
  refine ⟨_, rfl, a, us, rfl, .inr (hus.same sm), rfl, _, rfl, ?_⟩
  exact Be (decide_eq_false (show ¬ V.int (us.length : Int) = V.int 3 from fun z => by have := V.int.inj z; lia)) ⟨sm, _, rfl⟩
 ·rintro σ H' ⟨sm, z2, rfl⟩
  exact ⟨_, rfl, q d H' sm⟩
theorem De : Ao ["points", "row", "point"] ["points"] (Ae (top 43)) := ⟨rfl, rfl, rfl, by decide +kernel, rfl, by decide +kernel, by decide +kernel⟩
theorem HQ {f : Addr} {fd : FuncData} (F : Fun K "first_row" "first_row" (top 43) f fd) (Qr : mg "len" = none) (hT : P.given.tree = none) :
 AH P w K mg base CX0 33 f fd ["points"] (Ju K) := by
 refine F.ok De (fun vs H Q E h => ?_) (fun cdv A outer s H vs Q E hr h => ?_)
 ·obtain ⟨_, _, _, rfl, _⟩ := h; rfl
 refine ⟨_, (Ad (K := K) (Aj (i := 1) De.nd rfl (Or.inl rfl) (AS Ab))
  (Ad (K := K) (Bh (K := K) PassesOwn.never rfl (piT K (pv 0)) (Ay (i := 2) De.nd rfl (Or.inl rfl)) (Ag (CI (ED K PySem.F.plainAttrs_list PySem.F.slot_list_extend PySem.F.type_list_extend La (pv 1) (A0 (Ah EE (AS (A0 (Ai (ixT K) (pv 2) Ac (fun u v => rfl)) Ab)) (Ah AX (Av (BV K) rfl Qr AJ (A0 (pv 2) Ab)) Ac)) Ab)))) (by rfl))
  (Ag (As (pv 1))) (by rfl)) (by rfl)), ?_⟩
 obtain ⟨r, xs, pss, rfl, hS, hp, h23, h100, q⟩ := h
 have P0 : 0 ≤ sizeLine := by decide
 have P1 : 1 ≤ sizeLine := by decide
 have hxl := hp.length
 refine ⟨P0, fun p hp0 => ?_⟩
 refine ⟨_, rfl, r, rfl, ⟨_, SqT.same hS (Af.new hp0)⟩, Fn (xs := xs) (L5 H r p K pss fun H r p K pss i σ H' => Af H H' ∧ ∃ ys z2, σ = [some (.ref r), some (.ref p), z2] ∧ H' p = some (.lst ys) ∧ Au K H' ys (CU (pss.take i))) ⟨Af.new hp0, [], none, rfl, Aa, .nil⟩ (fun i σ H' _ h => hS.same h.1) ?_ ?_⟩
 ·rintro i v σ H' hv hR1
  refine BB hR1 fun sm hz119 => ?_
  refine Cs hz119 fun ys z2 hz119' => ?_
  clear hz119
  refine Dm hz119' fun hq118 ep hys => ?_
  clear hz119'
  obtain rfl := hq118
  try clear hR1
  obtain ⟨ps, hps, a, us, pp, rfl, hus, hun, hu0, hpp⟩ := (Paired.get hp hv)
  have hpl := h23 ps (T5 hps)
  have hul := hun.length
  have e : pss.take (i + 1) = pss.take i ++ [ps] := by rw [TX, hps]; rfl
  have g1 := Bw (l := ps) (i := 1) (by lia)
  obtain ⟨x1, hx1, hn1⟩ := (Paired.get' hun g1)
  have hyl : ys.length ≤ 200 := by
   have h1 := C3 (pss.take i) (h23.take i)
   rw [SX] at h1
   rw [hys.length, Dv]; lia
  refine ⟨_, rfl, .inl ⟨rfl, _, SqL.of ep⟩, _, rfl, a, us, _, x1, rfl, rfl, hus.same sm, Bv (j := 1) hx1, P1, fun l hl => ?_⟩
  have s1 : Af H' (upd H' l (.lst [x1])) := Af.new hl
  refine ⟨_, rfl, a, us, rfl, .inr ((hus.same sm).same s1), _, _, rfl, rfl, l, _, [x1], rfl, rfl, Aa, by lia, by lia, ?_, fun m hm => ?_⟩
  ·have z : (((us.length : Nat) : Int) - 1).toNat ≤ 2 := Nx hul hpl
   exact Sv (Vo (SK _) z) (by show 2 ≤ sizeLine; decide)
  have s2 := s1.trans (Af.new (o := .lst (SV (((us.length : Nat) : Int) - 1).toNat [x1]).flatten) hm)
  have en : (((us.length : Nat) : Int) - 1).toNat = ps.length - 1 := DC hul
  have ep2 := s2 _ _ ep
  refine ⟨p, m, ys, _, rfl, rfl, ep2, Aa, ?_, ?_⟩
  ·rw [Kd, en]
   exact Sv (show ys.length + (ps.length - 1) * 1 ≤ 300 from Nz hyl hpl) (by decide)
  refine ⟨(sm.trans s2).put hp0, _, _, rfl, Aa, ?_⟩
  rw [e, KL, en]
  have hr : Au K (upd (upd H' l (.lst [x1])) m (.lst (SV (((us.length : Nat) : Int) - 1).toNat [x1]).flatten)) (SV (ps.length - 1) [x1]).flatten (SV (ps.length - 1) (ps.getD 1 0)) := IF ((hn1.same sm).same s2) _
  rw [en] at hr ep2 s2
  exact Paired.append (Au.put (Au.same hys s2) ep2) (Au.put hr ep2)
 ·rintro σ H' hR2
  refine BB hR2 fun sm hz123 => ?_
  refine Cs hz123 fun ys z2 hz123' => ?_
  clear hz123
  refine Dm hz123' fun hq122 ep hys => ?_
  clear hz123'
  obtain rfl := hq122
  try clear hR2
  rw [hxl, TZ] at hys
  exact ⟨_, rfl, q p H' ys sm hp0 ep hys⟩
theorem LU : Ao ["a", "b"] ["a", "b"] (Ae (top 9)) := ⟨rfl, rfl, rfl, by decide +kernel, rfl, by decide +kernel, by decide +kernel⟩
theorem Mf {f : Addr} {fd : FuncData} (F : Fun K "minus" "minus" (top 9) f fd) (Qz : Fd P w K mg base 34 "number_of" ["top", "bottom"] (CQ)) (hT : P.given.tree = none) :
 AH P w K mg base CX0 35 f fd ["a", "b"] (CS K (· - ·)) := by
 refine F.ok LU (fun vs H Q E h => ?_) (fun cdv A outer s H vs Q E hr h => ?_)
 ·obtain ⟨_, _, _, _, _, _, rfl, _⟩ := h; rfl
 refine ⟨_, (Ag (As (Ak Qz hr rfl (A0 (Ah AX (Ah Ap (Ai (ixT K) (pv 0) Ac (fun u v => rfl)) (Ai (ixT K) (pv 1) Ac (fun u v => rfl))) (Ah Ap (Ai (ixT K) (pv 1) Ac (fun u v => rfl)) (Ai (ixT K) (pv 0) Ac (fun u v => rfl)))) (A0 (Ah Ap (Ai (ixT K) (pv 0) Ac (fun u v => rfl)) (Ai (ixT K) (pv 1) Ac (fun u v => rfl))) Ab))))), ?_⟩
 obtain ⟨x, y, p, q, m, n, rfl, ⟨r, rfl, hr⟩, ⟨u, rfl, hu⟩, hp, hq, hmn, k⟩ := h
 refine ⟨_, rfl, r, _, _, _, rfl, rfl, hr, rfl, _, rfl, u, _, _, _, rfl, rfl, hu, rfl, _, _, rfl, rfl, B0.bd hp.1 hq.2, _, rfl, u, _, _, _, rfl, rfl, hu, rfl, _, rfl, r, _, _, _, rfl, rfl, hr, rfl, _, _, rfl, rfl, B0.bd hq.1 hp.2, _, _, rfl, rfl, ?_⟩
 refine ⟨_, rfl, r, _, _, _, rfl, rfl, hr, rfl, _, rfl, u, _, _, _, rfl, rfl, hu, rfl, _, _, rfl, rfl, B0.bd hp.2 hq.2, ?_⟩
 refine ⟨_, _, rfl, TH (Nm.den_ne p) (Nm.den_ne q), fun z hz => ?_⟩
 have e := k z hz
 try dsimp only at e
 rw [← Nm.minus_eq] at e
 exact e
theorem Ds : Ao ["ahead", "knots", "slopes", "k", "row", "j"] ["ahead", "knots", "slopes", "k"] (Ae (top 45)) := ⟨rfl, rfl, rfl, by decide +kernel, rfl, by decide +kernel, by decide +kernel⟩
theorem IP {f : Addr} {fd : FuncData} (F : Fun K "next_row" "next_row" (top 45) f fd) (QV : Fd P w K mg base 35 "over" ["a", "b"] (Hn K)) (R9 : Fd P w K mg base 35 "minus" ["a", "b"] (CS K (· - ·))) (Qs : mg "range" = none) (Qr : mg "len" = none) (hT : P.given.tree = none) :
 AH P w K mg base CX0 36 f fd ["ahead", "knots", "slopes", "k"] (E1 K) := by
 refine F.ok Ds (fun vs H Q E h => ?_) (fun cdv A outer s H vs Q E hr h => ?_)
 ·obtain ⟨_, _, _, _, _, _, _, _, _, _, _, rfl, _⟩ := h; rfl
 refine ⟨_, (Ad (K := K) (Aj (i := 4) Ds.nd rfl (Or.inl rfl) (AS Ab))
  (Ad (K := K) (Bh (K := K) PassesOwn.never rfl (BQ rfl Qs (A0 (Ah AX (Av (BV K) rfl Qr AJ (A0 (pv 1) Ab)) (pv 3)) Ab)) (Ay (i := 5) Ds.nd rfl (Or.inl rfl)) (Ag (Bj (K := K) (AA (eqD K hr.units) (Ai (ixL K) (pv 1) (Ah AK (pv 5) (pv 3)) (fun u v => rfl)) (Ai (ixL K) (pv 1) (pv 5) (fun u v => rfl)) (AB _)) (Ag Ci) (Ag (CI (ED K PySem.F.plainAttrs_list PySem.F.slot_list_append PySem.F.type_list_append DR (pv 4) (A0 (Ak QV hr rfl (A0 (Ak R9 hr rfl (A0 (Ai (ixL K) (pv 0) (Ah AK (pv 5) Ac) (fun u v => rfl)) (A0 (Ai (ixL K) (pv 0) (pv 5) (fun u v => rfl)) Ab))) (A0 (Ak R9 hr rfl (A0 (Ai (ixL K) (pv 1) (Ah AK (pv 5) (pv 3)) (fun u v => rfl)) (A0 (Ai (ixL K) (pv 1) (pv 5) (fun u v => rfl)) Ab))) Ab))) Ab)))) (by rfl) (by rfl))) (by rfl))
  (Ag (As (pv 4))) (by rfl)) (by rfl)), ?_⟩
 obtain ⟨ra, rk, d, as, ks, A, kn, sl, k, m, n, rfl, hA, hAn, hK, hKn, hsl, h1, hkl, hlen, h100, hbA, hbK, hm, hn, q⟩ := h
 have P0 : 0 ≤ sizeLine := by decide
 have hal := hAn.length
 have hkl' := hKn.length
 refine ⟨P0, fun p hp0 => ?_⟩
 have s0 : Af H (upd H p (.lst [])) := Af.new hp0
 refine ⟨_, rfl, rk, ks, rfl, .inl (Af.seq s0 hK), _, rfl, _, _, rfl, rfl, _, rfl, by lia, by lia, ?_⟩
 rw [show (((ks.length : Nat) : Int) - (k : Int)).toNat = kn.length - k by lia]
 refine C0 (n := kn.length - k) (L10 H ra rk d k p K A kn sl fun H ra rk d k p K A kn sl i σ H' => Af H H' ∧ ∃ zs z5, σ = [some (.ref ra), some (.ref rk), some (.ref d), some (.int (k : Int)), some (.ref p), z5] ∧ H' p = some (.lst zs) ∧ zs.length = i ∧ Au K H' zs ((CY A kn sl k).take i)) ⟨s0, [], none, rfl, Aa, rfl, .nil⟩ ?_ ?_
 ·rintro j σ H' hj hR1
  refine BB hR1 fun sm hz125 => ?_
  refine Cs hz125 fun zs z5 hz125' => ?_
  clear hz125
  refine GD hz125' fun hq124 ep hzl hzs => ?_
  clear hz125'
  obtain rfl := hq124
  try clear hR1
  have gk := Bw (l := kn) (i := j + k) (by lia)
  have g0 := Bw (l := kn) (i := j) (by lia)
  have ga := Bw (l := A) (i := j + 1) (by lia)
  have gb := Bw (l := A) (i := j) (by lia)
  obtain ⟨xk, hxk, ak, rfl, hak⟩ := (Paired.get' hKn gk)
  obtain ⟨x0, hx0, a0, rfl, ha0⟩ := (Paired.get' hKn g0)
  obtain ⟨xa, hxa, hna⟩ := (Paired.get' hAn ga)
  obtain ⟨xb, hxb, hnb⟩ := (Paired.get' hAn gb)
  have ek : atI ks (0 + (j : Int) + (k : Int)) = some (.ref ak) := by rw [show 0 + (j : Int) + (k : Int) = ((j + k : Nat) : Int) by lia]; exact Bv hxk
  have e0 : atI ks (0 + (j : Int)) = some (.ref a0) := by rw [show 0 + (j : Int) = ((j : Nat) : Int) by lia]; exact Bv hx0
  have ea : atI as (0 + (j : Int) + 1) = some xa := by rw [show 0 + (j : Int) + 1 = ((j + 1 : Nat) : Int) by lia]; exact Bv hxa
  have eb : atI as (0 + (j : Int)) = some xb := by rw [show 0 + (j : Int) = ((j : Nat) : Int) by lia]; exact Bv hxb
  have hK' := Af.seq sm hK
  have hA' := Af.seq sm hA
  have nk : Az K H' (.ref ak) (kn.getD (j + k) 0) := Az.of (sm _ _ hak)
  have n0 : Az K H' (.ref a0) (kn.getD j 0) := Az.of (sm _ _ ha0)
  have hj2 : j < (CY A kn sl k).length := by rw [Dg]; exact hj
  have et : (CY A kn sl k).take (j + 1) = (CY A kn sl k).take j ++ [(CY A kn sl k).getD j 0] := by rw [TX, Bw hj2]; rfl
  have zlt : zs.length < sizeLine := Sl (show zs.length < 300 by lia) (by decide)
  refine ⟨_, rfl, _, rfl, _, rfl, _, _, rfl, rfl, rk, ks, _, _, rfl, rfl, hK', ek, _, rfl, _, rfl, rk, ks, _, _, rfl, rfl, hK', e0, ?_⟩
  refine eqN nk n0 ?_
  refine ⟨_, rfl, ?_⟩
  by_cases he : kn.getD (j + k) 0 = kn.getD j 0
  ·exact absurd he (hsl j (by lia))
  ·refine Be (by rw [decide_eq_false he] <;> rfl) ?_
   have ba := hbA _ (BA (l := A) (i := j + 1) (by lia))
   have bb := hbA _ (BA (l := A) (i := j) (by lia))
   have bk := hbK _ (BA (l := kn) (i := j + k) (by lia))
   have b0 := hbK _ (BA (l := kn) (i := j) (by lia))
   refine ⟨_, rfl, .inl ⟨rfl, _, SqL.of ep⟩, _, rfl, _, rfl, _, _, rfl, rfl, ra, as, _, _, rfl, rfl, hA', ea, _, rfl, _, rfl, ra, as, _, _, rfl, rfl, hA', eb, _, _, _, _, m, m, rfl, hna.same sm, hnb.same sm, ba, bb, by lia, fun t ht => ?_⟩
   have s1 : Af H' (upd H' t (nT (A.getD (j + 1) 0 - A.getD j 0))) := Af.new ht
   refine ⟨_, rfl, _, rfl, _, rfl, _, _, rfl, rfl, rk, ks, _, _, rfl, rfl, Af.seq s1 hK', ek, _, rfl, _, rfl, rk, ks, _, _, rfl, rfl, Af.seq s1 hK', e0, _, _, _, _, n, n, rfl, nk.same s1, n0.same s1, bk, b0, by lia, fun u hu => ?_⟩
   have s2 := s1.trans (Af.new (o := nT (kn.getD (j + k) 0 - kn.getD j 0)) hu)
   refine ⟨_, _, _, _, m + m + 1, n + n + 1, rfl, Az.of ((Af.new hu) _ _ Aa), Az.of Aa, (fun z => he (by grind)), ba.minus bb, bk.minus b0, by lia, fun r hr' => ?_⟩
   have s3 := s2.trans (Af.new (o := nT ((A.getD (j + 1) 0 - A.getD j 0) / (kn.getD (j + k) 0 - kn.getD j 0))) hr')
   have ep3 := s3 _ _ ep
   refine ⟨p, zs, .ref r, rfl, rfl, ep3, zlt, (sm.trans s3).put hp0, _, _, rfl, Aa, by simp [hzl], ?_⟩
   rw [et, FU hj, if_neg he]
   exact Paired.snoc (Au.put (Au.same hzs s3) ep3) ((Az.of Aa).put ep3)
 ·rintro σ H' hR2
  refine BB hR2 fun sm hz131 => ?_
  refine Cs hz131 fun zs z5 hz131' => ?_
  clear hz131
  refine GD hz131' fun hq130 ep hzl hzs => ?_
  clear hz131'
  obtain rfl := hq130
  try clear hR2
  rw [UB (by rw [Dg]; exact SK _)] at hzs
  exact ⟨_, rfl, q p H' zs sm hp0 ep hzs⟩
theorem Cg : Ao ["points", "knots", "slopes", "table", "k"] ["points"] (Ae (top 46)) := ⟨rfl, rfl, rfl, by decide +kernel, rfl, by decide +kernel, by decide +kernel⟩
theorem IL {f : Addr} {fd : FuncData} (F : Fun K "table_of" "table_of" (top 46) f fd) (QX : Fd P w K mg base 34 "knots_of" ["points"] (E8 K)) (RA : Fd P w K mg base 33 "slopes_in" ["points"] (Ew K)) (RC : Fd P w K mg base 33 "first_row" ["points"] (Ju K)) (RD : Fd P w K mg base 36 "next_row" ["ahead", "knots", "slopes", "k"] (E1 K)) (Qs : mg "range" = none) (Qr : mg "len" = none) (hT : P.given.tree = none) :
 AH P w K mg base CX0 37 f fd ["points"] (Hk K) := by
 refine F.ok Cg (fun vs H Q E h => ?_) (fun cdv A outer s H vs Q E hr h => ?_)
 ·obtain ⟨_, _, _, _, _, rfl, _⟩ := h; rfl
 refine ⟨_, (Ad (K := K) (Aj (i := 1) Cg.nd rfl (Or.inl rfl) (Ak QX hr rfl (A0 (pv 0) Ab)))
  (Ad (K := K) (Aj (i := 2) Cg.nd rfl (Or.inl rfl) (Ak RA hr rfl (A0 (pv 0) Ab)))
  (Ad (K := K) (Aj (i := 3) Cg.nd rfl (Or.inl rfl) (AS Ab))
  (Ad (K := K) (Bh (K := K) PassesOwn.never rfl (BQ rfl Qs (A0 (Av (BV K) rfl Qr AJ (A0 (pv 1) Ab)) Ab)) (Ay (i := 4) Cg.nd rfl (Or.inl rfl)) (Ag (CI (ED K PySem.F.plainAttrs_list PySem.F.slot_list_append PySem.F.type_list_append DR (pv 3) (A0 (FJ (AA FL (pv 4) Ac (AB _)) (Ak RC hr rfl (A0 (pv 0) Ab)) (Ak RD hr rfl (A0 (Ai (ixL K) (pv 3) (Ah AX (pv 4) Ac) (fun u v => rfl)) (A0 (pv 1) (A0 (pv 2) (A0 (pv 4) Ab)))))) Ab)))) (by rfl))
  (Ag (As (pv 3))) (by rfl)) (by rfl)) (by rfl)) (by rfl)), ?_⟩
 obtain ⟨r, xs, pss, hh, n, rfl, hS, hp, h23, h100, hnd, h12, hb, hbk, hn1, hn40, q⟩ := h
 have P0 : 0 ≤ sizeLine := by decide
 refine ⟨_, rfl, r, xs, pss, rfl, hS, hp, h23.p23, h100, fun w Hw ws sw hw ew hws => ?_⟩
 refine ⟨_, rfl, r, xs, pss, rfl, hS.same sw, Et.same hp sw, h23, h100, fun d Hd sd => ?_⟩
 refine ⟨P0, fun p hp0 => ?_⟩
 have s0 : Af Hd (upd Hd p (.lst [])) := Af.new hp0
 have sH : Af H Hd := sw.trans sd
 have hpH : H p = none := sH.free hp0
 have hwl : ws.length = (Bb pss).length := by rw [hws.length, T7]
 have ewd := sd _ _ ew
 have hwd : AM Hd ws (kn pss) := AM.same hws sd
 refine ⟨_, rfl, w, ws, rfl, .inl (SqL.of (s0 _ _ ewd)), _, rfl, by lia, by lia, ?_⟩
 rw [show ((ws.length : Nat) : Int).toNat = (Bb pss).length by lia]
 refine C0 (n := (Bb pss).length) (L8 Hd r w d p K H pss fun Hd r w d p K H pss i σ H' => Af Hd H' ∧ ∃ ys z, σ = [some (.ref r), some (.ref w), some (.ref d), some (.ref p), z] ∧ H' p = some (.lst ys) ∧ Paired (FR K H p H') ys ((So i).map (tab pss))) ⟨s0, [], none, rfl, Aa, .nil⟩ ?_ ?_
 ·rintro i σ H' hi hR1
  refine BB hR1 fun sm hz133 => ?_
  refine Cs hz133 fun ys z hz133' => ?_
  clear hz133
  refine Dm hz133' fun hq132 ep hys => ?_
  clear hz133'
  obtain rfl := hq132
  try clear hR1
  have hyl : ys.length = i := by rw [hys.length, T7, UL]
  have sHH := sH.trans sm
  have zlt : ys.length < sizeLine := Sl (show ys.length < 300 by lia) (by decide)
  have er : (So (i + 1)).map (tab pss) = (So i).map (tab pss) ++ [tab pss i] := by rw [Uz, TY]; rfl
  have fin : ∀ (l : Addr) (H3 : Hp) (zs : List V), Af H' H3 → H' l = none → H3 l = some (.lst zs) → Au K H3 zs (tab pss i) → Af Hd (upd H3 p (.lst (ys ++ [.ref l]))) ∧ ∃ ys' z, [some (V.ref r), some (.ref w), some (.ref d), some (.ref p), some (.int (0 + (i : Int)))] = [some (.ref r), some (.ref w), some (.ref d), some (.ref p), z] ∧ (upd H3 p (.lst (ys ++ [.ref l]))) p = some (.lst ys') ∧ Paired (FR K H p (upd H3 p (.lst (ys ++ [.ref l])))) ys' ((So (i + 1)).map (tab pss)) := fun l H3 zs s3 hl el hn => by
   have ep3 := s3 _ _ ep
   have lp : l ≠ p := (Aw ep hl).symm
   refine ⟨(sm.trans s3).put hp0, _, _, rfl, Aa, ?_⟩
   rw [er]
   exact Paired.snoc (Paired.mapP hys fun _ _ z => (z.same s3).put ep3) (FR.put ⟨l, zs, rfl, lp, sHH.free hl, el, hn⟩ ep3)
  refine ⟨_, rfl, .inl ⟨rfl, _, SqL.of ep⟩, _, rfl, rfl, _, rfl, ?_⟩
  match i, hi, fin, hys, hyl with
  | 0, hi, fin, hys, hyl =>
    refine Qg ?_
    refine ⟨_, rfl, r, xs, pss, rfl, hS.same sHH, Et.same hp sHH, h23.p23, h100, fun l H3 zs s3 hl el hn => ?_⟩
    exact ⟨p, ys, .ref l, rfl, rfl, s3 _ _ ep, zlt, fin l H3 zs s3 hl el hn⟩
  | i + 1, hi, fin, hys, hyl =>
    refine Be (by rw [decide_eq_false (show ¬ V.int (0 + ((i + 1 : Nat) : Int)) = V.int 0 from fun z => by have := V.int.inj z; lia)] <;> rfl) ?_
    obtain ⟨xv, hxv, a, zs, rfl, hap, haH, ha, hzs⟩ := (Paired.get' hys (JR (tab pss) i))
    have ea : atI ys (0 + ((i + 1 : Nat) : Int) - 1) = some (.ref a) := by rw [show 0 + ((i + 1 : Nat) : Int) - 1 = ((i : Nat) : Int) by lia]; exact Bv hxv
    have hbl := ML hn40 (show i ≤ 10 by lia)
    refine ⟨_, rfl, _, rfl, _, _, rfl, rfl, p, ys, _, _, rfl, rfl, SqL.of ep, ea, _, rfl, _, rfl, _, rfl, a, w, d, zs, ws, tab pss i, kn pss, Nc pss, i + 1, bnd hh n i, n, by rw [Int.zero_add]; rfl, SqL.of ha, hzs, SqL.of (sm _ _ ewd), AM.same hwd sm, ?_, by lia, by rw [BC]; lia, by rw [D6 _ _ (by lia), BC]; lia, by rw [BC]; lia, Jp h23.p23 hn1 hb hbk i (by lia), Ms hbk, by lia, by lia, fun l H3 zs' s3 hl el hn => ?_⟩
    ·intro j hj he
     rw [BC] at hj
     refine BB (FW h23.p23 hnd (by lia) hj he) fun _ hz136 => ?_
     refine NN hz136 fun ps hz136' => ?_
     clear hz136
     refine Dm hz136' fun h1 h2 _ => ?_
     clear hz136'
     have := h23 ps h1
     lia
    ·exact ⟨p, ys, .ref l, rfl, rfl, s3 _ _ ep, zlt, fin l H3 zs' s3 hl el hn⟩
 ·rintro σ H' hR2
  refine BB hR2 fun sm hz138 => ?_
  refine Cs hz138 fun ys z hz138' => ?_
  clear hz138
  refine Dm hz138' fun hq137 ep hys => ?_
  clear hz138'
  obtain rfl := hq137
  try clear hR2
  exact ⟨_, rfl, q p H' ys (sH.trans sm) hpH ep hys⟩
theorem IC : Ao ["points"] ["points"] (Ae (top 47)) := ⟨rfl, rfl, rfl, by decide +kernel, rfl, by decide +kernel, by decide +kernel⟩
theorem IM {f : Addr} {fd : FuncData} (F : Fun K "steps_of" "steps_of" (top 47) f fd) (RE : Fd P w K mg base 37 "table_of" ["points"] (Hk K)) (hT : P.given.tree = none) :
 AH P w K mg base CX0 38 f fd ["points"] (Hl K) := by
 refine F.ok IC (fun vs H Q E h => ?_) (fun cdv A outer s H vs Q E hr h => ?_)
 ·obtain ⟨_, _, _, _, _, rfl, _⟩ := h; rfl
 refine ⟨_, (Ag (As (Cj rfl (N := ["row"]) (nt := 1) (js := []) (Ba.look (NX := ["points"]) (sc := Ae (top 47)) rfl rfl (by decide +kernel)) (piL K (Ak RE hr rfl (A0 (pv 0) Ab))) (fun u1 u2 u3 u4 u5 => (Ay (i := 0) (show List.Nodup (["row"] : List Str) from by decide +kernel) rfl (Or.inl rfl))) (AD (by decide)) (fun u1 u2 u3 u4 u5 => Bp) (fun u1 u2 u3 u4 u5 => (Ai (ixL K) (pv 0) Ac (fun u v => rfl)))))), ?_⟩
 obtain ⟨r, xs, pss, hh, n, rfl, hS, hp, h23, h100, hnd, h12, hb, hbk, hn1, hn40, q⟩ := h
 refine C6 ⟨_, rfl, r, xs, pss, hh, n, rfl, hS, hp, h23, h100, hnd, h12, hb, hbk, hn1, hn40, fun w Hw ws sw hw ew hws => ⟨w, rfl, ⟨_, SqL.of ew⟩, ?_⟩⟩
 have hwl : ws.length = (Bb pss).length := by rw [hws.length, T7, UL]
 refine Cw (xs := ws) (L3 Hw K pss fun Hw K pss i zs H' => H' = Hw ∧ zs.length = i ∧ Au K Hw zs ((BO pss).take i)) ⟨rfl, rfl, .nil⟩ (fun i zs H' _ h => ⟨by rw [h.1]; exact SqL.of ew, h.2.1⟩) (Sw (AN (by lia))) ?_ ?_
 ·rintro i v zs H' hv ⟨rfl, hzl, hzn⟩
  have hi : i < ws.length := (SF.mp hv).1
  obtain ⟨rs, hrs, a, us, rfl, hap, haH, ha, hus⟩ := (Paired.get hws hv)
  have ers : rs = tab pss i := by
   rw [T3, UP (by lia)] at hrs
   exact (Sj.inj hrs).symm
  subst ers
  have hl := D6 pss i (by lia)
  obtain ⟨x0, hx0, hn0⟩ := (Paired.get' hus (Bw (l := tab pss i) (i := 0) (by lia)))
  refine ⟨_, rfl, a, us, _, x0, rfl, rfl, SqL.of ha, Bv (j := 0) hx0, rfl, by simp [hzl], ?_⟩
  have e : (BO pss).take (i + 1) = (BO pss).take i ++ [(tab pss i).getD 0 0] := by
   rw [TX]
   congr 1
   unfold BO
   rw [T3, UP (by lia)]; rfl
  rw [e]
  exact Paired.snoc hzn hn0
 rintro zs H' ⟨rfl, hzl, hzn⟩ p hp0
 rw [hwl, ← Dr, TZ] at hzn
 exact q p _ zs (sw.trans (Af.new hp0)) (sw.free hp0) Aa (Au.same hzn (Af.new hp0))
theorem Ez : Ao ["points"] ["points"] (Ae (top 49)) := ⟨rfl, rfl, rfl, by decide +kernel, rfl, by decide +kernel, by decide +kernel⟩
theorem EG {f : Addr} {fd : FuncData} (F : Fun K "curve_through" "curve_through" (top 49) f fd) (QS : Fd P w K mg base 36 "by_steps" ["knots", "steps"] (DL K)) (QX : Fd P w K mg base 34 "knots_of" ["points"] (E8 K)) (RF : Fd P w K mg base 38 "steps_of" ["points"] (Hl K)) (hT : P.given.tree = none) :
 AH P w K mg base CX0 39 f fd ["points"] (Js K) := by
 refine F.ok Ez (fun vs H Q E h => ?_) (fun cdv A outer s H vs Q E hr h => ?_)
 ·obtain ⟨_, _, _, _, _, rfl, _⟩ := h; rfl
 refine ⟨_, (Ag (As (Ak QS hr rfl (A0 (Ak QX hr rfl (A0 (pv 0) Ab)) (A0 (Ak RF hr rfl (A0 (pv 0) Ab)) Ab))))), ?_⟩
 obtain ⟨r, xs, pss, hh, n, rfl, hS, hp, h23, h100, hnd, h12, hb, hbk, hn1, hn40, q⟩ := h
 refine ⟨_, rfl, r, xs, pss, rfl, hS, hp, h23.p23, h100, fun w Hw ws sw hw ew hws => ?_⟩
 refine ⟨_, rfl, r, xs, pss, hh, n, rfl, hS.same sw, Et.same hp sw, h23, h100, hnd, h12, hb, hbk, hn1, hn40, fun t Ht zs st ht et hzs => ?_⟩
 have hbl := ML hn40 (SK 11)
 have hnb : n ≤ bnd hh n 11 := by
  have := JZ hh n 10
  show n ≤ 2 * bnd hh n 10 + 2 * n + 2
  lia
 have hkl := BC pss
 refine ⟨w, t, ws, zs, kn pss, BO pss, bnd hh n 11, rfl, SqL.of (st _ _ ew), (AM.same hws st).nums, SqL.of et, hzs, by rw [Dr]; exact hkl, by lia, fun c hc => (Ms hbk c hc).mono hnb, LH h23.p23 hb hbk hn1 h12, by lia, fun p Hp cs sp' hc hcl hg hcb hev => ?_⟩
 have hm : bnd hh n 11 * (kn pss).length ≤ bnd hh n 11 * 12 := VE _ (by lia)
 exact q p Hp cs ((sw.trans st).trans sp') hc (by lia) hg (fun c hc => (hcb c hc).mono (by lia)) hev
theorem HB : Ao ["_law_number_here"] ["_law_number_here"] (Ae (top 64)) := ⟨rfl, rfl, rfl, by decide +kernel, rfl, by decide +kernel, by decide +kernel⟩
theorem HX {f : Addr} {fd : FuncData} (F : Fun K "_law_back" "_law_back" (top 64) f fd) (Qy : Fd P w K mg base 33 "_law_lowest" ["_law_top", "_law_bottom"] (CQ)) (hT : P.given.tree = none) :
 AH P w K mg base CX0 34 f fd ["_law_number_here"] (JA K) := by
 refine F.ok HB (fun vs H Q E h => ?_) (fun cdv A outer s H vs Q E hr h => ?_)
 ·obtain ⟨_, _, rfl, _⟩ := h; rfl
 refine ⟨_, (Ag (As (Ak Qy hr rfl (A0 (Ai (ixT K) (pv 0) Ac (fun u v => rfl)) (A0 (Ai (ixT K) (pv 0) Ac (fun u v => rfl)) Ab))))), ?_⟩
 obtain ⟨r, y, rfl, ⟨_, er, hy⟩, h0, q⟩ := h
 cases er
 have hbn : y.num ≠ 0 := fun z => h0 (Vl.mp z)
 exact ⟨_, rfl, r, _, _, _, rfl, rfl, hy, rfl, _, rfl, r, _, _, _, rfl, rfl, hy, rfl, _, _, rfl, hbn, q⟩
theorem Gq : Ao ["_law_a", "_law_b"] ["_law_a", "_law_b"] (Ae (top 61)) := ⟨rfl, rfl, rfl, by decide +kernel, rfl, by decide +kernel, by decide +kernel⟩
theorem Gx {f : Addr} {fd : FuncData} (F : Fun K "_law_times" "_law_times" (top 61) f fd) (Qy : Fd P w K mg base 33 "_law_lowest" ["_law_top", "_law_bottom"] (CQ)) (hT : P.given.tree = none) :
 AH P w K mg base CX0 34 f fd ["_law_a", "_law_b"] (CS K (· * ·)) := by
 refine F.ok Gq (fun vs H Q E h => ?_) (fun cdv A outer s H vs Q E hr h => ?_)
 ·obtain ⟨_, _, _, _, _, _, rfl, _⟩ := h; rfl
 refine ⟨_, (Ag (As (Ak Qy hr rfl (A0 (Ah Ap (Ai (ixT K) (pv 0) Ac (fun u v => rfl)) (Ai (ixT K) (pv 1) Ac (fun u v => rfl))) (A0 (Ah Ap (Ai (ixT K) (pv 0) Ac (fun u v => rfl)) (Ai (ixT K) (pv 1) Ac (fun u v => rfl))) Ab))))), ?_⟩
 obtain ⟨x, y, p, q, m, n, rfl, ⟨r, rfl, hr⟩, ⟨u, rfl, hu⟩, hp, hq, hmn, k⟩ := h
 refine ⟨_, rfl, r, _, _, _, rfl, rfl, hr, rfl, _, rfl, u, _, _, _, rfl, rfl, hu, rfl, _, _, rfl, rfl, B0.bd hp.1 hq.1, ?_⟩
 refine ⟨_, rfl, r, _, _, _, rfl, rfl, hr, rfl, _, rfl, u, _, _, _, rfl, rfl, hu, rfl, _, _, rfl, rfl, B0.bd hp.2 hq.2, ?_⟩
 refine ⟨_, _, rfl, TH (Nm.den_ne p) (Nm.den_ne q), fun z hz => ?_⟩
 have e := k z hz
 try dsimp only at e
 rw [← Nm.times_eq] at e
 exact e
theorem Bg : Ao ["curve", "a", "b", "under", "line", "bottom", "tops", "scale", "top"] ["curve", "a", "b"] (Ae (top 23)) := ⟨rfl, rfl, rfl, by decide +kernel, rfl, by decide +kernel, by decide +kernel⟩
theorem HJ {f : Addr} {fd : FuncData} (F : Fun K "with_line" "with_line" (top 23) f fd) (Qt : Fd P w K mg base 34 "bottom_of" ["numbers"] (ES K)) (Qv : Fd P w K mg base 33 "tops_over" ["numbers", "bottom"] (DY K)) (Qx : Fd P w K mg base 35 "curve_over" ["tops", "bottom"] (BH K)) (QH : Fd P w K mg base 33 "whole_product" ["first", "second"] (Fs K)) (QC : mg "reversed" = none) (hT : P.given.tree = none) :
 AH P w K mg base CX0 36 f fd ["curve", "a", "b"] (Jx K) := by
 refine F.ok Bg (fun vs H Q E h => ?_) (fun cdv A outer s H vs Q E hr h => ?_)
 ·obtain ⟨_, _, _, _, _, _, _, rfl, _⟩ := h; rfl
 refine ⟨_, (Ad (K := K) (Aj (i := 3) Bg.nd rfl (Or.inr rfl) (Ak Qt hr rfl (A0 (AS (A0 (pv 2) (A0 (pv 1) Ab))) Ab)))
  (Ad (K := K) (Aj (i := 4) Bg.nd rfl (Or.inl rfl) (Ak Qv hr rfl (A0 (AS (A0 (pv 2) (A0 (pv 1) Ab))) (A0 (pv 3) Ab))))
  (Ad (K := K) (Aj (i := 5) Bg.nd rfl (Or.inl rfl) (Ak Qt hr rfl (A0 (pv 0) Ab)))
  (Ad (K := K) (Aj (i := 6) Bg.nd rfl (Or.inl rfl) (AS Ab))
  (Ad (K := K) (Aj (i := 7) Bg.nd rfl (Or.inl rfl) Ac)
  (Ad (K := K) (Bh (K := K) PassesOwn.never rfl (NY K rfl QC (Ak Qv hr rfl (A0 (pv 0) (A0 (pv 5) Ab)))) (Ay (i := 8) Bg.nd rfl (Or.inl rfl)) (Ad (K := K) (Aj (i := 6) Bg.nd rfl (Or.inl rfl) (Ak QH hr rfl (A0 (pv 6) (A0 (pv 4) Ab))))
  (Ad (K := K) (EB (Ah AK (Ai (ixL K) (pv 6) Ac (fun u v => rfl)) (Ah Ap (pv 8) (pv 7))) (EC (pv 6) Ac CT))
  (Ag (Aj (i := 7) Bg.nd rfl (Or.inl rfl) (Ah Ap (pv 7) (pv 3)))) (by rfl)) (by rfl)) (by rfl))
  (Ag (As (Ak Qx hr rfl (A0 (Cj rfl (N := ["top", "under"]) (nt := 1) (js := [3]) (Ba.look (NX := ["curve", "a", "b", "under", "line", "bottom", "tops", "scale", "top"]) (sc := Ae (top 23)) rfl rfl (by decide +kernel)) (piS K (pv 6)) (fun u1 u2 u3 u4 u5 => (Ay (i := 0) (show List.Nodup (["top", "under"] : List Str) from by decide +kernel) rfl (Or.inl rfl))) (AD (by decide)) (fun u1 u2 u3 u4 u5 => Bp) (fun u1 u2 u3 u4 u5 => (Ah Ap (pv 0) (pv 1)))) (A0 (Ah Ap (pv 5) (pv 7)) Ab))))) (by rfl)) (by rfl)) (by rfl)) (by rfl)) (by rfl)) (by rfl)), ?_⟩
 obtain ⟨r, ra, rb, qs, a, b, n, rfl, ⟨xs, hS, hn⟩, ⟨_, era, ha⟩, ⟨_, erb, hb⟩, hB, hba, hbb, hn1, h100, q⟩ := h
 cases era
 cases erb
 have hl := hn.length
 have P2 : 2 ≤ sizeLine := by decide
 have bB : ∀ c ∈ [b, a], RB n c := fun c hc => by
  rcases SA.mp hc with z | z
  ·rw [z]; exact hbb
  ·rw [Ub.mp z]; exact hba
 have hnq : n * qs.length ≤ 240000 * 6 := Vo hn1 h100
 refine ⟨_, rfl, _, rfl, P2, fun l1 h1 => ?_⟩
 have nl1 : Au K (upd H l1 (.lst [.ref rb, .ref ra])) [.ref rb, .ref ra] [b, a] := .cons ⟨rb, rfl, SqT.same hb (Af.new h1)⟩ (.cons ⟨ra, rfl, SqT.same ha (Af.new h1)⟩ .nil)
 refine ⟨true, l1, _, [b, a], n, rfl, SqL.of Aa, nl1, (fun c hc => (bB c hc).2), by show n * 4 ≤ _; lia, fun U hU0 hdU hbU => ?_⟩
 have e2n : n * ([b, a] : List Rat).length + 1 = n * 2 + 1 := rfl
 rw [e2n] at hbU
 refine ⟨_, rfl, _, rfl, P2, fun l2 h2 => ?_⟩
 have nl2 : Au K (upd (upd H l1 (.lst [.ref rb, .ref ra])) l2 (.lst [.ref rb, .ref ra])) [.ref rb, .ref ra] [b, a] := Au.same nl1 (Af.new h2)
 refine ⟨_, rfl, true, l2, _, [b, a], U, n * 2 + 1, n, rfl, SqL.of Aa, nl2, hbU, (fun c hc => (bB c hc).1), by lia, (show 2 ≤ 1000 by decide), fun ll h3 => ?_⟩
 have s3 : Af H (upd (upd (upd H l1 (.lst [.ref rb, .ref ra])) l2 (.lst [.ref rb, .ref ra])) ll (.lst (([b, a].map (Ar U)).map V.int))) := ((Af.new h1).trans (Af.new h2)).trans (Af.new h3)
 have ell : (upd (upd (upd H l1 (.lst [.ref rb, .ref ra])) l2 (.lst [.ref rb, .ref ra])) ll (.lst (([b, a].map (Ar U)).map V.int))) ll = some (.lst (([b, a].map (Ar U)).map V.int)) := Aa
 generalize upd (upd (upd H l1 (.lst [.ref rb, .ref ra])) l2 (.lst [.ref rb, .ref ra])) ll (.lst (([b, a].map (Ar U)).map V.int)) = H3 at s3 ell ⊢
 have hlin : ∀ x, Cv.evI ([b, a].map (Ar U)) x = (a * x + b) * (U : Rat) := fun x => by
  show ((Ar U b : Int) : Rat) + x * (((Ar U a : Int) : Rat) + x * 0) = _
  rw [CP (hdU b Sy), CP (hdU a (Sz _ Sy))]
  grind
 have blin : ∀ t ∈ [b, a].map (Ar U), Bd (n * 3 + 1) t := fun t ht => by
  obtain ⟨c, hc, rfl⟩ := (UA.mp ht)
  exact ((bB c hc).1.mul (hbU.fdiv (y := c.den))).mono (by lia)
 refine ⟨_, rfl, false, r, xs, qs, n, rfl, SqT.same hS s3, Au.same hn s3, (fun c hc => (hB c hc).2), by rw [Ur]; lia, fun B hB0 hdv hbB => ?_⟩
 refine ⟨(by decide : 0 ≤ sizeLine), fun tp h4 => ?_⟩
 have s4 : Af H (upd H3 tp (.lst [])) := s3.trans (Af.new h4)
 refine ⟨_, rfl, _, rfl, false, r, xs, qs, B, n * qs.length + 1, n, rfl, SqT.same hS s4, Au.same hn s4, hbB, (fun c hc => (hB c hc).1), by lia, by lia, fun l h5 => ⟨_, rfl, l, _, rfl, SqL.of Aa, ?_⟩⟩
 have hHl : H l = none := by
  cases z : H l with
  | none => rfl
  | some u => rw [s4 l u z] at h5; cases h5
 have s5 : Af H (upd (upd H3 tp (.lst [])) l (.lst ((qs.map (Ar B)).map V.int))) := s4.trans (Af.new h5)
 have ell5 := (Af.new (o := .lst ((qs.map (Ar B)).map V.int)) h5) _ _ ((Af.new (o := .lst []) h4) _ _ ell)
 have etp5 := (Af.new (o := .lst ((qs.map (Ar B)).map V.int)) h5) _ _ (Aa (H := H3) (a := tp) (o := .lst []))
 have el5 : (upd (upd H3 tp (.lst [])) l (.lst ((qs.map (Ar B)).map V.int))) l = some (.lst ((qs.map (Ar B)).map V.int)) := Aa
 have tl : (List.map V.int (qs.map (Ar B))).length = qs.length := by rw [T7, T7]
 have tB : ∀ c ∈ qs, Bd (n * qs.length + n + 1) (Ar B c) := fun c hc => ((hB c hc).1.mul (hbB.fdiv (y := c.den))).mono (by lia)
 generalize hH5 : upd (upd H3 tp (.lst [])) l (.lst ((qs.map (Ar B)).map V.int)) = H5 at s5 ell5 etp5 el5 ⊢
 refine Ko (L11 H5 r ra rb U ll B qs a b n fun H5 r ra rb U ll B qs a b n i σ H' => Af H5 H' ∧ ∃ (tp : Addr) (ts : List Int) (s : Int) (z : Option V), σ = [some (.ref r), some (.ref ra), some (.ref rb), some (.int U), some (.ref ll), some (.int B), some (.ref tp), some (.int s), z] ∧ H' tp = some (.lst (ts.map V.int)) ∧ ts.length = i ∧ s ≠ 0 ∧
  (∀ x, Cv.evI ts x * (U : Rat) = Cv.ev (((qs.map (Ar B)).map fun t : Int => (t : Rat)).drop (qs.length - i)) (a * x + b) * (s : Rat)) ∧ (∀ t ∈ ts, Bd (3 * (n * i) + 22 * i + n * qs.length + 3 * n + 10) t) ∧ Bd (2 * (n * i) + i + 1) s)
  ⟨Af.refl _, tp, [], 1, none, rfl, etp5, rfl, by decide, fun x => ?_, (fun _ h => nomatch h), ?_⟩ (fun i σ H' _ p => SqL.of (p.1 _ _ el5)) ?_ ?_
 ·rw [Um, UE (by rw [T7, T7]; exact SK _)]
  show (0 : Rat) * _ = 0 * _
  grind
 ·exact (show Bd 1 1 by unfold Bd; decide).mono (by lia)
 ·rintro i v σ H' hi hv hR1
  refine BB hR1 fun sm hz142 => ?_
  refine Ie hz142 fun tp' ts s z hz142' => ?_
  clear hz142
  refine MQ hz142' fun hq141 etp htl hs0 he hbt hbs => ?_
  clear hz142'
  obtain rfl := hq141
  try clear hR1
  rw [tl] at hi hv
  have hj : qs.length - 1 - i < qs.length := by lia
  rw [T3, T3, Uc hj] at hv
  cases hv
  have hcm : qs[qs.length - 1 - i] ∈ qs := Ud hj
  have bt := tB _ hcm
  have hni : n * i ≤ 240000 * 6 := Vo hn1 (by lia)
  have hni1 : n * (i + 1) = n * i + n := by rw [Ur, VF]
  refine ⟨_, rfl, _, rfl, tp', ll, ts, [b, a].map (Ar U), 3 * (n * i) + 22 * i + n * qs.length + 3 * n + 10, n * 3 + 1, rfl, SqL.of etp, SqL.of (sm _ _ ell5), (show 1 ≤ 2 by decide), by lia, (show 2 ≤ 1000 by decide), hbt, blin, by lia, fun pr H6 ps s6 hpr epr hpl hpe hpb => ?_⟩
  have hpl' : ps.length = i + 1 := by rw [hpl, htl]; rfl
  have h0 : ps[0]? = some ps[0] := Uc (by lia)
  have mts : B0 (Ar B qs[qs.length - 1 - i]) s := B0.bd bt hbs (by lia)
  refine ⟨_, rfl, pr, _, _, _, rfl, rfl, SqL.of epr, CN h0 rfl, _, rfl, _, rfl, _, _, rfl, rfl, mts, _, _, rfl, rfl, ?_⟩
  refine ⟨_, rfl, pr, _, _, 0, rfl, rfl, epr, En (by rw [T7]; lia) rfl, ?_⟩
  refine ⟨_, rfl, _, rfl, _, _, rfl, rfl, B0.bd hbs hbU (by lia), ?_⟩
  have sm2 : Af H5 (upd H6 pr (.lst ((ps.map V.int).set 0 (.int (ps[0] + Ar B qs[qs.length - 1 - i] * s))))) := fun bb u zz => by
   have z1 := sm bb u zz
   rw [Aq (Aw z1 hpr)]
   exact s6 bb u z1
  refine ⟨sm2, pr, ps.set 0 (ps[0] + Ar B qs[qs.length - 1 - i] * s), s * U, _, rfl, ?_, by rw [Ti]; exact hpl', TH hs0 (by lia), fun x => ?_, fun t ht => ?_, ?_⟩
  ·rw [Aa, TV]
  ·rw [Cv.evI_set x ps 0 _ _ h0, hpe x, hlin x, TM]
   have hd : qs.length - i = (qs.length - (i + 1)) + 1 := by lia
   have hlen : qs.length - (i + 1) < ((qs.map (Ar B)).map fun t : Int => (t : Rat)).length := by rw [T7, T7]; lia
   rw [Uw hlen, ← hd]
   have hg : ((qs.map (Ar B)).map fun t : Int => (t : Rat))[qs.length - (i + 1)] = ((Ar B qs[qs.length - 1 - i] : Int) : Rat) := by
    rw [VB, VB]
    congr 3
    lia
   rw [hg]
   have h6 := he x
   show (Cv.evI ts x * ((a * x + b) * (U : Rat)) + ((Ar B qs[qs.length - 1 - i] * s : Int) : Rat) * 1) * (U : Rat) = (_ + (a * x + b) * _) * ((s * U : Int) : Rat)
   rw [TJ, TJ]
   grind
  ·rcases VG ht with zz | zz
   ·exact (hpb t zz).mono (by lia)
   ·subst zz
    have b1 := (hpb _ (Ud (by lia : 0 < ps.length))).mono (n := 3 * (n * i) + 22 * i + n * qs.length + 3 * n + 10 + (n * 3 + 1) + 20) (by lia)
    have b2 := (bt.mul hbs).mono (n := 3 * (n * i) + 22 * i + n * qs.length + 3 * n + 10 + (n * 3 + 1) + 20) (by lia)
    exact (Bd.add b1 b2).mono (by lia)
  ·exact (hbs.mul hbU).mono (by lia)
 ·rintro σ H' hR2
  refine BB hR2 fun sm hz144 => ?_
  refine Ie hz144 fun tp' ts s z hz144' => ?_
  clear hz144
  refine MQ hz144' fun hq143 etp htl hs0 he hbt hbs => ?_
  clear hz144'
  obtain rfl := hq143
  try clear hR2
  rw [tl] at htl he hbs hbt
  refine JQ (b := true) (a := tp') (xs := ts.map V.int) rfl (fun i zs H2 => H2 = H' ∧ zs = ((ts.take i).map (· * U)).map V.int) ⟨rfl, rfl⟩ (fun i zs H2 hi p => ⟨by rw [p.1]; exact SqL.of etp, by rw [p.2, T7, T7, SX]; rw [T7] at hi; lia⟩) (by rw [T7, htl]; exact Sw (AN (by lia))) ?_ ?_
  ·rintro i v zs H2 hv ⟨rfl, rfl⟩
   rw [T3] at hv
   cases et : ts[i]? with
   | none => rw [et] at hv; cases hv
   | some t =>
     rw [et] at hv
     cases hv
     refine ⟨_, rfl, _, rfl, _, _, rfl, rfl, B0.bd (hbt t (T5 et)) hbU (by lia), rfl, ?_⟩
     rw [TX, et, TY, TY]
     rfl
  rintro zs H2 ⟨rfl, rfl⟩ p hp
  rw [T7, TZ]
  have hb0 : B * s ≠ 0 := TH (by lia) hs0
  refine ⟨_, rfl, _, rfl, _, _, rfl, rfl, B0.bd hbB hbs (by lia), ?_⟩
  refine ⟨p, ts.map (· * U), B * s, rfl, SqL.of Aa, hb0, by rw [T7]; lia, fun u H6 s6 c6 => ?_⟩
  refine q u H6 _ ((s5.trans (sm.trans (Af.new hp))).trans s6) c6 (by have := Cv.strip_length ((ts.map (· * U)).map fun t => Tv t (B * s)); rw [T7, T7] at this; lia) (AI _) (fun c hc => ?_) fun x => ?_
  ·have hc' := Cv.strip_mem _ c hc
   obtain ⟨t', ht', rfl⟩ := (UA.mp hc')
   obtain ⟨t, ht, rfl⟩ := (UA.mp ht')
   exact RB.div (m := 0) (((hbt t ht).mul hbU).mono (by lia)) ((hbB.mul hbs).mono (by lia)) hb0
  rw [Cv.ev_strip]
  have e : ((ts.map (· * U)).map fun t => Tv t (B * s)) = (ts.map fun t : Int => (t : Rat)).map (· * ((U : Rat) / ((B * s : Int) : Rat))) := by
   rw [Vi, Vi]
   refine Vj fun t _ => ?_
   show Tv (t * U) (B * s) = (t : Rat) * ((U : Rat) / ((B * s : Int) : Rat))
   rw [TC, TJ, Vv, Vv]
   grind
  rw [e, Cv.ev_scale]
  have h7 := he x
  rw [UC, Ul, DI hdv] at h7
  show Cv.evI ts x * _ = _
  have hne : ((B * s : Int) : Rat) ≠ 0 := Nm.cast_ne hb0
  have hc : ((B * s : Int) : Rat) = (B : Rat) * (s : Rat) := TJ ..
  have h8 : ((B * s : Int) : Rat) * ((B * s : Int) : Rat)⁻¹ = 1 := Ut _ hne
  rw [Vv, ← Us, h7, Us (Cv.ev qs (a * x + b)), ← hc, Us, h8, Uu]
theorem C4 : Ao ["_law_script", "_law_pen_here", "_law_places_here", "_law_many", "_law_heights", "_law_width", "_law_found", "_law_turned", "_law_a", "_law_b", "_law_other", "_law_c", "_law_turn"] ["_law_script"] (Ae (top 68)) := ⟨rfl, rfl, rfl, by decide +kernel, rfl, by decide +kernel, by decide +kernel⟩
theorem OE {f : Addr} {fd : FuncData} (F : Fun K "law" "law" (top 68) f fd) (RG : Fd P w K mg base 33 "_law_pen" ["_law_script", "_law_k"] (LO K)) (RH : Fd P w K mg base 35 "_law_places" ["_law_pen_here", "_law_many"] (Ey K 8)) (QD : Fd P w K mg base 39 "quotient_through" ["places", "heights", "width"] (LM K 225)) (QY : Fd P w K mg base 35 "_law_some" ["_law_pen_here"] (Jt K)) (QF : Fd P w K mg base 34 "_law_number" ["_law_pen_here"] (IA 8)) (Qu : Fd P w K mg base 33 "_law_draw" ["_law_pen_here", "_law_many"] (Hq)) (RI : Fd P w K mg base 35 "_law_rising" ["_law_some_here"] (LL K)) (Ra : Fd P w K mg base 37 "_law_alike" ["_law_one", "_law_other"] (Hu K)) (RJ : Fd P w K mg base 39 "curve_through" ["points"] (Js K)) (RK : Fd P w K mg base 34 "_law_back" ["_law_number_here"] (JA K)) (QM : Fd P w K mg base 34 "_law_plus" ["_law_a", "_law_b"] (CS K (· + ·))) (QZ : Fd P w K mg base 34 "_law_times" ["_law_a", "_law_b"] (CS K (· * ·))) (QO : Fd P w K mg base 36 "scaled" ["curve", "number"] (E7 K)) (Rb : Fd P w K mg base 36 "with_line" ["curve", "a", "b"] (Jx K)) (Qr : mg "len" = none) (QB : mg "tuple" = none) (Qw : mg "zip" = none) (hT : P.given.tree = none) :
 AH P w K mg base CX0 40 f fd ["_law_script"] (Fu K 225) := by
 refine F.ok C4 (fun vs H Q E h => ?_) (fun cdv A outer s H vs Q E hr h => ?_)
 ·obtain ⟨_, _, rfl, _⟩ := h; rfl
 refine ⟨_, (Ad (K := K) (Aj (i := 1) C4.nd rfl (Or.inr rfl) (Ak RG hr rfl (A0 (pv 0) (A0 Ac Ab))))
  (Ad (K := K) (Aj (i := 2) C4.nd rfl (Or.inl rfl) (Ak RH hr rfl (A0 (pv 1) (A0 (Ah AK Ac (Ak Qu hr rfl (A0 (pv 1) (A0 Ac Ab)))) Ab))))
  (Ad (K := K) (Aj (i := 3) C4.nd rfl (Or.inl rfl) (Av (BV K) rfl Qr AJ (A0 (pv 2) Ab)))
  (Ad (K := K) (M5 (i := 4) rfl C4.nd rfl rfl (N := ["_law_x", "_law_pen_here"]) (nt := 1) (js := [1]) (Ba.look (NX := ["_law_script", "_law_pen_here", "_law_places_here", "_law_many", "_law_heights", "_law_width", "_law_found", "_law_turned", "_law_a", "_law_b", "_law_other", "_law_c", "_law_turn"]) (sc := Ae (top 68)) rfl rfl (by decide +kernel)) (piL K (pv 2)) (fun u1 u2 u3 u4 u5 => (Ay (i := 0) (show List.Nodup (["_law_x", "_law_pen_here"] : List Str) from by decide +kernel) rfl (Or.inl rfl))) (AD (by decide)) (fun u1 u2 u3 u4 u5 => Bp) (fun u1 u2 u3 u4 u5 => (Ai (ixL K) (AS (A0 (Ak QY hr rfl (A0 (pv 1) Ab)) (A0 (AO (A0 (Ah AK Ac (Ak Qu hr rfl (A0 (pv 1) (A0 Ac Ab)))) (A0 Ac Ab))) Ab))) (Ak Qu hr rfl (A0 (pv 1) (A0 Ac Ab))) (fun u v => rfl))) rfl)
  (Ad (K := K) (Bj (K := K) (AA (neD K hr.units) (Ak QD hr rfl (A0 (pv 2) (A0 (pv 4) (A0 (pv 3) Ab)))) (AO (A0 (Ak RJ hr rfl (A0 (KP K rfl rfl QB rfl Qw (A0 (pv 2) (A0 (pv 4) Ab))) Ab)) (A0 (AO (A0 (AO (A0 Ac (A0 Ac Ab))) Ab)) (A0 (AS Ab) Ab)))) (AB _)) (Ag (As IJ)) AY (by rfl) (by rfl))
  (Ad (K := K) (Aj (i := 5) C4.nd rfl (Or.inl rfl) (Ah AK Ac (Ak Qu hr rfl (A0 (pv 1) (A0 (pv 3) Ab)))))
  (Ad (K := K) (Aj (i := 6) C4.nd rfl (Or.inl rfl) (Ak QD hr rfl (A0 (pv 2) (A0 (pv 4) (A0 (pv 5) Ab)))))
  (Ad (K := K) (Aj (i := 7) C4.nd rfl (Or.inl rfl) (Ak QD hr rfl (A0 (pv 2) (A0 (Cj rfl (N := ["_law_y"]) (nt := 1) (js := []) (Ba.look (NX := ["_law_script", "_law_pen_here", "_law_places_here", "_law_many", "_law_heights", "_law_width", "_law_found", "_law_turned", "_law_a", "_law_b", "_law_other", "_law_c", "_law_turn"]) (sc := Ae (top 68)) rfl rfl (by decide +kernel)) (piL K (pv 4)) (fun u1 u2 u3 u4 u5 => (Ay (i := 0) (show List.Nodup (["_law_y"] : List Str) from by decide +kernel) rfl (Or.inl rfl))) (AD (by decide)) (fun u1 u2 u3 u4 u5 => Bp) (fun u1 u2 u3 u4 u5 => (Ak RK hr rfl (A0 (pv 0) Ab)))) (A0 (Ah AK (Ah AX (pv 3) (pv 5)) Ac) Ab)))))
  (Ad (K := K) (Bj (K := K) (PW.pt (M0 (AA (neD K hr.units) (Ai (ixT K) (pv 7) Ac (fun u v => rfl)) (Ai (ixT K) (pv 6) Ac (fun u v => rfl)) (AB _)) (JB (HH (HE (Ak Ra hr rfl (A0 (AO (A0 (Ai (ixT K) (pv 7) Ac (fun u v => rfl)) (A0 (Ai (ixT K) (pv 7) Ac (fun u v => rfl)) (A0 (Ai (ixT K) (pv 7) Ac (fun u v => rfl)) Ab)))) (A0 (pv 6) Ab)))))))) (Ag (As IJ)) AY (by rfl) (by rfl))
  (Ad (K := K) (Aj (i := 8) C4.nd rfl (Or.inr rfl) (Ak QY hr rfl (A0 (pv 1) Ab)))
  (Ad (K := K) (Aj (i := 9) C4.nd rfl (Or.inr rfl) (Ak QF hr rfl (A0 (pv 1) Ab)))
  (Ad (K := K) (Aj (i := 10) C4.nd rfl (Or.inl rfl) (Ak QD hr rfl (A0 (Cj rfl (N := ["_law_x", "_law_a", "_law_b"]) (nt := 1) (js := [8, 9]) (Ba.look (NX := ["_law_script", "_law_pen_here", "_law_places_here", "_law_many", "_law_heights", "_law_width", "_law_found", "_law_turned", "_law_a", "_law_b", "_law_other", "_law_c", "_law_turn"]) (sc := Ae (top 68)) rfl rfl (by decide +kernel)) (piL K (pv 2)) (fun u1 u2 u3 u4 u5 => (Ay (i := 0) (show List.Nodup (["_law_x", "_law_a", "_law_b"] : List Str) from by decide +kernel) rfl (Or.inl rfl))) (AD (by decide)) (fun u1 u2 u3 u4 u5 => Bp) (fun u1 u2 u3 u4 u5 => (Ak QM hr rfl (A0 (Ak QZ hr rfl (A0 (pv 1) (A0 (pv 0) Ab))) (A0 (pv 2) Ab))))) (A0 (pv 4) (A0 (pv 5) Ab)))))
  (Ad (K := K) (Bj (K := K) (AA (neD K hr.units) (Ai (ixT K) (pv 10) Ac (fun u v => rfl)) (Ak RI hr rfl (A0 (Cj rfl (N := ["_law_x", "_law_a", "_law_b"]) (nt := 1) (js := [8, 9]) (Ba.look (NX := ["_law_script", "_law_pen_here", "_law_places_here", "_law_many", "_law_heights", "_law_width", "_law_found", "_law_turned", "_law_a", "_law_b", "_law_other", "_law_c", "_law_turn"]) (sc := Ae (top 68)) rfl rfl (by decide +kernel)) (piL K (Ai (ixT K) (pv 6) Ac (fun u v => rfl))) (fun u1 u2 u3 u4 u5 => (Ay (i := 0) (show List.Nodup (["_law_x", "_law_a", "_law_b"] : List Str) from by decide +kernel) rfl (Or.inl rfl))) (AD (by decide)) (fun u1 u2 u3 u4 u5 => Bp) (fun u1 u2 u3 u4 u5 => (Ak QM hr rfl (A0 (Ak QZ hr rfl (A0 (pv 1) (A0 (pv 0) Ab))) (A0 (pv 2) Ab))))) Ab)) (AB _)) (Ag (As IJ)) AY (by rfl) (by rfl))
  (Ad (K := K) (Bj (K := K) (HH (HE (Ak Ra hr rfl (A0 (AO (A0 (Ak Rb hr rfl (A0 (Ai (ixT K) (pv 10) Ac (fun u v => rfl)) (A0 (pv 8) (A0 (pv 9) Ab)))) (A0 (Ak Rb hr rfl (A0 (Ai (ixT K) (pv 10) Ac (fun u v => rfl)) (A0 (pv 8) (A0 (pv 9) Ab)))) (A0 (Ai (ixT K) (pv 10) Ac (fun u v => rfl)) Ab)))) (A0 (pv 6) Ab))))) (Ag (As IJ)) AY (by rfl) (by rfl))
  (Ad (K := K) (Aj (i := 11) C4.nd rfl (Or.inr rfl) (Ak QY hr rfl (A0 (pv 1) Ab)))
  (Ad (K := K) (Aj (i := 10) C4.nd rfl (Or.inl rfl) (Ak QD hr rfl (A0 (pv 2) (A0 (Cj rfl (N := ["_law_y", "_law_c"]) (nt := 1) (js := [11]) (Ba.look (NX := ["_law_script", "_law_pen_here", "_law_places_here", "_law_many", "_law_heights", "_law_width", "_law_found", "_law_turned", "_law_a", "_law_b", "_law_other", "_law_c", "_law_turn"]) (sc := Ae (top 68)) rfl rfl (by decide +kernel)) (piL K (pv 4)) (fun u1 u2 u3 u4 u5 => (Ay (i := 0) (show List.Nodup (["_law_y", "_law_c"] : List Str) from by decide +kernel) rfl (Or.inl rfl))) (AD (by decide)) (fun u1 u2 u3 u4 u5 => Bp) (fun u1 u2 u3 u4 u5 => (Ak QZ hr rfl (A0 (pv 1) (A0 (pv 0) Ab))))) (A0 (pv 5) Ab)))))
  (Ad (K := K) (Bj (K := K) (AA (neD K hr.units) (pv 10) (AO (A0 (Ak QO hr rfl (A0 (Ai (ixT K) (pv 6) Ac (fun u v => rfl)) (A0 (pv 11) Ab))) (A0 (Ai (ixT K) (pv 6) Ac (fun u v => rfl)) (A0 (Ai (ixT K) (pv 6) Ac (fun u v => rfl)) Ab)))) (AB _)) (Ag (As IJ)) AY (by rfl) (by rfl))
  (Ad (K := K) (Aj (i := 12) C4.nd rfl (Or.inl rfl) (Ak Qu hr rfl (A0 (pv 1) (A0 (pv 3) Ab))))
  (Ag (As (Df (eqD K hr.units) (Ak QD hr rfl (A0 (Ah Dz (BW (slL K) (pv 2) (Cd (pv 12)) Ce) (BW (slL K) (pv 2) Ce (Cd (pv 12)))) (A0 (Ah Dz (BW (slL K) (pv 4) (Cd (pv 12)) Ce) (BW (slL K) (pv 4) Ce (Cd (pv 12)))) (A0 (pv 5) Ab)))) (pv 6) (AB _)))) (by rfl)) (by rfl)) (by rfl)) (by rfl)) (by rfl)) (by rfl)) (by rfl)) (by rfl)) (by rfl)) (by rfl)) (by rfl)) (by rfl)) (by rfl)) (by rfl)) (by rfl)) (by rfl)) (by rfl)) (by rfl)), ?_⟩
 obtain ⟨a0, ns, rfl, hS, h63, hTb, q⟩ := h
 have P0 : 0 ≤ sizeLine := by decide
 have P1 : 1 ≤ sizeLine := by decide
 have P2 : 2 ≤ sizeLine := by decide
 have P3 : 3 ≤ sizeLine := by decide
 have P60 : 60 ≤ sizeLine := by decide
 refine ⟨_, rfl, a0, ns, 0, rfl, hS, h63, by decide, by decide, fun p c0 c1 hp => ?_⟩
 have pn : Pen (upd H p (.lst [.int c0, .int c1, .int 0])) p := .put
 have tb : (upd H p (.lst [.int c0, .int c1, .int 0])) 225 = some (.tbl #[]) := (Af.new hp) _ _ hTb
 generalize upd H p (.lst [.int c0, .int c1, .int 0]) = H1 at pn tb ⊢
 clear hS hp hTb
 refine ⟨_, rfl, _, rfl, p, 6, rfl, pn, by decide, by decide, fun d H5 d0 d1 o5 p5 => ⟨_, _, rfl, rfl, p, _, rfl, p5, by lia, by lia, fun l H6 zs qs m6 p6 hl el hz hql hnd hb => ?_⟩⟩
 have lp : l ≠ p := p5.ne' hl
 have tb := LF tb pn ((CD.mv o5).trans m6)
 have hzl := hz.length
 obtain ⟨n, hqn, hn1, hn6⟩ : ∃ n, qs.length = n ∧ 1 ≤ n ∧ n ≤ 6 := ⟨_, rfl, by lia, by lia⟩
 clear hl m6 p5 o5 hql
 refine ⟨_, rfl, l, zs, rfl, .inl (SqL.of el), ?_⟩
 rw [hzl, hqn]
 refine C6 ⟨_, rfl, l, rfl, ⟨_, SqL.of el⟩, ?_⟩
 refine Cw (xs := zs) (L3 p H6 K fun p H6 K i ys G => Mv p H6 G ∧ Pen G p ∧ ys.length = i ∧ ∃ hs, Au K G ys hs ∧ ∀ c ∈ hs, RB 8 c ∧ c ≠ 0) ⟨Mv.refl _ _, p6, rfl, [], .nil, (fun _ h => nomatch h)⟩ (fun i ys G _ h => ⟨SqL.of (h.1 _ _ lp el), h.2.2.1⟩) (Sv (show zs.length ≤ 60 by lia) P60) ?_ ?_
 ·rintro i v ys G hv hR1
  obtain ⟨mg, pg, hyl, hs, hys, hsb⟩ := hR1
  try clear hR1
  refine ⟨_, rfl, p, rfl, pg, fun y r G1 m1 p1 hr h0 b8 => ?_⟩
  refine ⟨_, rfl, p, 2, rfl, p1, by decide, by decide, fun e G2 e0 e1 o2 p2 => ⟨_, _, rfl, rfl, P2, fun tt ht => ⟨P2, fun lx hlx => ?_⟩⟩⟩
  have m2 := CD.mv o2
  have n3 := Af.new (o := .tup [.int (1 + e), .int 1]) ht
  have n4 := Af.new (o := .lst [.ref r, .ref tt]) hlx
  have p4 := (p2.sm n3).sm n4
  have lxp : lx ≠ p := (p2.sm n3).ne' hlx
  have hr2 := m2 _ _ (p1.ne hr (Kb _)) hr
  have hr4 := n4 _ _ (n3 _ _ hr2)
  have ht4 := n4 _ _ (Aa (H := G2) (a := tt) (o := .tup [.int (1 + e), .int 1]))
  have hl4 := Aa (H := upd G2 tt (.tup [.int (1 + e), .int 1])) (a := lx) (o := .lst [.ref r, .ref tt])
  have mv4 : Mv p G (upd (upd G2 tt (.tup [.int (1 + e), .int 1])) lx (.lst [.ref r, .ref tt])) := (m1.trans m2).trans (n3.trans n4).mv
  generalize upd (upd G2 tt (.tup [.int (1 + e), .int 1])) lx (.lst [.ref r, .ref tt]) = G4 at p4 hr4 ht4 hl4 mv4 ⊢
  refine ⟨_, rfl, p, 2, rfl, p4, by decide, by decide, fun b G5 b0 b1 o5 p5 => ?_⟩
  have m5 := CD.mv o5
  obtain ⟨ry, y', hat, ey, hy0, by8⟩ : ∃ ry y', atI [V.ref r, V.ref tt] b = some (.ref ry) ∧ G5 ry = some (nT y') ∧ y' ≠ 0 ∧ RB 8 y' := by
   rcases show b = 0 ∨ b = 1 by lia with rfl | rfl
   ·exact ⟨r, y, rfl, m5 _ _ (p4.ne hr4 (Kb _)) hr4, h0, b8⟩
   ·refine ⟨tt, ((1 + e : Int) : Rat), rfl, by rw [OI]; exact m5 _ _ (p4.ne ht4 fun _ _ _ z => by cases z) ht4, fun z => ?_, ?_⟩
    ·have : (1 + e : Int) = 0 := NJ z
     lia
    ·exact ⟨by rw [Vr]; unfold Bd; lia, by rw [Vs]; unfold Bd; decide⟩
  refine ⟨lx, _, b, _, rfl, rfl, SqL.of (m5 _ _ lxp hl4), hat, ?_⟩
  refine ⟨(mg.trans mv4).trans m5, p5, by simp [hyl], hs ++ [y'], Paired.snoc (Au.mv (Au.mv hys pg mv4) p4 m5) (Az.of ey), fun c hc => ?_⟩
  rcases SD.mp hc with z | z
  ·exact hsb c z
  ·rw [Ub.mp z]; exact ⟨by8, hy0⟩
 rintro ys G hR2 lh hlh
 obtain ⟨mg, pg, hyl, hs, hys, hsb⟩ := hR2
 try clear hR2
 have nh := Af.new (o := .lst ys) hlh
 have st : St5 K 225 p l lh zs ys qs hs (upd G lh (.lst ys)) := ⟨pg.sm nh, lp, pg.ne' hlh, nh _ _ (mg _ _ lp el), AM.same (AM.mv hz p6 mg) nh, Aa, Au.same hys nh, P5 (nh _ _ (LF tb p6 mg))⟩
 have hhn : hs.length = n := by rw [← hys.length, hyl, hzl, hqn]
 generalize upd G lh (.lst ys) = G0 at st ⊢
 have bq : ∀ c ∈ qs, RB 34 c := fun c hc => (hb c hc).mono (by decide)
 have bh : ∀ c ∈ hs, RB 16 c := fun c hc => (hsb c hc).1.mono (by decide)
 have hC : (34 + 1) * (n + 3) + 16 + 2 ≤ 340 := by
  have := VE 35 (show n + 3 ≤ 9 by lia)
  lia
 have hG : (gAS 340 n).2 + 3 * 340 ≤ 20000 := Sv (UX (Eo 340 hn6) _) (by decide)
 clear mg pg hyl hys hlh nh el hz p6 tb
 refine ⟨_, rfl, _, rfl, _, rfl, l, lh, zs, ys, qs, hs, n, n, 34, 16, 340, rfl, SqL.of (st.el), st.nz, SqL.of (st.eh), st.ny, hqn, hhn, hn1, hn6, hnd, hn1, SK _, bq, bh, by decide, by decide, by decide, hC, hG, st.ct, fun t1 a1 b1 l1 G1 r1 r2 N D N2 D2 n1 d1 fs1 ls1 c m1 ct1 hT cn cd gn gd hlast hc0 I hDne evN evD hnl hdl' elf hls hperm1 hpw1 bn1 bd1 => ?_⟩
 have qr1 : QR (n) n (qs) (hs) n1 d1 := ⟨gn, gd, hlast, hnl, hdl', r1, r2, N, D, N2, D2, c, I, hDne, hc0, evN, evD⟩

 have st1 := st.but m1 ct1
 obtain ⟨ed, hat, hleft⟩ := (JW hqn hhn I hc0 gd hlast evN evD)
 rw [hleft] at hperm1
 have efs := hperm1.eq_nil
 subst efs
 subst ed
 refine ⟨_, rfl, _, rfl, l, lh, zs, ys, rfl, SqL.of st1.el, SqL.of st1.eh, by rw [hzl, st1.ny.length, hqn, hhn], fun lt us G2 s2 hno elt hp2 => ?_⟩
 have st2 := st1.same s2
 have hpts := Nl hp2 st2.nz st2.ny
 have hmf : (qs.zip hs).map Prod.fst = qs := Vx (by lia)
 have hzn : (qs.zip hs).length = n := by rw [Vf]; lia
 have h23 : Pf.P2 ((qs.zip hs).map fun p => [p.1, p.2]) := fun ps hps => by
  obtain ⟨pr, _, rfl⟩ := (UA.mp hps)
  rfl
 have hnd' : (((qs.zip hs).map fun p => [p.1, p.2]).map fun ps => ps.getD 0 0).Nodup := by
  rw [Vi]
  show ((qs.zip hs).map Prod.fst).Nodup
  rw [hmf]; exact hnd
 have hbp : ∀ ps ∈ (qs.zip hs).map (fun p => [p.1, p.2]), ∀ c ∈ ps, RB 34 c := fun ps hps c hc => by
  obtain ⟨pr, hpr, rfl⟩ := (UA.mp hps)
  have := SU (show (pr.1, pr.2) ∈ qs.zip hs from hpr)
  rcases SA.mp hc with z | z
  ·rw [z]; exact bq _ this.1
  ·rw [Ub.mp z]; exact (bh _ this.2).mono (by decide)
 refine ⟨lt, us, (qs.zip hs).map fun p => [p.1, p.2], 34, 34, rfl, SqT.of elt, hpts, h23, by rw [T7]; lia, hnd', by rw [LD]; lia, hbp, fun ps hps => hbp ps hps _ (by obtain ⟨pr, _, rfl⟩ := UA.mp hps; exact Sy), by decide, by decide, fun pc G3 cs s3 cC hcl hgc hrb hev => ?_⟩
 have ecs : n1 = cs := AW gn hgc fun x => JH h23 hnd' (by rw [LD, hzn]; exact hnl) hcl (fun ps hps => by
  obtain ⟨pr, hpr, rfl⟩ := (UA.mp hps)
  obtain ⟨i, hi, rfl⟩ := (Vc hpr)
  rw [show (qs.zip hs)[i] = (qs[i]'(by lia), hs[i]'(by lia)) from Vw ..]
  exact hat i (by lia)) (LC h23 hnd' hev) x
 subst ecs
 refine ⟨P2, fun u1 g1 => ⟨P1, fun u2 g2 => ⟨P0, fun u3 g3 => ⟨P3, fun u4 g4 => ?_⟩⟩⟩⟩
 have w1 := Af.new (o := .tup [.int 1, .int 1]) g1
 have w2 := Af.new (o := .tup [.ref u1]) g2
 have w3 := Af.new (o := .lst []) g3
 have w4 := Af.new (o := .tup [.ref pc, .ref u2, .ref u3]) g4
 have w14 := ((w1.trans w2).trans w3).trans w4
 have s14 := (s2.trans s3).trans w14
 refine eq3 (hT.same s14) (cn.same s14) (cd.same s14) (SqL.of (s14 _ _ elf)) (Au.same hls s14) (SqT.of Aa) (cC.same w14) ⟨[.ref u1], SqT.of ((w3.trans w4) _ _ Aa), .cons ⟨u1, rfl, SqT.of (((w2.trans w3).trans w4) _ _ Aa)⟩ .nil⟩ (SqL.of (w4 _ _ Aa)) .nil ?_
 refine ⟨_, rfl, Be rfl ?_⟩
 have st := st2.same (s3.trans w14)
 generalize upd (upd (upd (upd G3 u1 (.tup [.int 1, .int 1])) u2 (.tup [.ref u1])) u3 (.lst [])) u4 (.tup [.ref pc, .ref u2, .ref u3]) = G4 at st ⊢
 clear w1 w2 w3 w4 w14 s14 g1 g2 g3 g4 s2 s3 st1 st2 hT cn cd gn gd hlast hc0 I hDne evN evD hnl hdl' elf hls hperm1 hpw1 bn1 bd1 qr1 hpts hbp h23 hnd' cC hcl hgc hrb hev hp2 elt hno hat hleft m1 ct1
 refine ⟨_, rfl, _, rfl, p, _, rfl, st.pen, by lia, by lia, fun w G5 w0 w1 o5 p5 => ⟨_, _, rfl, rfl, ?_⟩⟩
 obtain ⟨W, hW, hW1, hWn⟩ : ∃ W : Nat, 1 + w = (W : Int) ∧ 1 ≤ W ∧ W ≤ n := ⟨(1 + w).toNat, by lia, by lia, by lia⟩
 rw [hW]
 have st := st.mv (CD.mv o5) p5
 clear o5 p5 hW w0 w1
 refine ⟨_, rfl, _, rfl, _, rfl, l, lh, zs, ys, qs, hs, W, n, 34, 16, 340, rfl, SqL.of (st.el), st.nz, SqL.of (st.eh), st.ny, hqn, hhn, hn1, hn6, hnd, hW1, hWn, bq, bh, by decide, by decide, by decide, hC, hG, st.ct, fun t6 a6 b6 l6 G6 r1 r2 N D N2 D2 n6 d6 fs6 ls6 c m6 ct6 hT cn cd gn gd hlast hc0 I hDne evN evD hnl hdl' elf hls hperm6 hpw6 bn6 bd6 => ?_⟩
 have qr6 : QR (W) n (qs) (hs) n6 d6 := ⟨gn, gd, hlast, hnl, hdl', r1, r2, N, D, N2, D2, c, I, hDne, hc0, evN, evD⟩

 have st := st.but m6 ct6
 have fd : Fd5 K p t6 a6 b6 l6 ls6 n6 d6 fs6 G6 := ⟨hT, cn, cd, elf, hls, HY st.pen elf hls⟩
 clear hT cn cd gn gd hlast hc0 I hDne evN evD hnl hdl' elf hls m6 ct6
 refine ⟨_, rfl, ?_⟩
 refine C6 ⟨_, rfl, lh, rfl, ⟨_, SqL.of st.eh⟩, ?_⟩
 have hyn := st.ny.length
 refine Cw (xs := ys) (L3 G6 K hs fun G6 K hs i us G => Af G6 G ∧ us.length = i ∧ Au K G us ((hs.take i).map fun y => Tv (y.den : Int) y.num)) ⟨Af.refl _, rfl, .nil⟩ (fun i us G _ h => ⟨SqL.of (h.1 _ _ st.eh), h.2.1⟩) (Sv (show ys.length ≤ 60 by lia) P60) ?_ ?_
 ·rintro i v us G hv ⟨sg, hul, hun⟩
  obtain ⟨y, hy, hvy⟩ := (Paired.get st.ny hv)
  obtain ⟨ry, rfl, hry⟩ := (id hvy)
  refine ⟨_, rfl, ry, y, rfl, hvy.same sg, (hsb y (T5 hy)).2, fun pr hpr => ?_⟩
  have n1 := Af.new (o := nT (Tv (y.den : Int) y.num)) hpr
  refine ⟨sg.trans n1, by simp [hul], ?_⟩
  rw [TX, hy, TY]
  exact Paired.snoc (Au.same hun n1) (Az.of Aa)
 rintro us G ⟨sg, hul, hun⟩ lu hlu
 rw [hyn, TZ] at hun
 have n1 := Af.new (o := .lst us) hlu
 have elu := Aa (H := G) (a := lu) (o := .lst us)
 have hun := Au.same hun n1
 have st := st.same (sg.trans n1)
 have fd := fd.same (sg.trans n1)
 generalize upd G lu (.lst us) = G7 at elu hun st fd ⊢
 clear sg n1 hlu
 have hin : ∀ y ∈ hs, y.num ≠ 0 := fun y hy z => (hsb y hy).2 (Vl.mp z)
 have bi : ∀ c ∈ hs.map (fun y => Tv (y.den : Int) y.num), RB 16 c := fun c hc => by
  obtain ⟨y, hy, rfl⟩ := (UA.mp hc)
  exact RB.div (m := 0) (bh y hy).2 (bh y hy).1 (hin y hy)
 refine ⟨_, rfl, _, rfl, _, _, rfl, rfl, _, _, rfl, rfl, ?_⟩
 rw [show (n : Int) - (W : Int) + 1 = ((n + 1 - W : Nat) : Int) by lia]
 refine ⟨l, lu, zs, us, qs, (hs.map fun y => Tv (y.den : Int) y.num), (n + 1 - W), n, 34, 16, 340, rfl, SqL.of (st.el), st.nz, SqL.of (elu), hun, hqn, by rw [T7]; exact hhn, hn1, hn6, hnd, by lia, by lia, bq, bi, by decide, by decide, by decide, hC, hG, st.ct, fun t8 a8 b8 l8 G8 r1 r2 N D N2 D2 n8 d8 fs8 ls8 c m8 ct8 hT cn cd gn gd hlast hc0 I hDne evN evD hnl hdl' elf hls hperm8 hpw8 bn8 bd8 => ?_⟩
 have qr8 : QR ((n + 1 - W)) n (qs) ((hs.map fun y => Tv (y.den : Int) y.num)) n8 d8 := ⟨gn, gd, hlast, hnl, hdl', r1, r2, N, D, N2, D2, c, I, hDne, hc0, evN, evD⟩

 have fd := fd.but st.ct m8
 have st := st.but m8 ct8
 have gd8 : Fd5 K p t8 a8 b8 l8 ls8 n8 d8 fs8 G8 := ⟨hT, cn, cd, elf, hls, HY st.pen elf hls⟩
 clear hT cn cd gn gd hlast hc0 I hDne evN evD hnl hdl' elf hls m8 ct8 hun elu
 obtain ⟨rel8, hl8, hne8⟩ := qr6.turned qr8 hqn hhn (by rw [T7]; exact hhn) hnd hW1 hWn fun i hi => by
  rw [VB]
  exact NH (hsb _ (Ud _)).2
 rw [hl8] at hperm8
 have efs : fs8 = fs6 := Fi hpw8 hpw6 (hperm8.trans hperm6.symm)
 subst efs
 refine ⟨_, rfl, t8, _, _, _, rfl, rfl, gd8.tup, rfl, _, rfl, t6, _, _, _, rfl, rfl, fd.tup, rfl, ?_⟩
 refine eqL (SqL.of gd8.el) gd8.nl (SqL.of fd.el) fd.nl ?_
 refine ⟨_, rfl, Be (by rw [decide_eq_true rfl]; rfl) ?_⟩
 refine ⟨_, rfl, t8, _, _, _, rfl, rfl, gd8.tup, rfl, _, rfl, t8, _, _, _, rfl, rfl, gd8.tup, rfl, _, rfl, t8, _, _, _, rfl, rfl, gd8.tup, rfl, P3, fun u1 g1 => ?_⟩
 have w1 := Af.new (o := .tup [.ref b8, .ref a8, .ref l8]) g1
 have ln6 := qr6.ln
 have ld6 := qr6.ld
 have ln8 := qr8.ln
 have ld8 := qr8.ld
 have l68 : ls8.length = ls6.length := by rw [gd8.nl.length, fd.nl.length]
 refine ⟨_, rfl, u1, t6, b8, a8, l8, a6, b6, l6, d8, n8, n6, d6, ls8, ls6, 240000, 240000, rfl, SqT.of Aa, fd.tup.same w1, gd8.cd.same w1, gd8.cn.same w1, fd.cn.same w1, fd.cd.same w1, bd8, bn8, bn6, bd6, by lia, by lia, by lia, by lia, by lia, hne8, qr6.ne, SqL.of (w1 _ _ gd8.el), SqL.of (w1 _ _ fd.el), l68, fun X => (rel8 X).symm, fun G9 s9 => ?_⟩
 have st := (st.same w1).same s9
 have fd := (fd.same w1).same s9
 clear gd8 w1 s9 g1 hl8 rel8 hne8 qr8 l68 ln8 ld8 hperm8 bn8 bd8
 refine ⟨_, rfl, Be rfl ?_⟩
 refine ⟨_, rfl, p, rfl, st.pen, fun av ra Ga ma pa hra ha0 ba => ?_⟩
 have fd := fd.mv st.pen ma
 have st := st.mv ma pa
 refine ⟨_, rfl, p, rfl, pa, fun bv rb Gb mb pb hrb bbn bbd => ?_⟩
 have hra := mb _ _ (pa.ne hra (Kb _)) hra
 have fd := fd.mv st.pen mb
 have st := st.mv mb pb
 have bb : RB 8 bv := ⟨bbn, bbd⟩
 clear ma mb pa pb
 refine C6 ⟨_, rfl, l, rfl, ⟨_, SqL.of st.el⟩, ?_⟩
 refine Cw (xs := zs) (L4 Gb qs av bv fun Gb qs av bv i us G => Af Gb G ∧ us.length = i ∧ AM G us ((qs.take i).map fun x => av * x + bv)) ⟨Af.refl _, rfl, .nil⟩ (fun i us G _ h => ⟨SqL.of (h.1 _ _ st.el), h.2.1⟩) (Sv (show zs.length ≤ 60 by lia) P60) ?_ ?_
 ·rintro i v us G hv ⟨sg, hul, hun⟩
  obtain ⟨x, hx, rx, rfl, hrx⟩ := (Paired.get st.nz hv)
  have bx := hb x (T5 hx)
  refine ⟨_, rfl, _, rfl, _, _, av, x, 8, 16, rfl, Az.of (sg _ _ hra), Az.of (sg _ _ hrx), ba, bx, by decide, fun p1 h1 => ?_⟩
  have w1 := Af.new (o := nT (av * x)) h1
  refine ⟨_, rfl, _, _, av * x, bv, 24, 8, rfl, Az.of Aa, Az.of (w1 _ _ (sg _ _ hrb)), ba.times bx, bb, by decide, fun p2 h2 => ?_⟩
  have w2 := Af.new (o := nT (av * x + bv)) h2
  have w12 := w1.trans w2
  refine ⟨sg.trans w12, by simp [hul], ?_⟩
  rw [TX, hx, TY]
  exact Paired.snoc (AM.same hun w12) ⟨p2, rfl, Aa⟩
 rintro us G ⟨sg, hul, hun⟩ lu hlu
 rw [hzl, TZ] at hun
 have w1 := Af.new (o := .lst us) hlu
 have elu := Aa (H := G) (a := lu) (o := .lst us)
 have hun := AM.same hun w1
 have hra := w1 _ _ (sg _ _ hra)
 have hrb := w1 _ _ (sg _ _ hrb)
 have st := st.same (sg.trans w1)
 have fd := fd.same (sg.trans w1)
 generalize upd G lu (.lst us) = G10 at elu hun st fd hra hrb ⊢
 clear sg w1 hlu
 have hnd2 : (qs.map fun x => av * x + bv).Nodup := Vg.mpr (hnd.imp fun h e => h (Mn ha0 e))
 have bi : ∀ c ∈ qs.map (fun x => av * x + bv), RB 34 c := fun c hc => by
  obtain ⟨x, hx, rfl⟩ := (UA.mp hc)
  exact (RB.plus (ba.times (hb x hx)) bb).mono (by decide)
 refine ⟨_, rfl, _, rfl, lu, lh, us, ys, (qs.map fun x => av * x + bv), hs, W, n, 34, 16, 340, rfl, SqL.of (elu), hun, SqL.of (st.eh), st.ny, by rw [T7]; exact hqn, hhn, hn1, hn6, hnd2, hW1, hWn, bi, bh, by decide, by decide, by decide, hC, hG, st.ct, fun t11 a11 b11 l11 G11 r1 r2 N D N2 D2 n11 d11 fs11 ls11 c m11 ct11 hT cn cd gn gd hlast hc0 I hDne evN evD hnl hdl' elf hls hperm11 hpw11 bn11 bd11 => ?_⟩
 have qr11 : QR (W) n ((qs.map fun x => av * x + bv)) (hs) n11 d11 := ⟨gn, gd, hlast, hnl, hdl', r1, r2, N, D, N2, D2, c, I, hDne, hc0, evN, evD⟩

 have hra := SqT.but (K := K) (SqT.of hra) st.ct m11
 have hrb := SqT.but (K := K) (SqT.of hrb) st.ct m11
 have fd := fd.but st.ct m11
 have st := st.but m11 ct11
 have og : Fd5 K p t11 a11 b11 l11 ls11 n11 d11 fs11 G11 := ⟨hT, cn, cd, elf, hls, HY st.pen elf hls⟩
 clear hT cn cd gn gd hlast hc0 I hDne evN evD hnl hdl' elf hls m11 ct11 hun elu
 obtain ⟨rel11, hl11⟩ := (qr6.sent ha0 qr11 hqn hhn hnd hnd2 hWn)
 rw [hl11] at hperm11
 refine ⟨_, rfl, t11, _, _, _, rfl, rfl, og.tup, rfl, ?_⟩
 refine C6 ⟨_, rfl, t6, _, _, _, rfl, rfl, fd.tup, rfl, l6, rfl, ⟨_, SqL.of fd.el⟩, ?_⟩
 have hfl := fd.nl.length
 have hfn : fs8.length ≤ 6 := by
  have h1 := hperm6.length_eq
  have h2 : (AV qs hs n6 d6).length ≤ qs.length := by
   unfold AV
   rw [T7]
   refine Sv (List.length_filter_le ..) ?_
   rw [Vf]; lia
  lia
 have hfm : ∀ x ∈ fs8, x ∈ qs := fun x hx => Mp (hperm6.mem_iff.mp hx)
 refine Cw (xs := ls6) (L5 G11 K fs8 av bv fun G11 K fs8 av bv i us G => Af G11 G ∧ us.length = i ∧ Au K G us ((fs8.take i).map fun x => av * x + bv)) ⟨Af.refl _, rfl, .nil⟩ (fun i us G _ h => ⟨SqL.of (h.1 _ _ fd.el), h.2.1⟩) (Sv (show ls6.length ≤ 60 by lia) P60) ?_ ?_
 ·rintro i v us G hv ⟨sg, hul, hun⟩
  obtain ⟨x, hx, hvx⟩ := (Paired.get fd.nl hv)
  have bx := hb x (hfm x (T5 hx))
  refine ⟨_, rfl, _, rfl, _, _, av, x, 8, 16, rfl, ⟨ra, rfl, hra.same sg⟩, hvx.same sg, ba, bx, by decide, fun p1 h1 => ?_⟩
  have w1 := Af.new (o := nT (av * x)) h1
  refine ⟨_, rfl, _, _, av * x, bv, 24, 8, rfl, Az.of Aa, ⟨rb, rfl, (hrb.same sg).same w1⟩, ba.times bx, bb, by decide, fun p2 h2 => ?_⟩
  have w2 := Af.new (o := nT (av * x + bv)) h2
  have w12 := w1.trans w2
  refine ⟨sg.trans w12, by simp [hul], ?_⟩
  rw [TX, hx, TY]
  exact Paired.snoc (Au.same hun w12) (Az.of Aa)
 rintro us G ⟨sg, hul, hun⟩ lu hlu
 rw [hfl, TZ] at hun
 have w1 := Af.new (o := .lst us) hlu
 refine ⟨lu, us, fs8.map fun x => av * x + bv, rfl, SqL.of Aa, Au.same hun w1, by rw [T7]; lia, fun c hc => ?_, fun pr us2 rs2 G12 s12 epr hn2 hperm2 hpw2 => ?_⟩
 ·obtain ⟨x, hx, rfl⟩ := (UA.mp hc)
  exact (RB.plus (ba.times (hb x (hfm x hx))) bb).mono (by decide)
 have s11 := (sg.trans w1).trans s12
 have efs : fs11 = rs2 := Fi hpw11 hpw2 (hperm11.trans ((hperm6.symm.map _).trans hperm2.symm))
 subst efs
 refine eqL (SqL.of (s11 _ _ og.el)) (Au.same og.nl s11) (SqL.of epr) hn2 ?_
 refine ⟨_, rfl, Be (by rw [decide_eq_true rfl]; rfl) ?_⟩
 have og := og.same s11
 have fd := fd.same s11
 have st := st.same s11
 have hra := hra.same s11
 have hrb := hrb.same s11
 clear s11 s12 w1 sg epr hn2 hun hlu
 have ln11 := qr11.ln
 have ld11 := qr11.ld
 have k11 : 240000 * n11.length ≤ 240000 * 6 := VE _ (by lia)
 have j11 : 240000 * d11.length ≤ 240000 * 6 := VE _ (by lia)
 refine ⟨_, rfl, t11, _, _, _, rfl, rfl, og.tup, rfl, _, rfl, _, rfl, a11, ra, rb, n11, av, bv, 240000, rfl, og.cn, ⟨ra, rfl, hra⟩, ⟨rb, rfl, hrb⟩, bn11, ba.mono (by decide), bb.mono (by decide), SK _, by lia, fun q1 G13 c1 s13 cc1 hc1 gc1 bc1 ec1 => ?_⟩
 have og := og.same s13
 have hra := hra.same s13
 have hrb := hrb.same s13
 refine ⟨_, rfl, t11, _, _, _, rfl, rfl, og.tup, rfl, _, rfl, _, rfl, b11, ra, rb, d11, av, bv, 240000, rfl, og.cd, ⟨ra, rfl, hra⟩, ⟨rb, rfl, hrb⟩, bd11, ba.mono (by decide), bb.mono (by decide), SK _, by lia, fun q2 G14 c2 s14 cc2 hc2 gc2 bc2 ec2 => ?_⟩
 have og := og.same s14
 refine ⟨_, rfl, t11, _, _, _, rfl, rfl, og.tup, rfl, P3, fun u1 g1 => ?_⟩
 have w1 := Af.new (o := .tup [.ref q1, .ref q2, .ref l11]) g1
 have st := ((st.same s13).same s14).same w1
 have fd := ((fd.same s13).same s14).same w1
 have l611 : ls11.length = ls6.length := by rw [og.nl.length, fd.nl.length, hperm11.length_eq, T7, hperm6.length_eq]
 have hcne : c2 ≠ [] := fun z => qr11.ne (AW qr11.gd (.inl rfl) fun y => by
  obtain ⟨x, rfl⟩ := (Lc (b := bv) ha0 y)
  rw [← ec2 x, z]; rfl)
 refine ⟨_, rfl, u1, t6, q1, q2, l11, a6, b6, l6, c1, c2, n6, d6, ls11, ls6, 6960150, 240000, rfl, SqT.of Aa, fd.tup, (cc1.same s14).same w1, cc2.same w1, fd.cn, fd.cd, fun c hc => (bc1 c hc).mono (by lia), fun c hc => (bc2 c hc).mono (by lia), bn6, bd6, by lia, by lia, by lia, by lia, by lia, hcne, qr6.ne, SqL.of (w1 _ _ og.el), SqL.of fd.el, l611, fun X => by rw [ec1, ec2]; exact (rel11 X).symm, fun G15 s15 => ?_⟩
 refine ⟨_, rfl, Be rfl ?_⟩
 have st := st.same s15
 have fd := fd.same s15
 clear og w1 s13 s14 s15 g1 cc1 cc2 gc1 gc2 bc1 bc2 ec1 ec2 hcne l611 k11 j11 ln11 ld11 rel11 hl11 hperm11 hperm2 hpw2 hpw11 qr11 bn11 bd11 bi hnd2 hra hrb ha0 ba bb bbn bbd hul
 refine ⟨_, rfl, p, rfl, st.pen, fun cv rc Gc mc pc hrc hcv bc => ?_⟩
 have fd := fd.mv st.pen mc
 have st := st.mv mc pc
 clear mc pc
 refine ⟨_, rfl, ?_⟩
 refine C6 ⟨_, rfl, lh, rfl, ⟨_, SqL.of st.eh⟩, ?_⟩
 refine Cw (xs := ys) (L4 Gc K hs cv fun Gc K hs cv i us G => Af Gc G ∧ us.length = i ∧ Au K G us ((hs.take i).map fun y => cv * y)) ⟨Af.refl _, rfl, .nil⟩ (fun i us G _ h => ⟨SqL.of (h.1 _ _ st.eh), h.2.1⟩) (Sv (show ys.length ≤ 60 by lia) P60) ?_ ?_
 ·rintro i v us G hv ⟨sg, hul, hun⟩
  obtain ⟨y, hy, hvy⟩ := (Paired.get st.ny hv)
  refine ⟨_, rfl, _, rfl, _, _, cv, y, 8, 8, rfl, Az.of (sg _ _ hrc), hvy.same sg, bc, (hsb y (T5 hy)).1, by decide, fun pr hpr => ?_⟩
  have n1 := Af.new (o := nT (cv * y)) hpr
  refine ⟨sg.trans n1, by simp [hul], ?_⟩
  rw [TX, hy, TY]
  exact Paired.snoc (Au.same hun n1) (Az.of Aa)
 rintro us G ⟨sg, hul, hun⟩ lu hlu
 rw [hyn, TZ] at hun
 have w1 := Af.new (o := .lst us) hlu
 have elu := Aa (H := G) (a := lu) (o := .lst us)
 have hun := Au.same hun w1
 have hrc := w1 _ _ (sg _ _ hrc)
 have st := st.same (sg.trans w1)
 have fd := fd.same (sg.trans w1)
 generalize upd G lu (.lst us) = G20 at elu hun st fd hrc ⊢
 clear sg w1 hlu
 have bi : ∀ c ∈ hs.map (fun y => cv * y), RB 16 c := fun c hc => by
  obtain ⟨y, hy, rfl⟩ := (UA.mp hc)
  exact (bc.times (hsb y hy).1).mono (by decide)
 refine ⟨_, rfl, l, lu, zs, us, qs, (hs.map fun y => cv * y), W, n, 34, 16, 340, rfl, SqL.of (st.el), st.nz, SqL.of (elu), hun, hqn, by rw [T7]; exact hhn, hn1, hn6, hnd, hW1, hWn, bq, bi, by decide, by decide, by decide, hC, hG, st.ct, fun t21 a21 b21 l21 G21 r1 r2 N D N2 D2 n21 d21 fs21 ls21 c m21 ct21 hT cn cd gn gd hlast hc0 I hDne evN evD hnl hdl' elf hls hperm21 hpw21 bn21 bd21 => ?_⟩
 have qr21 : QR (W) n (qs) ((hs.map fun y => cv * y)) n21 d21 := ⟨gn, gd, hlast, hnl, hdl', r1, r2, N, D, N2, D2, c, I, hDne, hc0, evN, evD⟩

 have hrc := SqT.but (K := K) (SqT.of hrc) st.ct m21
 have fd := fd.but st.ct m21
 have st := st.but m21 ct21
 have og : Fd5 K p t21 a21 b21 l21 ls21 n21 d21 fs21 G21 := ⟨hT, cn, cd, elf, hls, HY st.pen elf hls⟩
 clear hT cn cd gn gd hlast hc0 I hDne evN evD hnl hdl' elf hls m21 ct21 hun elu
 obtain ⟨en, ed⟩ := qr6.same hcv qr21 hqn hhn hqn (by rw [T7]; exact hhn) hnd hWn (List.Perm.refl _) (fun x y hxy => by
  rw [List.zip_map_right]
  exact UA.mpr ⟨(x, y), hxy, rfl⟩) (fun x z hxz => by
  rw [List.zip_map_right] at hxz
  obtain ⟨pr, hpr, e⟩ := (UA.mp hxz)
  cases e
  exact ⟨pr.2, rfl, hpr⟩)
 subst en ed
 rw [JP hcv] at hperm21
 have efs : fs21 = fs8 := Fi hpw21 hpw6 (hperm21.trans hperm6.symm)
 subst efs
 refine ⟨_, rfl, _, rfl, t6, _, _, _, rfl, rfl, fd.tup, rfl, _, rfl, a6, rc, n6, cv, 240000, 8, rfl, fd.cn, ⟨rc, rfl, hrc⟩, bn6, bc, by lia, by lia, fun q1 G22 s22 cS => ?_⟩
 rw [Cu (Bs qr6.gn hcv)] at cS
 have fd := fd.same s22
 refine ⟨_, rfl, t6, _, _, _, rfl, rfl, fd.tup, rfl, _, rfl, t6, _, _, _, rfl, rfl, fd.tup, rfl, P3, fun u1 g1 => ?_⟩
 have w1 := Af.new (o := .tup [.ref q1, .ref b6, .ref l6]) g1
 have og := (og.same s22).same w1
 have fd := fd.same w1
 refine eq3 og.tup og.cn og.cd (SqL.of og.el) og.nl (SqT.of Aa) (cS.same w1) fd.cd (SqL.of fd.el) fd.nl ?_
 refine ⟨_, rfl, Be rfl ?_⟩
 have st := (st.same s22).same w1
 clear og hrc s22 w1 g1 cS hperm21 hpw21 qr21 bn21 bd21 bi hcv bc hul
 refine ⟨_, rfl, _, rfl, p, _, rfl, st.pen, by lia, by lia, fun w G23 w0 w1 o23 p23 => ?_⟩
 obtain ⟨T, rfl⟩ : ∃ T : Nat, w = (T : Int) := ⟨w.toNat, by lia⟩
 have fd := fd.mv st.pen (CD.mv o23)
 have st := st.mv (CD.mv o23) p23
 clear o23 p23
 refine ⟨_, rfl, _, rfl, _, rfl, l, zs, rfl, SqL.of st.el, fun o1 h1 => ?_⟩
 rw [DE]
 have w1 := Af.new (o := .lst (zs.drop T)) h1
 refine ⟨_, rfl, _, rfl, _, rfl, l, zs, rfl, SqL.of (w1 _ _ st.el), fun o2 h2 => ?_⟩
 rw [Gf]
 have w2 := Af.new (o := .lst (zs.take T)) h2
 refine ⟨o1, o2, _, _, rfl, rfl, w2 _ _ Aa, Aa, Sv (show _ ≤ 60 by rw [Tg, SX]; lia) P60, fun o3 h3 => ?_⟩
 have w3 := Af.new (o := .lst (zs.drop T ++ zs.take T)) h3
 have w13 := (w1.trans w2).trans w3
 have st := st.same w13
 have fd := fd.same w13
 have e3 := Aa (H := upd (upd G23 o1 (.lst (zs.drop T))) o2 (.lst (zs.take T))) (a := o3) (o := .lst (zs.drop T ++ zs.take T))
 generalize upd (upd (upd G23 o1 (.lst (zs.drop T))) o2 (.lst (zs.take T))) o3 (.lst (zs.drop T ++ zs.take T)) = G24 at st fd e3 ⊢
 clear w1 w2 w3 w13 h1 h2 h3
 refine ⟨_, rfl, _, rfl, _, rfl, lh, ys, rfl, SqL.of st.eh, fun o4 h1 => ?_⟩
 rw [DE]
 have w1 := Af.new (o := .lst (ys.drop T)) h1
 refine ⟨_, rfl, _, rfl, _, rfl, lh, ys, rfl, SqL.of (w1 _ _ st.eh), fun o5 h2 => ?_⟩
 rw [Gf]
 have w2 := Af.new (o := .lst (ys.take T)) h2
 refine ⟨o4, o5, _, _, rfl, rfl, w2 _ _ Aa, Aa, Sv (show _ ≤ 60 by rw [Tg, SX]; lia) P60, fun o6 h3 => ?_⟩
 have w3 := Af.new (o := .lst (ys.drop T ++ ys.take T)) h3
 have w13 := (w1.trans w2).trans w3
 have st := st.same w13
 have fd := fd.same w13
 have e3 := w13 _ _ e3
 have e6 := Aa (H := upd (upd G24 o4 (.lst (ys.drop T))) o5 (.lst (ys.take T))) (a := o6) (o := .lst (ys.drop T ++ ys.take T))
 generalize upd (upd (upd G24 o4 (.lst (ys.drop T))) o5 (.lst (ys.take T))) o6 (.lst (ys.drop T ++ ys.take T)) = G25 at st fd e3 e6 ⊢
 clear w1 w2 w3 w13 h1 h2 h3
 have hzr : AM G25 (zs.drop T ++ zs.take T) (qs.drop T ++ qs.take T) := Paired.append (CJ _ st.nz) (Paired.take _ st.nz)
 have hyr : Au K G25 (ys.drop T ++ ys.take T) (hs.drop T ++ hs.take T) := Paired.append (CJ _ st.ny) (Paired.take _ st.ny)
 have hqp := Dw qs T
 have hhp := Dw hs T
 refine ⟨_, rfl, o3, o6, _, _, (qs.drop T ++ qs.take T), (hs.drop T ++ hs.take T), W, n, 34, 16, 340, rfl, SqL.of (e3), hzr, SqL.of (e6), hyr, by rw [hqp.length_eq]; exact hqn, by rw [hhp.length_eq]; exact hhn, hn1, hn6, hqp.nodup_iff.mpr hnd, hW1, hWn, fun c hc => bq c (hqp.mem_iff.mp hc), fun c hc => bh c (hhp.mem_iff.mp hc), by decide, by decide, by decide, hC, hG, st.ct, fun t26 a26 b26 l26 G26 r1 r2 N D N2 D2 n26 d26 fs26 ls26 c m26 ct26 hT cn cd gn gd hlast hc0 I hDne evN evD hnl hdl' elf hls hperm26 hpw26 bn26 bd26 => ?_⟩
 have qr26 : QR (W) n ((qs.drop T ++ qs.take T)) ((hs.drop T ++ hs.take T)) n26 d26 := ⟨gn, gd, hlast, hnl, hdl', r1, r2, N, D, N2, D2, c, I, hDne, hc0, evN, evD⟩

 have fd := fd.but st.ct m26
 obtain ⟨en, ed⟩ := qr6.same (k := 1) (by decide) qr26 hqn hhn (by rw [hqp.length_eq]; exact hqn) (by rw [hhp.length_eq]; exact hhn) hnd hWn hqp (fun x y hxy => by
  rw [Vd, Hf (by lia)]
  exact (Dw _ T).mem_iff.mpr hxy) (fun x z hxz => by
  rw [Hf (by lia)] at hxz
  exact ⟨z, by rw [Vd], (Dw _ T).mem_iff.mp hxz⟩)
 have en : n26 = n6 := by rw [en]; simp
 subst en ed
 have efs : fs26 = fs21 := Fi hpw26 hpw6 (hperm26.trans ((Mo (by lia) T).trans hperm6.symm))
 subst efs
 refine ⟨_, rfl, ?_⟩
 exact eq3 hT cn cd (SqL.of elf) hls fd.tup fd.cn fd.cd (SqL.of fd.el) fd.nl (q _)
end
theorem fdm {P : Program} (w : World) {K : Su} {mg : Str → Option Value} (base : Heap) {n : Nat} {x : Str} {ps : List Str} {sp : Sp} {f : Addr} {fd : FuncData} (a : AH P w K mg base CX0 n f fd ps sp) (b : Ca K fd ps []) (c : SQ K (.ref f) = true) (d : mg x = some (.ref f)) : Fd P w K mg base n x ps sp := ⟨_, _, a, b, c, d⟩
theorem P9 {l : V6} {w : World} {K : Su} {h : Heap} {mg : Str → Option Value} {fa f1 f2 f3 f4 f5 f6 f7 f8 f9 f10 f11 f12 f13 f14 f15 f16 f17 f18 f19 f20 f21 f22 f23 f24 f25 f26 f27 f28 f29 f30 f31 f32 f33 f34 f35 f36 f37 f38 f39 f40 f41 f42 f43 f44 f45 f46 f47 f48 f49 f50 f51 f52 f53 : Addr} (hT : l.prog.given.tree = none) (X : K.In h) (G : h.Ns mainGlobals mg) (hfa : mg "law" = some (.ref fa))
 {od1 an1 od2 an2 od3 an3 od4 an4 od5 an5 od6 an6 od7 an7 od8 an8 od9 an9 od10 an10 od11 an11 od12 an12 od13 an13 od14 an14 od15 an15 od16 an16 od17 an17 od18 an18 od19 an19 od20 an20 od21 an21 od22 an22 od23 an23 od24 an24 od25 an25 od26 an26 od27 an27 od28 an28 od29 an29 od30 an30 od31 an31 od32 an32 od33 an33 od34 an34 od35 an35 od36 an36 od37 an37 od38 an38 od39 an39 od40 an40 od41 an41 od42 an42 od43 an43 od44 an44 od45 an45 od46 an46 od47 an47 od48 an48 od49 an49 od50 an50 od51 an51 od52 an52 od53 an53 : Option Addr} {sl1 sl2 sl3 sl4 sl5 sl6 sl7 sl8 sl9 sl10 sl11 sl12 sl13 sl14 sl15 sl16 sl17 sl18 sl19 sl20 sl21 sl22 sl23 sl24 sl25 sl26 sl27 sl28 sl29 sl30 sl31 sl32 sl33 sl34 sl35 sl36 sl37 sl38 sl39 sl40 sl41 sl42 sl43 sl44 sl45 sl46 sl47 sl48 sl49 sl50 sl51 sl52 sl53 : Array (Option Value)} {oc1 kV1 dc1 pm1 cd1 ct1 oc2 kV2 dc2 pm2 cd2 ct2 oc3 kV3 dc3 pm3 cd3 ct3 oc4 kV4 dc4 pm4 cd4 ct4 oc5 kV5 dc5 pm5 cd5 ct5 oc6 kV6 dc6 pm6 cd6 ct6 oc7 kV7 dc7 pm7 cd7 ct7 oc8 kV8 dc8 pm8 cd8 ct8 oc9 kV9 dc9 pm9 cd9 ct9 oc10 kV10 dc10 pm10 cd10 ct10 oc11 kV11 dc11 pm11 cd11 ct11 oc12 kV12 dc12 pm12 cd12 ct12 oc13 kV13 dc13 pm13 cd13 ct13 oc14 kV14 dc14 pm14 cd14 ct14 oc15 kV15 dc15 pm15 cd15 ct15 oc16 kV16 dc16 pm16 cd16 ct16 oc17 kV17 dc17 pm17 cd17 ct17 oc18 kV18 dc18 pm18 cd18 ct18 oc19 kV19 dc19 pm19 cd19 ct19 oc20 kV20 dc20 pm20 cd20 ct20 oc21 kV21 dc21 pm21 cd21 ct21 oc22 kV22 dc22 pm22 cd22 ct22 oc23 kV23 dc23 pm23 cd23 ct23 oc24 kV24 dc24 pm24 cd24 ct24 oc25 kV25 dc25 pm25 cd25 ct25 oc26 kV26 dc26 pm26 cd26 ct26 oc27 kV27 dc27 pm27 cd27 ct27 oc28 kV28 dc28 pm28 cd28 ct28 oc29 kV29 dc29 pm29 cd29 ct29 oc30 kV30 dc30 pm30 cd30 ct30 oc31 kV31 dc31 pm31 cd31 ct31 oc32 kV32 dc32 pm32 cd32 ct32 oc33 kV33 dc33 pm33 cd33 ct33 oc34 kV34 dc34 pm34 cd34 ct34 oc35 kV35 dc35 pm35 cd35 ct35 oc36 kV36 dc36 pm36 cd36 ct36 oc37 kV37 dc37 pm37 cd37 ct37 oc38 kV38 dc38 pm38 cd38 ct38 oc39 kV39 dc39 pm39 cd39 ct39 oc40 kV40 dc40 pm40 cd40 ct40 oc41 kV41 dc41 pm41 cd41 ct41 oc42 kV42 dc42 pm42 cd42 ct42 oc43 kV43 dc43 pm43 cd43 ct43 oc44 kV44 dc44 pm44 cd44 ct44 oc45 kV45 dc45 pm45 cd45 ct45 oc46 kV46 dc46 pm46 cd46 ct46 oc47 kV47 dc47 pm47 cd47 ct47 oc48 kV48 dc48 pm48 cd48 ct48 oc49 kV49 dc49 pm49 cd49 ct49 oc50 kV50 dc50 pm50 cd50 ct50 oc51 kV51 dc51 pm51 cd51 ct51 oc52 kV52 dc52 pm52 cd52 ct52 oc53 kV53 dc53 pm53 cd53 ct53 : Value}
 (a1 : Uk K mainGlobals "_law_pen" = some (some (.ref f1))) (l1 : K.lookup f1 = some ⟨oc1, od1, .func (T9 "_law_pen" "_law_pen" (Am (top 56)) (Al (top 56)) (Ae (top 56)) .none kV1 dc1 pm1 an1 cd1 ct1), sl1⟩) (c1 : Tc K cd1 "_law_pen" = true) (k1 : SQ K (.ref f1) = true)
 (a2 : Uk K mainGlobals "_law_lowest" = some (some (.ref f2))) (l2 : K.lookup f2 = some ⟨oc2, od2, .func (T9 "_law_lowest" "_law_lowest" (Am (top 58)) (Al (top 58)) (Ae (top 58)) .none kV2 dc2 pm2 an2 cd2 ct2), sl2⟩) (c2 : Tc K cd2 "_law_lowest" = true) (k2 : SQ K (.ref f2) = true)
 (a3 : Uk K mainGlobals "_law_draw" = some (some (.ref f3))) (l3 : K.lookup f3 = some ⟨oc3, od3, .func (T9 "_law_draw" "_law_draw" (Am (top 57)) (Al (top 57)) (Ae (top 57)) .none kV3 dc3 pm3 an3 cd3 ct3), sl3⟩) (c3 : Tc K cd3 "_law_draw" = true) (k3 : SQ K (.ref f3) = true)
 (a4 : Uk K mainGlobals "_law_number" = some (some (.ref f4))) (l4 : K.lookup f4 = some ⟨oc4, od4, .func (T9 "_law_number" "_law_number" (Am (top 62)) (Al (top 62)) (Ae (top 62)) .none kV4 dc4 pm4 an4 cd4 ct4), sl4⟩) (c4 : Tc K cd4 "_law_number" = true) (k4 : SQ K (.ref f4) = true)
 (a5 : Uk K mainGlobals "_law_plus" = some (some (.ref f5))) (l5 : K.lookup f5 = some ⟨oc5, od5, .func (T9 "_law_plus" "_law_plus" (Am (top 59)) (Al (top 59)) (Ae (top 59)) .none kV5 dc5 pm5 an5 cd5 ct5), sl5⟩) (c5 : Tc K cd5 "_law_plus" = true) (k5 : SQ K (.ref f5) = true)
 (a6 : Uk K mainGlobals "_law_places" = some (some (.ref f6))) (l6 : K.lookup f6 = some ⟨oc6, od6, .func (T9 "_law_places" "_law_places" (Am (top 63)) (Al (top 63)) (Ae (top 63)) .none kV6 dc6 pm6 an6 cd6 ct6), sl6⟩) (c6 : Tc K cd6 "_law_places" = true) (k6 : SQ K (.ref f6) = true)
 (a7 : Uk K mainGlobals "are_unlike" = some (some (.ref f7))) (l7 : K.lookup f7 = some ⟨oc7, od7, .func (T9 "are_unlike" "are_unlike" (Am (top 30)) (Al (top 30)) (Ae (top 30)) .none kV7 dc7 pm7 an7 cd7 ct7), sl7⟩) (c7 : Tc K cd7 "are_unlike" = true) (k7 : SQ K (.ref f7) = true)
 (a8 : Uk K mainGlobals "check_places" = some (some (.ref f8))) (l8 : K.lookup f8 = some ⟨oc8, od8, .func (T9 "check_places" "check_places" (Am (top 31)) (Al (top 31)) (Ae (top 31)) .none kV8 dc8 pm8 an8 cd8 ct8), sl8⟩) (c8 : Tc K cd8 "check_places" = true) (k8 : SQ K (.ref f8) = true)
 (a9 : Uk K mainGlobals "check_heights" = some (some (.ref f9))) (l9 : K.lookup f9 = some ⟨oc9, od9, .func (T9 "check_heights" "check_heights" (Am (top 35)) (Al (top 35)) (Ae (top 35)) .none kV9 dc9 pm9 an9 cd9 ct9), sl9⟩) (c9 : Tc K cd9 "check_heights" = true) (k9 : SQ K (.ref f9) = true)
 (a10 : Uk K mainGlobals "common_measure" = some (some (.ref f10))) (l10 : K.lookup f10 = some ⟨oc10, od10, .func (T9 "common_measure" "common_measure" (Am (top 7)) (Al (top 7)) (Ae (top 7)) .none kV10 dc10 pm10 an10 cd10 ct10), sl10⟩) (c10 : Tc K cd10 "common_measure" = true) (k10 : SQ K (.ref f10) = true)
 (a11 : Uk K mainGlobals "bottom_of" = some (some (.ref f11))) (l11 : K.lookup f11 = some ⟨oc11, od11, .func (T9 "bottom_of" "bottom_of" (Am (top 15)) (Al (top 15)) (Ae (top 15)) .none kV11 dc11 pm11 an11 cd11 ct11), sl11⟩) (c11 : Tc K cd11 "bottom_of" = true) (k11 : SQ K (.ref f11) = true)
 (a12 : Uk K mainGlobals "tops_over" = some (some (.ref f12))) (l12 : K.lookup f12 = some ⟨oc12, od12, .func (T9 "tops_over" "tops_over" (Am (top 16)) (Al (top 16)) (Ae (top 16)) .none kV12 dc12 pm12 an12 cd12 ct12), sl12⟩) (c12 : Tc K cd12 "tops_over" = true) (k12 : SQ K (.ref f12) = true)
 (a13 : Uk K mainGlobals "curve_of" = some (some (.ref f13))) (l13 : K.lookup f13 = some ⟨oc13, od13, .func (T9 "curve_of" "curve_of" (Am (top 14)) (Al (top 14)) (Ae (top 14)) .none kV13 dc13 pm13 an13 cd13 ct13), sl13⟩) (c13 : Tc K cd13 "curve_of" = true) (k13 : SQ K (.ref f13) = true)
 (a14 : Uk K mainGlobals "number_of" = some (some (.ref f14))) (l14 : K.lookup f14 = some ⟨oc14, od14, .func (T9 "number_of" "number_of" (Am (top 8)) (Al (top 8)) (Ae (top 8)) .none kV14 dc14 pm14 an14 cd14 ct14), sl14⟩) (c14 : Tc K cd14 "number_of" = true) (k14 : SQ K (.ref f14) = true)
 (a15 : Uk K mainGlobals "curve_over" = some (some (.ref f15))) (l15 : K.lookup f15 = some ⟨oc15, od15, .func (T9 "curve_over" "curve_over" (Am (top 17)) (Al (top 17)) (Ae (top 17)) .none kV15 dc15 pm15 an15 cd15 ct15), sl15⟩) (c15 : Tc K cd15 "curve_over" = true) (k15 : SQ K (.ref f15) = true)
 (a16 : Uk K mainGlobals "whole_product" = some (some (.ref f16))) (l16 : K.lookup f16 = some ⟨oc16, od16, .func (T9 "whole_product" "whole_product" (Am (top 20)) (Al (top 20)) (Ae (top 20)) .none kV16 dc16 pm16 an16 cd16 ct16), sl16⟩) (c16 : Tc K cd16 "whole_product" = true) (k16 : SQ K (.ref f16) = true)
 (a17 : Uk K mainGlobals "by_steps" = some (some (.ref f17))) (l17 : K.lookup f17 = some ⟨oc17, od17, .func (T9 "by_steps" "by_steps" (Am (top 48)) (Al (top 48)) (Ae (top 48)) .none kV17 dc17 pm17 an17 cd17 ct17), sl17⟩) (c17 : Tc K cd17 "by_steps" = true) (k17 : SQ K (.ref f17) = true)
 (a18 : Uk K mainGlobals "nought_at" = some (some (.ref f18))) (l18 : K.lookup f18 = some ⟨oc18, od18, .func (T9 "nought_at" "nought_at" (Am (top 51)) (Al (top 51)) (Ae (top 51)) .none kV18 dc18 pm18 an18 cd18 ct18), sl18⟩) (c18 : Tc K cd18 "nought_at" = true) (k18 : SQ K (.ref f18) = true)
 (a19 : Uk K mainGlobals "over" = some (some (.ref f19))) (l19 : K.lookup f19 = some ⟨oc19, od19, .func (T9 "over" "over" (Am (top 11)) (Al (top 11)) (Ae (top 11)) .none kV19 dc19 pm19 an19 cd19 ct19), sl19⟩) (c19 : Tc K cd19 "over" = true) (k19 : SQ K (.ref f19) = true)
 (a20 : Uk K mainGlobals "whole_division" = some (some (.ref f20))) (l20 : K.lookup f20 = some ⟨oc20, od20, .func (T9 "whole_division" "whole_division" (Am (top 26)) (Al (top 26)) (Ae (top 26)) .none kV20 dc20 pm20 an20 cd20 ct20), sl20⟩) (c20 : Tc K cd20 "whole_division" = true) (k20 : SQ K (.ref f20) = true)
 (a21 : Uk K mainGlobals "raised" = some (some (.ref f21))) (l21 : K.lookup f21 = some ⟨oc21, od21, .func (T9 "raised" "raised" (Am (top 25)) (Al (top 25)) (Ae (top 25)) .none kV21 dc21 pm21 an21 cd21 ct21), sl21⟩) (c21 : Tc K cd21 "raised" = true) (k21 : SQ K (.ref f21) = true)
 (a22 : Uk K mainGlobals "divided" = some (some (.ref f22))) (l22 : K.lookup f22 = some ⟨oc22, od22, .func (T9 "divided" "divided" (Am (top 27)) (Al (top 27)) (Ae (top 27)) .none kV22 dc22 pm22 an22 cd22 ct22), sl22⟩) (c22 : Tc K cd22 "divided" = true) (k22 : SQ K (.ref f22) = true)
 (a23 : Uk K mainGlobals "times" = some (some (.ref f23))) (l23 : K.lookup f23 = some ⟨oc23, od23, .func (T9 "times" "times" (Am (top 10)) (Al (top 10)) (Ae (top 10)) .none kV23 dc23 pm23 an23 cd23 ct23), sl23⟩) (c23 : Tc K cd23 "times" = true) (k23 : SQ K (.ref f23) = true)
 (a24 : Uk K mainGlobals "scaled" = some (some (.ref f24))) (l24 : K.lookup f24 = some ⟨oc24, od24, .func (T9 "scaled" "scaled" (Am (top 22)) (Al (top 22)) (Ae (top 22)) .none kV24 dc24 pm24 an24 cd24 ct24), sl24⟩) (c24 : Tc K cd24 "scaled" = true) (k24 : SQ K (.ref f24) = true)
 (a25 : Uk K mainGlobals "whole_height" = some (some (.ref f25))) (l25 : K.lookup f25 = some ⟨oc25, od25, .func (T9 "whole_height" "whole_height" (Am (top 18)) (Al (top 18)) (Ae (top 18)) .none kV25 dc25 pm25 an25 cd25 ct25), sl25⟩) (c25 : Tc K cd25 "whole_height" = true) (k25 : SQ K (.ref f25) = true)
 (a26 : Uk K mainGlobals "height_at" = some (some (.ref f26))) (l26 : K.lookup f26 = some ⟨oc26, od26, .func (T9 "height_at" "height_at" (Am (top 19)) (Al (top 19)) (Ae (top 19)) .none kV26 dc26 pm26 an26 cd26 ct26), sl26⟩) (c26 : Tc K cd26 "height_at" = true) (k26 : SQ K (.ref f26) = true)
 (a27 : Uk K mainGlobals "lowest_terms" = some (some (.ref f27))) (l27 : K.lookup f27 = some ⟨oc27, od27, .func (T9 "lowest_terms" "lowest_terms" (Am (top 52)) (Al (top 52)) (Ae (top 52)) .none kV27 dc27 pm27 an27 cd27 ct27), sl27⟩) (c27 : Tc K cd27 "lowest_terms" = true) (k27 : SQ K (.ref f27) = true)
 (a28 : Uk K mainGlobals "lack_at" = some (some (.ref f28))) (l28 : K.lookup f28 = some ⟨oc28, od28, .func (T9 "lack_at" "lack_at" (Am (top 37)) (Al (top 37)) (Ae (top 37)) .none kV28 dc28 pm28 an28 cd28 ct28), sl28⟩) (c28 : Tc K cd28 "lack_at" = true) (k28 : SQ K (.ref f28) = true)
 (a29 : Uk K mainGlobals "with_nought_at" = some (some (.ref f29))) (l29 : K.lookup f29 = some ⟨oc29, od29, .func (T9 "with_nought_at" "with_nought_at" (Am (top 38)) (Al (top 38)) (Ae (top 38)) .none kV29 dc29 pm29 an29 cd29 ct29), sl29⟩) (c29 : Tc K cd29 "with_nought_at" = true) (k29 : SQ K (.ref f29) = true)
 (a30 : Uk K mainGlobals "without_common" = some (some (.ref f30))) (l30 : K.lookup f30 = some ⟨oc30, od30, .func (T9 "without_common" "without_common" (Am (top 39)) (Al (top 39)) (Ae (top 39)) .none kV30 dc30 pm30 an30 cd30 ct30), sl30⟩) (c30 : Tc K cd30 "without_common" = true) (k30 : SQ K (.ref f30) = true)
 (a31 : Uk K mainGlobals "both_with" = some (some (.ref f31))) (l31 : K.lookup f31 = some ⟨oc31, od31, .func (T9 "both_with" "both_with" (Am (top 40)) (Al (top 40)) (Ae (top 40)) .none kV31 dc31 pm31 an31 cd31 ct31), sl31⟩) (c31 : Tc K cd31 "both_with" = true) (k31 : SQ K (.ref f31) = true)
 (a32 : Uk K mainGlobals "pair_through" = some (some (.ref f32))) (l32 : K.lookup f32 = some ⟨oc32, od32, .func (T9 "pair_through" "pair_through" (Am (top 41)) (Al (top 41)) (Ae (top 41)) .none kV32 dc32 pm32 an32 cd32 ct32), sl32⟩) (c32 : Tc K cd32 "pair_through" = true) (k32 : SQ K (.ref f32) = true)
 (a33 : Uk K mainGlobals "rising" = some (some (.ref f33))) (l33 : K.lookup f33 = some ⟨oc33, od33, .func (T9 "rising" "rising" (Am (top 36)) (Al (top 36)) (Ae (top 36)) .none kV33 dc33 pm33 an33 cd33 ct33), sl33⟩) (c33 : Tc K cd33 "rising" = true) (k33 : SQ K (.ref f33) = true)
 (a34 : Uk K mainGlobals "reaches" = some (some (.ref f34))) (l34 : K.lookup f34 = some ⟨oc34, od34, .func (T9 "reaches" "reaches" (Am (top 53)) (Al (top 53)) (Ae (top 53)) .none kV34 dc34 pm34 an34 cd34 ct34), sl34⟩) (c34 : Tc K cd34 "reaches" = true) (k34 : SQ K (.ref f34) = true)
 (a35 : Uk K mainGlobals "quotient_through" = some (some (.ref f35))) (l35 : K.lookup f35 = some ⟨oc35, od35, .func (T9 "quotient_through" "quotient_through" (Am (top 54)) (Al (top 54)) (Ae (top 54)) .none kV35 dc35 pm35 an35 cd35 ct35), sl35⟩) (c35 : Tc K cd35 "quotient_through" = true) (k35 : SQ K (.ref f35) = true)
 (a36 : Uk K mainGlobals "_law_some" = some (some (.ref f36))) (l36 : K.lookup f36 = some ⟨oc36, od36, .func (T9 "_law_some" "_law_some" (Am (top 65)) (Al (top 65)) (Ae (top 65)) .none kV36 dc36 pm36 an36 cd36 ct36), sl36⟩) (c36 : Tc K cd36 "_law_some" = true) (k36 : SQ K (.ref f36) = true)
 (a37 : Uk K mainGlobals "_law_minus" = some (some (.ref f37))) (l37 : K.lookup f37 = some ⟨oc37, od37, .func (T9 "_law_minus" "_law_minus" (Am (top 60)) (Al (top 60)) (Ae (top 60)) .none kV37 dc37 pm37 an37 cd37 ct37), sl37⟩) (c37 : Tc K cd37 "_law_minus" = true) (k37 : SQ K (.ref f37) = true)
 (a38 : Uk K mainGlobals "_law_rising" = some (some (.ref f38))) (l38 : K.lookup f38 = some ⟨oc38, od38, .func (T9 "_law_rising" "_law_rising" (Am (top 67)) (Al (top 67)) (Ae (top 67)) .none kV38 dc38 pm38 an38 cd38 ct38), sl38⟩) (c38 : Tc K cd38 "_law_rising" = true) (k38 : SQ K (.ref f38) = true)
 (a39 : Uk K mainGlobals "multiplied" = some (some (.ref f39))) (l39 : K.lookup f39 = some ⟨oc39, od39, .func (T9 "multiplied" "multiplied" (Am (top 21)) (Al (top 21)) (Ae (top 21)) .none kV39 dc39 pm39 an39 cd39 ct39), sl39⟩) (c39 : Tc K cd39 "multiplied" = true) (k39 : SQ K (.ref f39) = true)
 (a40 : Uk K mainGlobals "_law_alike" = some (some (.ref f40))) (l40 : K.lookup f40 = some ⟨oc40, od40, .func (T9 "_law_alike" "_law_alike" (Am (top 66)) (Al (top 66)) (Ae (top 66)) .none kV40 dc40 pm40 an40 cd40 ct40), sl40⟩) (c40 : Tc K cd40 "_law_alike" = true) (k40 : SQ K (.ref f40) = true)
 (a41 : Uk K mainGlobals "told_in" = some (some (.ref f41))) (l41 : K.lookup f41 = some ⟨oc41, od41, .func (T9 "told_in" "told_in" (Am (top 32)) (Al (top 32)) (Ae (top 32)) .none kV41 dc41 pm41 an41 cd41 ct41), sl41⟩) (c41 : Tc K cd41 "told_in" = true) (k41 : SQ K (.ref f41) = true)
 (a42 : Uk K mainGlobals "knots_of" = some (some (.ref f42))) (l42 : K.lookup f42 = some ⟨oc42, od42, .func (T9 "knots_of" "knots_of" (Am (top 33)) (Al (top 33)) (Ae (top 33)) .none kV42 dc42 pm42 an42 cd42 ct42), sl42⟩) (c42 : Tc K cd42 "knots_of" = true) (k42 : SQ K (.ref f42) = true)
 (a43 : Uk K mainGlobals "slopes_in" = some (some (.ref f43))) (l43 : K.lookup f43 = some ⟨oc43, od43, .func (T9 "slopes_in" "slopes_in" (Am (top 44)) (Al (top 44)) (Ae (top 44)) .none kV43 dc43 pm43 an43 cd43 ct43), sl43⟩) (c43 : Tc K cd43 "slopes_in" = true) (k43 : SQ K (.ref f43) = true)
 (a44 : Uk K mainGlobals "first_row" = some (some (.ref f44))) (l44 : K.lookup f44 = some ⟨oc44, od44, .func (T9 "first_row" "first_row" (Am (top 43)) (Al (top 43)) (Ae (top 43)) .none kV44 dc44 pm44 an44 cd44 ct44), sl44⟩) (c44 : Tc K cd44 "first_row" = true) (k44 : SQ K (.ref f44) = true)
 (a45 : Uk K mainGlobals "minus" = some (some (.ref f45))) (l45 : K.lookup f45 = some ⟨oc45, od45, .func (T9 "minus" "minus" (Am (top 9)) (Al (top 9)) (Ae (top 9)) .none kV45 dc45 pm45 an45 cd45 ct45), sl45⟩) (c45 : Tc K cd45 "minus" = true) (k45 : SQ K (.ref f45) = true)
 (a46 : Uk K mainGlobals "next_row" = some (some (.ref f46))) (l46 : K.lookup f46 = some ⟨oc46, od46, .func (T9 "next_row" "next_row" (Am (top 45)) (Al (top 45)) (Ae (top 45)) .none kV46 dc46 pm46 an46 cd46 ct46), sl46⟩) (c46 : Tc K cd46 "next_row" = true) (k46 : SQ K (.ref f46) = true)
 (a47 : Uk K mainGlobals "table_of" = some (some (.ref f47))) (l47 : K.lookup f47 = some ⟨oc47, od47, .func (T9 "table_of" "table_of" (Am (top 46)) (Al (top 46)) (Ae (top 46)) .none kV47 dc47 pm47 an47 cd47 ct47), sl47⟩) (c47 : Tc K cd47 "table_of" = true) (k47 : SQ K (.ref f47) = true)
 (a48 : Uk K mainGlobals "steps_of" = some (some (.ref f48))) (l48 : K.lookup f48 = some ⟨oc48, od48, .func (T9 "steps_of" "steps_of" (Am (top 47)) (Al (top 47)) (Ae (top 47)) .none kV48 dc48 pm48 an48 cd48 ct48), sl48⟩) (c48 : Tc K cd48 "steps_of" = true) (k48 : SQ K (.ref f48) = true)
 (a49 : Uk K mainGlobals "curve_through" = some (some (.ref f49))) (l49 : K.lookup f49 = some ⟨oc49, od49, .func (T9 "curve_through" "curve_through" (Am (top 49)) (Al (top 49)) (Ae (top 49)) .none kV49 dc49 pm49 an49 cd49 ct49), sl49⟩) (c49 : Tc K cd49 "curve_through" = true) (k49 : SQ K (.ref f49) = true)
 (a50 : Uk K mainGlobals "_law_back" = some (some (.ref f50))) (l50 : K.lookup f50 = some ⟨oc50, od50, .func (T9 "_law_back" "_law_back" (Am (top 64)) (Al (top 64)) (Ae (top 64)) .none kV50 dc50 pm50 an50 cd50 ct50), sl50⟩) (c50 : Tc K cd50 "_law_back" = true) (k50 : SQ K (.ref f50) = true)
 (a51 : Uk K mainGlobals "_law_times" = some (some (.ref f51))) (l51 : K.lookup f51 = some ⟨oc51, od51, .func (T9 "_law_times" "_law_times" (Am (top 61)) (Al (top 61)) (Ae (top 61)) .none kV51 dc51 pm51 an51 cd51 ct51), sl51⟩) (c51 : Tc K cd51 "_law_times" = true) (k51 : SQ K (.ref f51) = true)
 (a52 : Uk K mainGlobals "with_line" = some (some (.ref f52))) (l52 : K.lookup f52 = some ⟨oc52, od52, .func (T9 "with_line" "with_line" (Am (top 23)) (Al (top 23)) (Ae (top 23)) .none kV52 dc52 pm52 an52 cd52 ct52), sl52⟩) (c52 : Tc K cd52 "with_line" = true) (k52 : SQ K (.ref f52) = true)
 (a53 : Uk K mainGlobals "law" = some (some (.ref f53))) (l53 : K.lookup f53 = some ⟨oc53, od53, .func (T9 "law" "law" (Am (top 68)) (Al (top 68)) (Ae (top 68)) .none kV53 dc53 pm53 an53 cd53 ct53), sl53⟩) (c53 : Tc K cd53 "law" = true) (k53 : SQ K (.ref f53) = true)
 (z_len : Uk K mainGlobals "len" = some none)
 (z_abs : Uk K mainGlobals "abs" = some none)
 (z_range : Uk K mainGlobals "range" = some none)
 (z_set : Uk K mainGlobals "set" = some none)
 (z_tuple : Uk K mainGlobals "tuple" = some none)
 (z_list : Uk K mainGlobals "list" = some none)
 (z_reversed : Uk K mainGlobals "reversed" = some none)
 (z_zip : Uk K mainGlobals "zip" = some none)
 (z_sorted : Uk K mainGlobals "sorted" = some none)
 (z_int : Uk K mainGlobals "int" = some none)
 {t_MOST_TOLD : Tok} (x_MOST_TOLD : Uk K mainGlobals "MOST_TOLD" = some (some (.int 12 t_MOST_TOLD)))
 {g_NOUGHT : Addr} {o_NOUGHT : Obj} {v_NOUGHT : Array Value} {m_NOUGHT : Nat} (x_NOUGHT : Uk K mainGlobals "NOUGHT" = some (some (.ref g_NOUGHT))) (y_NOUGHT : K.lookup g_NOUGHT = some o_NOUGHT) (w_NOUGHT : o_NOUGHT.cls = .type "tuple") (d_NOUGHT : o_NOUGHT.data = .seq v_NOUGHT m_NOUGHT) (e_NOUGHT : v_NOUGHT.toList.map Lq = [some (.int (0 : Rat).num), some (.int ((0 : Rat).den : Int))])
 (h33 : EN K f33 225 = true) :
 ∃ (fd : FuncData) (c : Addr), V1 K c 225 = true ∧ (∀ (s : Shared) (v : Value), BindsTo s fd ⟨[v], []⟩ [("_law_script", v)]) ∧ ∀ base : Heap, K.In base → base.Ns mainGlobals mg → Bm mg base → AH l.prog w K mg base CX0 40 fa fd ["_law_script"] (Fu K 225) := by
 obtain ⟨cc, hcc⟩ := Lm h33
 have e := hfa.symm.trans (VL X G a53)
 cases e
 have Qr := VM X G z_len
 have QA := VM X G z_abs
 have Qs := VM X G z_range
 have b_set := VM X G z_set
 have QB := VM X G z_tuple
 have QT := VM X G z_list
 have QC := VM X G z_reversed
 have Qw := VM X G z_zip
 have QW := VM X G z_sorted
 have b_int := VM X G z_int
 have c_MOST_TOLD := VL X G x_MOST_TOLD
 have c_NOUGHT := VL X G x_NOUGHT
 have n_NOUGHT : ∀ H : Hp, Az K H (.ref g_NOUGHT) (0) := fun H => ⟨_, rfl, Ll y_NOUGHT w_NOUGHT d_NOUGHT e_NOUGHT⟩
 have F1 := Ax (st := top 56) l1 c1 k1
 have B1 := Fun.binds2 "_law_script" "_law_k" F1 fun _ _ _ _ _ _ _ _ => rfl
 have F2 := Ax (st := top 58) l2 c2 k2
 have B2 := Fun.binds2 "_law_top" "_law_bottom" F2 fun _ _ _ _ _ _ _ _ => rfl
 have F3 := Ax (st := top 57) l3 c3 k3
 have B3 := Fun.binds2 "_law_pen_here" "_law_many" F3 fun _ _ _ _ _ _ _ _ => rfl
 have F4 := Ax (st := top 62) l4 c4 k4
 have B4 := Fun.binds1 "_law_pen_here" F4 fun _ _ _ _ _ _ _ => rfl
 have F5 := Ax (st := top 59) l5 c5 k5
 have B5 := Fun.binds2 "_law_a" "_law_b" F5 fun _ _ _ _ _ _ _ _ => rfl
 have F6 := Ax (st := top 63) l6 c6 k6
 have B6 := Fun.binds2 "_law_pen_here" "_law_many" F6 fun _ _ _ _ _ _ _ _ => rfl
 have F7 := Ax (st := top 30) l7 c7 k7
 have B7 := Fun.binds1 "places" F7 fun _ _ _ _ _ _ _ => rfl
 have F8 := Ax (st := top 31) l8 c8 k8
 have B8 := Fun.binds2 "places" "fewest" F8 fun _ _ _ _ _ _ _ _ => rfl
 have F9 := Ax (st := top 35) l9 c9 k9
 have B9 := Fun.binds2 "places" "heights" F9 fun _ _ _ _ _ _ _ _ => rfl
 have F10 := Ax (st := top 7) l10 c10 k10
 have B10 := Fun.binds2 "one" "other" F10 fun _ _ _ _ _ _ _ _ => rfl
 have F11 := Ax (st := top 15) l11 c11 k11
 have B11 := Fun.binds1 "numbers" F11 fun _ _ _ _ _ _ _ => rfl
 have F12 := Ax (st := top 16) l12 c12 k12
 have B12 := Fun.binds2 "numbers" "bottom" F12 fun _ _ _ _ _ _ _ _ => rfl
 have F13 := Ax (st := top 14) l13 c13 k13
 have B13 := Fun.binds1 "numbers" F13 fun _ _ _ _ _ _ _ => rfl
 have F14 := Ax (st := top 8) l14 c14 k14
 have B14 := Fun.binds2 "top" "bottom" F14 fun _ _ _ _ _ _ _ _ => rfl
 have F15 := Ax (st := top 17) l15 c15 k15
 have B15 := Fun.binds2 "tops" "bottom" F15 fun _ _ _ _ _ _ _ _ => rfl
 have F16 := Ax (st := top 20) l16 c16 k16
 have B16 := Fun.binds2 "first" "second" F16 fun _ _ _ _ _ _ _ _ => rfl
 have F17 := Ax (st := top 48) l17 c17 k17
 have B17 := Fun.binds2 "knots" "steps" F17 fun _ _ _ _ _ _ _ _ => rfl
 have F18 := Ax (st := top 51) l18 c18 k18
 have B18 := Fun.binds1 "places" F18 fun _ _ _ _ _ _ _ => rfl
 have F19 := Ax (st := top 11) l19 c19 k19
 have B19 := Fun.binds2 "a" "b" F19 fun _ _ _ _ _ _ _ _ => rfl
 have F20 := Ax (st := top 26) l20 c20 k20
 have B20 := Fun.binds2 "first" "second" F20 fun _ _ _ _ _ _ _ _ => rfl
 have F21 := Ax (st := top 25) l21 c21 k21
 have B21 := Fun.binds2 "base" "many" F21 fun _ _ _ _ _ _ _ _ => rfl
 have F22 := Ax (st := top 27) l22 c22 k22
 have B22 := Fun.binds2 "one" "other" F22 fun _ _ _ _ _ _ _ _ => rfl
 have F23 := Ax (st := top 10) l23 c23 k23
 have B23 := Fun.binds2 "a" "b" F23 fun _ _ _ _ _ _ _ _ => rfl
 have F24 := Ax (st := top 22) l24 c24 k24
 have B24 := Fun.binds2 "curve" "number" F24 fun _ _ _ _ _ _ _ _ => rfl
 have F25 := Ax (st := top 18) l25 c25 k25
 have B25 := Fun.binds2 "tops" "x" F25 fun _ _ _ _ _ _ _ _ => rfl
 have F26 := Ax (st := top 19) l26 c26 k26
 have B26 := Fun.binds2 "curve" "x" F26 fun _ _ _ _ _ _ _ _ => rfl
 have F27 := Ax (st := top 52) l27 c27 k27
 have B27 := Fun.binds2 "pair" "places" F27 fun _ _ _ _ _ _ _ _ => rfl
 have F28 := Ax (st := top 37) l28 c28 k28
 have B28 := Fun.binds3 "pair" "x" "y" F28 fun _ _ _ _ _ _ _ _ _ => rfl
 have F29 := Ax (st := top 38) l29 c29 k29
 have B29 := Fun.binds2 "pair" "x" F29 fun _ _ _ _ _ _ _ _ => rfl
 have F30 := Ax (st := top 39) l30 c30 k30
 have B30 := Fun.binds1 "tops" F30 fun _ _ _ _ _ _ _ => rfl
 have F31 := Ax (st := top 40) l31 c31 k31
 have B31 := Fun.binds3 "both" "x" "y" F31 fun _ _ _ _ _ _ _ _ _ => rfl
 have F32 := Ax (st := top 41) l32 c32 k32
 have B32 := Fun.binds3 "places" "heights" "width" F32 fun _ _ _ _ _ _ _ _ _ => rfl
 have F33 := Ax (st := top 36) l33 c33 k33
 have B33 := Fun.binds1 "places" F33 fun _ _ _ _ _ _ _ => rfl
 have F34 := Ax (st := top 53) l34 c34 k34
 have B34 := Fun.binds3 "quotient" "x" "y" F34 fun _ _ _ _ _ _ _ _ _ => rfl
 have F35 := Ax (st := top 54) l35 c35 k35
 have B35 := Fun.binds3 "places" "heights" "width" F35 fun _ _ _ _ _ _ _ _ _ => rfl
 have F36 := Ax (st := top 65) l36 c36 k36
 have B36 := Fun.binds1 "_law_pen_here" F36 fun _ _ _ _ _ _ _ => rfl
 have F37 := Ax (st := top 60) l37 c37 k37
 have B37 := Fun.binds2 "_law_a" "_law_b" F37 fun _ _ _ _ _ _ _ _ => rfl
 have F38 := Ax (st := top 67) l38 c38 k38
 have B38 := Fun.binds1 "_law_some_here" F38 fun _ _ _ _ _ _ _ => rfl
 have F39 := Ax (st := top 21) l39 c39 k39
 have B39 := Fun.binds2 "one" "other" F39 fun _ _ _ _ _ _ _ _ => rfl
 have F40 := Ax (st := top 66) l40 c40 k40
 have B40 := Fun.binds2 "_law_one" "_law_other" F40 fun _ _ _ _ _ _ _ _ => rfl
 have F41 := Ax (st := top 32) l41 c41 k41
 have B41 := Fun.binds1 "points" F41 fun _ _ _ _ _ _ _ => rfl
 have F42 := Ax (st := top 33) l42 c42 k42
 have B42 := Fun.binds1 "points" F42 fun _ _ _ _ _ _ _ => rfl
 have F43 := Ax (st := top 44) l43 c43 k43
 have B43 := Fun.binds1 "points" F43 fun _ _ _ _ _ _ _ => rfl
 have F44 := Ax (st := top 43) l44 c44 k44
 have B44 := Fun.binds1 "points" F44 fun _ _ _ _ _ _ _ => rfl
 have F45 := Ax (st := top 9) l45 c45 k45
 have B45 := Fun.binds2 "a" "b" F45 fun _ _ _ _ _ _ _ _ => rfl
 have F46 := Ax (st := top 45) l46 c46 k46
 have B46 := Fun.binds4 "ahead" "knots" "slopes" "k" F46 fun _ _ _ _ _ _ _ _ _ _ => rfl
 have F47 := Ax (st := top 46) l47 c47 k47
 have B47 := Fun.binds1 "points" F47 fun _ _ _ _ _ _ _ => rfl
 have F48 := Ax (st := top 47) l48 c48 k48
 have B48 := Fun.binds1 "points" F48 fun _ _ _ _ _ _ _ => rfl
 have F49 := Ax (st := top 49) l49 c49 k49
 have B49 := Fun.binds1 "points" F49 fun _ _ _ _ _ _ _ => rfl
 have F50 := Ax (st := top 64) l50 c50 k50
 have B50 := Fun.binds1 "_law_number_here" F50 fun _ _ _ _ _ _ _ => rfl
 have F51 := Ax (st := top 61) l51 c51 k51
 have B51 := Fun.binds2 "_law_a" "_law_b" F51 fun _ _ _ _ _ _ _ _ => rfl
 have F52 := Ax (st := top 23) l52 c52 k52
 have B52 := Fun.binds3 "curve" "a" "b" F52 fun _ _ _ _ _ _ _ _ _ => rfl
 have F53 := Ax (st := top 68) l53 c53 k53
 refine ⟨T9 "law" "law" (Am (top 68)) (Al (top 68)) (Ae (top 68)) .none kV53 dc53 pm53 an53 cd53 ct53, cc, hcc, fun s v => .of_eq rfl, fun base _ _ hbm => ?_⟩
 have RL := fdm w base (IU F1 Qr hT) B1 k1 (VL X G a1)
 have QI := fdm w base (FT F2 QA hT) B2 k2 (VL X G a2)
 have Rc := fdm w base (HW F3 hT) B3 k3 (VL X G a3)
 have R0 := fdm w base (FQ F4 QI Rc hT) B4 k4 (VL X G a4)
 have Rf := fdm w base (HV F5 QI hT) B5 k5 (VL X G a5)
 have RM := fdm w base (FP F6 R0 Rf Qs hT) B6 k6 (VL X G a6)
 have RN := fdm w base (Gw F7 Qr b_set hT) B7 k7 (VL X G a7)
 have RO := fdm w base (Ff F8 RN Qr c_MOST_TOLD hT) B8 k8 (VL X G a8)
 have RP := fdm w base (EH F9 RO Qr hT) B9 k9 (VL X G a9)
 have R3 := fdm w base (Eh F10 QA hT) B10 k10 (VL X G a10)
 have QE := fdm w base (HR F11 R3 hT) B11 k11 (VL X G a11)
 have QJ := fdm w base (HK F12 hT) B12 k12 (VL X G a12)
 have Rg := fdm w base (IS F13 Qr QB c_NOUGHT n_NOUGHT hT) B13 k13 (VL X G a13)
 have QK := fdm w base (HM F14 R3 hT) B14 k14 (VL X G a14)
 have QL := fdm w base (Gv F15 Rg QK hT) B15 k15 (VL X G a15)
 have R4 := fdm w base (EF F16 Qs Qr hT) B16 k16 (VL X G a16)
 have Rh := fdm w base (IT F17 QE QJ QL R4 Qs Qr hT) B17 k17 (VL X G a17)
 have RQ := fdm w base (HN F18 Rh Qr c_NOUGHT n_NOUGHT hT) B18 k18 (VL X G a18)
 have E_over := fdm w base (Nu F19 QK hT) B19 k19 (VL X G a19)
 have RS := fdm w base (Eg F20 QT Qs Qr hT) B20 k20 (VL X G a20)
 have E_raised := fdm w base (KS F21 Qs hT) B21 k21 (VL X G a21)
 have RT := fdm w base (JL F22 QE QJ RS QL E_raised Qr hT) B22 k22 (VL X G a22)
 have Ri := fdm w base (Me F23 QK hT) B23 k23 (VL X G a23)
 have Rj := fdm w base (KQ F24 Rg Ri hT) B24 k24 (VL X G a24)
 have Rk := fdm w base (Fb F25 QC hT) B25 k25 (VL X G a25)
 have Rl := fdm w base (HP F26 QE Rk QK QJ hT) B26 k26 (VL X G a26)
 have RU := fdm w base (Fe F27 RQ E_over RT Rj Rl c_NOUGHT n_NOUGHT hT) B27 k27 (VL X G a27)
 have RV := fdm w base (JK F28 Rk Qr hT) B28 k28 (VL X G a28)
 have RW := fdm w base (Ef F29 Qs Qr hT) B29 k29 (VL X G a29)
 have RX := fdm w base (Ee F30 R3 hT) B30 k30 (VL X G a30)
 have RY := fdm w base (HS F31 RV RW RX Qw hT) B31 k31 (VL X G a31)
 have RZ := fdm w base (Fc F32 RY QL Qw Qr hT) B32 k32 (VL X G a32)
 have E_rising := fdm w base (KR F33 QE QW hT hbm h33) B33 k33 (VL X G a33)
 have S1 := fdm w base (JJ F34 Rl Ri c_NOUGHT n_NOUGHT hT) B34 k34 (VL X G a34)
 have S2 := fdm w base (DS F35 RP RU RZ E_rising S1 Qr Qw hT) B35 k35 (VL X G a35)
 have S3 := fdm w base (HU F36 R0 b_int hT) B36 k36 (VL X G a36)
 have S4 := fdm w base (Gy F37 QI hT) B37 k37 (VL X G a37)
 have S5 := fdm w base (FO F38 S4 Qr hT) B38 k38 (VL X G a38)
 have S6 := fdm w base (Gu F39 QE R4 QL QJ hT) B39 k39 (VL X G a39)
 have S7 := fdm w base (Gz F40 S6 Qr hT) B40 k40 (VL X G a40)
 have S8 := fdm w base (JI F41 Qs Qr hT) B41 k41 (VL X G a41)
 have Rm := fdm w base (IQ F42 S8 hT) B42 k42 (VL X G a42)
 have S9 := fdm w base (HL F43 Qr hT) B43 k43 (VL X G a43)
 have Sa := fdm w base (HQ F44 Qr hT) B44 k44 (VL X G a44)
 have E_minus := fdm w base (Mf F45 QK hT) B45 k45 (VL X G a45)
 have Sb := fdm w base (IP F46 E_over E_minus Qs Qr hT) B46 k46 (VL X G a46)
 have Sd := fdm w base (IL F47 Rm S9 Sa Sb Qs Qr hT) B47 k47 (VL X G a47)
 have Se := fdm w base (IM F48 Sd hT) B48 k48 (VL X G a48)
 have Sf := fdm w base (EG F49 Rh Rm Se hT) B49 k49 (VL X G a49)
 have Sg := fdm w base (HX F50 QI hT) B50 k50 (VL X G a50)
 have Sh := fdm w base (Gx F51 QI hT) B51 k51 (VL X G a51)
 have Si := fdm w base (HJ F52 QE QJ QL R4 QC hT) B52 k52 (VL X G a52)
 exact OE F53 RL RM S2 S3 R0 Rc S5 S7 Sf Sg Rf Sh Rj Si Qr QB Qw hT
theorem Q6 {l : V6} {q : Program} {loose : List Str} {XP : (Str → Option Value) → Heap → Prop} {d : DefRec} {K : Params → Su} {as : List Addr} {e : ∀ P, as = (K P).map (·.1)} (hI : PyProof.Rows.importsNone q = true) (hn : l.most = some 63) (hdf : d.params.defaults = []) (has : as.contains 225 = false)
 (F : ∀ (w : World) (mg : Str → Option Value) (fa : Addr) (h : Heap), (K w.params).In h → h.Ns mainGlobals mg → mg d.name = some (.ref fa) →
  ∃ (fd : FuncData) (c : Addr), V1 (K w.params) c 225 = true ∧ (∀ (s : Shared) (u : Value), BindsTo s fd ⟨[u], []⟩ [("_law_script", u)]) ∧ ∀ base : Heap, (K w.params).In base → base.Ns mainGlobals mg → Bm mg base → AH l.prog w (K w.params) mg base CX0 40 fa fd ["_law_script"] ((fun (K : Su) => (Fu K 225 : Sp)) (K w.params))) :
 PySem.W.WalkO q loose XP (PySem.W.kmHook K as e [225]).says l.row.toRowW d [] (fun f vs => PySem.call f vs) :=
 L2.Lz (n := 63) (k := 40) (x := "_law_script") (Pt := 225) (CX := fun _ => CX0) (sp := fun w => (fun (K : Su) => (Fu K 225 : Sp)) (K w.params)) hI hn (by decide) hdf ⟨rfl, by decide, by decide⟩ (fun w h Y => ⟨PySem.W.km_in_of Y, PySem.W.km_tabs_of Y _ Sy, NB (e _) has⟩) F (fun _ _ a ns hl _ hS hP => ⟨a, ns, rfl, hS, hl, hP, fun _ => rfl⟩) fun _ _ _ _ _ z => z
end Pf
def PySem.W.Fast.tw14083259726849621459 : Unit := ()
def PySem.W.Fast.tw1572664387048779516 : Unit := ()
def PySem.W.Fast.tw1900714259517044241 : Unit := ()
def PySem.W.Fast.tw8913421626643674131 : Unit := ()
def PySem.W.Fast.tw9125558327028379521 : Unit := ()
def PySem.W.Fast.tw5483265989966301704 : Unit := ()
def PySem.W.Fast.tw15501846885784989661 : Unit := ()
def PySem.W.Fast.tw3494085177672659985 : Unit := ()
def PySem.W.Fast.tw15739079793981532573 : Unit := ()
def PySem.W.Fast.tw6527893307875214659 : Unit := ()
def PySem.W.Fast.tw2603269907828809483 : Unit := ()
def PySem.W.Fast.tw8226042377369160203 : Unit := ()
def PySem.W.Fast.tw2482005008999941720 : Unit := ()
def PySem.W.Fast.tw1280897794710629716 : Unit := ()
def PySem.W.Fast.tw17974802672610390256 : Unit := ()
def PySem.W.Fast.tw11868570054740761732 : Unit := ()
def PySem.W.Fast.tw12034713235907105388 : Unit := ()
def PySem.W.Fast.tw14064201250620197488 : Unit := ()
def PySem.W.Fast.tw992935113746251812 : Unit := ()
def PySem.W.Fast.tw14413375428257662324 : Unit := ()
def PySem.W.Fast.tw10765282411317018222 : Unit := ()
def PySem.W.Fast.tw7030143342005350474 : Unit := ()
def PySem.W.Fast.tw5380857290745839575 : Unit := ()
def PySem.W.Fast.tw6934254999652891564 : Unit := ()
def PySem.W.Fast.tw1714388477952841489 : Unit := ()
def PySem.W.Fast.tw15219449680374783435 : Unit := ()
def PySem.W.Fast.tw14864578551195640441 : Unit := ()
def PySem.W.Fast.tw9907531357354434934 : Unit := ()
def PySem.W.Fast.tw9915162733786924932 : Unit := ()
def PySem.W.Fast.tw9718784203369849679 : Unit := ()
def PySem.W.Fast.tw6060717343067734934 : Unit := ()
def PySem.W.Fast.tw15429953758769972843 : Unit := ()
def PySem.W.Fast.tw5983542867985825099 : Unit := ()
def PySem.W.Fast.tw7197220816627614609 : Unit := ()
def PySem.W.Fast.tw5331502576128304496 : Unit := ()
def PySem.W.Fast.tw16878064379845589547 : Unit := ()
def PySem.W.Fast.tw18160593356129418031 : Unit := ()
def PySem.W.Fast.tw7599177165617736375 : Unit := ()
def PySem.W.Fast.tw806474917775787986 : Unit := ()
def PySem.W.Fast.tw8656326865047700599 : Unit := ()
def PySem.W.Fast.tw4946225446864997395 : Unit := ()
def PySem.W.Fast.tw4010033928033174371 : Unit := ()
def PySem.W.Fast.tw11997327180154024688 : Unit := ()
def PySem.W.Fast.tw5406523086311908732 : Unit := ()
def PySem.W.Fast.tw481163671540405629 : Unit := ()
def PySem.W.Fast.tw18172182876171783547 : Unit := ()
def PySem.W.Fast.tw2226527014128121106 : Unit := ()
def PySem.W.Fast.tw10646989489585034442 : Unit := ()
def PySem.W.Fast.tw558069479567320243 : Unit := ()
def PySem.W.Fast.tw13384772948845873642 : Unit := ()
def PySem.W.Fast.tw16896997090105252956 : Unit := ()
def PySem.W.Fast.tw10201971240465775992 : Unit := ()
def PySem.W.Fast.tw13298641837537172892 : Unit := ()
def PySem.W.Fast.tw14962508415864514323 : Unit := ()
def PySem.W.Fast.tw4186745667035329253 : Unit := ()
def PySem.W.Fast.tw11253071038671014957 : Unit := ()
def PySem.W.Fast.tw17190184263366809717 : Unit := ()
def PySem.W.Fast.tw16169114334297404880 : Unit := ()
def PySem.W.Fast.tw13309726546142764340 : Unit := ()
def PySem.W.Fast.tw7131346453328719639 : Unit := ()
def PySem.W.Fast.tw11481797218791284465 : Unit := ()
def PySem.W.Fast.tw5858255824299933042 : Unit := ()
def PySem.W.Fast.tw4267156552640966505 : Unit := ()
def PySem.W.Fast.tw16010186394814100411 : Unit := ()
def PySem.W.Fast.tw8876114986164743238 : Unit := ()
def PySem.W.Fast.tw11253564994176216820 : Unit := ()
def PySem.W.Fast.tw7426744142644577783 : Unit := ()
def PySem.W.Fast.tw595336004193525361 : Unit := ()
def PySem.W.Fast.tw105642934131778908 : Unit := ()
def PySem.W.Fast.tw4410783084289349571 : Unit := ()
def PySem.W.Fast.tw8033947473832758052 : Unit := ()
def PySem.W.Fast.tw16682080520043646385 : Unit := ()
def PySem.W.Fast.tw2882769083945142674 : Unit := ()
def PySem.W.Fast.tw6826852390334960445 : Unit := ()
def PySem.W.Fast.tw364774562207452303 : Unit := ()
def PySem.W.Fast.tw4565424425291128129 : Unit := ()
def PySem.W.Fast.tw8286329103045329628 : Unit := ()
def PySem.W.Fast.tw15947029776216648176 : Unit := ()
def PySem.W.Fast.tw5817442974018440055 : Unit := ()
def PySem.W.Fast.tw2210908586929587652 : Unit := ()
def PySem.W.Fast.tw7326851581167262587 : Unit := ()
def PySem.W.Fast.tw9931380195999031270 : Unit := ()
def PySem.W.Fast.tw12165595693355116824 : Unit := ()
def PySem.W.Fast.tw12534705195775187488 : Unit := ()
def PySem.W.Fast.tw17783371065209986898 : Unit := ()
def PySem.W.Fast.tw113926268870372501 : Unit := ()
def PySem.W.Fast.tw12792721950295818220 : Unit := ()
def PySem.W.Fast.tw13864942810390852519 : Unit := ()
def PySem.W.Fast.tw15505930546549859581 : Unit := ()
def PySem.W.Fast.tw12271794663576399454 : Unit := ()
def PySem.W.Fast.tw11677315949148803886 : Unit := ()
def PySem.W.Fast.tw16319861299130934495 : Unit := ()
def PySem.W.Fast.tw12986843652420146049 : Unit := ()
def PySem.W.Fast.tw6940909757209202081 : Unit := ()
def PySem.W.Fast.tw6668895291702309248 : Unit := ()
def PySem.W.Fast.tw1732995186479136352 : Unit := ()
def PySem.W.Fast.tw8786085599572876353 : Unit := ()
def PySem.W.Fast.tw260918406803213676 : Unit := ()
def PySem.W.Fast.tw17521183297442628720 : Unit := ()
def PySem.W.Fast.tw2229982668978646830 : Unit := ()
def PySem.W.Fast.tw36352856073063642 : Unit := ()
def PySem.W.Fast.tw17477287374873012431 : Unit := ()
open PySem PySem.W PyProof.Rows
set_option maxRecDepth 100000 in
set_option maxHeartbeats 0 in
theorem PySem.Challenge.cw_onecurve_k55_whole_quotients_turned_over_holds : PySem.Challenge.rw_onecurve_k55_whole_quotients_turned_over.Holds := by
 w_on; o_law; k_head; (case hw => w_witness2)
 k_fill
 refine Pf.Q6 (l := PySem.Challenge.rw_onecurve_k55_whole_quotients_turned_over) (by decide +kernel) rfl rfl rfl ?F
 case F =>
  intro w mg fa h KX G hmg
  refine' Pf.P9 rfl KX G hmg ?a1 ?l1 ?c1 ?k1 ?a2 ?l2 ?c2 ?k2 ?a3 ?l3 ?c3 ?k3 ?a4 ?l4 ?c4 ?k4 ?a5 ?l5 ?c5 ?k5 ?a6 ?l6 ?c6 ?k6 ?a7 ?l7 ?c7 ?k7 ?a8 ?l8 ?c8 ?k8 ?a9 ?l9 ?c9 ?k9 ?a10 ?l10 ?c10 ?k10 ?a11 ?l11 ?c11 ?k11 ?a12 ?l12 ?c12 ?k12 ?a13 ?l13 ?c13 ?k13 ?a14 ?l14 ?c14 ?k14 ?a15 ?l15 ?c15 ?k15 ?a16 ?l16 ?c16 ?k16 ?a17 ?l17 ?c17 ?k17 ?a18 ?l18 ?c18 ?k18 ?a19 ?l19 ?c19 ?k19 ?a20 ?l20 ?c20 ?k20 ?a21 ?l21 ?c21 ?k21 ?a22 ?l22 ?c22 ?k22 ?a23 ?l23 ?c23 ?k23 ?a24 ?l24 ?c24 ?k24 ?a25 ?l25 ?c25 ?k25 ?a26 ?l26 ?c26 ?k26 ?a27 ?l27 ?c27 ?k27 ?a28 ?l28 ?c28 ?k28 ?a29 ?l29 ?c29 ?k29 ?a30 ?l30 ?c30 ?k30 ?a31 ?l31 ?c31 ?k31 ?a32 ?l32 ?c32 ?k32 ?a33 ?l33 ?c33 ?k33 ?a34 ?l34 ?c34 ?k34 ?a35 ?l35 ?c35 ?k35 ?a36 ?l36 ?c36 ?k36 ?a37 ?l37 ?c37 ?k37 ?a38 ?l38 ?c38 ?k38 ?a39 ?l39 ?c39 ?k39 ?a40 ?l40 ?c40 ?k40 ?a41 ?l41 ?c41 ?k41 ?a42 ?l42 ?c42 ?k42 ?a43 ?l43 ?c43 ?k43 ?a44 ?l44 ?c44 ?k44 ?a45 ?l45 ?c45 ?k45 ?a46 ?l46 ?c46 ?k46 ?a47 ?l47 ?c47 ?k47 ?a48 ?l48 ?c48 ?k48 ?a49 ?l49 ?c49 ?k49 ?a50 ?l50 ?c50 ?k50 ?a51 ?l51 ?c51 ?k51 ?a52 ?l52 ?c52 ?k52 ?a53 ?l53 ?c53 ?k53 ?z_len ?z_abs ?z_range ?z_set ?z_tuple ?z_list ?z_reversed ?z_zip ?z_sorted ?z_int ?x_MOST_TOLD ?x_NOUGHT ?y_NOUGHT ?w_NOUGHT ?d_NOUGHT ?e_NOUGHT ?h33
  (case a1 => k_is)
  (case l1 => k_is)
  (case c1 => k_is)
  (case k1 => k_is)
  (case a2 => k_is)
  (case l2 => k_is)
  (case c2 => k_is)
  (case k2 => k_is)
  (case a3 => k_is)
  (case l3 => k_is)
  (case c3 => k_is)
  (case k3 => k_is)
  (case a4 => k_is)
  (case l4 => k_is)
  (case c4 => k_is)
  (case k4 => k_is)
  (case a5 => k_is)
  (case l5 => k_is)
  (case c5 => k_is)
  (case k5 => k_is)
  (case a6 => k_is)
  (case l6 => k_is)
  (case c6 => k_is)
  (case k6 => k_is)
  (case a7 => k_is)
  (case l7 => k_is)
  (case c7 => k_is)
  (case k7 => k_is)
  (case a8 => k_is)
  (case l8 => k_is)
  (case c8 => k_is)
  (case k8 => k_is)
  (case a9 => k_is)
  (case l9 => k_is)
  (case c9 => k_is)
  (case k9 => k_is)
  (case a10 => k_is)
  (case l10 => k_is)
  (case c10 => k_is)
  (case k10 => k_is)
  (case a11 => k_is)
  (case l11 => k_is)
  (case c11 => k_is)
  (case k11 => k_is)
  (case a12 => k_is)
  (case l12 => k_is)
  (case c12 => k_is)
  (case k12 => k_is)
  (case a13 => k_is)
  (case l13 => k_is)
  (case c13 => k_is)
  (case k13 => k_is)
  (case a14 => k_is)
  (case l14 => k_is)
  (case c14 => k_is)
  (case k14 => k_is)
  (case a15 => k_is)
  (case l15 => k_is)
  (case c15 => k_is)
  (case k15 => k_is)
  (case a16 => k_is)
  (case l16 => k_is)
  (case c16 => k_is)
  (case k16 => k_is)
  (case a17 => k_is)
  (case l17 => k_is)
  (case c17 => k_is)
  (case k17 => k_is)
  (case a18 => k_is)
  (case l18 => k_is)
  (case c18 => k_is)
  (case k18 => k_is)
  (case a19 => k_is)
  (case l19 => k_is)
  (case c19 => k_is)
  (case k19 => k_is)
  (case a20 => k_is)
  (case l20 => k_is)
  (case c20 => k_is)
  (case k20 => k_is)
  (case a21 => k_is)
  (case l21 => k_is)
  (case c21 => k_is)
  (case k21 => k_is)
  (case a22 => k_is)
  (case l22 => k_is)
  (case c22 => k_is)
  (case k22 => k_is)
  (case a23 => k_is)
  (case l23 => k_is)
  (case c23 => k_is)
  (case k23 => k_is)
  (case a24 => k_is)
  (case l24 => k_is)
  (case c24 => k_is)
  (case k24 => k_is)
  (case a25 => k_is)
  (case l25 => k_is)
  (case c25 => k_is)
  (case k25 => k_is)
  (case a26 => k_is)
  (case l26 => k_is)
  (case c26 => k_is)
  (case k26 => k_is)
  (case a27 => k_is)
  (case l27 => k_is)
  (case c27 => k_is)
  (case k27 => k_is)
  (case a28 => k_is)
  (case l28 => k_is)
  (case c28 => k_is)
  (case k28 => k_is)
  (case a29 => k_is)
  (case l29 => k_is)
  (case c29 => k_is)
  (case k29 => k_is)
  (case a30 => k_is)
  (case l30 => k_is)
  (case c30 => k_is)
  (case k30 => k_is)
  (case a31 => k_is)
  (case l31 => k_is)
  (case c31 => k_is)
  (case k31 => k_is)
  (case a32 => k_is)
  (case l32 => k_is)
  (case c32 => k_is)
  (case k32 => k_is)
  (case a33 => k_is)
  (case l33 => k_is)
  (case c33 => k_is)
  (case k33 => k_is)
  (case a34 => k_is)
  (case l34 => k_is)
  (case c34 => k_is)
  (case k34 => k_is)
  (case a35 => k_is)
  (case l35 => k_is)
  (case c35 => k_is)
  (case k35 => k_is)
  (case a36 => k_is)
  (case l36 => k_is)
  (case c36 => k_is)
  (case k36 => k_is)
  (case a37 => k_is)
  (case l37 => k_is)
  (case c37 => k_is)
  (case k37 => k_is)
  (case a38 => k_is)
  (case l38 => k_is)
  (case c38 => k_is)
  (case k38 => k_is)
  (case a39 => k_is)
  (case l39 => k_is)
  (case c39 => k_is)
  (case k39 => k_is)
  (case a40 => k_is)
  (case l40 => k_is)
  (case c40 => k_is)
  (case k40 => k_is)
  (case a41 => k_is)
  (case l41 => k_is)
  (case c41 => k_is)
  (case k41 => k_is)
  (case a42 => k_is)
  (case l42 => k_is)
  (case c42 => k_is)
  (case k42 => k_is)
  (case a43 => k_is)
  (case l43 => k_is)
  (case c43 => k_is)
  (case k43 => k_is)
  (case a44 => k_is)
  (case l44 => k_is)
  (case c44 => k_is)
  (case k44 => k_is)
  (case a45 => k_is)
  (case l45 => k_is)
  (case c45 => k_is)
  (case k45 => k_is)
  (case a46 => k_is)
  (case l46 => k_is)
  (case c46 => k_is)
  (case k46 => k_is)
  (case a47 => k_is)
  (case l47 => k_is)
  (case c47 => k_is)
  (case k47 => k_is)
  (case a48 => k_is)
  (case l48 => k_is)
  (case c48 => k_is)
  (case k48 => k_is)
  (case a49 => k_is)
  (case l49 => k_is)
  (case c49 => k_is)
  (case k49 => k_is)
  (case a50 => k_is)
  (case l50 => k_is)
  (case c50 => k_is)
  (case k50 => k_is)
  (case a51 => k_is)
  (case l51 => k_is)
  (case c51 => k_is)
  (case k51 => k_is)
  (case a52 => k_is)
  (case l52 => k_is)
  (case c52 => k_is)
  (case k52 => k_is)
  (case a53 => k_is)
  (case l53 => k_is)
  (case c53 => k_is)
  (case k53 => k_is)
  (case z_len => k_is)
  (case z_abs => k_is)
  (case z_range => k_is)
  (case z_set => k_is)
  (case z_tuple => k_is)
  (case z_list => k_is)
  (case z_reversed => k_is)
  (case z_zip => k_is)
  (case z_sorted => k_is)
  (case z_int => k_is)
  (case x_MOST_TOLD => k_is)
  (case x_NOUGHT => k_is)
  (case y_NOUGHT => k_is)
  (case w_NOUGHT => rfl)
  (case d_NOUGHT => rfl)
  (case e_NOUGHT => rfl)
  (case h33 => first | rfl | with_unfolding_all rfl)
#print axioms PySem.Challenge.cw_onecurve_k55_whole_quotients_turned_over_holds
