import PyProof.Rows.All
import Wide.All
import OpenK.AllK
import Wide.FinOn
import Lean
import PyProof.EqAt
import PyProof.EqKinds
import PyProof.TupleCall
import KE.KLam
import KE.KNestM
import KE.KSortKey
import PySem.Challenge.RW_onecurve_k51_whole_none_misses_fewer
open Option renaming some → RL
open PySem.W renaming methodObj → RM, Frag → RU, findIn → Sd, keepIn → Se, fnOf → Sw, codeIn → Sx, nsIn → TK, envX → Ug, kla_fn → Ui, codeHdIn → Uj, tabObj → Uk, codeHd_of_K → Ul, kla_obj → Um, OpenLaw → Uo, mg_of → V5, mg_none_of → V6
open Nat renaming lt_of_lt_of_le → RN, lt_irrefl → RO, ne_of_lt → RP, le_trans → RV, le_of_lt → RW, ne_of_gt → S7, le_refl → S9, zero_le → Sb, min_eq_left → Sz, min_eq_right → SA, mul_comm → SN, lt_of_le_of_lt → SQ, lt_trans → SR, pos_of_ne_zero → SU, add_zero → T7, lt_succ_self → Tt, le_succ → Tu, lt_succ_of_lt → Tv, pow_le_pow_right → TC, pow_succ → TF, add_mul → TH, one_mul → TJ, succ_pos → TL, sub_zero → TV, le_add_right → U1, zero_add → U4, add_le_add_right → Ue, lt_or_ge → Ut, add_sub_cancel → Uu, mul_le_mul → UE, mul_add → UT, mul_le_mul_left → V0, mul_one → V1
open List renaming range → RQ, mem_filter → RS, mem_range → RT, filterMap_cons → RX, mem_cons_self → RY, mem_cons_of_mem → RZ, mem_cons → S1, mem_append → S2, mem_append_left → S3, getElem?_eq_some_iff → S4, getElem?_set_ne → S5, mem_append_right → Sa, append_nil → Sf, nodup_cons → Sg, of_mem_zip → Sh, replicate → Si, length_take → Sj, getElem?_append_right → Sk, getElem?_replicate → Sl, getElem?_append_left → Sm, getElem?_map → Sn, take_sublist → So, mem_of_getElem? → Sr, length_append → Ss, length_map → Su, length_replicate → Sv, length_drop → SD, size_toArray → SE, length_set → SF, any_cons → SG, replicate_succ → SH, flatten_cons → SI, append_assoc → SJ, length_singleton → SK, map_cons → SO, length_pos_iff → Tc, length_cons → Td, getElem?_cons_succ → Te, take_add_one → Tf, map_append → Tg, eq_nil_of_length_eq_zero → Th, forIn_cons → Tj, lookup_cons → Tn, lookup → To, all_eq_true → Tp, getD_eq_getElem?_getD → Tq, ext_getElem? → Tr, getElem?_drop → Ts, mem_singleton → Tw, getElem?_eq_getElem → Tx, getElem_mem → Tz, getElem?_eq_none → TM, length_nil → TN, range_succ → TQ, mem_map → TR, drop_zero → TU, take_of_length_le → TX, take_zero → TY, drop_eq_nil_of_le → TZ, length_range → U5, getElem?_range → U9, length_eq_zero_iff → Ud, mem_map_of_mem → Uh, getElem?_take → Us, length_zip → Uv, pairwise_map → Uw, pairwise_append → Ux, pairwise_singleton → Uy, getElem?_zip_eq_some → Uz, map_congr_left → UA, mem_of_mem_take → UC, mem_replicate → UG, eq_of_mem_replicate → UK, filter_cons_of_pos → UM, filter_cons_of_neg → UN, filter_eq_nil_iff → UO, filter_cons → UP, filter_append → UQ, length_filter_le → UR, eq_nil_iff_forall_not_mem → US, mem_of_mem_drop → UU, filter_nil → UY, take_length → UZ, mem_or_eq_of_mem_set → V2, map_take → V3, map_fst_zip → V4
open Array renaming length_toList → S6, getElem?_toList → SM, getElem?_eq_none → U0, forIn_toList → U6, getElem?_eq_getElem → U7, getD_eq_getD_getElem? → U8, getElem?_setIfInBounds_ne → Ua, replicate → Ub, size_push → Uc
open Int renaming toNat_natCast → Sy, gcd → SS, mul_fdiv_cancel_left → SV, gcd_dvd_left → SX, one_mul → SY, gcd_dvd_right → T1, mul_ne_zero → T4, emod_nonneg → U2, emod_lt_of_pos → U3, mul_zero → UB, fdiv_eq_ediv_of_nonneg → UL, natCast_nonneg → UW, zero_add → UX
open Rat renaming divInt → SW, divInt_eq_div → T2, div_mul_cancel → T3, intCast_mul → T5, intCast_sub → T6, pow_zero → T8, pow_succ → T9, mul_eq_zero → Ti, mul_zero → Uq, zero_mul → Ur, le_trans → UD, intCast_zero → UH, num_intCast → UI, den_intCast → UJ
set_option Elab.async false
set_option linter.all false
set_option maxRecDepth 100000
namespace L2
open PySem PySem.Spec PyProof.Rows
abbrev Key := Sum Int Str
def GC : Key → Value → Bool
 | .inl k, v => Value.isInt k v
 | .inr x, v => Value.isStrOf x v
def PX (w : World) : Key → Int
 | .inl k => hashInt k
 | .inr x => hashStr w x
theorem Bj : ∀ {k : Key} {v : Value}, GC k v = true → (∃ i t, k = Sum.inl i ∧ v = Value.int i t) ∨ (∃ x t, k = Sum.inr x ∧ v = Value.str x t)
 | .inl i, v, h => by
   obtain ⟨t, e⟩ := Value.isInt_shape (k := i) (v := v) h
   exact .inl ⟨i, t, rfl, e⟩
 | .inr x, v, h => by
   obtain ⟨t, e⟩ := Value.isStrOf_shape (x := x) (v := v) h
   exact .inr ⟨x, t, rfl, e⟩
theorem KP (i : Int) (t : Tok) : GC (.inl i) (.int i t) = true := by simp [GC, Value.isInt]
theorem KO (x : Str) (t : Tok) : GC (.inr x) (.str x t) = true := by simp [GC, Value.isStrOf]
theorem OH (a b : Int) : decide ((Sum.inl a : Key) = Sum.inl b) = (a == b) := by
 by_cases e : a = b
 ·subst e; simp
 ·have h : ¬ (Sum.inl a : Key) = Sum.inl b := fun q => e (Sum.inl.inj q)
  rw [decide_eq_false h]
  exact (beq_eq_false_iff_ne.mpr e).symm
theorem OE (a b : Str) : decide ((Sum.inr a : Key) = Sum.inr b) = decide (a = b) := by
 by_cases e : a = b
 ·subst e; simp
 ·have h : ¬ (Sum.inr a : Key) = Sum.inr b := fun q => e (Sum.inr.inj q)
  rw [decide_eq_false h, decide_eq_false e]
theorem OG (a : Int) (b : Str) : decide ((Sum.inl a : Key) = Sum.inr b) = false := decide_eq_false (fun q => nomatch q)
theorem OF (a : Str) (b : Int) : decide ((Sum.inr a : Key) = Sum.inl b) = false := decide_eq_false (fun q => nomatch q)
def CA (prog : Program) (w : World) : PySem.KeyKind prog w Key where
 is := GC
 hash := PX w
 inj := fun v a b ha hb => by
  rcases Bj ha with ⟨i, t, rfl, rfl⟩ | ⟨x, t, rfl, rfl⟩
  ·rcases Bj hb with ⟨j, u, rfl, e⟩ | ⟨y, u, rfl, e⟩
   ·injection e with e1 _; rw [e1]
   ·exact nomatch e
  ·rcases Bj hb with ⟨j, u, rfl, e⟩ | ⟨y, u, rfl, e⟩
   ·exact nomatch e
   ·injection e with e1 _; rw [e1]
 byValue := fun k v h => by
  rcases Bj h with ⟨i, t, rfl, rfl⟩ | ⟨x, t, rfl, rfl⟩ <;> rfl
 pyHash := fun hv h => by
  rcases Bj hv with ⟨i, t, rfl, rfl⟩ | ⟨x, t, rfl, rfl⟩
  ·exact wpAny_pyHash_int h
  ·exact wpAny_pyHash_str h
 eqBool := fun hu hv h => by
  rcases Bj hu with ⟨i, t, rfl, rfl⟩ | ⟨x, t, rfl, rfl⟩
  ·rcases Bj hv with ⟨j, u, rfl, rfl⟩ | ⟨y, u, rfl, rfl⟩
   ·rw [OH] at h; exact wpAny_eqBool_int h
   ·rw [OG] at h; exact SeqAt.EqAt.int_str i t y u _ _ _ _ h
  ·rcases Bj hv with ⟨j, u, rfl, rfl⟩ | ⟨y, u, rfl, rfl⟩
   ·rw [OF] at h; exact SeqAt.EqAt.str_int x t j u _ _ _ _ h
   ·rw [OE] at h; exact wpAny_eqBool_str h
 «strs» := fun k x t v h => by
  rcases Bj h with ⟨i, u, rfl, e⟩ | ⟨y, u, rfl, e⟩
  ·exact nomatch e
  ·injection e with e1 _
   subst e1
   cases v <;> rfl
theorem IS (prog : Program) (w : World) (i : Int) (t : Tok) : (CA prog w).is (.inl i) (.int i t) = true := KP i t
theorem IQ (prog : Program) (w : World) (x : Str) (t : Tok) : (CA prog w).is (.inr x) (.str x t) = true := KO x t
end L2
namespace L2
open PySem PySem.Spec PyProof.Rows
inductive V where
 | non | bl (b : Bool) | int (i : Int) | str (x : Str) | byt (b : Array UInt8) | flt (b : UInt64) | ref (a : Addr) | ty (n : String)
 deriving DecidableEq
def AI : V → Value → Prop
 | .non, u => u = Value.none
 | .bl b, u => u = Value.bool b
 | .int i, u => ∃ t, u = Value.int i t
 | .str x, u => ∃ t, u = Value.str x t
 | .byt b, u => ∃ t, u = Value.bytes b t
 | .flt b, u => ∃ t, u = Value.float b t
 | .ref a, u => u = Value.ref a
 | .ty n, u => u = Value.type n
abbrev AA : List V → List Value → Prop := Paired AI
theorem AA.length {xs : List V} {us : List Value} (r : AA xs us) : xs.length = us.length := Paired.length r
theorem AA.get : ∀ {xs : List V} {us : List Value} {i : Nat} {x : V}, AA xs us → xs[i]? = some x → ∃ u, us[i]? = some u ∧ AI x u
 | _, _, _, _, .nil, e => by simp at e
 | _, _, 0, _, .cons r _, e => by simp at e; subst e; exact ⟨_, rfl, r⟩
 | _, _, i + 1, x, .cons _ t, e => by
   obtain ⟨u, h1, h2⟩ := AA.get (i := i) (x := x) t (by simpa using e)
   exact ⟨u, by simpa using h1, h2⟩
theorem AA.set {x : V} {u : Value} (r : AI x u) : ∀ {xs : List V} {us : List Value} (i : Nat), AA xs us → AA (xs.set i x) (us.set i u)
 | _, _, _, .nil => .nil
 | _, _, 0, .cons _ t => .cons r t
 | _, _, i + 1, .cons q t => .cons q (AA.set r i t)
theorem AA.append {xs ys : List V} {us ws : List Value} (a : AA xs us) (b : AA ys ws) : AA (xs ++ ys) (us ++ ws) := by
 induction a with
 | nil => exact b
 | cons r t ih => exact .cons r ih
theorem AA.take : ∀ {xs : List V} {us : List Value} (n : Nat), AA xs us → AA (xs.take n) (us.take n)
 | _, _, 0, _ => .nil
 | _, _, _ + 1, .nil => .nil
 | _, _, n + 1, .cons r t => .cons r (AA.take n t)
theorem AA.drop : ∀ {xs : List V} {us : List Value} (n : Nat), AA xs us → AA (xs.drop n) (us.drop n)
 | _, _, 0, r => r
 | _, _, _ + 1, .nil => .nil
 | _, _, n + 1, .cons _ t => AA.drop n t
def Py : Option V → Option Value → Prop
 | some v, some u => AI v u
 | none, none => True
 | _, _ => False
def KV {κ : Type} : List (κ × V) → List (κ × Value) → Prop := Paired fun (p : κ × V) (q : κ × Value) => p.1 = q.1 ∧ AI p.2 q.2
def kV : Key → V
 | .inl i => .int i
 | .inr x => .str x
inductive HO where
 | lst (xs : List V)
 | tup (xs : List V)
 | dK (kvs : List (Key × V)) | dT (kvs : List (List Key × V))
 | set (S : Int → Bool) (n : Nat)
 | ins (C dx : Addr) (fs : List (Str × V))
 | own (x : Addr)
 | xd (fs : List (Str × V))
 | met (f x : Addr)
 | rng (lo hi : Int)
 | frz (o : Obj) (u : HO)
 | tbl (ps : Array Value)
 | ext (φ : Heap → Prop)
abbrev Hp := Addr → Option HO
def upd (H : Hp) (a : Addr) (o : HO) : Hp := fun b => if b = a then some o else H b
theorem Aa {H : Hp} {a : Addr} {o : HO} : upd H a o a = some o := by unfold upd; rw [if_pos rfl]
theorem Am {H : Hp} {a b : Addr} {o : HO} (h : b ≠ a) : upd H a o b = H b := by unfold upd; rw [if_neg h]
theorem MJ {H : Hp} {a : Addr} {o u : HO} : upd (upd H a o) a u = upd H a u := by
 funext b; unfold upd; split <;> rfl
theorem EJ {H : Hp} {a b : Addr} {o u : HO} (h : H a = some o) (h' : H b = some u) (d : o ≠ u) : a ≠ b := by
 intro e; subst e; rw [h] at h'; exact d (RL.inj h')
theorem Au {H : Hp} {a b : Addr} {o : HO} (h : H a = some o) (h' : H b = none) : a ≠ b := by
 intro e; subst e; rw [h] at h'; cases h'
section
variable (P : Program) (w : World)
def BX (H : Hp) (h : Heap) (a : Addr) : HO → Prop
 | .lst xs => xs.length ≤ sizeLine ∧ ∃ (its : List Value) (n : Nat), AA xs its ∧ h.get? a = some { cls := .type "list", data := .seq its.toArray n }
 | .tup xs => xs.length ≤ sizeLine ∧ ∃ its : List Value, AA xs its ∧ IsTup h a its.toArray
 | .dK kvs => kvs.length ≤ sizeLine ∧ (a == sysModules) = false ∧ ∃ vs, KV kvs vs ∧ h.DictOf (CA P w) a vs
 | .dT kvs => kvs.length ≤ sizeLine ∧ (a == sysModules) = false ∧ ∃ xs : List (List Key × Addr × Value),
  Paired (fun (p : List Key × V) (q : List Key × Addr × Value) => p.1 = q.1 ∧ H q.2.1 = some (.tup (p.1.map kV)) ∧ AI p.2 q.2.2) kvs xs ∧
  ∃ o es ep, h.get? a = some o ∧ o.ExactDict ∧ o.data = .dict es ep ∧ es.toList = xs.map (entryOfKey (tupleKind (CA P w))) ∧ (xs.map (·.1)).Nodup
 | .set S n => h.SetOf (intKind P w) a S n
 | .ins C dx fs => H dx = some (.own a) ∧ fs.length ≤ 1000 ∧ dx ≠ a ∧ h.get? a = some (PySem.W.instObj C dx) ∧
  ∃ mA, h.Ns1 dx mA ∧ (∀ f, Py (fs.lookup f) (mA f)) ∧ PySem.Within mA (fs.map (·.1))
 | .own _ => ∃ o, h.get? a = some o
 | .xd fs => ∃ mA, h.Ns1 a mA ∧ ∀ f, Py (fs.lookup f) (mA f)
 | .rng lo hi => ∃ t u v, h.get? a = some { cls := .type "range", data := .fields #[.int lo t, .int hi u, .int 1 v] }
 | .frz o u => h.get? a = some o ∧ BX H h a u
 | .tbl ps => h.get? a = some { cls := .none, data := .fields ps }
 | .met f x => h.get? a = some (RM (.ref f) (.ref x))
 | .ext φ => φ h ∧ (∃ o, h.get? a = some o) ∧ ∀ h1 h2 : Heap, φ h1 → (∀ o, h1.get? a = some o → h2.get? a = some o) → φ h2
def HOk (H : Hp) (h : Heap) : Prop := ∀ a o, H a = some o → BX P w H h a o
end
section
variable {P : Program} {w : World} {H H' : Hp} {h h' : Heap} {a : Addr} {o : HO}
theorem BX.lt (x : BX P w H h a o) : a < h.objs.size := by
 cases o with
 | lst xs => obtain ⟨_, _, _, _, e⟩ := x; exact Heap.lt_size e
 | tup xs => obtain ⟨_, _, _, p⟩ := x; exact p.lt
 | dK kvs => obtain ⟨_, _, _, _, o, _, _, e, _⟩ := x; exact Heap.lt_size e
 | dT kvs => obtain ⟨_, _, _, _, o, _, _, e, _⟩ := x; exact Heap.lt_size e
 | set S n => obtain ⟨o, _, _, _, e, _⟩ := x; exact Heap.lt_size e
 | ins C dx fs => obtain ⟨_, _, _, e, _⟩ := x; exact Heap.lt_size e
 | own y => obtain ⟨_, e⟩ := x; exact Heap.lt_size e
 | xd fs => obtain ⟨_, ⟨_, _, _, e, _⟩, _⟩ := x; exact Heap.lt_size e
 | rng lo hi => obtain ⟨_, _, _, e⟩ := x; exact Heap.lt_size e
 | frz ob u => obtain ⟨e, _⟩ := x; exact Heap.lt_size e
 | tbl ps => exact Heap.lt_size (show h.get? a = some _ from x)
 | met f y => exact Heap.lt_size (show h.get? a = some _ from x)
 | ext φ => obtain ⟨_, ⟨_, e⟩, _⟩ := x; exact Heap.lt_size e
theorem Paired.mapP {α β : Type} {F G : α → β → Prop} {l₁ : List α} {l₂ : List β} (h : Paired F l₁ l₂) (f : ∀ a b, F a b → G a b) : Paired G l₁ l₂ := by
 induction h with
 | nil => exact .nil
 | cons r t ih => exact .cons (f _ _ r) ih
theorem BX.stay (x : BX P w H h a o) (k : ∀ b u, (b = a ∨ H b = some (.own a)) → h.get? b = some u → h'.get? b = some u)
 (ho : ∀ b, H b = some (.own a) → H' b = some (.own a)) (ht : ∀ b xs, H b = some (.tup xs) → H' b = some (.tup xs)) : BX P w H' h' a o := by
 induction o with
 | lst xs => obtain ⟨z, its, n, r, e⟩ := x; exact ⟨z, its, n, r, k _ _ (.inl rfl) e⟩
 | tup xs => obtain ⟨z, its, r, ob, e, c⟩ := x; exact ⟨z, its, r, ob, k _ _ (.inl rfl) e, c⟩
 | dK kvs => obtain ⟨z, y, vs, r, ob, es, ep, e, c⟩ := x; exact ⟨z, y, vs, r, ob, es, ep, k _ _ (.inl rfl) e, c⟩
 | dT kvs =>
   obtain ⟨z, y, xs, r, ob, es, ep, e, c⟩ := x
   exact ⟨z, y, xs, Paired.mapP r fun p q z => ⟨z.1, ht _ _ z.2.1, z.2.2⟩, ob, es, ep, k _ _ (.inl rfl) e, c⟩
 | set S n => obtain ⟨ob, es, ep, t, e, c⟩ := x; exact ⟨ob, es, ep, t, k _ _ (.inl rfl) e, c⟩
 | ins C dx fs =>
   obtain ⟨d, z, ne, e, mA, ⟨od, es, ep, e2, c⟩, r⟩ := x
   exact ⟨ho _ d, z, ne, k _ _ (.inl rfl) e, mA, ⟨od, es, ep, k _ _ (.inr d) e2, c⟩, r⟩
 | own y => obtain ⟨ob, e⟩ := x; exact ⟨ob, k _ _ (.inl rfl) e⟩
 | xd fs => obtain ⟨mA, ⟨od, es, ep, e, c⟩, r⟩ := x; exact ⟨mA, ⟨od, es, ep, k _ _ (.inl rfl) e, c⟩, r⟩
 | rng lo hi => obtain ⟨t, u, v, e⟩ := x; exact ⟨t, u, v, k _ _ (.inl rfl) e⟩
 | frz ob u ih => obtain ⟨e, q⟩ := x; exact ⟨k _ _ (.inl rfl) e, ih q⟩
 | tbl ps =>
   have e : h.get? a = some { cls := .none, data := .fields ps } := x
   show h'.get? a = some { cls := .none, data := .fields ps }
   exact k a _ (.inl rfl) e
 | met f y =>
   have e : h.get? a = some (RM (.ref f) (.ref y)) := x
   show h'.get? a = some (RM (.ref f) (.ref y))
   exact k a _ (.inl rfl) e
 | ext φ => obtain ⟨p, ⟨o, e⟩, st⟩ := x; exact ⟨st _ _ p fun o q => k _ _ (.inl rfl) q, ⟨o, k _ _ (.inl rfl) e⟩, st⟩
theorem HOk.lt (x : HOk P w H h) (e : H a = some o) : a < h.objs.size := (x a o e).lt
theorem HOk.fresh (x : HOk P w H h) (e : h.objs.size ≤ a) : H a = none := by
 cases q : H a with
 | none => rfl
 | some u => exact absurd (RN (x.lt q) e) (RO _)
theorem HOk.kept (x : HOk P w H h) (k : ∀ b u, h.get? b = some u → h'.get? b = some u) : HOk P w H h' := fun a o e =>
 (x a o e).stay (fun b u _ q => k b u q) (fun _ q => q) fun _ _ q => q
theorem HOk.laid (x : HOk P w H h) (k : ∀ b u, h.get? b = some u → h'.get? b = some u) (hp : h.objs.size ≤ a) (new : BX P w (upd H a o) h' a o) : HOk P w (upd H a o) h' := fun b u e => by
 have hn := x.fresh hp
 by_cases hb : b = a
 ·subst hb; rw [Aa] at e; cases e; exact new
 ·rw [Am hb] at e
  exact (x b u e).stay (fun c v _ q => k c v q) (fun c q => by rw [Am (Au q hn)]; exact q) fun c xs q => by rw [Am (Au q hn)]; exact q
end
def Rd (H : Hp) (a : Addr) (u : HO) : Prop := H a = some u ∨ ∃ o, H a = some (.frz o u)
theorem Rd.ok {P : Program} {w : World} {H : Hp} {h : Heap} {a : Addr} {u : HO} (r : Rd H a u) (x : HOk P w H h) : BX P w H h a u := by
 rcases r with r | ⟨o, r⟩
 ·exact x a u r
 ·obtain ⟨_, q⟩ := x a _ r
  exact q
def Mut : Option HO → Prop
 | some (.lst _) => True
 | some (.dK _) => True
 | some (.dT _) => True
 | some (.set _ _) => True
 | some (.ins _ _ _) => True
 | some (.ext _) => True
 | _ => False
section
variable {P : Program} {w : World} {H : Hp} {h h' : Heap} {x e : Addr} {o' : HO}
theorem HOk.write (ok : HOk P w H h) (mu : Mut (H x)) (he : e = x ∨ H e = some (.own x)) (k : ∀ b u, b ≠ e → h.get? b = some u → h'.get? b = some u) (heo : ∃ u, h'.get? e = some u)
 (new : BX P w (upd H x o') h' x o') : HOk P w (upd H x o') h' := fun b u q => by
 have nown : ∀ c y, H c = some (.own y) → c ≠ x := fun c y r z => by subst z; rw [r] at mu; exact mu
 have ntup : ∀ c xs, H c = some (.tup xs) → c ≠ x := fun c xs r z => by subst z; rw [r] at mu; exact mu
 by_cases hb : b = x
 ·subst hb; rw [Aa] at q; cases q; exact new
 ·rw [Am hb] at q
  by_cases hbe : b = e
  ·have q' : H b = some (.own x) := by
    rcases he with z | z
    ·exact absurd (hbe.trans z) hb
    ·rw [hbe]; exact z
   rw [q] at q'; cases q'
   obtain ⟨v, hv⟩ := heo
   exact ⟨v, by rw [hbe]; exact hv⟩
  ·refine (ok b u q).stay (fun c v hc r => k c v ?_ r) (fun c r => by rw [Am (nown c b r)]; exact r) fun c xs r => by rw [Am (ntup c xs r)]; exact r
   rcases hc with rfl | hc
   ·exact hbe
   ·rintro rfl
    rcases he with z | z
    ·exact nown c b hc z
    ·rw [hc] at z; cases z; exact hb rfl
end
structure Un (fs ex : List Addr) (H H' : Hp) (h h' : Heap) : Prop where
 keep : ∀ b o, h.get? b = some o → H b = none → b ∉ fs → b ∉ ex → h'.get? b = some o
 slot : ∀ b o, h.get? b = some o → H b = none → b ∈ fs → b ∉ ex → ∃ sl, h'.get? b = some { o with slots := sl }
 free : ∀ b o, h.get? b = some o → H b = none → b ∉ ex → H' b = none
 there : ∀ b o, h.get? b = some o → b ∉ ex → ∃ o', h'.get? b = some o'
 tups : ∀ b xs, H b = some (.tup xs) → H' b = some (.tup xs)
 frzs : ∀ b o u, H b = some (.frz o u) → H' b = some (.frz o u)
 tbls : ∀ b ps, H b = some (.tbl ps) → ∃ more, H' b = some (.tbl (ps ++ more))
section
variable {fs fs' ex ex' : List Addr} {H H1 H2 : Hp} {h h1 h2 h' : Heap} {a x e : Addr} {o : HO}
theorem Un.any (u : Un fs ex H H1 h h1) {b : Addr} {ob : Obj} (q : h.get? b = some ob) (n : H b = none) (hx : b ∉ ex) : ∃ sl, h1.get? b = some { ob with slots := sl } := by
 by_cases hb : b ∈ fs
 ·exact u.slot b ob q n hb hx
 ·exact ⟨ob.slots, u.keep b ob q n hb hx⟩
theorem Un.kept (k : ∀ b u, h.get? b = some u → h'.get? b = some u) : Un fs ex H H h h' :=
 ⟨fun b ob q _ _ _ => k b ob q, fun b ob q _ _ _ => ⟨ob.slots, k b ob q⟩, fun _ _ _ n _ => n, fun b ob q _ => ⟨ob, k b ob q⟩, fun _ _ q => q, fun _ _ _ q => q, fun _ ps q => ⟨#[], by rw [q]; simp⟩⟩
theorem Un.refl : Un fs ex H H h h := Un.kept fun _ _ q => q
theorem Un.laid (k : ∀ b u, h.get? b = some u → h'.get? b = some u) (hp : h.objs.size ≤ a) (hn : H a = none) : Un fs ex H (upd H a o) h h' where
 keep := fun b u q _ _ _ => k b u q
 slot := fun b u q _ _ _ => ⟨u.slots, k b u q⟩
 free := fun b u q n _ => by rw [Am (RP (RN (Heap.lt_size q) hp))]; exact n
 there := fun b u q _ => ⟨u, k b u q⟩
 tups := fun b xs q => by rw [Am (Au q hn)]; exact q
 frzs := fun b u xs q => by rw [Am (Au q hn)]; exact q
 tbls := fun b ps q => ⟨#[], by rw [Am (Au q hn), q]; simp⟩
theorem Un.write (mu : Mut (H x)) (he : e = x ∨ H e = some (.own x)) (k : ∀ b u, b ≠ e → h.get? b = some u → h'.get? b = some u) (heo : ∃ u, h'.get? e = some u) : Un fs ex H (upd H x o) h h' := by
 have hx : ∀ b, H b = none → b ≠ x := fun b n z => by subst z; rw [n] at mu; exact mu
 have hb : ∀ b, H b = none → b ≠ e := fun b n z => by
  subst z
  rcases he with r | r
  ·exact hx b n r
  ·rw [n] at r; cases r
 have hm : ∀ b u, H b = some u → ¬ Mut (some u) → b ≠ x := fun b u q nm z => by subst z; rw [q] at mu; exact nm mu
 refine ⟨fun b u q n _ _ => k b u (hb b n) q, fun b u q n _ _ => ⟨u.slots, k b u (hb b n) q⟩, fun b u q n _ => by rw [Am (hx b n)]; exact n, fun b u q _ => ?_,
  fun b xs q => by rw [Am (hm b _ q fun z => z)]; exact q, fun b u xs q => by rw [Am (hm b _ q fun z => z)]; exact q, fun b ps q => ⟨#[], by rw [Am (hm b _ q fun z => z), q]; simp⟩⟩
 by_cases hbe : b = e
 ·subst hbe; exact heo
 ·exact ⟨u, k b u hbe q⟩
end
def trk (h : Heap) (H : Hp) : List Addr := (RQ h.objs.size).filter fun a => (H a).isSome
def FT (h : Heap) (H : Hp) : Heap := PySem.W.hideAll h (trk h H)
theorem KR (h : Heap) (H : Hp) : (FT h H).objs.size = h.objs.size := PySem.W.hideAll_size _ _
theorem Mb {h : Heap} {H : Hp} {b : Addr} {o : Obj} (e : h.get? b = some o) (n : H b = none) : (FT h H).get? b = some o :=
 PySem.W.hideAll_get _ e fun hm => by
  have q : (H b).isSome = true := (RS.mp hm).2
  rw [n] at q; simp at q
theorem Nf {h : Heap} {H : Hp} {b : Addr} {o : Obj} (e : (FT h H).get? b = some o) : h.get? b = some o ∧ H b = none := by
 have e' : h.get? b = some o := PySem.W.of_hideAll (trk h H) e
 refine ⟨e', ?_⟩
 cases q : H b with
 | none => rfl
 | some x =>
   have hm : b ∈ trk h H := RS.mpr ⟨RT.mpr (Heap.lt_size e'), by simp [q]⟩
   have z : (FT h H).get? b = none := PySem.W.hideAll_none (trk h H) hm
   rw [z] at e; cases e
def Ny (g h : Heap) (L : Addr) : List (Addr × Obj) := (RQ h.objs.size).filterMap fun a => if a = L ∨ (g.get? a).isSome = true then none else (h.get? a).map fun o => (a, o)
def BY (g h : Heap) (L d : Addr) : List (Addr × Obj) := (Ny g h L).filter fun p => decide (p.1 ≠ d)
end L2
namespace L2
open PySem PySem.Spec PyProof.Rows
structure Mod (K : RU) (mg : Str → Option Value) (base : Heap) : Prop where
 kin : K.In base
 glob : base.Ns mainGlobals mg
 blt : ∃ mb, base.Ns builtinsNs mb ∧ ∀ x : Str, x ≠ "__name__" → mb x = bootBuiltins x
 nolimit : base.NoLimit
 seer : base.NoSeer
structure Cx where
 prog : Program
 w : World
 K : RU
 mg : Str → Option Value
 base : Heap
 A : Around
 N : List Str
 s₀ : Shared
 H₀ : Hp
 env : Env
 outer : List Env
 stack : List Env
 ex : List Addr
 fn : Str → Bool
 calm : Bool
 pn : List (Addr × Obj)
 xe : Value → Shared → Prop
def frs (l : List Env) : List Addr := l.filterMap (·.frame)
abbrev Cx.fs (X : Cx) : List Addr := frs X.outer
def Vis (sc : Scope) (x : Str) : Prop := sc.names.lookup x = some .local ∨ sc.names.lookup x = some .cell ∨ sc.names.lookup x = some .free
def Loc (sc : Scope) (x : Str) : Prop := sc.names.lookup x = some .local ∨ sc.names.lookup x = some .cell
def Qa (env : Env) (h : Heap) (m : Str → Option Value) (x : Str) (u : Value) : Prop :=
 (env.kindOf x = some .local ∧ m x = some u) ∨ ((env.kindOf x = some .cell ∨ env.kindOf x = some .free) ∧ ∃ c, env.cells.lookup x = some c ∧ h.IsCell c (some u))
structure Cx.Ok (X : Cx) : Prop where
 mod : Mod X.K X.mg X.base
 kind : X.env.scope.kind = .function
 glob : X.env.globals = mainGlobals
 blt : X.env.builtins = builtinsNs
 above : X.s₀.heap.objs.size ≤ X.env.locals
 inj : ∀ x y c, X.env.cells.lookup x = some c → X.env.cells.lookup y = some c → x = y
 has : ∀ x, (X.env.kindOf x = some .cell ∨ X.env.kindOf x = some .free) → ∃ c, X.env.cells.lookup x = some c
 cab : ∀ x c, X.fn x = true → X.env.cells.lookup x = some c → X.s₀.heap.objs.size ≤ c
 hd : X.calm = true → X.A.handled = none
 frames : X.A.frames = some X.stack
 stk : X.stack = X.outer ∨ (X.stack = X.env :: X.outer ∧ X.env.frame = some X.env.locals)
 exf : ∀ b ∈ X.ex, b ≠ X.env.locals ∧ ∀ x c, X.env.cells.lookup x = some c → c ≠ b
 bs : ∀ b o, X.base.get? b = some o → X.s₀.heap.get? b = some o ∧ X.H₀ b = none
 bsz : X.base.objs.size ≤ X.s₀.heap.objs.size
 noex : ∀ b o, X.base.get? b = some o → b ∉ X.ex
 exfs : ∀ b ∈ X.ex, b ∉ X.fs
 funs : X.s₀.heap.FunFrames X.base X.outer
 frf : ∀ b ∈ X.fs, X.H₀ b = none
structure Inv (X : Cx) (pins : List (Addr × Obj)) (σ : List (Option V)) (H : Hp) (s : Shared) : Prop where
 ok : X.Ok
 os : s.os = X.s₀.os
 bare : AllBare s.gens
 base : Un X.fs X.ex X.H₀ H X.s₀.heap s.heap
 loc : ∃ m, s.heap.Ns X.env.locals m ∧ ∀ (i : Nat) (x : Str) (v : V), X.N[i]? = some x → σ[i]? = some (some v) → Vis X.env.scope x → ∃ u, AI v u ∧ Qa X.env s.heap m x u
 cell : ∀ x c, X.env.cells.lookup x = some c → ∃ v, s.heap.IsCell c v
 free : H X.env.locals = none
 freeC : ∀ x c, X.env.cells.lookup x = some c → H c = none
 pin : ∀ p ∈ X.pn ++ pins, s.heap.get? p.1 = some p.2 ∧ H p.1 = none ∧ p.1 ≠ X.env.locals ∧ p.1 ∉ X.fs ∧ ∀ v, p.2.data ≠ .cell v
 hok : HOk X.prog X.w H s.heap
 len : σ.length = X.N.length
section
variable {X : Cx} {pins : List (Addr × Obj)} {σ : List (Option V)} {H H' : Hp} {s : Shared} {h' : Heap}
theorem Cx.Ok.nofr (ok : X.Ok) {b : Addr} {o : Obj} (e : X.base.get? b = some o) : b ∉ X.fs := fun hb => by
 have := (ok.funs.mem hb).1
 rw [e] at this; cases this
theorem Inv.bs (I : Inv X pins σ H s) : ∀ b o, X.base.get? b = some o → s.heap.get? b = some o ∧ H b = none := fun b o e =>
 ⟨I.base.keep b o (I.ok.bs b o e).1 (I.ok.bs b o e).2 (I.ok.nofr e) (I.ok.noex b o e), I.base.free b o (I.ok.bs b o e).1 (I.ok.bs b o e).2 (I.ok.noex b o e)⟩
theorem Inv.bk (I : Inv X pins σ H s) : ∀ b o, X.base.get? b = some o → s.heap.get? b = some o := fun b o e => (I.bs b o e).1
theorem Inv.mod (I : Inv X pins σ H s) : Mod X.K X.mg X.base := I.ok.mod
theorem Inv.kIn (I : Inv X pins σ H s) : X.K.In s.heap := I.ok.mod.kin.keeps I.bk
theorem Inv.nolimit (I : Inv X pins σ H s) : s.heap.NoLimit := I.ok.mod.nolimit.keeps I.bk
theorem Inv.lt (I : Inv X pins σ H s) : X.env.locals < s.heap.objs.size := let ⟨_, hn, _⟩ := I.loc; hn.lt
theorem Inv.sz (I : Inv X pins σ H s) : X.s₀.heap.objs.size ≤ s.heap.objs.size := RV I.ok.above (RW I.lt)
theorem Inv.nofs (I : Inv X pins σ H s) {a : Addr} (h : s.heap.objs.size ≤ a) : a ∉ X.fs := fun hb => by
 obtain ⟨_, o, ho, _⟩ := I.ok.funs.mem hb
 exact absurd (RN (Heap.lt_size ho) (RV I.sz h)) (RO _)
theorem Inv.cne (I : Inv X pins σ H s) : ∀ x c, X.env.cells.lookup x = some c → c ≠ X.env.locals := fun x c e z => by
 obtain ⟨v, o, ho, hd⟩ := I.cell x c e
 obtain ⟨m, ⟨o', es, ep, ho', hd', _⟩, _⟩ := I.loc
 rw [z, ho'] at ho; cases ho; rw [hd'] at hd; cases hd
theorem Inv.funs (I : Inv X pins σ H s) : s.heap.FunFrames X.base X.outer := by
 have all : ∀ (l : List Env), (∀ b ∈ frs l, b ∈ X.fs) → X.s₀.heap.FunFrames X.base l → s.heap.FunFrames X.base l := by
  intro l
  induction l with
  | nil => intro _ _; trivial
  | cons env r ih =>
    intro hs hl
    obtain ⟨hk, ⟨L, o, hf, hn, ho, hd⟩, hr⟩ := hl
    have hL : L ∈ X.fs := hs L (by unfold frs; rw [RX, hf]; exact RY)
    obtain ⟨sl, e⟩ := I.base.slot L o ho (I.ok.frf L hL) hL fun z => I.ok.exfs L z hL
    exact ⟨hk, ⟨L, _, hf, hn, e, hd⟩, ih (fun b hb => hs b (by unfold frs; rw [RX, hf]; exact RZ _ hb)) hr⟩
 exact all X.outer (fun _ hb => hb) I.ok.funs
theorem Inv.stack (I : Inv X pins σ H s) : s.heap.FunFrames X.base X.stack := by
 rcases I.ok.stk with e | ⟨e, hf⟩
 ·rw [e]; exact I.funs
 ·rw [e]
  obtain ⟨m, hn, _⟩ := I.loc
  refine .cons (by rw [I.ok.kind]; decide) hf hn ?_ I.funs
  exact Heap.get?_none_of_le (RV I.ok.bsz I.ok.above)
theorem Inv.stkSub (I : Inv X pins σ H s) : ∀ b ∈ frs X.stack, b ∈ X.env.locals :: X.fs := fun b hb => by
 rcases I.ok.stk with e | ⟨e, hf⟩
 ·rw [e] at hb; exact RZ _ hb
 ·rw [e] at hb
  unfold frs at hb
  rw [RX, hf] at hb
  exact hb
theorem Inv.stkFree (I : Inv X pins σ H s) : ∀ b ∈ frs X.stack, H b = none := fun b hb => by
 rcases S1.mp (I.stkSub b hb) with e | hb
 ·rw [e]; exact I.free
 ·obtain ⟨_, o, ho, _⟩ := I.ok.funs.mem hb
  exact I.base.free b o ho (I.ok.frf b hb) fun z => I.ok.exfs b z hb
theorem Inv.step {g' : Array GenState} {t' : Nat} {d' : Drawn} {ch : List Addr} (I : Inv X pins σ H s)
 (hch : ∀ b ∈ ch, (b ∈ X.ex ∨ X.s₀.heap.objs.size ≤ b) ∧ b ≠ X.env.locals ∧ (∀ x c, X.env.cells.lookup x = some c → c ≠ b) ∧ ∀ p ∈ X.pn ++ pins, p.1 ≠ b)
 (keep : ∀ b o, b ≠ X.env.locals → b ∉ X.fs → b ∉ ch → s.heap.get? b = some o → H b = none → h'.get? b = some o)
 (slot : ∀ b o, b ≠ X.env.locals → b ∈ X.fs → b ∉ ch → s.heap.get? b = some o → H b = none → ∃ sl, h'.get? b = some { o with slots := sl }) (free : ∀ b o, b ∉ ch → s.heap.get? b = some o → H b = none → H' b = none)
 (there : ∀ b o, b ∉ ch → s.heap.get? b = some o → ∃ o', h'.get? b = some o')
 (tups : ∀ b xs, H b = some (.tup xs) → H' b = some (.tup xs)) (frzs : ∀ b o u, H b = some (.frz o u) → H' b = some (.frz o u)) (tbls : ∀ b ps, H b = some (.tbl ps) → ∃ more, H' b = some (.tbl (ps ++ more)))
 (ns : ∀ m, s.heap.Ns X.env.locals m → h'.Ns X.env.locals m) (hok : HOk X.prog X.w H' h') (hg : AllBare g') :
 Inv X pins σ H' { s with heap := h', gens := g', drawn := d', toks := t' } := by
 have neL : ∀ b o, X.s₀.heap.get? b = some o → b ≠ X.env.locals := fun b o e => RP (RN (Heap.lt_size e) I.ok.above)
 have neC : ∀ b o, X.s₀.heap.get? b = some o → b ∉ X.ex → b ∉ ch := fun b o e hx hb => by
  rcases (hch b hb).1 with z | z
  ·exact hx z
  ·exact absurd (RN (Heap.lt_size e) z) (RO _)
 have cellK : ∀ x c, X.env.cells.lookup x = some c → ∀ v, s.heap.IsCell c v → h'.IsCell c v := fun x c e v ⟨o, ho, hd⟩ => by
  have nch : c ∉ ch := fun z => (hch c z).2.2.1 x c e rfl
  by_cases hc : c ∈ X.fs
  ·obtain ⟨sl, q⟩ := slot c o (I.cne x c e) hc nch ho (I.freeC x c e)
   exact ⟨_, q, hd⟩
  ·exact ⟨o, keep c o (I.cne x c e) hc nch ho (I.freeC x c e), hd⟩
 refine ⟨I.ok, I.os, hg, ⟨fun b o e n hb hx => ?_, fun b o e n hb hx => ?_, fun b o e n hx => ?_, fun b o e hx => ?_, fun b xs e => tups b xs (I.base.tups b xs e), fun b o xs e => frzs b o xs (I.base.frzs b o xs e), fun b ps e => ?_⟩, ?_, fun x c e => ?_, ?_, fun x c e => ?_, fun p hp => ?_, hok, I.len⟩
 ·exact keep b o (neL b o e) hb (neC b o e hx) (I.base.keep b o e n hb hx) (I.base.free b o e n hx)
 ·obtain ⟨sl, e1⟩ := I.base.slot b o e n hb hx
  obtain ⟨sl', e2⟩ := slot b _ (neL b o e) hb (neC b o e hx) e1 (I.base.free b o e n hx)
  exact ⟨sl', e2⟩
 ·obtain ⟨o', e1⟩ := I.base.there b o e hx
  exact free b o' (neC b o e hx) e1 (I.base.free b o e n hx)
 ·obtain ⟨o', e1⟩ := I.base.there b o e hx
  exact there b o' (neC b o e hx) e1
 ·obtain ⟨m1, e1⟩ := I.base.tbls b ps e
  obtain ⟨m2, e2⟩ := tbls b _ e1
  exact ⟨m1 ++ m2, by rw [e2, Array.append_assoc]⟩
 ·obtain ⟨m, hn, hl⟩ := I.loc
  refine ⟨m, ns m hn, fun i x v e1 e2 e3 => ?_⟩
  obtain ⟨u, r, l⟩ := hl i x v e1 e2 e3
  refine ⟨u, r, ?_⟩
  rcases l with l | ⟨k, c, e, z⟩
  ·exact .inl l
  ·exact .inr ⟨k, c, e, cellK x c e _ z⟩
 ·obtain ⟨v, z⟩ := I.cell x c e
  exact ⟨v, cellK x c e v z⟩
 ·obtain ⟨m, ⟨o, _, _, ho, _⟩, _⟩ := I.loc
  exact free _ o (fun z => (hch _ z).2.1 rfl) ho I.free
 ·obtain ⟨v, o, ho, hd⟩ := I.cell x c e
  exact free c o (fun z => (hch c z).2.2.1 x c e rfl) ho (I.freeC x c e)
 ·obtain ⟨e, n, ne, nf, d⟩ := I.pin p hp
  have nch : p.1 ∉ ch := fun z => (hch p.1 z).2.2.2 p hp rfl
  exact ⟨keep p.1 p.2 ne nf nch e n, free p.1 p.2 nch e n, ne, nf, d⟩
theorem Inv.un {t' : Nat} (I : Inv X pins σ H s) (u : Un X.fs [] H H' s.heap h') (hok : HOk X.prog X.w H' h') : Inv X pins σ H' { s with heap := h', toks := t' } := by
 obtain ⟨m, ⟨o, es, ep, ho, r⟩, _⟩ := id I.loc
 obtain ⟨sl, hL⟩ := u.any ho I.free (by simp)
 exact I.step (g' := s.gens) (d' := s.drawn) (ch := []) (fun _ z => nomatch z) (fun b o _ hb _ e n => u.keep b o e n hb (by simp)) (fun b o _ hb _ e n => u.slot b o e n hb (by simp)) (fun b o _ e n => u.free b o e n (by simp)) (fun b o _ e => u.there b o e (by simp)) u.tups u.frzs u.tbls (fun m' hm => by
  obtain ⟨o', es', ep', ho', r'⟩ := hm
  rw [ho] at ho'; cases ho'
  exact ⟨_, es', ep', hL, r'⟩) hok I.bare
theorem Inv.call {g' : Array GenState} {t' : Nat} {d' : Drawn} {ch : List Addr} (I : Inv X pins σ H s) (u : Un (frs X.stack) ch H H' s.heap h') (hok : HOk X.prog X.w H' h') (hg : AllBare g')
 (hch : ∀ b ∈ ch, (b ∈ X.ex ∨ X.s₀.heap.objs.size ≤ b) ∧ b ≠ X.env.locals ∧ (∀ x c, X.env.cells.lookup x = some c → c ≠ b) ∧ ∀ p ∈ X.pn ++ pins, p.1 ≠ b) :
 Inv X pins σ H' { s with heap := h', gens := g', drawn := d', toks := t' } := by
 obtain ⟨m, ⟨o, es, ep, ho, r⟩, _⟩ := id I.loc
 obtain ⟨sl, hL⟩ := u.any ho I.free fun z => (hch _ z).2.1 rfl
 exact I.step (ch := ch) hch (fun b o hL hb hc e n => u.keep b o e n (fun z => (S1.mp (I.stkSub b z)).elim hL hb) hc) (fun b o _ _ hc e n => u.any e n hc) (fun b o hc e n => u.free b o e n hc) (fun b o hc e => u.there b o e hc) u.tups u.frzs u.tbls (fun m' hm => by
  obtain ⟨o', es', ep', ho', r'⟩ := hm
  rw [ho] at ho'; cases ho'
  exact ⟨_, es', ep', hL, r'⟩) hok hg
theorem Inv.turned {t' : Nat} {it : Addr} (I : Inv X pins σ H s) (k : ∀ b o, b ≠ it → s.heap.get? b = some o → h'.get? b = some o) (hn : H it = none) (hL : it ≠ X.env.locals)
 (h1 : it ∈ X.ex ∨ X.s₀.heap.objs.size ≤ it) (h2 : ∀ x c, X.env.cells.lookup x = some c → c ≠ it) (h3 : ∀ p ∈ X.pn ++ pins, p.1 ≠ it) : Inv X pins σ H { s with heap := h', toks := t' } := by
 have nit : ∀ b u, H b = some u → b ≠ it := fun b u e z => by rw [z, hn] at e; cases e
 refine I.step (g' := s.gens) (d' := s.drawn) (ch := [it]) (fun b hb => ?_) (fun b o _ _ hc e _ => k b o (fun z => hc (by simp [z])) e) (fun b o _ _ hc e _ => ⟨o.slots, k b o (fun z => hc (by simp [z])) e⟩) (fun _ _ _ _ n => n)
  (fun b o hc e => ⟨o, k b o (fun z => hc (by simp [z])) e⟩) (fun _ _ e => e) (fun _ _ _ e => e) (fun b ps e => ⟨#[], by rw [e]; simp⟩) (fun m hm => ?_) (fun b u e => ?_) I.bare
 ·have e : b = it := by simpa using hb
  subst e
  exact ⟨h1, hL, h2, h3⟩
 ·obtain ⟨o, es, ep, ho, r⟩ := hm
  exact ⟨o, es, ep, k _ o (Ne.symm hL) ho, r⟩
 ·refine (I.hok b u e).stay (fun c v hc q => k c v ?_ q) (fun _ q => q) fun _ _ q => q
  rcases hc with z | z
  ·rw [z]; exact nit b u e
  ·exact nit c _ z
theorem Inv.tok (I : Inv X pins σ H s) (t : Nat) : Inv X pins σ H { s with toks := t } := I.un (h' := s.heap) (t' := t) Un.refl I.hok
theorem Inv.kept {t' : Nat} (I : Inv X pins σ H s) (k : ∀ b u, s.heap.get? b = some u → h'.get? b = some u) : Inv X pins σ H { s with heap := h', toks := t' } := I.un (Un.kept k) (I.hok.kept k)
theorem Inv.laid {a : Addr} {o : HO} {t' : Nat} (I : Inv X pins σ H s) (k : ∀ b u, s.heap.get? b = some u → h'.get? b = some u) (hp : s.heap.objs.size ≤ a) (new : BX X.prog X.w (upd H a o) h' a o) :
 Inv X pins σ (upd H a o) { s with heap := h', toks := t' } := I.un (Un.laid k hp (I.hok.fresh hp)) (I.hok.laid k hp new)
theorem Inv.write {x e : Addr} {o : HO} {t' : Nat} (I : Inv X pins σ H s) (mu : Mut (H x)) (he : e = x ∨ H e = some (.own x)) (k : ∀ b u, b ≠ e → s.heap.get? b = some u → h'.get? b = some u) (heo : ∃ u, h'.get? e = some u)
 (new : BX X.prog X.w (upd H x o) h' x o) : Inv X pins σ (upd H x o) { s with heap := h', toks := t' } := I.un (Un.write mu he k heo) (I.hok.write mu he k heo new)
theorem Inv.weak {σ' : List (Option V)} (I : Inv X pins σ H s) (hl : σ'.length = σ.length) (w : ∀ (i : Nat) v, σ'[i]? = some (some v) → σ[i]? = some (some v)) : Inv X pins σ' H s :=
 ⟨I.ok, I.os, I.bare, I.base, let ⟨m, hn, hl'⟩ := I.loc; ⟨m, hn, fun i x v e1 e2 e3 => hl' i x v e1 (w i v e2) e3⟩, I.cell, I.free, I.freeC, I.pin, I.hok, hl.trans I.len⟩
theorem Inv.pins_of {pins' : List (Addr × Obj)} (I : Inv X pins σ H s) (h : ∀ p ∈ pins', s.heap.get? p.1 = some p.2 ∧ H p.1 = none ∧ p.1 ≠ X.env.locals ∧ p.1 ∉ X.fs ∧ ∀ v, p.2.data ≠ .cell v) : Inv X pins' σ H s :=
 ⟨I.ok, I.os, I.bare, I.base, I.loc, I.cell, I.free, I.freeC, fun p hp => (S2.mp hp).elim (fun z => I.pin p (S3 _ z)) (h p), I.hok, I.len⟩
theorem IJ {N : List Str} (hN : N.Nodup) {i j : Nat} {x : Str} (a : N[i]? = some x) (b : N[j]? = some x) : i = j := by
 obtain ⟨h1, e1⟩ := S4.mp a
 obtain ⟨h2, e2⟩ := S4.mp b
 exact (List.getElem_inj hN).mp (e1.trans e2.symm)
theorem Gr {M : Model} {A : Around} {E : Value → Shared → Prop} {i : Nat} {x : Str} {v : V} {u : Value} {Q : Unit → Shared → Prop} (I : Inv X pins σ H s) (hN : X.N.Nodup) (hi : X.N[i]? = some x) (hx : Loc X.env.scope x) (r : AI v u)
 (h : ∀ s', Inv X pins (σ.set i (some v)) H s' → (∃ a, Heap.SameBut a s.heap s'.heap ∧ (a = X.env.locals ∨ X.env.cells.lookup x = some a)) → Q () s') (hf : X.fn x = true ∨ X.env.scope.names.lookup x = some .local := by first | exact .inl rfl | exact .inr rfl | assumption) : wpAny M A (storeName X.env x u) Q E s := by
 obtain ⟨m, hn, hl⟩ := id I.loc
 have hcls : (X.env.scope.kind == .class || (X.env.scope.kind == .module && X.env.locals != X.env.globals)) = false := by rw [I.ok.kind]; rfl
 have hiσ : i < σ.length := by rw [I.len]; exact (S4.mp hi).1
 have cne := I.cne
 have tracked : ∀ {a : Addr} {h' : Heap}, (∃ o, s.heap.get? a = some o ∧ H a = none) → Heap.SameBut a s.heap h' → HOk X.prog X.w H h' := fun {a h'} ha hs b ob e => by
  obtain ⟨_, _, hfree⟩ := ha
  refine (I.hok b ob e).stay (fun c w' hc q => (hs.2 c ?_).trans q) (fun _ q => q) fun _ _ q => q
  rintro rfl
  rcases hc with rfl | hc
  ·rw [hfree] at e; cases e
  ·rw [hfree] at hc; cases hc
 rcases hx with hk | hk
 ·refine wpAny_storeName_local hk hn (fun h' hn' hs => ?_) hcls
  obtain ⟨oL, _, _, hoL, _⟩ := id hn
  refine h _ ⟨I.ok, I.os, I.bare, ⟨fun b o e n hb hx => ?_, fun b o e n hb hx => ?_, I.base.free, fun b o e hx => ?_, I.base.tups, I.base.frzs, I.base.tbls⟩, ⟨_, hn', fun j y v' e1 e2 e3 => ?_⟩, fun y c e => ?_, I.free, I.freeC, fun p hp => ?_, tracked ⟨oL, hoL, I.free⟩ hs, by simpa using I.len⟩ ⟨_, hs, .inl rfl⟩
  ·exact (hs.2 b (RP (RN (Heap.lt_size e) I.ok.above))).trans (I.base.keep b o e n hb hx)
  ·obtain ⟨sl, e1⟩ := I.base.slot b o e n hb hx
   exact ⟨sl, (hs.2 b (RP (RN (Heap.lt_size e) I.ok.above))).trans e1⟩
  ·obtain ⟨o', e1⟩ := I.base.there b o e hx
   exact ⟨o', (hs.2 b (RP (RN (Heap.lt_size e) I.ok.above))).trans e1⟩
  ·by_cases hj : j = i
   ·subst hj
    rw [hi] at e1; cases e1
    rw [List.getElem?_set_self hiσ] at e2
    cases e2
    exact ⟨u, r, .inl ⟨hk, by simp⟩⟩
   ·rw [S5 (Ne.symm hj)] at e2
    obtain ⟨u', r', q⟩ := hl j y v' e1 e2 e3
    refine ⟨u', r', ?_⟩
    rcases q with ⟨k, e⟩ | ⟨k, c, e, z⟩
    ·refine .inl ⟨k, ?_⟩
     have : y ≠ x := fun e => hj (IJ hN e1 (e ▸ hi))
     simp [this, e]
    ·exact .inr ⟨k, c, e, z.sameBut hs (cne y c e)⟩
  ·obtain ⟨w', z⟩ := I.cell y c e
   exact ⟨w', z.sameBut hs (cne y c e)⟩
  ·obtain ⟨e, n, ne, nf, d⟩ := I.pin p hp
   exact ⟨(hs.2 p.1 ne).trans e, n, ne, nf, d⟩
 ·have hfn : X.fn x = true := by
   rcases hf with z | z
   ·exact z
   ·rw [z] at hk; cases hk
  obtain ⟨c, hc⟩ := I.ok.has x (.inl hk)
  obtain ⟨w', z⟩ := I.cell x c hc
  refine wpAny_storeName_cell I.ok.kind hk hc z (fun h' hc' hs => ?_)
  obtain ⟨oc, hoc, hocd⟩ := id z
  refine h { s with heap := h' } ⟨I.ok, I.os, I.bare, ⟨fun b o e n hb hx => ?_, fun b o e n hb hx => ?_, I.base.free, fun b o e hx => ?_, I.base.tups, I.base.frzs, I.base.tbls⟩, ⟨m, hn.sameBut hs (Ne.symm (cne x c hc)), fun j y v' e1 e2 e3 => ?_⟩, fun y c' e => ?_, I.free, I.freeC, fun p hp => ?_, tracked ⟨oc, hoc, I.freeC x c hc⟩ hs, by simpa using I.len⟩ ⟨c, hs, .inr hc⟩
  ·exact (hs.2 b (RP (RN (Heap.lt_size e) (I.ok.cab x c hfn hc)))).trans (I.base.keep b o e n hb hx)
  ·obtain ⟨sl, e1⟩ := I.base.slot b o e n hb hx
   exact ⟨sl, (hs.2 b (RP (RN (Heap.lt_size e) (I.ok.cab x c hfn hc)))).trans e1⟩
  ·obtain ⟨o', e1⟩ := I.base.there b o e hx
   exact ⟨o', (hs.2 b (RP (RN (Heap.lt_size e) (I.ok.cab x c hfn hc)))).trans e1⟩
  ·by_cases hj : j = i
   ·subst hj
    rw [hi] at e1; cases e1
    rw [List.getElem?_set_self hiσ] at e2
    cases e2
    exact ⟨u, r, .inr ⟨.inl hk, c, hc, hc'⟩⟩
   ·rw [S5 (Ne.symm hj)] at e2
    obtain ⟨u', r', q⟩ := hl j y v' e1 e2 e3
    refine ⟨u', r', ?_⟩
    rcases q with q | ⟨k, c', e, z'⟩
    ·exact .inl q
    ·refine .inr ⟨k, c', e, z'.sameBut hs ?_⟩
     rintro rfl
     exact hj (IJ hN e1 (I.ok.inj _ _ _ e hc ▸ hi))
  ·by_cases hcc : c' = c
   ·subst hcc; exact ⟨_, hc'⟩
   ·obtain ⟨w2, z2⟩ := I.cell y c' e
    exact ⟨w2, z2.sameBut hs hcc⟩
  ·obtain ⟨e, n, ne, nf, d⟩ := I.pin p hp
   refine ⟨(hs.2 p.1 ?_).trans e, n, ne, nf, d⟩
   intro q
   rw [q, hoc] at e
   have q' : oc = p.2 := RL.inj e
   exact d w' (by rw [← q']; exact hocd)
theorem DT {M : Model} {A : Around} {E : Value → Shared → Prop} {i : Nat} {x : Str} {v : V} {u : Value} {Q : Unit → Shared → Prop} (I : Inv X pins σ H s) (hN : X.N.Nodup) (hi : X.N[i]? = some x) (hx : Loc X.env.scope x) (r : AI v u)
 (h : ∀ s', Inv X pins (σ.set i (some v)) H s' → Q () s') (hf : X.fn x = true ∨ X.env.scope.names.lookup x = some .local := by first | exact .inl rfl | exact .inr rfl | assumption) : wpAny M A (storeName X.env x u) Q E s :=
 Gr I hN hi hx r (fun s' I' _ => h s' I') hf
theorem Inv.call' {s' : Shared} {ch : List Addr} (I : Inv X pins σ H s) (ho : s'.os = s.os) (u : Un (frs X.stack) ch H H' s.heap s'.heap) (hok : HOk X.prog X.w H' s'.heap) (hg : AllBare s'.gens)
 (hch : ∀ b ∈ ch, (b ∈ X.ex ∨ X.s₀.heap.objs.size ≤ b) ∧ b ≠ X.env.locals ∧ (∀ x c, X.env.cells.lookup x = some c → c ≠ b) ∧ ∀ p ∈ X.pn ++ pins, p.1 ≠ b) : Inv X pins σ H' s' := by
 obtain ⟨h', g', d', t', o'⟩ := s'
 have e : o' = s.os := ho
 subst e
 exact I.call (g' := g') (t' := t') (d' := d') u hok hg hch
end
abbrev XK := Value → Option Addr → Hp → Prop
abbrev St := List (Option V)
abbrev VK := V → Hp → Prop
abbrev TE := St → Hp → VK → Prop
abbrev TT := St → Hp → (Bool → Hp → Prop) → Prop
abbrev TA := St → Hp → (List V → Hp → Prop) → Prop
structure CM where
 nx : St → Hp → Prop
 rt : VK
 bk : St → Hp → Prop := fun _ _ => False
 ct : St → Hp → Prop := fun _ _ => False
abbrev TS := CM → St → Hp → Prop
inductive EP (X : Cx) (pins : List (Addr × Obj)) (σ : St) (Q : VK) (u : Value) (s' : Shared) : Prop
 | mk (v : _) (H' : _) (h1 : Inv X pins σ H' s') (h2 : AI v u) (h3 : Q v H') : EP X pins σ Q u s'
def TP (X : Cx) (pins : List (Addr × Obj)) (σ : St) (Q : Bool → Hp → Prop) (b : Bool) (s' : Shared) : Prop := ∃ H', Inv X pins σ H' s' ∧ Q b H'
inductive AP (X : Cx) (pins : List (Addr × Obj)) (σ : St) (Q : List V → Hp → Prop) (us : List Value) (s' : Shared) : Prop
 | mk (vs : _) (H' : _) (h1 : Inv X pins σ H' s') (h2 : AA vs us) (h3 : Q vs H') : AP X pins σ Q us s'
def SP (X : Cx) (pins : List (Addr × Obj)) (D : CM) (f : Flow) (s' : Shared) : Prop :=
 match f with
 | .next => ∃ σ' H', Inv X pins σ' H' s' ∧ D.nx σ' H'
 | .brk => ∃ σ' H', Inv X pins σ' H' s' ∧ D.bk σ' H'
 | .cont => ∃ σ' H', Inv X pins σ' H' s' ∧ D.ct σ' H'
 | .ret u => ∃ v σ' H', Inv X pins σ' H' s' ∧ AI v u ∧ D.rt v H'
def PE (X : Cx) (e : Expr) (t : TE) : Prop :=
 ∀ (pins : List (Addr × Obj)) (s : Shared) (σ : St) (H : Hp) (Q : VK), Inv X pins σ H s → t σ H Q → wpAny (model X.prog X.w) X.A (eval e X.env) (EP X pins σ Q) X.xe s
def PT (X : Cx) (e : Expr) (t : TT) : Prop :=
 ∀ (pins : List (Addr × Obj)) (s : Shared) (σ : St) (H : Hp) (Q : Bool → Hp → Prop), Inv X pins σ H s → t σ H Q → wpAny (model X.prog X.w) X.A (isTrue e X.env (eval e X.env)) (TP X pins σ Q) X.xe s
def PW (X : Cx) (e : Expr) (t : TT) : Prop :=
 ∀ (whole : Sem Value) (pins : List (Addr × Obj)) (s : Shared) (σ : St) (H : Hp) (Q : Bool → Hp → Prop), Inv X pins σ H s → t σ H Q → wpAny (model X.prog X.w) X.A (isTrue e X.env whole) (TP X pins σ Q) X.xe s
theorem PW.pt {X : Cx} {e : Expr} {t : TT} (h : PW X e t) : PT X e t := h _
def PA (X : Cx) (es : List Expr) (t : TA) : Prop :=
 ∀ (pos : Pos) (pins : List (Addr × Obj)) (s : Shared) (σ : St) (H : Hp) (Q : List V → Hp → Prop), Inv X pins σ H s → t σ H Q → wpAny (model X.prog X.w) X.A (spliced (backTo pos (starEach es X.env))) (AP X pins σ Q) X.xe s
def PS (X : Cx) (st : Stmt) (t : TS) : Prop :=
 ∀ (pins : List (Addr × Obj)) (s : Shared) (σ : St) (H : Hp) (D : CM), Inv X pins σ H s → t D σ H → wpAny (model X.prog X.w) X.A (exec st X.env) (SP X pins D) X.xe s
def PSs (X : Cx) (st : List Stmt) (t : TS) : Prop :=
 ∀ (pins : List (Addr × Obj)) (s : Shared) (σ : St) (H : Hp) (D : CM), Inv X pins σ H s → t D σ H → wpAny (model X.prog X.w) X.A (execs st X.env) (SP X pins D) X.xe s
theorem thn {α : Type} {t : Sem α} {Q Q' : α → Shared → Prop} {M : Model} {A : Around} {E : Value → Shared → Prop} {s : Shared} (h : wpAny M A t Q E s) (hQ : ∀ a s, Q a s → Q' a s) : wpAny M A t Q' E s := wpAny_mono h hQ fun _ _ x => x
end L2
namespace L2
open PySem PySem.Spec PyProof.Rows
section
variable {X : Cx}
inductive Ll (i : Nat) (σ : St) (H : Hp) (Q : VK) : Prop
 | mk (v : _) (h1 : σ[i]? = some (some v)) (h2 : Q v H) : Ll i σ H Q
def tC (v : V) : TE := fun _ H Q => Q v H
theorem Og {i : Nat} {x : Str} {pos : Pos} (hN : X.N[i]? = some x) (hv : Vis X.env.scope x) (hd : (x == ("__debug__" : Str)) = false := by decide) (hcd : (x == ("__classdict__" : Str)) = false := by decide) : PE X (.Name x pos) (Ll i) := by
 intro pins s σ H Q I h
 obtain ⟨v, e, h⟩ := h
 obtain ⟨m, hn, hl⟩ := I.loc
 obtain ⟨u, r, l⟩ := hl i x v hN e hv
 have fin : EP X pins σ Q u s := ⟨v, H, I, r, h⟩
 rcases l with ⟨hk, hm⟩ | ⟨hk, c, hc, hcell⟩
 ·exact wpAny_Name (wpAny_loadName_local I.ok.kind hk hn hm fin) hd
 ·rcases hk with hk | hk
  ·exact wpAny_Name (wpAny_loadName_cell I.ok.kind hk hc hcell fin) hd
  ·exact wpAny_Name (wpAny_loadName_free I.ok.kind hk hc hcell fin hcd) hd
theorem Ad {i j pos} : PE X (.Constant (.int i) j pos) (tC (.int i)) := fun _ _ _ H _ I h => wpAny_Constant_int ⟨.int i, H, I.tok _, ⟨_, rfl⟩, h⟩
theorem LJ {b j pos} : PE X (.Constant (.bool b) j pos) (tC (.bl b)) := fun _ _ _ H _ I h => Constant_bool ⟨.bl b, H, I, rfl, h⟩
theorem Hk {x j pos} : PE X (.Constant (.str x) j pos) (tC (.str x)) := fun _ _ _ H _ I h => Calls.Constant_str ⟨.str x, H, I.tok _, ⟨_, rfl⟩, h⟩
def Gl (X : Cx) (x : Str) : Prop := X.env.kindOf x = some .globalImplicit
theorem K5 {E : Value → Shared → Prop} {pins : List (Addr × Obj)} {s : Shared} {σ : St} {H : Hp} {x : Str} {u : Value} {pos : Pos} {Q : Value → Shared → Prop} (I : Inv X pins σ H s) (hg : Gl X x) (hm : X.mg x = some u) (h : Q u s)
 (hd : (x == ("__debug__" : Str)) = false := by decide) : wpAny (model X.prog X.w) X.A (eval (.Name x pos) X.env) Q E s :=
 Calls.Name_function_global I.ok.kind hg (Calls.loadGlobal_global (by rw [I.ok.glob]; exact I.mod.glob.keeps I.bk) hm h) hd
theorem CZ {E : Value → Shared → Prop} {pins : List (Addr × Obj)} {s : Shared} {σ : St} {H : Hp} {x : Str} {u : Value} {pos : Pos} {Q : Value → Shared → Prop} (I : Inv X pins σ H s) (hg : Gl X x) (hm : X.mg x = none) (hv : bootBuiltins x = some u) (h : Q u s)
 (hn : x ≠ "__name__" := by decide) (hd : (x == ("__debug__" : Str)) = false := by decide) : wpAny (model X.prog X.w) X.A (eval (.Name x pos) X.env) Q E s := by
 obtain ⟨mb, h1, h2⟩ := I.mod.blt
 exact Calls.Name_function_global I.ok.kind hg (Calls.loadGlobal_builtin (by rw [I.ok.glob]; exact I.mod.glob.keeps I.bk) hm (by rw [I.ok.blt]; exact h1.keeps I.bk) ((h2 x hn).trans hv) h) hd
theorem E3 {x : Str} {v : V} {u : Value} {pos : Pos} (hg : Gl X x) (hm : X.mg x = some u) (r : AI v u) (hd : (x == ("__debug__" : Str)) = false := by decide) : PE X (.Name x pos) (tC v) :=
 fun _ _ _ H _ I h => K5 I hg hm ⟨v, H, I, r, h⟩ hd
variable {a b : Expr} {ta tb : TE} {pos : Pos}
def tB (t : TE) : TT := fun σ H Q => t σ H fun x H1 => ∃ c, x = .bl c ∧ Q c H1
theorem O9 {e : Expr} {t : TE} (h : PE X e t) (he : ∀ whole, isTrue e X.env whole = (do let v ← whole; standAt e.pos; holding [v] (truthy v)) := by intro _; rfl) : PT X e (tB t) := by
 intro pins s σ H Q I hw
 refine isTrue_plain (thn (h pins s σ H _ I hw) fun v s1 ⟨x, H1, I1, r1, q1⟩ => ?_) (he _)
 obtain ⟨d, rfl, q⟩ := q1
 cases r1
 exact wpAny_truthy_bool ⟨H1, I1, q⟩
variable {tA tB' : TT} {BY : List Expr}
def PR (t u : TT) : TT := fun σ H Q => t σ H fun c H1 => if c = true then u σ H1 Q else Q false H1
def tOr (t u : TT) : TT := fun σ H Q => t σ H fun c H1 => if c = true then Q true H1 else u σ H1 Q
def PN (t : TT) : TT := fun σ H Q => t σ H fun c H1 => Q (!c) H1
theorem E1 (ha : PT X a tA) : PW X (.BoolOp .And [a] pos) tA := by
 intro wh pins s σ H Q I h
 refine isTrue_and (thn (ha pins s σ H Q I h) fun c s1 e => ?_)
 cases c with
 | true => exact isTrue_and_nil e
 | false => exact e
theorem Hj (ha : PT X a tA) : PW X (.BoolOp .Or [a] pos) tA := by
 intro wh pins s σ H Q I h
 refine isTrue_or (thn (ha pins s σ H Q I h) fun c s1 e => ?_)
 cases c with
 | false => exact isTrue_or_nil e
 | true => exact e
theorem Fy (ha : PT X a tA) (hb : PW X (.BoolOp .And (b :: BY) pos) tB') : PW X (.BoolOp .And (a :: b :: BY) pos) (PR tA tB') := by
 intro wh pins s σ H Q I h
 refine isTrue_and (thn (ha pins s σ H _ I h) fun c s1 ⟨H1, I1, q1⟩ => ?_)
 cases c with
 | true => exact hb wh pins s1 σ H1 Q I1 q1
 | false => exact ⟨H1, I1, q1⟩
theorem JY (ha : PT X a tA) (hb : PW X (.BoolOp .Or (b :: BY) pos) tB') : PW X (.BoolOp .Or (a :: b :: BY) pos) (tOr tA tB') := by
 intro wh pins s σ H Q I h
 refine isTrue_or (thn (ha pins s σ H _ I h) fun c s1 ⟨H1, I1, q1⟩ => ?_)
 cases c with
 | true => exact ⟨H1, I1, q1⟩
 | false => exact hb wh pins s1 σ H1 Q I1 q1
theorem Oa (ha : PT X a tA) : PT X (.UnaryOp .Not a pos) (PN tA) := by
 intro pins s σ H Q I h
 exact isTrue_not (ha pins s σ H (fun c H1 => Q (!c) H1) I h)
def P9 (ta tb : TE) : TE := fun σ H Q => ta σ H fun x H1 => ∃ c, x = .bl c ∧ if c = true then tb σ H1 Q else Q (.bl false) H1
theorem Oh {op} {t : TE} (h : PE X a t) : PE X (.BoolOp op [a] pos) t := fun pins s σ H Q I hw => BoolOp_one (h pins s σ H Q I hw)
theorem LK (ha : PE X a ta) (hb : PE X (.BoolOp .And (b :: BY) pos) tb) : PE X (.BoolOp .And (a :: b :: BY) pos) (P9 ta tb) := by
 intro pins s σ H Q I h
 refine BoolOp_and (thn (ha pins s σ H _ I h) fun v s1 ⟨x, H1, I1, r1, q1⟩ => ?_)
 obtain ⟨c, rfl, q1⟩ := q1
 cases r1
 refine wpAny_truthy_bool ?_
 cases c with
 | true => exact hb pins s1 σ H1 Q I1 q1
 | false => exact ⟨.bl false, H1, I1, rfl, q1⟩
def tIf (t : TT) (ta tb : TE) : TE := fun σ H Q => t σ H fun c H1 => if c = true then ta σ H1 Q else tb σ H1 Q
theorem FE {c : Expr} (hc : PT X c tA) (ha : PE X a ta) (hb : PE X b tb) : PE X (.IfExp c a b pos) (tIf tA ta tb) := by
 intro pins s σ H Q I h
 refine wpAny_IfExp (thn (hc pins s σ H _ I h) fun d s1 ⟨H1, I1, q1⟩ => ?_)
 cases d with
 | true => exact ha pins s1 σ H1 Q I1 q1
 | false => exact hb pins s1 σ H1 Q I1 q1
end
end L2
namespace L2
open PySem PySem.Spec PyProof.Rows
def SqL (K : RU) (H : Hp) (a : Addr) (xs : List V) : Prop :=
 Rd H a (.lst xs) ∨
  ∃ (o : Obj) (its : Array Value) (n : Nat), K.lookup a = some o ∧ o.cls = .type "list" ∧ o.dict = none ∧ o.data = .seq its n ∧ its.size ≤ sizeLine ∧ AA xs its.toList
def SqT (K : RU) (H : Hp) (a : Addr) (xs : List V) : Prop :=
 Rd H a (.tup xs) ∨
  ∃ (o : Obj) (its : Array Value) (n : Nat), K.lookup a = some o ∧ o.cls = .type "tuple" ∧ o.data = .seq its n ∧ its.size ≤ sizeLine ∧ AA xs its.toList
def La : Value → Option V
 | .none => some .non
 | .bool b => some (.bl b)
 | .int i _ => some (.int i)
 | .str x _ => some (.str x)
 | .bytes b _ => some (.byt b)
 | .float b _ => some (.flt b)
 | .ref a => some (.ref a)
 | .type n => some (.ty n)
 | _ => none
theorem AI.abs {x : V} {u : Value} (r : AI x u) : La u = some x := by
 cases x with
 | non => cases r; rfl
 | bl _ => cases r; rfl
 | int _ => obtain ⟨t, rfl⟩ := r; rfl
 | str _ => obtain ⟨t, rfl⟩ := r; rfl
 | byt _ => obtain ⟨t, rfl⟩ := r; rfl
 | flt _ => obtain ⟨t, rfl⟩ := r; rfl
 | ref _ => cases r; rfl
 | ty _ => cases r; rfl
theorem AI.inj {x y : V} {u : Value} (r : AI x u) (q : AI y u) : x = y := RL.inj (r.abs.symm.trans q.abs)
theorem AA.inj {xs ys : List V} {us : List Value} (a : AA xs us) (b : AA ys us) : xs = ys := by
 induction a generalizing ys with
 | nil => cases b; rfl
 | cons r t ih => cases b with | cons r' t' => rw [r.inj r', ih t']
section
variable {X : Cx} {pins : List (Addr × Obj)} {σ : St} {H : Hp} {s : Shared} {a : Addr} {xs ys : List V}
theorem SqL.of {K : RU} (h : H a = some (.lst xs)) : SqL K H a xs := .inl (.inl h)
theorem SqT.of {K : RU} (h : H a = some (.tup xs)) : SqT K H a xs := .inl (.inl h)
theorem Inv.list (I : Inv X pins σ H s) (h : SqL X.K H a xs) : ∃ its : List Value, AA xs its ∧ PlainL s.heap a its.toArray ∧ xs.length ≤ sizeLine := by
 rcases h with h | ⟨o, its, n, hk, hc, hd, hs, hz, r⟩
 ·obtain ⟨z, its, n, r, e⟩ := h.ok I.hok
  exact ⟨its, r, ⟨_, n, e, rfl, rfl, rfl⟩, z⟩
 ·refine ⟨its.toList, r, ⟨o, n, I.kIn a o hk, hc, hd, by simpa using hs⟩, ?_⟩
  have e := r.length
  simp only [S6] at e
  lia
theorem Inv.tuple (I : Inv X pins σ H s) (h : SqT X.K H a xs) : ∃ its : List Value, AA xs its ∧ IsTup s.heap a its.toArray ∧ xs.length ≤ sizeLine := by
 rcases h with h | ⟨o, its, n, hk, hc, hs, hz, r⟩
 ·obtain ⟨z, its, r, p⟩ := h.ok I.hok
  exact ⟨its, r, p, z⟩
 ·refine ⟨its.toList, r, ⟨o, I.kIn a o hk, hc, n, by simpa using hs⟩, ?_⟩
  have e := r.length
  simp only [S6] at e
  lia
theorem Inv.list_inj (I : Inv X pins σ H s) (h : SqL X.K H a xs) (h' : SqL X.K H a ys) : xs = ys := by
 obtain ⟨its, r, ⟨o, n, e, _, _, d⟩, _⟩ := I.list h
 obtain ⟨its', r', ⟨o', n', e', _, _, d'⟩, _⟩ := I.list h'
 rw [e] at e'; cases e'
 rw [d] at d'
 injection d' with d1 _
 have : its = its' := by simpa using congrArg Array.toList d1
 subst this
 exact r.inj r'
theorem Inv.tuple_inj (I : Inv X pins σ H s) (h : SqT X.K H a xs) (h' : SqT X.K H a ys) : xs = ys := by
 obtain ⟨its, r, ⟨o, e, _, n, d⟩, _⟩ := I.tuple h
 obtain ⟨its', r', ⟨o', e', _, n', d'⟩, _⟩ := I.tuple h'
 rw [e] at e'; cases e'
 rw [d] at d'
 injection d' with d1 _
 have : its = its' := by simpa using congrArg Array.toList d1
 subst this
 exact r.inj r'
end
abbrev Cx.wish (X : Cx) (E : Value → Shared → Prop) : Cx := { X with xe := E }
abbrev Cx.nox (X : Cx) : Cx := X.wish fun _ _ => False
theorem Cx.Ok.wish {X : Cx} (ok : X.Ok) (E : Value → Shared → Prop) : (X.wish E).Ok :=
 ⟨ok.mod, ok.kind, ok.glob, ok.blt, ok.above, ok.inj, ok.has, ok.cab, ok.hd, ok.frames, ok.stk, ok.exf, ok.bs, ok.bsz, ok.noex, ok.exfs, ok.funs, ok.frf⟩
theorem Cx.Ok.unwish {X : Cx} {E : Value → Shared → Prop} (ok : (X.wish E).Ok) : X.Ok :=
 ⟨ok.mod, ok.kind, ok.glob, ok.blt, ok.above, ok.inj, ok.has, ok.cab, ok.hd, ok.frames, ok.stk, ok.exf, ok.bs, ok.bsz, ok.noex, ok.exfs, ok.funs, ok.frf⟩
section
variable {X : Cx} {pins : List (Addr × Obj)} {σ : St} {H : Hp} {s : Shared} {E : Value → Shared → Prop}
theorem Inv.wish (I : Inv X pins σ H s) (E : Value → Shared → Prop) : Inv (X.wish E) pins σ H s := ⟨I.ok.wish E, I.os, I.bare, I.base, I.loc, I.cell, I.free, I.freeC, I.pin, I.hok, I.len⟩
theorem Inv.unwish (I : Inv (X.wish E) pins σ H s) : Inv X pins σ H s := ⟨I.ok.unwish, I.os, I.bare, I.base, I.loc, I.cell, I.free, I.freeC, I.pin, I.hok, I.len⟩
theorem SP.unwish {D : CM} {f : Flow} {s' : Shared} (h : SP (X.wish E) pins D f s') : SP X pins D f s' := by
 cases f with
 | next => obtain ⟨σ', H', I, q⟩ := h; exact ⟨σ', H', I.unwish, q⟩
 | brk => obtain ⟨σ', H', I, q⟩ := h; exact ⟨σ', H', I.unwish, q⟩
 | cont => obtain ⟨σ', H', I, q⟩ := h; exact ⟨σ', H', I.unwish, q⟩
 | ret u => obtain ⟨v, σ', H', I, r, q⟩ := h; exact ⟨v, σ', H', I.unwish, r, q⟩
theorem PSs.nox {st : List Stmt} {t : TS} (h : PSs X.nox st t) : PSs X st t := fun pins s σ H D I hw =>
 wpAny_mono (h pins s σ H D (I.wish _) hw) (fun _ _ q => q.unwish) fun _ _ z => False.elim z
end
section
variable {X : Cx} {st : Stmt} {BY : List Stmt} {t u : TS} {e : Expr} {te : TE} {pos : Pos}
def P5 : TS := fun D σ H => D.nx σ H
@[reducible] def CM.to (D : CM) (n : St → Hp → Prop) : CM := { D with nx := n }
def MN (t u : TS) : TS := fun D σ H => t (D.to (u D)) σ H
theorem AK : PSs X [] P5 := fun _ _ σ H _ I h => wpAny_execs_nil ⟨σ, H, I, h⟩
theorem LD (h1 : PS X st t) (h2 : PSs X BY u) : PSs X (st :: BY) (MN t u) := by
 intro pins s σ H D I h
 refine wpAny_execs_cons (thn (h1 pins s σ H { D with nx := u D } I h) fun f s1 q => ?_)
 cases f with
 | next =>
   obtain ⟨σ', H', I', q⟩ := q
   exact h2 pins s1 σ' H' D I' q
 | ret v => exact q
 | brk => exact q
 | cont => exact q
theorem Ag (h1 : PS X st t) : PSs X [st] t := by
 intro pins s σ H D I h
 refine wpAny_execs_cons (thn (h1 pins s σ H D I h) fun f s1 q => ?_)
 cases f with
 | next => exact wpAny_execs_nil q
 | ret v => exact q
 | brk => exact q
 | cont => exact q
theorem Inv.quiet {pins : List (Addr × Obj)} {σ : St} {H : Hp} {s : Shared} (I : Inv X pins σ H s) : interactive X.env = false := by simp [interactive, I.ok.kind]
def P7 (te : TE) : TS := fun D σ H => te σ H fun _ H1 => D.nx σ H1
theorem BQ (he : PE X e te) (hs : swapsWith e none pos.line X.env = pure false := by rfl) : PS X (.Expr e pos) (P7 te) := by
 intro pins s σ H D I h
 exact wpAny_Expr_any (thn (he pins s σ H _ I h) fun v s1 ⟨x, H1, I1, r1, q1⟩ => ⟨σ, H1, I1, q1⟩) I.quiet hs
def PL (te : TE) : TS := fun D σ H => te σ H D.rt
theorem Ax (he : PE X e te) : PS X (.Return (some e) pos) (PL te) := by
 intro pins s σ H D I h
 exact wpAny_Return_some (thn (he pins s σ H _ I h) fun v s1 ⟨x, H1, I1, r1, q1⟩ => ⟨x, σ, H1, I1, r1, q1⟩)
def MP (c : TT) (t u : TS) : TS := fun D σ H => c σ H fun b H1 => if b = true then t D σ H1 else u D σ H1
theorem Pe {c : Expr} {a b : List Stmt} {tc : TT} (hc : PT X c tc) (ha : PSs X a t) (hb : PSs X b u) : PS X (.If c a b pos) (MP tc t u) := by
 intro pins s σ H D I h
 refine wpAny_If (thn (hc pins s σ H _ I h) fun d s1 ⟨H1, I1, q1⟩ => ?_)
 cases d with
 | true => exact ha pins s1 σ H1 D I1 q1
 | false => exact hb pins s1 σ H1 D I1 q1
def NY : TS := fun _ _ _ => False
theorem Cd : PS X st NY := fun _ _ _ _ _ _ h => h.elim
end
abbrev TG := V → St → Hp → (St → Hp → Prop) → Prop
abbrev TGs := List V → St → Hp → (St → Hp → Prop) → Prop
def PG (X : Cx) (target : Expr) (t : TG) : Prop :=
 ∀ (pins : List (Addr × Obj)) (s : Shared) (σ : St) (H : Hp) (v : V) (u : Value) (Q : St → Hp → Prop), Inv X pins σ H s → AI v u → t v σ H Q →
   wpAny (model X.prog X.w) X.A (assign target X.env u) (fun _ s' => ∃ σ' H', Inv X pins σ' H' s' ∧ Q σ' H') X.xe s
def PGs (X : Cx) (ts : List Expr) (t : TGs) : Prop :=
 ∀ (pins : List (Addr × Obj)) (s : Shared) (σ : St) (H : Hp) (vs : List V) (us : List Value) (Q : St → Hp → Prop), Inv X pins σ H s → AA vs us → t vs σ H Q →
   wpAny (model X.prog X.w) X.A (assignInOrder ((assignEach ts X.env).map (·.2)) us) (fun _ s' => ∃ σ' H', Inv X pins σ' H' s' ∧ Q σ' H') X.xe s
abbrev OV := V → V → V → Hp → (Hp → Prop) → Prop
def Pz (X : Cx) (t : OV) : Prop :=
 ∀ (pins : List (Addr × Obj)) (s : Shared) (σ : St) (H : Hp) (o i v : V) (ov iv u : Value) (Q : Hp → Prop), Inv X pins σ H s → AI o ov → AI i iv → AI v u → t o i v H Q →
   wpAny (model X.prog X.w) X.A (setItem ov iv u) (fun _ s' => ∃ H', Inv X pins σ H' s' ∧ Q H') X.xe s
section
variable {X : Cx} {pos : Pos}
def Cr (i : Nat) : TG := fun v σ H Q => Q (σ.set i (some v)) H
theorem Av {i : Nat} {x : Str} (hN : X.N.Nodup) (hi : X.N[i]? = some x) (hx : Loc X.env.scope x) (hf : X.fn x = true ∨ X.env.scope.names.lookup x = some .local := by first | exact .inl rfl | exact .inr rfl | assumption) : PG X (.Name x pos) (Cr i) := by
 intro pins s σ H v u Q I r h
 exact wpAny_assign_Name (DT I hN hi hx r (fun s' I' => ⟨_, H, I', h⟩) hf)
def Nr : TGs := fun vs σ H Q => vs = [] ∧ Q σ H
inductive FU (t : TG) (u : TGs) (vs : List V) (σ : St) (H : Hp) (Q : (St → Hp → Prop)) : Prop
 | mk (v : _) (r : _) (h1 : vs = v :: r) (h2 : t v σ H fun σ' H' => u r σ' H' Q) : FU t u vs σ H Q
theorem EZ : PGs X [] Nr := by
 intro pins s σ H vs us Q I r h
 obtain ⟨e, h⟩ := h
 subst e
 cases r
 exact assignInOrder_nil ⟨σ, H, I, h⟩
theorem C4 {e : Expr} {es : List Expr} {t : TG} {u : TGs} (h1 : PG X e t) (h2 : PGs X es u)
 (hs : (assignEach (e :: es) X.env).map (·.2) = assign e X.env :: (assignEach es X.env).map (·.2) := by rfl) : PGs X (e :: es) (FU t u) := by
 intro pins s σ H vs us Q I r h
 obtain ⟨v, vr, e1, h⟩ := h
 subst e1
 cases r with
 | cons r rr =>
   rw [hs]
   refine assignInOrder_cons (thn (h1 pins s σ H _ _ _ I r h) fun _ s1 ⟨σ1, H1, I1, q1⟩ => ?_)
   exact h2 pins s1 σ1 H1 _ _ Q I1 rr q1
inductive KS (K : RU) (n : Nat) (t : TGs) (v : V) (σ : St) (H : Hp) (Q : (St → Hp → Prop)) : Prop
 | mk (a : _) (xs : _) (h1 : v = .ref a) (h2 : SqT K H a xs) (h3 : xs.length = n) (h4 : t xs σ H Q) : KS K n t v σ H Q
theorem Of {es : List Expr} {k : Nat} {t : TGs} {n : Nat} (hc : X.calm = true) (h : PGs X es t)
 (hn : (assignEach es X.env).length = n := by rfl) (hst : (assignEach es X.env).findIdx? (·.1) = none := by rfl) : PG X (.Tuple es k pos) (KS X.K n t) := by
 intro pins s σ H v u Q I r hw
 obtain ⟨a, xs, e1, hq, hl, hw⟩ := hw
 subst e1
 cases r
 obtain ⟨its, rv, ht, hz⟩ := I.tuple hq
 refine assign_Tuple_tuple (I.ok.hd hc) ht (by simp [hn, ← hl, rv.length]) hst fun h' hx => ?_
 have I1 : Inv X pins σ H { s with heap := h' } := I.kept (t' := s.toks) fun b o e => hx b o (RP (Heap.lt_size e)) e
 exact h pins _ σ H xs _ Q I1 (by simpa using rv) hw
def PZ (to ti : TE) (t : OV) : TG := fun v σ H Q => to σ H fun o H1 => ti σ H1 fun i H2 => t o i v H2 fun H3 => Q σ H3
theorem FD {o i : Expr} {to ti : TE} {t : OV} (ho : PE X o to) (hi : PE X i ti) (hs : Pz X t)
 (ha : ∀ v, assign (.Subscript o i pos) X.env v = (do
  let ov ← holding [v] (eval o X.env)
  let iv ← holding [v, ov] (eval i X.env)
  standAt pos
  holding [v, ov, iv] (setItem ov iv v)
  release [v, ov, iv] []) := by intro _; rfl) : PG X (.Subscript o i pos) (PZ to ti t) := by
 intro pins s σ H v u Q I r h
 rw [ha]
 refine wpAny_bind (wpAny_holding (thn (ho pins s σ H _ I h) fun ov s1 ⟨x, H1, I1, r1, q1⟩ => ?_))
 refine wpAny_bind (wpAny_holding (thn (hi pins s1 σ H1 _ I1 q1) fun iv s2 ⟨y, H2, I2, r2, q2⟩ => ?_))
 refine wpAny_bind (wpAny_standAt (wpAny_bind (wpAny_holding (thn (hs pins s2 σ H2 x y v ov iv u _ I2 r1 r2 r q2) fun _ s3 ⟨H3, I3, q3⟩ => ?_))))
 exact wpAny_release ⟨σ, H3, I3, q3⟩
def O1 (te : TE) (g : TG) : TS := fun D σ H => te σ H fun x H1 => g x σ H1 D.nx
theorem Eu {tg e : Expr} {te : TE} {g : TG} (he : PE X e te) (hg : PG X tg g) (hs : swapsWithSole [tg] e pos.line X.env = pure false := by rfl) (hw : swappedStores [tg] e X.env = pure none := by rfl)
 (h1 : (assignEach [tg] X.env).map (·.2) = [assign tg X.env] := by rfl) : PS X (.Assign [tg] e pos) (O1 te g) := by
 intro pins s σ H D I h
 refine wpAny_Assign_stores (thn (he pins s σ H _ I h) fun v s1 ⟨x, H1, I1, r1, q1⟩ => ?_) hs hw
 rw [h1]
 exact thn (hg pins s1 σ H1 x v _ I1 r1 q1) fun _ s2 q => q
theorem Ai {i : Nat} {x : Str} {e : Expr} {te : TE} {pos' : Pos} (hN : X.N.Nodup) (hi : X.N[i]? = some x) (hx : Loc X.env.scope x) (he : PE X e te) (hs : swapsWith e (some (.Name x pos')) pos.line X.env = pure false := by rfl) (hf : X.fn x = true ∨ X.env.scope.names.lookup x = some .local := by first | exact .inl rfl | exact .inr rfl | assumption) :
 PS X (.Assign [.Name x pos'] e pos) (O1 te (Cr i)) := by
 intro pins s σ H D I h
 refine wpAny_Assign_Name (thn (he pins s σ H _ I h) fun v s1 ⟨y, H1, I1, r1, q1⟩ => ?_) hs
 exact DT I1 hN hi hx r1 (fun s2 I2 => ⟨_, H1, I2, q1⟩) hf
def PM (i j : Nat) (ta : TA) : TS := fun D σ H => ta σ H fun vs H1 => ∃ v w, vs = [v, w] ∧ D.nx ((σ.set i (some v)).set j (some w)) H1
theorem Ob {i j : Nat} {x y : Str} {a b : Expr} {ta : TA} {px py pt : Pos} {kt k2 pt2} (hc : X.calm = true) (hN : X.N.Nodup) (hi : X.N[i]? = some x) (hj : X.N[j]? = some y) (hij : i ≠ j)
 (hx : X.env.scope.names.lookup x = some .local) (hy : X.env.scope.names.lookup y = some .local) (ha : PA X [a, b] ta)
 (hw : swappedStores [.Tuple [.Name x px, .Name y py] kt pt] (.Tuple [a, b] k2 pt2) X.env = pure (some [x, y]))
 (hs : swapsWithSole [.Tuple [.Name x px, .Name y py] kt pt] (.Tuple [a, b] k2 pt2) pos.line X.env = pure false := by rfl) :
 PS X (.Assign [.Tuple [.Name x px, .Name y py] kt pt] (.Tuple [a, b] k2 pt2) pos) (PM i j ta) := by
 intro pins s σ H D I h
 rw [exec_Assign_arm]
 refine wpAny_bind (wpAny_standAt ?_)
 rw [hs]
 refine wpAny_bind (wpAny_pure ?_)
 rw [if_neg (by decide)]
 refine wpAny_bind (Tuple_ (thn (ha _ pins s σ H _ I h) fun us s1 ⟨vs, H1, I1, r1, q1⟩ => ?_))
 obtain ⟨v, w, e1, q1⟩ := q1
 subst e1
 obtain ⟨u1, u2, rfl, rv, rw'⟩ : ∃ u1 u2, us = [u1, u2] ∧ AI v u1 ∧ AI w u2 := by
  cases r1 with
  | cons p q =>
    cases q with
    | cons p' q' =>
      cases q'
      exact ⟨_, _, rfl, p, p'⟩
 refine wpAny_newObj_type ?_ (by show 2 ≤ sizeLine; decide)
 have I2 : Inv X pins σ H1 { s1 with heap := s1.heap.push { cls := .type "tuple", data := .seq [u1, u2].toArray } } := I1.kept (t' := s1.toks) fun b o e => Heap.get?_push_of_some _ e
 rw [hw]
 refine wpAny_bind (wpAny_pure ?_)
 show wpAny (model X.prog X.w) X.A (do rule "assign.swapped-stores"; let items ← unpackItems (.ref s1.heap.objs.size) 2 none; assignInOrder [fun v => bindName X.env y v, fun v => bindName X.env x v] items.reverse; pure Flow.next) _ _ _
 refine wpAny_bind (wpAny_rule (wpAny_bind (unpackItems_tuple (items := #[u1, u2]) (I.ok.hd hc) (IsTup.new s1.heap _) fun h' hx' => ?_)))
 have I3 := I2.kept (h' := h') (t' := s1.toks) fun b o e => hx' b o (RP (Heap.lt_size e)) e
 show wpAny _ _ (assignInOrder [fun v => bindName X.env y v, fun v => bindName X.env x v] [u2, u1] >>= fun _ => pure Flow.next) _ _ _
 refine wpAny_bind (assignInOrder_cons (wpAny_bindName (DT I3 hN hj (.inl hy) rw' (fun s2 I4 => ?_) (.inr hy))))
 refine assignInOrder_cons (wpAny_bindName (DT I4 hN hi (.inl hx) rv (fun s3 I5 => assignInOrder_nil (wpAny_pure ?_)) (.inr hx)))
 rw [List.set_comm _ _ (Ne.symm hij)] at I5
 exact ⟨_, H1, I5, q1⟩
end
section
variable {X : Cx} {pos : Pos}
def Jj (c : TT) (tb : TS) : TS := fun D σ H => ∃ W : Nat → St → Hp → Prop, (∃ m, W m σ H) ∧ ∀ m σ H, W m σ H →
 c σ H fun b H1 => if b = true then ∃ N : St → Hp → Prop, (∀ σ' H', N σ' H' → ∃ m', m' < m ∧ W m' σ' H') ∧ tb { D with nx := N, ct := N, bk := D.nx } σ H1 else D.nx σ H1
theorem Di {c : Expr} {body : List Stmt} {tc : TT} {tb : TS} (hp : PassesOwn (model X.prog X.w) X.A X.env X.xe) (hc : PT X c tc) (hb : PSs X body tb) : PS X (.While c body [] pos) (Jj tc tb) := by
 intro pins s σ H D I h
 obtain ⟨W, ⟨m0, w0⟩, turn⟩ := h
 refine wpAny_While (codeAny_whileLoop (fun n s' => ∃ σ' H', Inv X pins σ' H' s' ∧ W n σ' H') ?_ m0 ⟨σ, H, I, w0⟩)
 rintro n s1 ⟨σ1, H1, I1, w1⟩
 refine wpAny_passesOwn hp (thn (hc pins s1 σ1 H1 _ I1 (turn n σ1 H1 w1)) fun b s2 ⟨H2, I2, q2⟩ => ?_)
 cases b with
 | true =>
   obtain ⟨N, hN, q2⟩ := q2
   rw [if_pos rfl]
   refine wpAny_passesOwn hp (thn (hb pins s2 σ1 H2 _ I2 q2) fun f s3 q3 => ?_)
   cases f with
   | next =>
     obtain ⟨σ3, H3, I3, n3⟩ := q3
     obtain ⟨m', hm, w3⟩ := hN σ3 H3 n3
     exact ⟨m', hm, σ3, H3, I3, w3⟩
   | cont =>
     obtain ⟨σ3, H3, I3, n3⟩ := q3
     obtain ⟨m', hm, w3⟩ := hN σ3 H3 n3
     exact ⟨m', hm, σ3, H3, I3, w3⟩
   | brk => exact q3
   | ret v => exact q3
 | false =>
   rw [if_neg Bool.false_ne_true]
   exact wpAny_execs_nil ⟨σ1, H2, I2, q2⟩
end
structure It where
 go : Nat → Hp → Prop
 yld : Nat → Hp → V → Hp → Prop
 stop : Nat → Hp → Prop
def Dx (X : Cx) (pins : List (Addr × Obj)) (H : Hp) (b : Addr) : Prop :=
 H b = none ∧ b ≠ X.env.locals ∧ b ∉ X.fs ∧ (b ∈ X.ex ∨ X.s₀.heap.objs.size ≤ b) ∧ (∀ x c, X.env.cells.lookup x = some c → c ≠ b) ∧ ∀ p ∈ X.pn ++ pins, p.1 ≠ b
theorem Inv.fpOk {X : Cx} {pins : List (Addr × Obj)} {σ : St} {H H' : Hp} {s : Shared} {b : Addr} (I : Inv X pins σ H s) (hb : s.heap.objs.size ≤ b) (hn : H' b = none) : Dx X pins H' b := by
 refine ⟨hn, S7 (RN I.lt hb), I.nofs hb, .inr (RV I.sz hb), fun x c e z => ?_, fun p hp z => ?_⟩
 ·obtain ⟨v, q⟩ := I.cell x c e
  exact absurd (RN q.lt (by rw [z]; exact hb)) (RO _)
 ·exact absurd (RN (Heap.lt_size (I.pin p hp).1) (by rw [z]; exact hb)) (RO _)
structure Jb (P : Program) (w : World) (K : RU) (tg : Expr) (J : It) (fp : List Addr) (it : Addr) (tn : Nat → Heap → Prop) : Prop where
 mem : it ∈ fp
 obj : ∀ i h, tn i h → ∀ b ∈ fp, ∃ o, h.get? b = some o ∧ ∀ v, o.data ≠ .cell v
 keep : ∀ i h h', tn i h → (∀ b ∈ fp, ∀ o, h.get? b = some o → h'.get? b = some o) → tn i h'
 item : ∀ (X : Cx), X.prog = P → X.w = w → X.K = K → X.calm = true → ∀ (i : Nat) (pins : List (Addr × Obj)) (s : Shared) (σ : St) (H : Hp) (E : Value → Shared → Prop), Inv X pins σ H s → (∀ b ∈ fp, Dx X pins H b) → tn i s.heap → J.go i H →
  wpAny (model P w) X.A (pyNext (.ref it)) (fun r s1 => ∃ u, r = some u ∧
   wpAny (model P w) X.A (letOwnedTupleGo tg (.ref it) u) (fun _ s2 => ∃ x H', Inv X pins σ H' s2 ∧ AI x u ∧ J.yld i H x H' ∧ tn (i + 1) s2.heap ∧ ∀ b ∈ fp, H' b = none) E s1) E s
 done : ∀ (X : Cx), X.prog = P → X.w = w → X.K = K → X.calm = true → ∀ (i : Nat) (pins : List (Addr × Obj)) (s : Shared) (σ : St) (H : Hp) (E : Value → Shared → Prop), Inv X pins σ H s → (∀ b ∈ fp, Dx X pins H b) → tn i s.heap → J.stop i H →
  wpAny (model P w) X.A (pyNext (.ref it)) (fun r s1 => r = none ∧ Inv X pins σ H s1) E s
 self : ∀ (A : Around) (i : Nat) (s : Shared) (Q : Value → Shared → Prop) (E : Value → Shared → Prop), tn i s.heap → Q (.ref it) s → wpAny (model P w) A (pyIter (.ref it)) Q E s
abbrev TI := St → Hp → (It → Hp → Prop) → Prop
def PIE (X : Cx) (pins : List (Addr × Obj)) (σ : St) (tg : Expr) (R : It → Hp → Prop) (itv : Value) (s2 : Shared) : Prop :=
 ∃ (it : Addr) (fp : List Addr) (tn : Nat → Heap → Prop) (J : It) (H' : Hp), itv = .ref it ∧ Inv X pins σ H' s2 ∧ Jb X.prog X.w X.K tg J fp it tn ∧ tn 0 s2.heap ∧ (∀ b ∈ fp, Dx X pins H' b) ∧ R J H'
def PI (X : Cx) (tg iter : Expr) (wi : TI) : Prop :=
 ∀ (pins : List (Addr × Obj)) (s : Shared) (σ : St) (H : Hp) (R : It → Hp → Prop), Inv X pins σ H s → wi σ H R →
   wpAny (model X.prog X.w) X.A (eval iter X.env) (fun v s1 => wpAny (model X.prog X.w) X.A (pyIter v) (PIE X pins σ tg R) X.xe s1) X.xe s
theorem IX {M : Model} {A : Around} {E : Value → Shared → Prop} {s : Shared} {tg : Expr} {it : Addr} {u : Value} {o : Obj} {n : String} {vs : Array Value} {Q : Unit → Shared → Prop} (ho : s.heap.get? it = some o) (hc : o.cls = .type n) (hd : o.data = .fields vs)
 (hn : ["enumerate", "zip", "dict_itemiterator", "dict_reverseitemiterator", "odict_iterator", "itertools.zip_longest", "itertools.pairwise"].contains n = false) (hQ : Q () s) : wpAny M A (letOwnedTupleGo tg (.ref it) u) Q E s := by
 unfold letOwnedTupleGo
 cases tg <;> first
  | exact wpAny_pure hQ
  | (cases u <;> first
   | exact wpAny_pure hQ
   | (refine wpAny_bind (wpAny_load ho ?_)
      rw [hc, hd]
      show wpAny M A (if (["enumerate", "zip", "dict_itemiterator", "dict_reverseitemiterator", "odict_iterator", "itertools.zip_longest", "itertools.pairwise"].contains n && vs[0]? == some (rawInt _)) = true then _ else _) Q E s
      rw [if_neg (by intro h; rw [hn, Bool.false_and] at h; cases h)]
      exact wpAny_pure hQ))
def Itl (K : RU) (a : Addr) : It :=
 ⟨fun i H => ∃ xs x, SqL K H a xs ∧ xs[i]? = some x, fun i H x H' => H' = H ∧ ∀ xs, SqL K H a xs → xs[i]? = some x, fun i H => ∃ xs, SqL K H a xs ∧ xs.length ≤ i⟩
def Itt (K : RU) (a : Addr) : It :=
 ⟨fun i H => ∃ xs x, SqT K H a xs ∧ xs[i]? = some x, fun i H x H' => H' = H ∧ ∀ xs, SqT K H a xs → xs[i]? = some x, fun i H => ∃ xs, SqT K H a xs ∧ xs.length ≤ i⟩
def Itr (lo : Int) (n : Nat) : It := ⟨fun i _ => i < n, fun i H x H' => H' = H ∧ x = .int (lo + i), fun i _ => n ≤ i⟩
theorem Ks {P : Program} {w : World} {K : RU} {tg : Expr} (a it : Addr) : Jb P w K tg (Itl K a) [it] it (fun i h => h.IsListIter it a i) where
 mem := by simp
 obj := fun i h st b hb => by
  have e : b = it := by simpa using hb
  subst e
  obtain ⟨o, e, c, d⟩ := st
  exact ⟨o, e, fun v z => by rw [d] at z; cases z⟩
 keep := fun i h h' st k => st.at fun o e => k it (by simp) o e
 item := by
  intro X hP hw hK hc i pins s σ H E I hf st hg
  subst hP hw hK
  obtain ⟨xs, x, hq, hx⟩ := hg
  obtain ⟨its, rv, p, hz⟩ := I.list hq
  obtain ⟨u, hu, ru⟩ := rv.get hx
  obtain ⟨f0, f1, f2, f3, f4, f5⟩ := hf it (by simp)
  refine wpAny_pyNext_list_item st p.isList (x := u) (by simpa using hu) fun h' st' sb => ?_
  have I1 : Inv X pins σ H { s with heap := h' } := I.turned (t' := s.toks) (fun b o hb e => (sb.2 b hb).trans e) f0 f1 f3 f4 f5
  obtain ⟨o, e, c, d⟩ := id st'
  exact ⟨u, rfl, IX (s := { s with heap := h' }) e c d (by decide) ⟨x, H, I1, ru, ⟨rfl, fun ys hy => by rw [I.list_inj hy hq]; exact hx⟩, st', fun b hb => (hf b hb).1⟩⟩
 done := by
  intro X hP hw hK hc i pins s σ H E I hf st hg
  subst hP hw hK
  obtain ⟨xs, hq, hx⟩ := hg
  obtain ⟨its, rv, p, hz⟩ := I.list hq
  obtain ⟨f0, f1, f2, f3, f4, f5⟩ := hf it (by simp)
  have hl := rv.length
  exact wpAny_pyNext_list_end (I.ok.hd hc) st p.isList (by simp; lia) fun h' eb => ⟨rfl, I.turned (t' := s.toks) (fun b o hb e => eb b o hb e) f0 f1 f3 f4 f5⟩
 self := fun _ _ _ _ _ st h => wpAny_pyIter_listiter st h
theorem Jf {P : Program} {w : World} {K : RU} {tg : Expr} (a it : Addr) : Jb P w K tg (Itt K a) [it] it (fun i h => h.IsTupleIter it a i) where
 mem := by simp
 obj := fun i h st b hb => by
  have e : b = it := by simpa using hb
  subst e
  obtain ⟨o, e, c, d⟩ := st
  exact ⟨o, e, fun v z => by rw [d] at z; cases z⟩
 keep := fun i h h' st k => st.at fun o e => k it (by simp) o e
 item := by
  intro X hP hw hK hc i pins s σ H E I hf st hg
  subst hP hw hK
  obtain ⟨xs, x, hq, hx⟩ := hg
  obtain ⟨its, rv, p, hz⟩ := I.tuple hq
  obtain ⟨u, hu, ru⟩ := rv.get hx
  obtain ⟨f0, f1, f2, f3, f4, f5⟩ := hf it (by simp)
  refine wpAny_pyNext_tuple_item st (show s.heap.IsTuple a its.toArray from p) (x := u) (by simpa using hu) fun h' st' sb => ?_
  have I1 : Inv X pins σ H { s with heap := h' } := I.turned (t' := s.toks) (fun b o hb e => (sb.2 b hb).trans e) f0 f1 f3 f4 f5
  obtain ⟨o, e, c, d⟩ := id st'
  exact ⟨u, rfl, IX (s := { s with heap := h' }) e c d (by decide) ⟨x, H, I1, ru, ⟨rfl, fun ys hy => by rw [I.tuple_inj hy hq]; exact hx⟩, st', fun b hb => (hf b hb).1⟩⟩
 done := by
  intro X hP hw hK hc i pins s σ H E I hf st hg
  subst hP hw hK
  obtain ⟨xs, hq, hx⟩ := hg
  obtain ⟨its, rv, p, hz⟩ := I.tuple hq
  obtain ⟨f0, f1, f2, f3, f4, f5⟩ := hf it (by simp)
  have hl := rv.length
  exact wpAny_pyNext_tuple_end (I.ok.hd hc) st (show s.heap.IsTuple a its.toArray from p) (by simp; lia) fun h' eb => ⟨rfl, I.turned (t' := s.toks) (fun b o hb e => eb b o hb e) f0 f1 f3 f4 f5⟩
 self := fun _ _ _ _ _ st h => wpAny_pyIter_tupleiter st h
theorem Jg {P : Program} {w : World} {K : RU} {tg : Expr} (it : Addr) (lo : Int) (n : Nat) : Jb P w K tg (Itr lo n) [it] it (fun i h => IsRangeIter h it (lo + (i : Nat) * 1) ((n : Int) - (i : Nat)) 1) where
 mem := by simp
 obj := fun i h st b hb => by
  have e : b = it := by simpa using hb
  subst e
  exact ⟨_, st, fun v z => by
   have z' : Data.fields _ = Data.cell v := z
   cases z'⟩
 keep := fun i h h' st k => k it (by simp) _ st
 item := by
  intro X hP hw hK hc i pins s σ H E I hf st hg
  subst hP hw hK
  obtain ⟨f0, f1, f2, f3, f4, f5⟩ := hf it (by simp)
  have W := Walks.range (prog := X.prog) (w := X.w) (I.ok.hd hc) it lo 1 n
  refine W.item i s _ _ hg st fun v h' tk hv st' kk => ?_
  obtain ⟨t, rfl⟩ := hv
  have I1 : Inv X pins σ H { s with heap := h', toks := tk } := I.turned (fun b o hb e => kk b o (by simpa using hb) e) f0 f1 f3 f4 f5
  refine ⟨_, rfl, IX (s := { s with heap := h', toks := tk }) (n := "range_iterator") st' rfl rfl (by decide) ⟨.int (lo + i), H, I1, ⟨t, ?_⟩, ⟨rfl, rfl⟩, st', fun b hb => (hf b hb).1⟩⟩
  rw [Int.mul_one]
 done := by
  intro X hP hw hK hc i pins s σ H E I hf st hg
  subst hP hw hK
  obtain ⟨f0, f1, f2, f3, f4, f5⟩ := hf it (by simp)
  exact wpAny_pyNext_range_end (I.ok.hd hc) st (by have : n ≤ i := hg; lia) fun h' eb => ⟨rfl, I.turned (t' := s.toks) (fun b o hb e => eb b o hb e) f0 f1 f3 f4 f5⟩
 self := fun _ _ _ _ _ st h => wpAny_pyIter_rangeiter st h
end L2
namespace L2
open PySem PySem.Spec PyProof.Rows
section
variable {X : Cx} {tg : Expr}
def Ma (K : RU) (tl : TE) : TI := fun σ H R => tl σ H fun x H1 => ∃ a, x = .ref a ∧ (∃ xs, SqL K H1 a xs) ∧ R (Itl K a) H1
def OM (K : RU) (tl : TE) : TI := fun σ H R => tl σ H fun x H1 => ∃ a, x = .ref a ∧ (∃ xs, SqT K H1 a xs) ∧ R (Itt K a) H1
theorem K1 {l : Expr} {tl : TE} (hl : PE X l tl) : PI X tg l (Ma X.K tl) := by
 intro pins s σ H R I h
 refine thn (hl pins s σ H _ I h) fun v s1 ⟨x, H1, I1, r1, q1⟩ => ?_
 obtain ⟨a, e, ⟨xs, hq⟩, q⟩ := q1
 subst e
 cases r1
 obtain ⟨its, rv, p, hz⟩ := I1.list hq
 refine wpAny_pyIter_list p.isList ?_
 refine ⟨s1.heap.objs.size, [s1.heap.objs.size], _, _, H1, rfl, I1.kept (t' := s1.toks) fun b o e => Heap.get?_push_of_some _ e, Ks a _, ⟨_, Heap.get?_push_size _ rfl, rfl, rfl⟩, fun b hb => ?_, q⟩
 have e : b = s1.heap.objs.size := by simpa using hb
 subst e
 exact I1.fpOk (S9 _) (I1.hok.fresh (S9 _))
theorem LG {l : Expr} {tl : TE} (hl : PE X l tl) : PI X tg l (OM X.K tl) := by
 intro pins s σ H R I h
 refine thn (hl pins s σ H _ I h) fun v s1 ⟨x, H1, I1, r1, q1⟩ => ?_
 obtain ⟨a, e, ⟨xs, hq⟩, q⟩ := q1
 subst e
 cases r1
 obtain ⟨its, rv, p, hz⟩ := I1.tuple hq
 refine wpAny_pyIter_tuple (show s1.heap.IsTuple a its.toArray from p) ?_
 refine ⟨s1.heap.objs.size, [s1.heap.objs.size], _, _, H1, rfl, I1.kept (t' := s1.toks) fun b o e => Heap.get?_push_of_some _ e, Jf a _, ⟨_, Heap.get?_push_size _ rfl, rfl, rfl⟩, fun b hb => ?_, q⟩
 have e : b = s1.heap.objs.size := by simpa using hb
 subst e
 exact I1.fpOk (S9 _) (I1.hok.fresh (S9 _))
theorem Lz {pins : List (Addr × Obj)} {σ : St} {H : Hp} {s : Shared} {R : It → Hp → Prop} {E : Value → Shared → Prop} {lo hi : Int} {t u v : Tok} {tk : Nat} (I : Inv X pins σ H s) (h1 : -(2 ^ 62) ≤ lo) (h2 : lo < 2 ^ 62) (h3 : -(2 ^ 62) ≤ hi) (h4 : hi < 2 ^ 62)
 (q : R (Itr lo (hi - lo).toNat) H) : wpAny (model X.prog X.w) X.A (pyIter (.ref s.heap.objs.size)) (PIE X pins σ tg R) E { s with heap := s.heap.push { cls := .type "range", data := .fields #[.int lo t, .int hi u, .int 1 v] }, toks := tk } := by
 refine wpAny_pyIter_range (IsRange.new ..) (small_one h1 h2 h3 h4) ?_
 have I1 : Inv X pins σ H { s with heap := s.heap.push { cls := .type "range", data := .fields #[.int lo t, .int hi u, .int 1 v] }, toks := tk } := I.kept fun b o e => Heap.get?_push_of_some _ e
 refine ⟨(s.heap.push { cls := .type "range", data := .fields #[.int lo t, .int hi u, .int 1 v] }).objs.size, [(s.heap.push { cls := .type "range", data := .fields #[.int lo t, .int hi u, .int 1 v] }).objs.size], _, _, H, rfl,
  I1.kept (t' := tk) fun b o e => Heap.get?_push_of_some _ e, Jg _ lo (hi - lo).toNat, ?_, fun b hb => ?_, q⟩
 ·have e1 : lo + ((0 : Nat) : Int) * 1 = lo := by simp
  have e2 : (((hi - lo).toNat : Nat) : Int) - ((0 : Nat) : Int) = Builtin.Range.rangeSize lo hi 1 := by rw [rangeSize_one]; split <;> lia
  show IsRangeIter _ _ (lo + ((0 : Nat) : Int) * 1) ((((hi - lo).toNat : Nat) : Int) - ((0 : Nat) : Int)) 1
  rw [e1, e2]
  exact Heap.get?_push_size _ rfl
 ·have e : b = (s.heap.push { cls := .type "range", data := .fields #[.int lo t, .int hi u, .int 1 v] }).objs.size := by simpa using hb
  subst e
  exact I1.fpOk (S9 _) (I1.hok.fresh (S9 _))
def Pp (ta : TA) : TI := fun σ H R => ta σ H fun vs H1 => ∃ j : Int, vs = [.int j] ∧ -(2 ^ 62) ≤ j ∧ j < 2 ^ 62 ∧ R (Itr 0 j.toNat) H1
theorem Bp {a : Expr} {ta : TA} {p pos : Pos} (hg : Gl X "range") (hm : X.mg "range" = none) (ha : PA X [a] ta) (hs : starEach [a] X.env = [(false, eval a X.env)] := by rfl) : PI X tg (.Call (.Name "range" p) [a] [] pos) (Pp ta) := by
 intro pins s σ H R I h
 refine Call_ (CZ I hg hm boot_range (PyProof.Rows.callWith_type1 (thn (ha pos pins s σ H _ I h) fun us s1 ⟨vs, H1, I1, r1, q1⟩ => ?_) hs rfl))
 obtain ⟨j, e, q1, q2, q⟩ := q1
 subst e
 cases r1 with
 | cons r rr =>
   cases rr
   obtain ⟨t, rfl⟩ := r
   exact call_range_1 (Lz I1 (by lia) (by lia) q1 q2 (by simpa using q))
def NZ (wi : TI) (g : TG) (tb : TS) : TS := fun D σ H => wi σ H fun J H1 => ∃ W : Nat → Nat → St → Hp → Prop, (∃ m, W 0 m σ H1) ∧ ∀ i m σ H, W i m σ H →
 (J.stop i H ∧ D.nx σ H) ∨ (J.go i H ∧ ∃ N : St → Hp → Prop, (∀ σ' H', N σ' H' → ∃ m', m' < m ∧ W (i + 1) m' σ' H') ∧ ∀ x H', J.yld i H x H' → g x σ H' fun σ2 H2 => tb { D with nx := N, ct := N, bk := D.nx } σ2 H2)
def FC (fp : List Addr) (h : Heap) : List (Addr × Obj) := fp.filterMap fun b => (h.get? b).map fun o => (b, o)
theorem CY {fp : List Addr} {h : Heap} {b : Addr} {o : Obj} (hb : b ∈ fp) (e : h.get? b = some o) : (b, o) ∈ FC fp h := List.mem_filterMap.mpr ⟨b, hb, by rw [e]; rfl⟩
theorem KD {fp : List Addr} {h : Heap} {p : Addr × Obj} (hp : p ∈ FC fp h) : p.1 ∈ fp ∧ h.get? p.1 = some p.2 := by
 obtain ⟨b, hb, e⟩ := List.mem_filterMap.mp hp
 cases q : h.get? b with
 | none => rw [q] at e; cases e
 | some o =>
   rw [q] at e
   have e' : (b, o) = p := RL.inj e
   subst e'
   exact ⟨hb, q⟩
theorem Inv.pinned {pins : List (Addr × Obj)} {σ : St} {H : Hp} {s : Shared} {fp : List Addr} (I : Inv X pins σ H s) (hf : ∀ b ∈ fp, Dx X pins H b) (ho : ∀ b ∈ fp, ∃ o, s.heap.get? b = some o ∧ ∀ v, o.data ≠ .cell v) : Inv X (pins ++ FC fp s.heap) σ H s :=
 I.pins_of fun p hp => (S2.mp hp).elim (fun z => I.pin p (Sa _ z)) fun z => by
  obtain ⟨hb, e⟩ := KD z
  obtain ⟨f0, f1, f2, _⟩ := hf p.1 hb
  obtain ⟨o, e', d⟩ := ho p.1 hb
  rw [e] at e'; cases e'
  exact ⟨e, f0, f1, f2, d⟩
theorem Inv.unpinned {pins pl : List (Addr × Obj)} {σ : St} {H : Hp} {s : Shared} (I : Inv X (pins ++ pl) σ H s) : Inv X pins σ H s := I.pins_of fun p hp => I.pin p (Sa _ (S3 _ hp))
theorem Oc {iter : Expr} {body : List Stmt} {wi : TI} {g : TG} {tb : TS} {pos : Pos} (hp : PassesOwn (model X.prog X.w) X.A X.env X.xe) (hc : X.calm = true) (hi : PI X tg iter wi) (hg : PG X tg g) (hb : PSs X body tb)
 (hs : ∀ x, foldedSetIterable iter X.env x = pure x := by intro _; rfl) : PS X (.For tg iter body [] pos) (NZ wi g tb) := by
 intro pins s σ H D I h
 refine wpAny_For (thn (hi pins s σ H _ I h) fun v s1 h1 => thn h1 fun itv s2 h2 => ?_) hs
 obtain ⟨it, fp, tn, J, H2, e, I2, T, st2, f2, W, ⟨m0, w0⟩, turn⟩ := h2
 subst e
 -- what stays true of the iterator's objects through the loop
 have stat : ∀ {H' : Hp}, (∀ b ∈ fp, H' b = none) → ∀ b ∈ fp, Dx X pins H' b := fun hn b hb => ⟨hn b hb, (f2 b hb).2⟩
 refine codeAny_forLoop_any (fun n s' => ∃ i σ' H', Inv X pins σ' H' s' ∧ tn i s'.heap ∧ (∀ b ∈ fp, H' b = none) ∧ W i n σ' H') ?_ m0 ⟨0, σ, H2, I2, st2, fun b hb => (f2 b hb).1, w0⟩
 rintro n s3 ⟨i, σ3, H3, I3, st3, fr3, w3⟩
 rcases turn i n σ3 H3 w3 with ⟨stop, qn⟩ | ⟨go, N, hN, step⟩
 ·refine wpAny_passesOwn hp (thn (T.done X rfl rfl rfl hc i pins s3 σ3 H3 X.xe I3 (stat fr3) st3 stop) fun r s4 ⟨hr, I4⟩ => ?_)
  subst hr
  exact wpAny_execs_nil ⟨σ3, H3, I4, qn⟩
 ·refine wpAny_passesOwn hp (thn (T.item X rfl rfl rfl hc i pins s3 σ3 H3 X.xe I3 (stat fr3) st3 go) fun r s4 ⟨u, hr, h4⟩ => ?_)
  subst hr
  refine wpAny_passesOwn hp (thn h4 fun _ s5 ⟨x, H5, I5, r5, y5, st5, fr5⟩ => ?_)
  have I5' := I5.pinned (stat fr5) (T.obj _ _ st5)
  refine wpAny_passesOwn hp (thn (hg _ s5 σ3 H5 x u _ I5' r5 (step x H5 y5)) fun _ s6 ⟨σ6, H6, I6, q6⟩ => ?_)
  refine wpAny_passesOwn hp (thn (hb _ s6 σ6 H6 _ I6 q6) fun f s7 q7 => ?_)
  have again : ∀ {σ7 : St} {H7 : Hp}, Inv X (pins ++ FC fp s5.heap) σ7 H7 s7 → N σ7 H7 → ∃ m, m < n ∧ ∃ i σ' H', Inv X pins σ' H' s7 ∧ tn i s7.heap ∧ (∀ b ∈ fp, H' b = none) ∧ W i m σ' H' := fun {σ7 H7} I7 n7 => by
   obtain ⟨m', hm, w7⟩ := hN σ7 H7 n7
   refine ⟨m', hm, i + 1, σ7, H7, I7.unpinned, T.keep _ _ _ st5 fun b hb o e => (I7.pin (b, o) (Sa _ (Sa _ (CY hb e)))).1, fun b hb => ?_, w7⟩
   obtain ⟨o, e, d⟩ := T.obj _ _ st5 b hb
   exact (I7.pin (b, o) (Sa _ (Sa _ (CY hb e)))).2.1
  cases f with
  | next => obtain ⟨σ7, H7, I7, n7⟩ := q7; exact again I7 n7
  | cont => obtain ⟨σ7, H7, I7, n7⟩ := q7; exact again I7 n7
  | brk => obtain ⟨σ7, H7, I7, q7⟩ := q7; exact ⟨σ7, H7, I7.unpinned, q7⟩
  | ret v => obtain ⟨x7, σ7, H7, I7, r7, q7⟩ := q7; exact ⟨x7, σ7, H7, I7.unpinned, r7, q7⟩
end
theorem FV {K : RU} {a : Addr} {xs : List V} {g : TG} {tb : TS} {D : CM} {σ : St} {H : Hp} (Pv : Nat → St → Hp → Prop) (h0 : Pv 0 σ H) (hl : ∀ i σ H, i ≤ xs.length → Pv i σ H → SqL K H a xs)
 (hs : ∀ i x σ H, xs[i]? = some x → Pv i σ H → g x σ H fun σ2 H2 => tb { D with nx := Pv (i + 1), ct := Pv (i + 1), bk := D.nx } σ2 H2) (hd : ∀ σ H, Pv xs.length σ H → D.nx σ H) :
 ∃ W : Nat → Nat → St → Hp → Prop, (∃ m, W 0 m σ H) ∧ ∀ i m σ H, W i m σ H →
   ((Itl K a).stop i H ∧ D.nx σ H) ∨ ((Itl K a).go i H ∧ ∃ N : St → Hp → Prop, (∀ σ' H', N σ' H' → ∃ m', m' < m ∧ W (i + 1) m' σ' H') ∧ ∀ x H', (Itl K a).yld i H x H' → g x σ H' fun σ2 H2 => tb { D with nx := N, ct := N, bk := D.nx } σ2 H2) := by
 refine ⟨fun i m σ H => m = xs.length - i ∧ i ≤ xs.length ∧ Pv i σ H, ⟨xs.length, by simp, Sb _, h0⟩, ?_⟩
 rintro i m σ H ⟨rfl, hi, p⟩
 have q := hl i σ H hi p
 by_cases hlt : i < xs.length
 ·refine .inr ⟨⟨xs, xs[i], q, by simp [hlt]⟩, Pv (i + 1), fun σ' H' p' => ⟨xs.length - (i + 1), by lia, rfl, hlt, p'⟩, fun x H' y => ?_⟩
  obtain ⟨e, y⟩ := y
  subst e
  exact hs i x σ _ (y xs q) p
 ·have e : i = xs.length := by lia
  subst e
  exact .inl ⟨⟨xs, q, S9 _⟩, hd σ H p⟩
theorem Fe {K : RU} {a : Addr} {xs : List V} {g : TG} {tb : TS} {D : CM} {σ : St} {H : Hp} (Pv : Nat → St → Hp → Prop) (h0 : Pv 0 σ H) (hl : ∀ i σ H, i ≤ xs.length → Pv i σ H → SqT K H a xs)
 (hs : ∀ i x σ H, xs[i]? = some x → Pv i σ H → g x σ H fun σ2 H2 => tb { D with nx := Pv (i + 1), ct := Pv (i + 1), bk := D.nx } σ2 H2) (hd : ∀ σ H, Pv xs.length σ H → D.nx σ H) :
 ∃ W : Nat → Nat → St → Hp → Prop, (∃ m, W 0 m σ H) ∧ ∀ i m σ H, W i m σ H →
   ((Itt K a).stop i H ∧ D.nx σ H) ∨ ((Itt K a).go i H ∧ ∃ N : St → Hp → Prop, (∀ σ' H', N σ' H' → ∃ m', m' < m ∧ W (i + 1) m' σ' H') ∧ ∀ x H', (Itt K a).yld i H x H' → g x σ H' fun σ2 H2 => tb { D with nx := N, ct := N, bk := D.nx } σ2 H2) := by
 refine ⟨fun i m σ H => m = xs.length - i ∧ i ≤ xs.length ∧ Pv i σ H, ⟨xs.length, by simp, Sb _, h0⟩, ?_⟩
 rintro i m σ H ⟨rfl, hi, p⟩
 have q := hl i σ H hi p
 by_cases hlt : i < xs.length
 ·refine .inr ⟨⟨xs, xs[i], q, by simp [hlt]⟩, Pv (i + 1), fun σ' H' p' => ⟨xs.length - (i + 1), by lia, rfl, hlt, p'⟩, fun x H' y => ?_⟩
  obtain ⟨e, y⟩ := y
  subst e
  exact hs i x σ _ (y xs q) p
 ·have e : i = xs.length := by lia
  subst e
  exact .inl ⟨⟨xs, q, S9 _⟩, hd σ H p⟩
theorem BK {lo : Int} {n : Nat} {g : TG} {tb : TS} {D : CM} {σ : St} {H : Hp} (Pv : Nat → St → Hp → Prop) (h0 : Pv 0 σ H)
 (hs : ∀ i σ H, i < n → Pv i σ H → g (.int (lo + i)) σ H fun σ2 H2 => tb { D with nx := Pv (i + 1), ct := Pv (i + 1), bk := D.nx } σ2 H2) (hd : ∀ σ H, Pv n σ H → D.nx σ H) :
 ∃ W : Nat → Nat → St → Hp → Prop, (∃ m, W 0 m σ H) ∧ ∀ i m σ H, W i m σ H →
   ((Itr lo n).stop i H ∧ D.nx σ H) ∨ ((Itr lo n).go i H ∧ ∃ N : St → Hp → Prop, (∀ σ' H', N σ' H' → ∃ m', m' < m ∧ W (i + 1) m' σ' H') ∧ ∀ x H', (Itr lo n).yld i H x H' → g x σ H' fun σ2 H2 => tb { D with nx := N, ct := N, bk := D.nx } σ2 H2) := by
 refine ⟨fun i m σ H => m = n - i ∧ i ≤ n ∧ Pv i σ H, ⟨n, by simp, Sb _, h0⟩, ?_⟩
 rintro i m σ H ⟨rfl, hi, p⟩
 by_cases hlt : i < n
 ·refine .inr ⟨hlt, Pv (i + 1), fun σ' H' p' => ⟨n - (i + 1), by lia, rfl, hlt, p'⟩, fun x H' y => ?_⟩
  obtain ⟨e, y⟩ := y
  subst e y
  exact hs i σ _ hlt p
 ·have e : i = n := by lia
  subst e
  exact .inl ⟨S9 _, hd σ H p⟩
theorem Ic {c : TT} {tb : TS} {D : CM} {σ : St} {H : Hp} (Pv : St → Hp → Prop) (μ : St → Hp → Nat) (h0 : Pv σ H)
 (hs : ∀ σ H, Pv σ H → c σ H fun b H1 => if b = true then tb { D with nx := fun σ' H' => Pv σ' H' ∧ μ σ' H' < μ σ H, ct := fun σ' H' => Pv σ' H' ∧ μ σ' H' < μ σ H, bk := D.nx } σ H1 else D.nx σ H1)
 (mono : ∀ σ H Q Q', (∀ b H1, Q b H1 → Q' b H1) → c σ H Q → c σ H Q') : Jj c tb D σ H := by
 refine ⟨fun m σ H => m = μ σ H ∧ Pv σ H, ⟨_, rfl, h0⟩, ?_⟩
 rintro m σ H ⟨rfl, p⟩
 refine mono σ H _ _ (fun b H1 q => ?_) (hs σ H p)
 cases b with
 | true => exact ⟨_, fun σ' H' ⟨p', l⟩ => ⟨_, l, rfl, p'⟩, q⟩
 | false => exact q
end L2
namespace L2
open PySem PySem.Spec PyProof.Rows
abbrev R2 := V → V → Hp → VK → Prop
def OpR (X : Cx) (f : Value → Value → Sem Value) (r : R2) : Prop :=
 ∀ (pins : List (Addr × Obj)) (s : Shared) (σ : St) (H : Hp) (x y : V) (v u : Value) (Q : VK), Inv X pins σ H s → AI x v → AI y u → r x y H Q →
   wpAny (model X.prog X.w) X.A (f v u) (EP X pins σ Q) X.xe s
def UnR (X : Cx) (f : Value → Sem Value) (r : V → Hp → VK → Prop) : Prop :=
 ∀ (pins : List (Addr × Obj)) (s : Shared) (σ : St) (H : Hp) (x : V) (v : Value) (Q : VK), Inv X pins σ H s → AI x v → r x H Q →
   wpAny (model X.prog X.w) X.A (f v) (EP X pins σ Q) X.xe s
def Dy (X : Cx) (f : Value) (r : List V → Hp → VK → Prop) : Prop :=
 ∀ (pins : List (Addr × Obj)) (s : Shared) (σ : St) (H : Hp) (xs : List V) (us : List Value) (Q : VK), Inv X pins σ H s → AA xs us → r xs H Q →
   wpAny (model X.prog X.w) X.A (call f us) (EP X pins σ Q) X.xe s
def tOp (r : R2) (ta tb : TE) : TE := fun σ H Q => ta σ H fun x H1 => tb σ H1 fun y H2 => r x y H2 Q
def tUn (r : V → Hp → VK → Prop) (ta : TE) : TE := fun σ H Q => ta σ H fun x H1 => r x H1 Q
inductive rI (C : Int → Int → Prop) (g : Int → Int → V) (x : V) (y : V) (H : Hp) (Q : VK) : Prop
 | mk (i : _) (j : _) (h1 : x = .int i) (h2 : y = .int j) (h3 : C i j) (h4 : Q (g i j) H) : rI C g x y H Q
inductive rI0 (g : Int → Int → V) (x : V) (y : V) (H : Hp) (Q : VK) : Prop
 | mk (i : _) (j : _) (h1 : x = .int i) (h2 : y = .int j) (h3 : Q (g i j) H) : rI0 g x y H Q
inductive rU (g : Int → V) (x : V) (H : Hp) (Q : VK) : Prop
 | mk (i : _) (h1 : x = .int i) (h2 : Q (g i) H) : rU g x H Q
section
variable {X : Cx} {a b c : Expr} {ta tb tc : TE} {pos : Pos}
theorem OT (ha : PE X a ta) (hb : PE X b tb) {pins : List (Addr × Obj)} {s : Shared} {σ : St} {H : Hp} {R : V → V → Hp → Prop} (I : Inv X pins σ H s)
 (h : ta σ H fun x H1 => tb σ H1 fun y H2 => R x y H2) {Q : Value → Shared → Prop} {f : Value → Value → Sem Value}
 (hf : ∀ v u s2 x y H2, Inv X pins σ H2 s2 → AI x v → AI y u → R x y H2 → wpAny (model X.prog X.w) X.A (f v u) Q X.xe s2) :
 wpAny (model X.prog X.w) X.A (eval a X.env) (fun v s₁ => wpAny (model X.prog X.w) X.A (eval b X.env) (fun u s₂ => wpAny (model X.prog X.w) X.A (f v u) Q X.xe s₂) X.xe s₁) X.xe s := by
 refine thn (ha pins s σ H _ I h) fun v s1 ⟨x, H1, I1, r1, q1⟩ => ?_
 refine thn (hb pins s1 σ H1 _ I1 q1) fun u s2 ⟨y, H2, I2, r2, q2⟩ => ?_
 exact hf v u s2 x y H2 I2 r1 r2 q2
theorem Ah {op : Operator} {r : R2} (ho : OpR X (binaryOp op) r) (ha : PE X a ta) (hb : PE X b tb) : PE X (.BinOp a op b pos) (tOp r ta tb) := by
 intro pins s σ H Q I h
 exact wpAny_BinOp (OT ha hb I h fun v u s2 x y H2 I2 rx ry q => ho pins s2 σ H2 x y v u Q I2 rx ry q)
theorem Iv {op : UnaryOp} {r : V → Hp → VK → Prop} (ho : UnR X (unaryOp op) r) (ha : PE X a ta) : PE X (.UnaryOp op a pos) (tUn r ta) := by
 intro pins s σ H Q I h
 exact UnaryOp_ (thn (ha pins s σ H _ I h) fun v s1 ⟨x, H1, I1, r1, q1⟩ => ho pins s1 σ H1 x v Q I1 r1 q1)
theorem opI {f : Value → Value → Sem Value} {C : Int → Int → Prop} {g : Int → Int → Int}
 (rule : ∀ (i j : Int) (t u : Tok) (s : Shared) (Q : Value → Shared → Prop) (E : Value → Shared → Prop), C i j → Q (.int (g i j) s.toks) { s with toks := s.toks + 1 } → wpAny (model X.prog X.w) X.A (f (.int i t) (.int j u)) Q E s) :
 OpR X f (rI C fun i j => .int (g i j)) := by
 intro pins s σ H x y v u Q I rx ry h
 obtain ⟨i, j, rfl, rfl, hc, q⟩ := h
 obtain ⟨t, rfl⟩ := rx
 obtain ⟨t', rfl⟩ := ry
 exact rule i j t t' s _ _ hc ⟨.int (g i j), H, I.tok _, ⟨_, rfl⟩, q⟩
theorem Pl {f : Value → Value → Sem Value} {g : Int → Int → Int}
 (rule : ∀ (i j : Int) (t u : Tok) (s : Shared) (Q : Value → Shared → Prop) (E : Value → Shared → Prop), Q (.int (g i j) s.toks) { s with toks := s.toks + 1 } → wpAny (model X.prog X.w) X.A (f (.int i t) (.int j u)) Q E s) :
 OpR X f (rI0 fun i j => .int (g i j)) := by
 intro pins s σ H x y v u Q I rx ry h
 obtain ⟨i, j, rfl, rfl, q⟩ := h
 obtain ⟨t, rfl⟩ := rx
 obtain ⟨t', rfl⟩ := ry
 exact rule i j t t' s _ _ ⟨.int (g i j), H, I.tok _, ⟨_, rfl⟩, q⟩
theorem Na {f : Value → Value → Sem Value} {g : Int → Int → Bool}
 (rule : ∀ (i j : Int) (t u : Tok) (s : Shared) (Q : Value → Shared → Prop) (E : Value → Shared → Prop), Q (.bool (g i j)) s → wpAny (model X.prog X.w) X.A (f (.int i t) (.int j u)) Q E s) :
 OpR X f (rI0 fun i j => .bl (g i j)) := by
 intro pins s σ H x y v u Q I rx ry h
 obtain ⟨i, j, rfl, rfl, q⟩ := h
 obtain ⟨t, rfl⟩ := rx
 obtain ⟨t', rfl⟩ := ry
 exact rule i j t t' s _ _ ⟨.bl (g i j), H, I, rfl, q⟩
def OW (i j : Int) : Prop := 0 ≤ j ∧ j ≤ 1000000 ∧ i.natAbs < 2 ^ 64
theorem AG : OpR X (binaryOp .Add) (rI0 fun i j => .int (i + j)) := Pl fun _ _ _ _ _ _ _ q => add_int q
theorem AU : OpR X (binaryOp .Sub) (rI0 fun i j => .int (i - j)) := Pl fun _ _ _ _ _ _ _ q => sub_int q
theorem Cf : OpR X (binaryOp .Mod) (rI (fun _ j => 0 < j) fun i j => .int (i % j)) := opI fun i j _ _ _ _ _ hc q => by
 have h1 : (0 : Int) < j := hc
 exact mod_int' (by lia) (by rw [Int.fmod_eq_emod_of_nonneg i (by lia)]; exact q)
theorem LL : OpR X (binaryOp .Pow) (rI OW fun i j => .int (i ^ j.toNat)) := opI fun _ _ _ _ _ _ _ hc q => pow_int_small hc.1 hc.2.1 hc.2.2 q
theorem unI {f : Value → Sem Value} {g : Int → Int}
 (rule : ∀ (i : Int) (t : Tok) (s : Shared) (Q : Value → Shared → Prop) (E : Value → Shared → Prop), Q (.int (g i) s.toks) { s with toks := s.toks + 1 } → wpAny (model X.prog X.w) X.A (f (.int i t)) Q E s) :
 UnR X f (rU fun i => .int (g i)) := by
 intro pins s σ H x v Q I rx h
 obtain ⟨i, rfl, q⟩ := h
 obtain ⟨t, rfl⟩ := rx
 exact rule i t s _ _ ⟨.int (g i), H, I.tok _, ⟨_, rfl⟩, q⟩
theorem Ff : UnR X (unaryOp .USub) (rU fun i => .int (-i)) := unI fun _ _ _ _ _ q => neg_int q
end
def Pa : V → V → Bool
 | .non, .non => true | .non, .int _ => true | .int _, .non => true | .non, .bl _ => true | .bl _, .non => true | .non, .str _ => true | .str _, .non => true
 | .int _, .int _ => true | .bl _, .bl _ => true | .str _, .str _ => true | .byt _, .byt _ => true
 | .int _, .str _ => true | .str _, .int _ => true | .bl _, .str _ => true | .str _, .bl _ => true
 | _, _ => false
def rEq : R2 := fun x y H Q => Pa x y = true ∧ Q (.bl (decide (x = y))) H
def rNe : R2 := fun x y H Q => Pa x y = true ∧ Q (.bl (!decide (x = y))) H
theorem Kf {i j : Int} : decide (V.int i = V.int j) = (i == j) := by
 rw [Bool.eq_iff_iff]
 simp
theorem Mn {i j : Bool} : decide (V.bl i = V.bl j) = (i == j) := by
 rw [Bool.eq_iff_iff]
 simp
theorem Ke {i j : Str} : decide (V.str i = V.str j) = (i == j) := by
 rw [Bool.eq_iff_iff]
 simp
theorem Kg {i j : Array UInt8} : decide (V.byt i = V.byt j) = (i.toList == j.toList) := by
 rw [Bool.eq_iff_iff]
 cases i
 cases j
 simp
section
variable {X : Cx} {a b c : Expr} {ta tb tc : TE} {pos : Pos}
theorem AO {pins : List (Addr × Obj)} {σ : St} {H : Hp} {s : Shared} {Q : VK} {k k' : Bool} (I : Inv X pins σ H s) (q : Q (.bl k) H) (e : k = k') : EP X pins σ Q (.bool k') s := by
 subst e
 exact ⟨.bl k, H, I, rfl, q⟩
theorem E5 : OpR X (compareOp .Eq) rEq := by
 intro pins s σ H x y v u Q I rx ry h
 obtain ⟨hs, q⟩ := h
 cases x with
 | non =>
   cases rx
   cases y with
   | non => cases ry; exact PySem.EqNone.eq_none_none (AO I q (by simp))
   | bl j => cases ry; exact PySem.EqNone.eq_none_bool (AO I q (by simp))
   | int j => obtain ⟨t', rfl⟩ := ry; exact PySem.EqNone.eq_none_int (AO I q (by simp))
   | str j => obtain ⟨t', rfl⟩ := ry; exact PySem.EqNone.eq_none_str (AO I q (by simp))
   | _ => exact absurd (show false = true from hs) Bool.false_ne_true
 | bl i =>
   cases rx
   cases y with
   | non => cases ry; exact PySem.EqNone.eq_bool_none (AO I q (by simp))
   | bl j => cases ry; exact eq_bool (AO I q Mn)
   | str j => obtain ⟨t', rfl⟩ := ry; exact PySem.EqMixed.eq_bool_str (AO I q (by simp))
   | _ => exact absurd (show false = true from hs) Bool.false_ne_true
 | int i =>
   obtain ⟨t, rfl⟩ := rx
   cases y with
   | non => cases ry; exact PySem.EqNone.eq_int_none (AO I q (by simp))
   | int j => obtain ⟨t', rfl⟩ := ry; exact eq_int (AO I q Kf)
   | str j => obtain ⟨t', rfl⟩ := ry; exact PySem.EqMixed.eq_int_str (AO I q (by simp))
   | _ => exact absurd (show false = true from hs) Bool.false_ne_true
 | str i =>
   obtain ⟨t, rfl⟩ := rx
   cases y with
   | non => cases ry; exact PySem.EqNone.eq_str_none (AO I q (by simp))
   | bl j => cases ry; exact PySem.EqMixed.eq_str_bool (AO I q (by simp))
   | int j => obtain ⟨t', rfl⟩ := ry; exact PySem.EqMixed.eq_str_int (AO I q (by simp))
   | str j => obtain ⟨t', rfl⟩ := ry; exact eq_str (AO I q Ke)
   | _ => exact absurd (show false = true from hs) Bool.false_ne_true
 | byt i =>
   obtain ⟨t, rfl⟩ := rx
   cases y with
   | byt j => obtain ⟨t', rfl⟩ := ry; exact PySem.W.eq_bytes (AO I q Kg)
   | _ => exact absurd (show false = true from hs) Bool.false_ne_true
 | _ => cases y <;> exact absurd (show false = true from hs) Bool.false_ne_true
theorem FF : OpR X (compareOp .NotEq) rNe := by
 intro pins s σ H x y v u Q I rx ry h
 obtain ⟨hs, q⟩ := h
 cases x with
 | non =>
   cases rx
   cases y with
   | non => cases ry; exact PySem.EqNone.ne_none_none (AO I q (by simp))
   | bl j => cases ry; exact PySem.EqNone.ne_none_bool (AO I q (by simp))
   | int j => obtain ⟨t', rfl⟩ := ry; exact PySem.EqNone.ne_none_int (AO I q (by simp))
   | str j => obtain ⟨t', rfl⟩ := ry; exact PySem.EqNone.ne_none_str (AO I q (by simp))
   | _ => exact absurd (show false = true from hs) Bool.false_ne_true
 | bl i =>
   cases rx
   cases y with
   | non => cases ry; exact PySem.EqNone.ne_bool_none (AO I q (by simp))
   | bl j => cases ry; exact ne_bool (AO I q (congrArg not Mn))
   | str j => obtain ⟨t', rfl⟩ := ry; exact PySem.EqMixed.ne_bool_str (AO I q (by simp))
   | _ => exact absurd (show false = true from hs) Bool.false_ne_true
 | int i =>
   obtain ⟨t, rfl⟩ := rx
   cases y with
   | non => cases ry; exact PySem.EqNone.ne_int_none (AO I q (by simp))
   | int j => obtain ⟨t', rfl⟩ := ry; exact ne_int (AO I q (congrArg not Kf))
   | str j => obtain ⟨t', rfl⟩ := ry; exact PySem.EqMixed.ne_int_str (AO I q (by simp))
   | _ => exact absurd (show false = true from hs) Bool.false_ne_true
 | str i =>
   obtain ⟨t, rfl⟩ := rx
   cases y with
   | non => cases ry; exact PySem.EqNone.ne_str_none (AO I q (by simp))
   | bl j => cases ry; exact PySem.EqMixed.ne_str_bool (AO I q (by simp))
   | int j => obtain ⟨t', rfl⟩ := ry; exact PySem.EqMixed.ne_str_int (AO I q (by simp))
   | str j => obtain ⟨t', rfl⟩ := ry; exact ne_str (AO I q (congrArg not Ke))
   | _ => exact absurd (show false = true from hs) Bool.false_ne_true
 | byt i =>
   obtain ⟨t, rfl⟩ := rx
   cases y with
   | byt j => obtain ⟨t', rfl⟩ := ry; exact PySem.W.ne_bytes (AO I q (congrArg not Kg))
   | _ => exact absurd (show false = true from hs) Bool.false_ne_true
 | _ => cases y <;> exact absurd (show false = true from hs) Bool.false_ne_true
theorem E4 : OpR X (compareOp .Lt) (rI0 fun i j => .bl (decide (i < j))) := Na fun _ _ _ _ _ _ _ q => lt_int q
theorem Pk : OpR X (compareOp .LtE) (rI0 fun i j => .bl (decide (i ≤ j))) := Na fun _ _ _ _ _ _ _ q => le_int q
theorem DI : OpR X (compareOp .Gt) (rI0 fun i j => .bl (decide (j < i))) := Na fun _ _ _ _ _ _ _ q => gt_int q
theorem NL : OpR X (compareOp .GtE) (rI0 fun i j => .bl (decide (j ≤ i))) := Na fun _ _ _ _ _ _ _ q => ge_int q
theorem Ay (b : Expr) {op : CmpOp} (h : op ≠ .In := by decide) (h2 : op ≠ .NotIn := by decide) : behindInMarks op b = false := by
 have e1 : (op == CmpOp.In) = false := by cases op <;> first | rfl | exact absurd rfl h
 have e2 : (op == CmpOp.NotIn) = false := by cases op <;> first | rfl | exact absurd rfl h2
 cases b <;> simp [behindInMarks, e1, e2]
theorem F0 {op : CmpOp} {r : R2} (ho : OpR X (compareOp op) r) (ha : PE X a ta) (hb : PE X b tb) (hm : behindInMarks op b = false) : PE X (.Compare a [op] [b] pos) (tOp r ta tb) := by
 intro pins s σ H Q I h
 exact wpAny_Compare1 (OT ha hb I h fun v u s2 x y H2 I2 rx ry q => ho pins s2 σ H2 x y v u Q I2 rx ry q) hm
def OX (t : TE) : TT := fun σ H Q => t σ H fun x H' => ∃ k, x = .bl k ∧ Q k H'
theorem As {op : CmpOp} {r : R2} (ho : OpR X (compareOp op) r) (ha : PE X a ta) (hb : PE X b tb) (hm : behindInMarks op b = false) : PT X (.Compare a [op] [b] pos) (OX (tOp r ta tb)) := by
 intro pins s σ H Q I h
 refine wpAny_isTrue_Compare1 (thn (ha pins s σ H _ I h) fun v s1 ⟨x, H1, I1, r1, q1⟩ => thn (hb pins s1 σ H1 _ I1 q1) fun u s2 ⟨y, H2, I2, r2, q2⟩ =>
  thn (ho pins s2 σ H2 x y v u _ I2 r1 r2 q2) fun c s3 ⟨z, H3, I3, r3, k, e, q3⟩ => ?_) hm
 subst e
 cases r3
 exact wpAny_truthy_bool ⟨H3, I3, q3⟩
theorem HD : (sizeLine : Nat) < 2 ^ 63 := by rw [sizeLine_eq]; decide
theorem Ig {x : V} {us : List Value} (r : AA [x] us) : ∃ u, us = [u] ∧ AI x u := by
 cases r with
 | cons r1 r2 => cases r2; exact ⟨_, rfl, r1⟩
theorem NF {x y : V} {us : List Value} (r : AA [x, y] us) : ∃ u w', us = [u, w'] ∧ AI x u ∧ AI y w' := by
 cases r with
 | cons r1 r2 =>
   cases r2 with
   | cons r3 r4 => cases r4; exact ⟨_, _, rfl, r1, r3⟩
theorem Eg : Dy X (.builtin "abs") (fun xs H Q => ∃ i, xs = [.int i] ∧ Q (.int (if i < 0 then -i else i)) H) := by
 intro pins s σ H xs us Q I r h
 obtain ⟨i, rfl, q⟩ := h
 obtain ⟨u, rfl, t, rfl⟩ := Ig r
 exact call_abs_int fun u tk => ⟨.int (if i < 0 then -i else i), H, I.tok _, ⟨_, rfl⟩, q⟩
theorem KZ (hc : X.calm = true) : Dy X (.builtin "min") (fun xs H Q => ∃ i j, xs = [.int i, .int j] ∧ Q (.int (if j < i then j else i)) H) := by
 intro pins s σ H xs us Q I r h
 obtain ⟨i, j, rfl, q⟩ := h
 obtain ⟨u, w', rfl, ⟨t, rfl⟩, ⟨t', rfl⟩⟩ := NF r
 refine min_two_ints (I.ok.hd hc) fun h' tk k => ⟨_, H, I.kept k, ?_, q⟩
 by_cases hj : j < i
 ·rw [if_pos hj, if_pos hj]; exact ⟨_, rfl⟩
 ·rw [if_neg hj, if_neg hj]; exact ⟨_, rfl⟩
end
end L2
namespace L2
open PySem PySem.Spec PyProof.Rows
structure ObjM (h : Heap) (x dx C : Addr) (mA : Str → Option Value) : Prop where
 obj : h.get? x = some (PySem.W.instObj C dx)
 ns : h.Ns1 dx mA
 ne : dx ≠ x
section
variable {prog : Program} {w : World} {A : Around} {E : Value → Shared → Prop} {s : Shared} {K : RU} {x dx C f : Addr} {mA : Str → Option Value} {name : Str} {v : Value}
end
section
variable {P : Program} {w : World} {H H' : Hp} {h h' : Heap} {a C dx : Addr} {fs fs' : List (Str × V)}
end
structure Cls (K : RU) (C : Addr) : Prop where
 pg : PySem.W.plainGet K C Str.empty = true
 hd : PySem.W.hasDictIn K C = true
 po : PySem.W.plainOver K C = true
 sa : Sd K (.ref C) "__setattr__" = some (some (.builtin "object.__setattr__"))
structure Con (K : RU) (C : Addr) (f : Str) (v : V) (u : Value) : Prop where
 at_ : Sd K (.ref C) f = some (some u)
 rel : AI v u
 get : PySem.W.specialIn K u "__get__" = some none
 cp : PySem.W.copiedNames.contains f = false
structure Meth (K : RU) (C : Addr) (m : Str) (f : Addr) : Prop where
 at_ : Sd K (.ref C) m = some (some (.ref f))
 fn : PySem.W.isFn K (.ref f) = true
 kp : Se K (.ref f) = true
section
variable {X : Cx} {pins : List (Addr × Obj)} {σ : St} {H : Hp} {s : Shared} {a C dx : Addr} {fs : List (Str × V)} {f : Str} {v : V} {A : Around} {E : Value → Shared → Prop}
end
section
variable {X : Cx} {o e value : Expr} {f : Str} {pos pos' tpos : Pos} {ta tv : TE}
end
section
variable {X : Cx} {pins : List (Addr × Obj)} {σ : St} {H : Hp} {s : Shared} {A : Around} {E : Value → Shared → Prop} {Q : Value → Shared → Prop} {c : Value} {b : Bool}
inductive EW (K : RU) (H : Hp) : V → Value → Prop where
 | non : EW K H .non (.type "NoneType")
 | bl (x : Bool) : EW K H (.bl x) (.type "bool")
 | int (i : Int) : EW K H (.int i) (.type "int")
 | str (x : Str) : EW K H (.str x) (.type "str")
 | flt (x : UInt64) : EW K H (.flt x) (.type "float")
 | lst {a : Addr} {xs : List V} (e : H a = some (.lst xs)) : EW K H (.ref a) (.type "list")
 | frz {a : Addr} {o : Obj} {xs : List V} (e : H a = some (.frz o (.lst xs))) : EW K H (.ref a) (.type "list")
 | tup {a : Addr} {xs : List V} (e : H a = some (.tup xs)) : EW K H (.ref a) (.type "tuple")
 | dK {a : Addr} {kvs : List (Key × V)} (e : H a = some (.dK kvs)) : EW K H (.ref a) (.type "dict")
 | dT {a : Addr} {kvs : List (List Key × V)} (e : H a = some (.dT kvs)) : EW K H (.ref a) (.type "dict")
 | ins {a C dx : Addr} {fs : List (Str × V)} (e : H a = some (.ins C dx fs)) (cl : Cls K C) (ha : Sd K (.ref C) "__class__" = some (some (.builtin "object.__class__")))
  (hn : PySem.W.specialIn K (.builtin "object.__class__") "__get__" = some (some (.builtin "getset_descriptor.__get__"))) (htk : PySem.W.takesIn K (.builtin "object.__class__") = some true)
  (hm : PySem.W.mroIn K C (.type "object") = some true) : EW K H (.ref a) (.ref C)
end
end L2
namespace L2
open PySem PySem.Spec PyProof.Rows
structure BZ (k : Nat) (A : Around) : Prop where
 hd : A.handled = none
 dp : A.depth + 3 * k + 5 < recursionLimit
 un : A.units + 16 * k + 200 < cLine
theorem BZ.mono {j k : Nat} {A : Around} (r : BZ k A) (h : j ≤ k) : BZ j A := ⟨r.hd, by have := r.dp; lia, by have := r.un; lia⟩
theorem BZ.deeper {k : Nat} {A : Around} (r : BZ (k + 1) A) (env : Env) : BZ k (A.deeper env) :=
 ⟨r.hd, by have := r.dp; show A.depth + 1 + 3 * k + 5 < _; lia, by have := r.un; show A.units + 3 + 16 * k + 200 < _; lia⟩
theorem BZ.in1 {k : Nat} {A : Around} (r : BZ (k + 1) A) : BZ k A.in1 :=
 ⟨r.hd, by have := r.dp; show A.depth + 3 * k + 5 < _; lia, by have := r.un; show A.units + 1 + 16 * k + 200 < _; lia⟩
theorem BZ.depth {k : Nat} {A : Around} (r : BZ k A) : A.depth < recursionLimit := by have := r.dp; lia
theorem BZ.units {k : Nat} {A : Around} (r : BZ k A) : A.units + 64 < cLine := by have := r.un; lia
def P4 : TA := fun _ H Q => Q [] H
def NH (ta : TE) (tr : TA) : TA := fun σ H Q => ta σ H fun x H1 => tr σ H1 fun xs H2 => Q (x :: xs) H2
section
variable {X : Cx} {e : Expr} {es : List Expr} {te : TE} {t : TA} {pos : Pos}
theorem Ac : PA X [] P4 := fun _ _ _ _ H Q I h => Calls.spliced_nil ⟨[], H, I, .nil, h⟩
theorem A0 (ha : PE X e te) (hr : PA X es t) (hs : starEach (e :: es) X.env = (false, eval e X.env) :: starEach es X.env := by rfl) : PA X (e :: es) (NH te t) := by
 intro pos pins s σ H Q I h
 rw [hs]
 show wpAny _ _ (spliced ((false, eval e X.env) :: backTo pos (starEach es X.env))) _ _ s
 refine Calls.spliced_cons (thn (ha pins s σ H _ I h) fun u s1 ⟨x, H1, I1, r1, q1⟩ => ?_)
 exact thn (hr pos pins s1 σ H1 _ I1 q1) fun us s2 ⟨xs, H2, I2, r2, q2⟩ => ⟨x :: xs, H2, I2, .cons r1 r2, q2⟩
def PJ (t : TA) : TE := fun σ H Q => t σ H fun xs H1 => xs.length ≤ sizeLine ∧ ∀ p, H1 p = none → Q (.ref p) (upd H1 p (.tup xs))
def PQ (t : TA) : TE := fun σ H Q => t σ H fun xs H1 => xs.length ≤ sizeLine ∧ ∀ p, H1 p = none → Q (.ref p) (upd H1 p (.lst xs))
theorem AR {x1} (h : PA X es t) : PE X (.Tuple es x1 pos) (PJ t) := by
 intro pins s σ H Q I hq
 refine wpAny_Tuple_spliced (thn (h pos pins s σ H _ I hq) fun us s1 ⟨xs, H1, I1, r, z, q⟩ => ⟨by rw [← r.length]; exact z, ?_⟩)
 have hf : H1 s1.heap.objs.size = none := I1.hok.fresh (S9 _)
 refine ⟨.ref s1.heap.objs.size, upd H1 s1.heap.objs.size (.tup xs), I1.laid (t' := s1.toks) (fun b u e => Heap.get?_push_of_some _ e) (S9 _) ?_, rfl, q _ hf⟩
 exact ⟨z, us, r, ⟨_, Heap.get?_push_size _ rfl, rfl, _, rfl⟩⟩
theorem AS (h : PA X es t) : PE X (.List es pos) (PQ t) := by
 intro pins s σ H Q I hq
 refine wpAny_List_spliced (thn (h pos pins s σ H _ I hq) fun us s1 ⟨xs, H1, I1, r, z, q⟩ => ⟨by rw [← r.length]; exact z, ?_⟩)
 have hf : H1 s1.heap.objs.size = none := I1.hok.fresh (S9 _)
 refine ⟨.ref s1.heap.objs.size, upd H1 s1.heap.objs.size (.lst xs), I1.laid (t' := s1.toks) (fun b u e => Heap.get?_push_of_some _ e) (S9 _) ?_, rfl, q _ hf⟩
 exact ⟨z, us, 0, r, Heap.get?_push_size _ rfl⟩
end
abbrev Sp := List V → Hp → VK → XK → Prop
abbrev CXT := List Env → Hp → Shared → XK → Value → Shared → Prop
structure Lb (P : Program) (w : World) (K : RU) (mg : Str → Option Value) (base : Heap) (A : Around) (outer : List Env) (s : Shared) (H : Hp) : Prop where
 frames : A.frames = some outer
 mod : Mod K mg base
 bs : ∀ b o, base.get? b = some o → s.heap.get? b = some o ∧ H b = none
 bsz : base.objs.size ≤ s.heap.objs.size
 funs : s.heap.FunFrames base outer
 frf : ∀ b ∈ frs outer, H b = none
 hok : HOk P w H s.heap
 bare : AllBare s.gens
def CE (outer : List Env) (P : Program) (w : World) (H : Hp) (s : Shared) (Q : VK) (u : Value) (s' : Shared) : Prop :=
 ∃ v H', s'.os = s.os ∧ AllBare s'.gens ∧ Un (frs outer) [] H H' s.heap s'.heap ∧ HOk P w H' s'.heap ∧ AI v u ∧ Q v H'
def CR (CX : CXT) (outer : List Env) (P : Program) (w : World) (H : Hp) (s : Shared) (Q : VK) (E : XK) (r : Result) (s' : Shared) : Prop :=
 match r with
 | .ok (.ret u) => CE outer P w H s Q u s'
 | .ok _ => False
 | .error e => CX outer H s E e s'
structure AH (P : Program) (w : World) (K : RU) (mg : Str → Option Value) (base : Heap) (CX : CXT) (k : Nat) (f : Addr) (fd : FuncData) (ps : List Str) (sp : Sp) : Prop where
 len : ∀ vs H Q E, sp vs H Q E → vs.length = ps.length
 run : ∀ (A : Around) (outer : List Env) (s : Shared) (H : Hp) (args : Args) (us : List Value) (vs : List V) (Q : VK) (E : XK), BZ k A → Lb P w K mg base A outer s H → BindsTo s fd args (ps.zip us) → AA vs us → sp vs H Q E →
  codeAny (model P w) A (.call (.ref f) args) (CR CX outer P w H s Q E) s
section
variable {X : Cx} {pins : List (Addr × Obj)} {σ : St} {H : Hp} {s s' : Shared}
theorem Inv.env0 (I : Inv X pins σ H s) : Lb X.prog X.w X.K X.mg X.base X.A X.stack s H :=
 ⟨I.ok.frames, I.ok.mod, I.bs, RV I.ok.bsz I.sz, I.stack, I.stkFree, I.hok, I.bare⟩
theorem Inv.after {Q : VK} {u : Value} (I : Inv X pins σ H s) (h : CE X.stack X.prog X.w H s Q u s') : EP X pins σ Q u s' := by
 obtain ⟨v, H', os, bare, un, hok, r, q⟩ := h
 obtain ⟨hh, g, d, t, os'⟩ := s'
 obtain rfl : os' = s.os := os
 exact ⟨v, H', I.call (h' := hh) (g' := g) (d' := d) (t' := t) (ch := []) un hok bare (fun b z => absurd z (by simp)), r, q⟩
end
def NI (sp : Sp) (dvs : List V) (E : XK) (t : TA) : TE := fun σ H Q => t σ H fun vs H1 => sp (vs ++ dvs) H1 Q E
def C5 (K : RU) (fd : FuncData) (ps : List Str) (ds : List Value) : Prop :=
 ∀ (s : Shared) (us : List Value), K.In s.heap → (us ++ ds).length = ps.length → BindsTo s fd ⟨us, []⟩ (ps.zip (us ++ ds))
theorem C5.all {K : RU} {fd : FuncData} {ps : List Str} (h : ∀ us : List Value, us.length = ps.length → bindArgs fd ⟨us, []⟩ = pure (ps.zip us)) : C5 K fd ps [] := fun s us _ hl => by
 rw [Sf] at hl ⊢
 exact .of_eq (h us hl)
def JQ (CX : CXT) (X : Cx) (E : XK) : Prop := ∀ (pins : List (Addr × Obj)) (σ : St) (H : Hp) (s : Shared) (e : Value) (s' : Shared), Inv X pins σ H s → CX X.stack H s E e s' → X.xe e s'
section
variable {X : Cx} {CX : CXT} {k : Nat} {f C : Addr} {fd : FuncData} {ps : List Str} {sp : Sp} {dvs : List V} {ds : List Value} {E : XK} {x m : Str} {p pos apos : Pos} {e o : Expr} {es : List Expr} {ta : TE} {t : TA}
theorem O2 {pins : List (Addr × Obj)} {σ : St} {H : Hp} {s : Shared} {Q : VK} {us : List Value} {vs : List V} (F : AH X.prog X.w X.K X.mg X.base CX k f fd ps sp) (hr : BZ k X.A) (hb : C5 X.K fd ps ds) (hd : AA dvs ds) (hx : JQ CX X E)
 (I : Inv X pins σ H s) (r : AA vs us) (h : sp (vs ++ dvs) H Q E) : wpAny (model X.prog X.w) X.A (call (.ref f) us) (EP X pins σ Q) X.xe s := by
 have r2 : AA (vs ++ dvs) (us ++ ds) := r.append hd
 have hl : (us ++ ds).length = ps.length := by rw [← r2.length]; exact F.len _ _ _ _ h
 refine wpAny_call (codeAny_mono (F.run X.A X.stack s H ⟨us, []⟩ (us ++ ds) (vs ++ dvs) Q E hr I.env0 (hb s us I.kIn hl) r2 h) fun r s' hq => ?_)
 cases r with
 | error e => exact hx pins σ H s e s' I hq
 | ok fl =>
   cases fl with
   | ret u => exact I.after hq
   | next => exact False.elim hq
   | brk => exact False.elim hq
   | cont => exact False.elim hq
theorem N8 (F : AH X.prog X.w X.K X.mg X.base CX k f fd ps sp) (hr : BZ k X.A) (hg : Gl X x) (hm : X.mg x = some (.ref f)) (hk : Se X.K (.ref f) = true) (hb : C5 X.K fd ps ds) (hd : AA dvs ds) (hx : JQ CX X E)
 (ha : PA X (e :: es) t) (hdb : (x == ("__debug__" : Str)) = false := by decide) (he : starEach (e :: es) X.env = (false, eval e X.env) :: starEach es X.env := by rfl) (hpl : (backTo pos (starEach es X.env)).any (·.1) = false := by rfl) :
 PE X (.Call (.Name x p) (e :: es) [] pos) (NI sp dvs E t) := by
 intro pins s σ H Q I h
 refine wpAny_Call_Name_kw (K5 I hg hm ?_ hdb)
 refine PySem.W.callWith_K (h₀ := X.base) I.ok.mod.kin hk (thn (ha pos pins s σ H _ I h) fun us s1 ⟨vs, H1, I1, r, q⟩ => ⟨I1.kIn, ?_⟩) he hpl
 exact O2 F hr hb hd hx I1 r q
structure Mk (K : RU) (C f : Addr) : Prop where
 makes : PySem.W.makesIn K C = true
 init : Sd K (.ref C) "__init__" = some (some (.ref f))
 fn : PySem.W.isFn K (.ref f) = true
 kp : Se K (.ref C) = true
end
section
variable {X : Cx} {CX : CXT} {k : Nat} {f C : Addr} {fd : FuncData} {ps ks : List Str} {sp : Sp} {E : XK} {x m : Str} {p pos apos kpos : Pos} {e o : Expr} {es : List Expr} {kws : List Keyword} {te ta : TE} {t tk : TA} {nm : Option Str}
structure Qb (K : RU) (fd : FuncData) (ps ks : List Str) (g : List Value → List Value → List Value) (gV : List V → List V → List V) : Prop where
 to : ∀ (s : Shared) (us ws : List Value), K.In s.heap → (g us ws).length = ps.length → BindsTo s fd ⟨us, ks.zip ws⟩ (ps.zip (g us ws))
 rel : ∀ {vs : List V} {us : List Value} {zs : List V} {ws : List Value}, AA vs us → AA zs ws → AA (gV vs zs) (g us ws)
variable {g : List Value → List Value → List Value} {gV : List V → List V → List V}
end
structure Ar (N P : List Str) (sc : Scope) : Prop where
 kind : sc.kind = .function
 co : sc.isCoroutine = false
 gen : sc.isGenerator = false
 nd : N.Nodup
 pre : N.take P.length = P
 par : ∀ x ∈ P, sc.names.lookup x = some .local ∨ sc.names.lookup x = some .cell
 nofree : ∀ y ∈ sc.names, y.2 ≠ .free
theorem GJ {kindOf : Str → Option NameKind} {x : Str} : ∀ {binds : List (Str × Value)} {m : Str → Option Value}, (∀ v, (x, v) ∉ binds) → bindL kindOf binds m x = m x
 | [], _, _ => rfl
 | (n, v) :: r, m, h => by
   unfold bindL
   rw [GJ fun w hw => h w (RZ _ hw)]
   split
   ·have : x ≠ n := by rintro rfl; exact h v RY
    simp [this]
   ·rfl
theorem GL {kindOf : Str → Option NameKind} {x : Str} : ∀ {binds : List (Str × Value)} {m : Str → Option Value}, (∀ v, (x, v) ∉ binds) → bindC kindOf binds m x = m x
 | [], _, _ => rfl
 | (n, v) :: r, m, h => by
   unfold bindC
   rw [GL fun w hw => h w (RZ _ hw)]
   split
   ·rfl
   ·have : x ≠ n := by rintro rfl; exact h v RY
    simp [this]
theorem GK {kindOf : Str → Option NameKind} {x : Str} {v : Value} : ∀ {P : List Str} {vs : List Value} {i : Nat} {m : Str → Option Value}, P.Nodup → P[i]? = some x → vs[i]? = some v → kindOf x = some .local →
 bindL kindOf (P.zip vs) m x = some v
 | [], _, _, _, _, h, _, _ => by simp at h
 | _ :: _, [], _, _, _, _, h, _ => by simp at h
 | p :: P, w :: vs, 0, m, nd, h1, h2, hk => by
   simp at h1 h2; subst h1; subst h2
   show bindL kindOf ((p, w) :: P.zip vs) m p = _
   unfold bindL
   rw [GJ fun v hv => (Sg.mp nd).1 (Sh hv).1, if_pos hk]
   simp
 | p :: P, w :: vs, i + 1, m, nd, h1, h2, hk => by
   show bindL kindOf ((p, w) :: P.zip vs) m x = _
   unfold bindL
   exact GK (i := i) (Sg.mp nd).2 (by simpa using h1) (by simpa using h2) hk
theorem GN {kindOf : Str → Option NameKind} {x : Str} {v : Value} : ∀ {P : List Str} {vs : List Value} {i : Nat} {m : Str → Option Value}, P.Nodup → P[i]? = some x → vs[i]? = some v → kindOf x ≠ some .local →
 bindC kindOf (P.zip vs) m x = some v
 | [], _, _, _, _, h, _, _ => by simp at h
 | _ :: _, [], _, _, _, _, h, _ => by simp at h
 | p :: P, w :: vs, 0, m, nd, h1, h2, hk => by
   simp at h1 h2; subst h1; subst h2
   show bindC kindOf ((p, w) :: P.zip vs) m p = _
   unfold bindC
   rw [GL fun v hv => (Sg.mp nd).1 (Sh hv).1, if_neg hk]
   simp
 | p :: P, w :: vs, i + 1, m, nd, h1, h2, hk => by
   show bindC kindOf ((p, w) :: P.zip vs) m x = _
   unfold bindC
   exact GN (i := i) (Sg.mp nd).2 (by simpa using h1) (by simpa using h2) hk
def DU (N : List Str) (vs : List V) : St := vs.map some ++ Si (N.length - vs.length) none
def JN (CX : CXT) (P : Program) (w : World) (K : RU) (mg : Str → Option Value) (base : Heap) (N : List Str) (qual : Str) (scope : Scope) (f : Addr) (cd : Value) (A : Around) (outer : List Env) (s : Shared) (H : Hp) (E : XK) : Cx where
 prog := P
 w := w
 K := K
 mg := mg
 base := base
 A := A.deeper (envOfC qual scope s.heap.objs.size f cd)
 N := N
 s₀ := s
 H₀ := H
 env := envOfC qual scope s.heap.objs.size f cd
 outer := outer
 stack := envOfC qual scope s.heap.objs.size f cd :: outer
 ex := []
 calm := true
 fn := fun _ => true
 pn := []
 xe := fun e s' => wpAny (model P w) (A.deeper (envOfC qual scope s.heap.objs.size f cd)) (leaving (envOfC qual scope s.heap.objs.size f cd) e) (fun _ s'' => CX outer H s E e s'') (fun e' s'' => CX outer H s E e' s'') s'
theorem J5 {sc : Scope} {n : Nat} {x : Str} (h : sc.names.lookup x = some .cell) : ∃ c, (cellsFrom n sc.names []).lookup x = some c := by
 have q := PySem.W.cellsFrom_some sc.names n [] (.inl h)
 exact Option.isSome_iff_exists.mp q
theorem KQ {CX : CXT} {P : Program} {w : World} {K : RU} {mg : Str → Option Value} {base : Heap} {N ps : List Str} {qual : Str} {scope : Scope} {f : Addr} {cd : Value} {A : Around} {outer : List Env} {s s1 : Shared} {H : Hp} {E : XK} {us : List Value} {vs : List V}
 (S : Ar N ps scope) (hd : A.handled = none) (e0 : Lb P w K mg base A outer s H) (hl : vs.length = ps.length) (r : AA vs us)
 (x : InCallC s s.heap.objs.size (bindL (envOfC qual scope s.heap.objs.size f cd).kindOf (ps.zip us) fun _ => none) (cellsFrom (s.heap.objs.size + 1) scope.names []) (bindC (envOfC qual scope s.heap.objs.size f cd).kindOf (ps.zip us) fun _ => none) s1) :
 Inv (JN CX P w K mg base N qual scope f cd A outer s H E) [] (DU N vs) H s1 := by
 have hpl : ps.length ≤ N.length := by have := congrArg List.length S.pre; rw [Sj] at this; lia
 obtain ⟨h1, tk, rfl, hk⟩ := x.done
 have noA : ∀ b : Addr, b ∉ (JN CX P w K mg base N qual scope f cd A outer s H E).ex := fun b z => absurd (show b ∈ ([] : List Addr) from z) (by simp)
 refine ⟨⟨e0.mod, S.kind, rfl, rfl, S9 _, fun y z c h1 h2 => ?_, fun y hy => ?_, fun y c _ h => ?_, fun _ => hd, Around.frames_deeper e0.frames, .inr ⟨rfl, rfl⟩, fun b z => absurd z (noA b), e0.bs, e0.bsz, fun b _ _ => noA b, fun b z => absurd z (noA b), e0.funs, e0.frf⟩,
  rfl, e0.bare, Un.kept hk, ⟨_, x.toInCall.ns, fun i y v h1 h2 h3 => ?_⟩, fun y c h => ⟨_, x.cell y c h⟩, e0.hok.fresh (S9 _), fun y c h => ?_, fun p hp => absurd (show p ∈ ([] : List (Addr × Obj)) from hp) (by simp), e0.hok.kept hk, ?_⟩
 ·exact name_of_addr x.apart (PySem.mem_of_lookup h1) (PySem.mem_of_lookup h2)
 ·have hy : scope.names.lookup y = some .cell ∨ scope.names.lookup y = some .free := hy
  rcases hy with hy | hy
  ·exact J5 hy
  ·exact absurd rfl (S.nofree _ (PySem.mem_of_lookup hy))
 ·exact RW (x.above y c (PySem.mem_of_lookup h))
 ·have hi : i < vs.length := by
   unfold DU at h2
   by_cases hi : i < vs.length
   ·exact hi
   ·rw [Sk (by simpa using hi)] at h2
    rw [Sl] at h2
    split at h2 <;> cases h2
  have ha : vs[i]? = some v := by
   unfold DU at h2
   rw [Sm (by simpa using hi), Sn] at h2
   cases e : vs[i]? with
   | none => rw [e] at h2; cases h2
   | some a => rw [e] at h2; cases h2; rfl
  obtain ⟨u, hu, rv⟩ := r.get ha
  have hp : ps[i]? = some y := by
   rw [← S.pre, List.getElem?_take_of_lt (by lia)]; exact h1
  have ndP : ps.Nodup := by rw [← S.pre]; exact S.nd.sublist (So _ _)
  refine ⟨u, rv, ?_⟩
  rcases S.par y (Sr hp) with k | k
  ·exact .inl ⟨k, GK ndP hp hu k⟩
  ·obtain ⟨c, e⟩ := J5 (n := s.heap.objs.size + 1) k
   refine .inr ⟨.inl k, c, e, ?_⟩
   have q := x.cell y c e
   rw [GN ndP hp hu (by show scope.names.lookup y ≠ _; rw [k]; decide)] at q
   exact q
 ·exact e0.hok.fresh (RW (x.above y c (PySem.mem_of_lookup h)))
 ·unfold DU
  show _ = N.length
  rw [Ss, Su, Sv]
  lia
theorem NO {CX : CXT} {P : Program} {w : World} {K : RU} {mg : Str → Option Value} {base : Heap} {k : Nat} {f : Addr} {name qual : Str} {params : Arguments} {body : List Stmt} {scope : Scope} {dV kV doc pm cdv ct oc : Value} {an od : Option Addr}
 {osl : Array (Option Value)} {N ps : List Str} {sp : Sp} (lk : K.lookup f = some ⟨oc, od, .func (Sw name qual params body scope dV kV doc pm an cdv ct), osl⟩) (hcd : Sx K cdv qual = true) (S : Ar N ps scope)
 (len : ∀ vs H Q E, sp vs H Q E → vs.length = ps.length)
 (hbody : ∀ (A : Around) (outer : List Env) (s : Shared) (H : Hp) (vs : List V) (Q : VK) (E : XK), BZ k (A.deeper (envOfC qual scope s.heap.objs.size f cdv)) → sp vs H Q E →
  ∃ t, PSs (JN CX P w K mg base N qual scope f cdv A outer s H E) body t ∧ t { nx := fun _ H' => Q .non H', rt := Q } (DU N vs) H) :
 AH P w K mg base CX (k + 1) f (Sw name qual params body scope dV kV doc pm an cdv ct) ps sp := by
 refine ⟨len, fun A outer s H args us vs Q E hr e0 hb r hsp => ?_⟩
 have hl := len _ _ _ _ hsp
 have KX : K.In s.heap := e0.mod.kin.keeps fun b o e => (e0.bs b o e).1
 have lim : s.heap.NoLimit := e0.mod.nolimit.keeps fun b o e => (e0.bs b o e).1
 have hkind : ∀ y ∈ ps.zip us, scope.names.lookup y.1 = some .local ∨ (scope.names.lookup y.1 = some .cell ∧ ((cellsFrom (s.heap.objs.size + 1) scope.names []).lookup y.1).isSome = true) := fun ⟨n, v⟩ hy => by
  rcases S.par n (Sh hy).1 with q | q
  ·exact .inl q
  ·exact .inr ⟨q, PySem.W.cellsFrom_some _ _ _ (.inl q)⟩
 refine codeAny_call_function hr.depth (KX _ _ lk) rfl S.co S.gen rfl (PySem.W.codeRec_of KX hcd) (hb _ _ _ _ ?_)
 refine wpAny_newFunctionEnv_cells S.kind hkind fun env he s1 x => ?_
 subst he
 refine ⟨lim.keeps x.toInCall.keep, codeAny_func ?_⟩
 obtain ⟨t, ht, hq⟩ := hbody A outer s H vs Q E (hr.deeper _) hsp
 have I : Inv (JN CX P w K mg base N qual scope f cdv A outer s H E) [] (DU N vs) H s1 := KQ S hr.hd e0 hl r x
 refine wpAny_mono (ht [] s1 (DU N vs) H _ I hq) (fun fl s' hs => ?_) fun e s' hs => hs
 have fin : ∀ {σ' : St} {H' : Hp} {v : V} {u : Value}, Inv (JN CX P w K mg base N qual scope f cdv A outer s H E) [] σ' H' s' → AI v u → Q v H' → CE outer P w H s Q u s' :=
  fun {σ' H' v u} J rv q => ⟨v, H', J.os, J.bare, J.base, J.hok, rv, q⟩
 cases fl with
 | ret u =>
   obtain ⟨v, σ', H', J, rv, q⟩ := hs
   exact fin J rv q
 | next =>
   obtain ⟨σ', H', J, q⟩ := hs
   exact fin (v := V.non) (u := Value.none) J rfl q
 | brk =>
   obtain ⟨_, _, _, q⟩ := hs
   exact False.elim q
 | cont =>
   obtain ⟨_, _, _, q⟩ := hs
   exact False.elim q
end L2
namespace L2
open PySem PySem.Spec PyProof.Rows
section
variable {X : Cx} {x : Str} {p pos : Pos} {e : Expr} {es : List Expr} {t : TA} {id T : String} {r : List V → Hp → VK → Prop}
def tCB (r : List V → Hp → VK → Prop) (t : TA) : TE := fun σ H Q => t σ H fun vs H1 => r vs H1 Q
theorem Aq (hc : Dy X (.builtin id) r) (hg : Gl X x) (hm : X.mg x = none) (hv : bootBuiltins x = some (.builtin id)) (ha : PA X (e :: es) t) (hn : x ≠ "__name__" := by decide) (hdb : (x == ("__debug__" : Str)) = false := by decide)
 (he : starEach (e :: es) X.env = (false, eval e X.env) :: starEach es X.env := by rfl) (hpl : (backTo pos (starEach es X.env)).any (·.1) = false := by rfl) : PE X (.Call (.Name x p) (e :: es) [] pos) (tCB r t) := by
 intro pins s σ H Q I h
 refine wpAny_Call_Name_kw (CZ I hg hm hv ?_ hn hdb)
 exact PyProof.Rows.callWith_builtin1 (thn (ha pos pins s σ H _ I h) fun us s1 ⟨vs, H1, I1, r1, q1⟩ => hc pins s1 σ H1 vs us Q I1 r1 q1) he hpl
theorem CH (hc : Dy X (.type T) r) (hg : Gl X x) (hm : X.mg x = none) (hv : bootBuiltins x = some (.type T)) (ha : PA X (e :: es) t) (hn : x ≠ "__name__" := by decide) (hdb : (x == ("__debug__" : Str)) = false := by decide)
 (he : starEach (e :: es) X.env = (false, eval e X.env) :: starEach es X.env := by rfl) (hpl : (backTo pos (starEach es X.env)).any (·.1) = false := by rfl) : PE X (.Call (.Name x p) (e :: es) [] pos) (tCB r t) := by
 intro pins s σ H Q I h
 refine wpAny_Call_Name_kw (CZ I hg hm hv ?_ hn hdb)
 exact PyProof.Rows.callWith_type1 (thn (ha pos pins s σ H _ I h) fun us s1 ⟨vs, H1, I1, r1, q1⟩ => hc pins s1 σ H1 vs us Q I1 r1 q1) he hpl
end
end L2
namespace HT
open PySem PyProof.Rows
section
open PySem.SeqAt
open PySem.AutoSeq1 (wpAny_loadPart')
open PySem.MeetsSeq PySem.MeetsSeq2 PySem.MeetsSeq3
end
section
variable {prog : Program} {w : World} {A : Around} {E : Value → Shared → Prop} {s : Shared}
def sIx (n d : Nat) : Option Int → Nat
 | none => d
 | some v => if v < 0 then (v + (n : Int)).toNat else min v.toNat n
theorem sIx_nat (n d k : Nat) : sIx n d (some (k : Int)) = min k n := by
 show (if (k : Int) < 0 then ((k : Int) + (n : Int)).toNat else min (k : Int).toNat n) = min k n
 rw [if_neg (by lia), Sy]
theorem clip_eq (v : Int) (n d : Nat) : (if v < 0 then max (v + (n : Int)) 0 else min v (n : Int)) = ((sIx n d (some v) : Nat) : Int) := by
 show (if v < 0 then max (v + (n : Int)) 0 else min v (n : Int)) = (((if v < 0 then (v + (n : Int)).toNat else min v.toNat n) : Nat) : Int)
 by_cases hv : v < 0
 ·rw [if_pos hv, if_pos hv, Int.toNat_eq_max]
 ·rw [if_neg hv, if_neg hv]
  obtain ⟨k, rfl⟩ := Int.eq_ofNat_of_zero_le (Int.not_lt.mp hv)
  rw [Sy]
  rcases Nat.le_total k n with h | h
  ·rw [Sz h, Int.min_eq_left (Int.ofNat_le.mpr h)]
  ·rw [SA h, Int.min_eq_right (Int.ofNat_le.mpr h)]
end
end HT
namespace L2
open PySem PySem.Spec PyProof.Rows
abbrev TO := St → Hp → (Option Int → Hp → Prop) → Prop
def PO (X : Cx) (e : Option Expr) (t : TO) : Prop :=
 ∀ (pins : List (Addr × Obj)) (s : Shared) (σ : St) (H : Hp) (Q : Option Int → Hp → Prop), Inv X pins σ H s → t σ H Q →
   wpAny (model X.prog X.w) X.A (evalPart e X.env) (fun u s' => ∃ o H', Inv X pins σ H' s' ∧ IsPart u o ∧ Q o H') X.xe s
def MO : TO := fun _ H Q => Q none H
def OZ (t : TE) : TO := fun σ H Q => t σ H fun x H1 => ∃ i, x = .int i ∧ Q (some i) H1
section
variable {X : Cx} {e : Expr} {te : TE} {lo hi : Option Expr} {tl th : TO} {pos p2 : Pos}
theorem C3 : PO X none MO := by
 intro pins s σ H Q I h
 rw [evalPart_none]
 exact wpAny_pure ⟨none, H, I, .none, h⟩
theorem C2 (h : PE X e te) : PO X (some e) (OZ te) := by
 intro pins s σ H Q I hw
 rw [evalPart_some]
 refine thn (h pins s σ H _ I hw) fun u s1 ⟨x, H1, I1, r1, q1⟩ => ?_
 obtain ⟨i, rfl, q⟩ := q1
 obtain ⟨t, rfl⟩ := r1
 exact ⟨some i, H1, I1, .int i t, q⟩
def SlR (X : Cx) (r : V → Option Int → Option Int → Hp → VK → Prop) : Prop :=
 ∀ (pins : List (Addr × Obj)) (s : Shared) (σ : St) (H : Hp) (x : V) (v vl vu : Value) (lo hi : Option Int) (sl : Addr) (Q : VK), Inv X pins σ H s → AI x v → s.heap.IsSliceOf sl vl vu .none → IsPart vl lo → IsPart vu hi → r x lo hi H Q →
   ∃ T id, typeLookup (.type T) "__getitem__" = pure (some (.builtin id)) ∧ s.TypeIs v T ∧ wpAny (model X.prog X.w) X.A (getItem v (.ref sl)) (EP X pins σ Q) X.xe s
def tSl (r : V → Option Int → Option Int → Hp → VK → Prop) (te : TE) (tl th : TO) : TE := fun σ H Q => te σ H fun x H1 => tl σ H1 fun l H2 => th σ H2 fun u H3 => r x l u H3 Q
theorem BF {r : V → Option Int → Option Int → Hp → VK → Prop} (hr : SlR X r) (he : PE X e te) (hl : PO X lo tl) (hu : PO X hi th) : PE X (.Subscript e (.Slice lo hi none p2) pos) (tSl r te tl th) := by
 intro pins s σ H Q I h
 refine Subscript_ (thn (he pins s σ H _ I h) fun v s1 ⟨x, H1, I1, r1, q1⟩ => ?_)
 refine wpAny_Slice (thn (hl pins s1 σ H1 _ I1 q1) fun vl s2 ⟨l, H2, I2, pl, q2⟩ => thn (hu pins s2 σ H2 _ I2 q2) fun vu s3 ⟨u, H3, I3, pu, q3⟩ => ?_)
 rw [evalPart_none]
 refine wpAny_pure ?_
 have I4 : Inv X pins σ H3 { s3 with heap := s3.heap.push { cls := .type "slice", data := .fields #[vl, vu, .none] } } := I3.kept (t' := s3.toks) fun b ob q => Heap.get?_push_of_some _ q
 obtain ⟨T, id, hT, ht, hg⟩ := hr pins { s3 with heap := s3.heap.push { cls := .type "slice", data := .fields #[vl, vu, .none] } } σ H3 x v vl vu l u s3.heap.objs.size Q I4 r1 (Heap.IsSliceOf.new ..) pl pu q3
 show wpAny (model X.prog X.w) X.A (subscriptTail e (.Slice lo hi none p2) v (.ref s3.heap.objs.size)) (EP X pins σ Q) X.xe { s3 with heap := s3.heap.push { cls := .type "slice", data := .fields #[vl, vu, .none] } }
 exact tail_any (ops := [.ref s3.heap.objs.size, v]) ht hT hg (by with_unfolding_all rfl)
def CD (xs : List V) (lo hi : Option Int) : List V := (xs.drop (HT.sIx xs.length 0 lo)).take (HT.sIx xs.length xs.length hi - HT.sIx xs.length 0 lo)
theorem J1 (xs : List V) (lo hi : Option Int) : (CD xs lo hi).length ≤ xs.length := by
 unfold CD
 rw [Sj, SD]
 exact RV (Nat.min_le_right _ _) (Nat.sub_le _ _)
end
end L2
namespace L2
open PySem PySem.Spec PyProof.Rows
def ixN (n : Nat) (i : Int) : Option Nat := if 0 ≤ i then (if i < n then some i.toNat else none) else if -(n : Int) ≤ i then some (i + n).toNat else none
def atI {α : Type} (xs : List α) (i : Int) : Option α := (ixN xs.length i).bind fun j => xs[j]?
theorem K8 {n : Nat} {i : Int} {j : Nat} (h : ixN n i = some j) : seqIndex? i n = some j ∧ j < n ∧ -(n : Int) ≤ i ∧ i < n := by
 unfold ixN at h
 by_cases h0 : 0 ≤ i
 ·rw [if_pos h0] at h
  by_cases h1 : i < n
  ·rw [if_pos h1] at h
   have e : i.toNat = j := RL.inj h
   exact ⟨by rw [seqIndex_of h0 h1, e], by lia, by lia, h1⟩
  ·rw [if_neg h1] at h; cases h
 ·rw [if_neg h0] at h
  by_cases h1 : -(n : Int) ≤ i
  ·rw [if_pos h1] at h
   have e : (i + n).toNat = j := RL.inj h
   exact ⟨by rw [seqIndex_neg (by lia) h1, e], by lia, h1, by lia⟩
  ·rw [if_neg h1] at h; cases h
theorem Ko {α : Type} {xs : List α} {i : Int} {v : α} (h : atI xs i = some v) : ∃ j, seqIndex? i xs.length = some j ∧ xs[j]? = some v ∧ j < xs.length ∧ -(xs.length : Int) ≤ i ∧ i < xs.length := by
 unfold atI at h
 cases e : ixN xs.length i with
 | none => rw [e] at h; cases h
 | some j =>
   rw [e] at h
   obtain ⟨h1, h2, h3, h4⟩ := K8 e
   exact ⟨j, h1, h, h2, h3, h4⟩
theorem AW {α : Type} {xs : List α} {j : Nat} {v : α} (h : xs[j]? = some v) : atI xs (j : Int) = some v := by
 have hj : j < xs.length := (S4.mp h).1
 have e : ixN xs.length (j : Int) = some j := by
  unfold ixN
  rw [if_pos (by lia), if_pos (by lia)]; simp
 unfold atI; rw [e]; exact h
def NB (b : Expr) : Prop := ∀ o i, subscripted b false o i = operate [o, i] (getItem o i)
def IxR (X : Cx) (r : R2) : Prop :=
 ∀ (value slice : Expr) (pins : List (Addr × Obj)) (s : Shared) (σ : St) (H : Hp) (x y : V) (v u : Value) (Q : VK), Inv X pins σ H s → AI x v → AI y u → r x y H Q →
   subscripted slice false v u = operate [v, u] (getItem v u) → wpAny (model X.prog X.w) X.A (subscriptTail value slice v u) (EP X pins σ Q) X.xe s
def MtR (X : Cx) (id : String) (r : V → List V → Hp → VK → Prop) : Prop :=
 ∀ (pins : List (Addr × Obj)) (s : Shared) (σ : St) (H : Hp) (x : V) (xs : List V) (v : Value) (us : List Value) (Q : VK), Inv X pins σ H s → AI x v → AA xs us → r x xs H Q →
   wpAny (model X.prog X.w) X.A (call (.builtin id) (v :: us)) (EP X pins σ Q) X.xe s
section
variable {X : Cx} {a b : Expr} {ta tb : TE} {pos : Pos}
theorem Aj {r : R2} (hr : IxR X r) (ha : PE X a ta) (hb : PE X b tb) (hs : NB b) : PE X (.Subscript a b pos) (tOp r ta tb) := by
 intro pins s σ H Q I h
 exact Subscript_ (OT ha hb I h fun v u s2 x y H2 I2 rx ry q => hr a b pins s2 σ H2 x y v u Q I2 rx ry q (hs _ _))
inductive O8 (K : RU) (x : V) (y : V) (H : Hp) (Q : VK) : Prop
 | mk (p : _) (xs : _) (i : _) (v : _) (h1 : x = .ref p) (h2 : y = .int i) (h3 : SqL K H p xs) (h4 : atI xs i = some v) (h5 : Q v H) : O8 K x y H Q
inductive O7 (K : RU) (x : V) (y : V) (H : Hp) (Q : VK) : Prop
 | mk (p : _) (xs : _) (i : _) (v : _) (h1 : x = .ref p) (h2 : y = .int i) (h3 : SqT K H p xs) (h4 : atI xs i = some v) (h5 : Q v H) : O7 K x y H Q
theorem Np : IxR X (O8 X.K) := by
 intro value slice pins s σ H x y v u Q I rx ry h hs
 obtain ⟨p, xs, i, z, rfl, rfl, hq, he, q⟩ := h
 cases rx
 obtain ⟨t, rfl⟩ := ry
 obtain ⟨its, r, pl, hz⟩ := I.list hq
 obtain ⟨j, h1, h2, h3, h4, h5⟩ := Ko he
 obtain ⟨w, ew, rw'⟩ := r.get h2
 have hl := r.length
 have hn := HD
 have fin : EP X pins σ Q w s := ⟨z, H, I, rw', q⟩
 by_cases h0 : 0 ≤ i
 ·have hj : i.toNat = j := by
   rw [seqIndex_of h0 h5] at h1
   exact RL.inj h1
  exact item_listR pl.isList h0 (by lia) (by rw [hj]; simpa using ew) fin hs
 ·have hj : (i + (its.toArray.size : Int)).toNat = j := by
   rw [seqIndex_neg (by lia) h4] at h1
   rw [SE, ← hl]
   exact RL.inj h1
  exact subscriptTail_builtinR (x := w) pl.isList.typeIs slot_list_getitem.lookup
   (wpAny_getItem_list_neg (Q := fun r s' => r = w ∧ EP X pins σ Q r s') pl.isList (by lia) (by rw [SE] <;> lia) (by lia) (by rw [hj]; simpa using ew) ⟨rfl, fin⟩) hs
theorem OJ : IxR X (O7 X.K) := by
 intro value slice pins s σ H x y v u Q I rx ry h hs
 obtain ⟨p, xs, i, z, rfl, rfl, hq, he, q⟩ := h
 cases rx
 obtain ⟨t, rfl⟩ := ry
 obtain ⟨its, r, pl, hz⟩ := I.tuple hq
 obtain ⟨j, h1, h2, h3, h4, h5⟩ := Ko he
 obtain ⟨w, ew, rw'⟩ := r.get h2
 have hl := r.length
 have hn := HD
 have fin : EP X pins σ Q w s := ⟨z, H, I, rw', q⟩
 exact subscriptTail_builtinR (x := w) pl.typeIs slot_tuple_getitem.lookup
  (getItem_tuple (j := j) (Q := fun r s' => r = w ∧ EP X pins σ Q r s') pl (by lia) (by lia) (by rw [SE, ← hl]; exact h1) (by simpa using ew) ⟨rfl, fin⟩) hs
theorem JE (its : List Value) (n j : Nat) (u : Value) : Obj.mapSeq (·.setIfInBounds j u) { cls := .type "list", data := .seq its.toArray n } = { cls := .type "list", data := .seq (its.set j u).toArray n } := by
 simp [Obj.mapSeq]
theorem Inv.lst {pins : List (Addr × Obj)} {σ : St} {H : Hp} {s : Shared} {p : Addr} {xs : List V} (I : Inv X pins σ H s) (h : H p = some (.lst xs)) :
 ∃ (its : List Value) (n : Nat), AA xs its ∧ s.heap.get? p = some { cls := .type "list", data := .seq its.toArray n } ∧ xs.length ≤ sizeLine := by
 obtain ⟨z, its, n, r, e⟩ := I.hok p _ h
 exact ⟨its, n, r, e, z⟩
theorem Inv.lstUpd {pins : List (Addr × Obj)} {σ : St} {H : Hp} {s : Shared} {p : Addr} {xs ys : List V} {its its' : List Value} {n n' : Nat} {f : Obj → Obj} (I : Inv X pins σ H s) (h : H p = some (.lst xs))
 (ho : s.heap.get? p = some { cls := .type "list", data := .seq its.toArray n }) (hf : f { cls := .type "list", data := .seq its.toArray n } = { cls := .type "list", data := .seq its'.toArray n' }) (r : AA ys its') (hz : ys.length ≤ sizeLine) (t : Nat) :
 Inv X pins σ (upd H p (.lst ys)) { s with heap := s.heap.update p f, toks := t } := by
 have e : (s.heap.update p f).get? p = some { cls := .type "list", data := .seq its'.toArray n' } := by
  rw [Heap.get?_update_self f ho (by rw [hf] <;> rfl), hf]
 refine I.write (x := p) (e := p) (by rw [h]; trivial) (.inl rfl) (fun b u hb q => (Heap.get?_update_other _ _ (Ne.symm hb)).trans q) ⟨_, e⟩ ?_
 exact ⟨hz, its', n', r, e⟩
inductive NJ (o : V) (i : V) (v : V) (H : Hp) (Q : (Hp → Prop)) : Prop
 | mk (p : _) (xs : _) (k : _) (j : _) (h1 : o = .ref p) (h2 : i = .int k) (h3 : H p = some (.lst xs)) (h4 : ixN xs.length k = some j) (h5 : Q (upd H p (.lst (xs.set j v)))) : NJ o i v H Q
theorem Dd : Pz X NJ := by
 intro pins s σ H o i v ov iv u Q I ro ri rv h
 obtain ⟨p, xs, k, j, rfl, rfl, hp, hj, q⟩ := h
 cases ro
 obtain ⟨t, rfl⟩ := ri
 obtain ⟨its, n, r, ho, hz⟩ := I.lst hp
 obtain ⟨h1, h2, h3, h4⟩ := K8 hj
 have hl := r.length
 have hn := HD
 have I' : Inv X pins σ (upd H p (.lst (xs.set j v))) { s with heap := s.heap.update p (Obj.mapSeq (·.setIfInBounds j u)) } :=
  I.lstUpd hp ho (JE its n j u) (r.set rv j) (by rw [SF]; exact hz) s.toks
 by_cases h0 : 0 ≤ k
 ·have hk : k.toNat = j := by
   rw [seqIndex_of h0 h4] at h1
   exact RL.inj h1
  exact PySem.W.ki_setAt ho h0 (by lia) (by rw [SE, ← hl]; exact h4) (by rw [hk]; exact ⟨_, I', q⟩)
 ·have hk : (k + (its.toArray.size : Int)).toNat = j := by
   rw [seqIndex_neg (by lia) h3] at h1
   rw [SE, ← hl]
   exact RL.inj h1
  exact PySem.W.ki_setBack ho (by lia) (by rw [SE, ← hl]; exact h3) (by lia) (by rw [hk]; exact ⟨_, I', q⟩)
theorem He (lo hi : Option Int) (n : Nat) : (sliceBounds lo hi none n).1 = ((HT.sIx n 0 lo : Nat) : Int) ∧ (sliceBounds lo hi none n).2.1 = ((HT.sIx n n hi : Nat) : Int) ∧ (sliceBounds lo hi none n).2.2 = 1 := by
 have key : ∀ (i : Int) (d : Nat), max 0 (min (if i < 0 then i + (n : Int) else i) (n : Int)) = ((HT.sIx n d (some i) : Nat) : Int) := by
  intro i d
  rw [← HT.clip_eq]
  by_cases h : i < 0
  ·rw [if_pos h, if_pos h, Int.min_eq_left (by lia), Int.max_comm]
  ·rw [if_neg h, if_neg h, Int.max_eq_right (Int.le_min.mpr ⟨by lia, by lia⟩)]
 refine ⟨?_, ?_, rfl⟩
 ·cases lo with
  | none => simp [sliceBounds, HT.sIx]
  | some i => exact key i 0
 ·cases hi with
  | none => simp [sliceBounds, HT.sIx]
  | some i => exact key i n
theorem G0 (its : List Value) (lo hi : Option Int) : slicePick its.toArray lo hi none = ((its.drop (HT.sIx its.length 0 lo)).take (HT.sIx its.length its.length hi - HT.sIx its.length 0 lo)).toArray := by
 obtain ⟨h1, h2, h3⟩ := He lo hi its.toArray.size
 unfold slicePick
 rw [h1, h2, h3]
 simp only [sliceRange_one, pick_run, SE] <;> rfl
inductive O6 (K : RU) (x : V) (lo : Option Int) (hi : Option Int) (H : Hp) (Q : VK) : Prop
 | mk (a : _) (xs : _) (h1 : x = .ref a) (h2 : SqL K H a xs) (h3 : ∀ p, H p = none → Q (.ref p) (upd H p (.lst (CD xs lo hi)))) : O6 K x lo hi H Q
theorem MT : SlR X (O6 X.K) := by
 intro pins s σ H x v vl vu lo hi sl Q I rx hs pl pu h
 obtain ⟨a, xs, rfl, hx, q⟩ := h
 cases rx
 obtain ⟨its, r, ht, hz⟩ := I.list hx
 have hlen := r.length
 refine ⟨"list", _, slot_list_getitem.lookup, ht.isList.typeIs, ?_⟩
 refine wpAny_getItem_list_slice ht.isList hs pl pu .none (by simp) ?_ (by rw [SE] <;> lia)
 rw [G0, ← hlen]
 refine ⟨.ref s.heap.objs.size, _, I.laid (t' := s.toks) (o := .lst (CD xs lo hi)) (fun b ob q => Heap.get?_push_of_some _ q) (S9 _) ?_, rfl, q _ (I.hok.fresh (S9 _))⟩
 exact ⟨RV (J1 xs lo hi) hz, _, 0, (r.drop (HT.sIx xs.length 0 lo)).take (HT.sIx xs.length xs.length hi - HT.sIx xs.length 0 lo), Heap.get?_push_size _ rfl⟩
def EK : V → Bool
 | .non => true
 | .bl _ => true
 | .int _ => true
 | .str _ => true
 | _ => false
def eqV : V → V → Bool
 | .non, .non => true
 | .bl a, .bl b => a == b
 | .bl a, .int b => (if a then 1 else 0) == b
 | .int a, .bl b => a == (if b then 1 else 0)
 | .int a, .int b => a == b
 | .str a, .str b => a == b
 | _, _ => false
theorem OP {A : Around} {s : Shared} {y x : V} {u v : Value} (ry : AI y u) (rx : AI x v) (fy : EK y = true) (fx : EK x = true) : SeqAt.EqAt A s u v (eqV y x) := by
 cases y with
 | non =>
   cases ry
   cases x with
   | non => cases rx; exact SeqAt.EqAt.same _
   | bl b => cases rx; exact SeqAt.EqAt.none_bool b
   | int b => obtain ⟨t, rfl⟩ := rx; exact SeqAt.EqAt.none_int b t
   | str b => obtain ⟨t, rfl⟩ := rx; exact SeqAt.EqAt.none_str b t
   | _ => exact absurd (show false = true from fx) Bool.false_ne_true
 | bl a =>
   cases ry
   cases x with
   | non => cases rx; exact SeqAt.EqAt.bool_none a
   | bl b => cases rx; exact SeqAt.EqAt.bool_bool a b
   | int b => obtain ⟨t, rfl⟩ := rx; exact SeqAt.EqAt.bool_int a b t
   | str b => obtain ⟨t, rfl⟩ := rx; exact SeqAt.EqAt.bool_str a b t
   | _ => exact absurd (show false = true from fx) Bool.false_ne_true
 | int a =>
   obtain ⟨t', rfl⟩ := ry
   cases x with
   | non => cases rx; exact SeqAt.EqAt.int_none a t'
   | bl b => cases rx; exact SeqAt.EqAt.int_bool a t' b
   | int b => obtain ⟨t, rfl⟩ := rx; exact SeqAt.EqAt.int_int a t' b t
   | str b => obtain ⟨t, rfl⟩ := rx; exact SeqAt.EqAt.int_str a t' b t
   | _ => exact absurd (show false = true from fx) Bool.false_ne_true
 | str a =>
   obtain ⟨t', rfl⟩ := ry
   cases x with
   | non => cases rx; exact SeqAt.EqAt.str_none a t'
   | bl b => cases rx; exact SeqAt.EqAt.str_bool a t' b
   | int b => obtain ⟨t, rfl⟩ := rx; exact SeqAt.EqAt.str_int a t' b t
   | str b => obtain ⟨t, rfl⟩ := rx; exact SeqAt.EqAt.str_str a t' b t
   | _ => exact absurd (show false = true from fx) Bool.false_ne_true
 | _ => exact absurd (show false = true from fy) Bool.false_ne_true
def eqU (x : V) (u : Value) : Bool := match u with
 | .none => eqV .non x
 | .bool b => eqV (.bl b) x
 | .int i _ => eqV (.int i) x
 | .str z _ => eqV (.str z) x
 | _ => false
theorem Mh {x y : V} {u : Value} (r : AI y u) (f : EK y = true) : eqU x u = eqV y x := by
 cases y with
 | non => cases r; rfl
 | bl b => cases r; rfl
 | int i => obtain ⟨t, rfl⟩ := r; rfl
 | str z => obtain ⟨t, rfl⟩ := r; rfl
 | _ => exact absurd (show false = true from f) Bool.false_ne_true
theorem HW {x : V} : ∀ {xs : List V} {us : List Value}, AA xs us → xs.all EK = true → us.any (eqU x) = xs.any fun y => eqV y x
 | _, _, .nil, _ => rfl
 | y :: xs, u :: us, .cons r t, f => by
   rw [List.all_cons, Bool.and_eq_true] at f
   rw [SG, SG, Mh r f.1, HW t f.2]
theorem FP {A : Around} {s : Shared} {x : V} {v : Value} (rx : AI x v) (fx : EK x = true) : ∀ {xs : List V} {us : List Value}, AA xs us → xs.all EK = true → ∀ u ∈ us, SeqAt.EqAt A s u v (eqU x u)
 | _, _, .nil, _ => fun u hu => by cases hu
 | y :: xs, u :: us, .cons r t, f => fun u' hu => by
   rw [List.all_cons, Bool.and_eq_true] at f
   rcases S1.mp hu with rfl | hu
   ·rw [Mh r f.1]; exact OP r rx f.1 fx
   ·exact FP rx fx t f.2 u' hu
def inV (x : V) (xs : List V) : Bool := xs.any fun y => eqV y x
inductive rIn (K : RU) (neg : Bool) (x : V) (y : V) (H : Hp) (Q : VK) : Prop
 | mk (p : _) (xs : _) (h1 : y = .ref p) (h2 : (SqL K H p xs ∨ SqT K H p xs)) (h3 : EK x = true) (h4 : xs.all EK = true) (h5 : Q (.bl (if neg then !inV x xs else inV x xs)) H) : rIn K neg x y H Q
theorem Hl : OpR X (compareOp .NotIn) (rIn X.K true) := by
 intro pins s σ H x y v u Q I rx ry h
 obtain ⟨p, xs, rfl, hq, fx, fs, q⟩ := h
 cases ry
 rcases hq with hq | hq
 ·obtain ⟨its, r, pl, hz⟩ := I.list hq
  refine SeqAt.notIn_listAt (eqU x) pl.isList (fun w hw => FP rx fx r fs w (by simpa using hw)) ⟨.bl _, H, I, rfl, ?_⟩
  rw [show its.toArray.any (eqU x) = its.any (eqU x) by simp, HW r fs]
  exact q
 ·obtain ⟨its, r, pl, hz⟩ := I.tuple hq
  refine SeqAt.notIn_tupleAt (eqU x) pl (fun w hw => FP rx fx r fs w (by simpa using hw)) ⟨.bl _, H, I, rfl, ?_⟩
  rw [show its.toArray.any (eqU x) = its.any (eqU x) by simp, HW r fs]
  exact q
theorem HS : Dy X (.builtin "len") (fun xs H Q => ∃ p ys, xs = [.ref p] ∧ (SqL X.K H p ys ∨ SqT X.K H p ys) ∧ Q (.int ys.length) H) := by
 intro pins s σ H xs us Q I r h
 obtain ⟨p, ys, rfl, hq, q⟩ := h
 obtain ⟨u, rfl, rx⟩ := Ig r
 cases rx
 have hn := HD
 rcases hq with hq | hq
 ·obtain ⟨its, r', pl, hz⟩ := I.list hq
  have hlen := r'.length
  exact Calls.call_len_list pl.isList (by simp only [SE] <;> lia) ⟨.int ys.length, H, I.tok _, ⟨s.toks + 1, by rw [SE, hlen]⟩, q⟩
 ·obtain ⟨its, r', pl, hz⟩ := I.tuple hq
  have hlen := r'.length
  exact len_tuple pl (by simp only [SE] <;> lia) ⟨.int ys.length, H, I.tok _, ⟨s.toks + 1, by rw [SE, hlen]⟩, q⟩
theorem Gn : Dy X (.type "tuple") (fun xs H Q => ∃ p ys, xs = [.ref p] ∧ ((SqL X.K H p ys ∧ ∀ l, H l = none → Q (.ref l) (upd H l (.tup ys))) ∨ (SqT X.K H p ys ∧ Q (.ref p) H))) := by
 intro pins s σ H xs us Q I r h
 obtain ⟨p, ys, rfl, h⟩ := h
 obtain ⟨u, rfl, rx⟩ := Ig r
 cases rx
 rcases h with ⟨hq, q⟩ | ⟨hq, q⟩
 ·obtain ⟨its, r', pl, hz⟩ := I.list hq
  have hlen := r'.length
  refine call_tuple_list pl.isList (fun h' kp => ?_) (by simp only [SE] <;> lia)
  have I1 : Inv X pins σ H { s with heap := h' } := I.kept (t' := s.toks) kp
  have I2 : Inv X pins σ (upd H h'.objs.size (.tup ys)) { s with heap := h'.push { cls := .type "tuple", data := .seq its.toArray } } :=
   I1.laid (t' := s.toks) (fun b o e => Heap.get?_push_of_some _ e) (S9 _) (show BX X.prog X.w _ _ _ (.tup ys) from ⟨hz, its, r', IsTup.new _ _⟩)
  exact ⟨.ref h'.objs.size, _, I2, rfl, q _ (I1.hok.fresh (S9 _))⟩
 ·obtain ⟨its, r', pl, hz⟩ := I.tuple hq
  exact call_tuple_same pl ⟨.ref p, H, I, rfl, q⟩
def tyV (K : RU) (T : String) (x : V) (H : Hp) : Prop := match x with
 | .str _ => T = "str"
 | .int _ => T = "int"
 | .ref p => (T = "list" ∧ ∃ xs, SqL K H p xs) ∨ (T = "tuple" ∧ ∃ o, K.lookup p = some o ∧ o.cls = .type "tuple" ∧ o.dict = none) ∨
  (T = "dict" ∧ ((∃ kvs, H p = some (.dK kvs)) ∨ ∃ kvs, H p = some (.dT kvs))) ∨ (T = "set" ∧ ∃ S n, H p = some (.set S n))
 | _ => False
theorem Lh {pins : List (Addr × Obj)} {σ : St} {H : Hp} {s : Shared} {T : String} {x : V} {v : Value} (I : Inv X pins σ H s) (r : AI x v) (ty : tyV X.K T x H) :
 s.TypeIs v T ∧ ∀ a, v = .ref a → ∃ ob, s.heap.get? a = some ob ∧ ob.dict = none := by
 cases x with
 | str z =>
   obtain ⟨t, rfl⟩ := r
   cases (show T = "str" from ty)
   exact ⟨typeIs_str s z t, fun _ e => nomatch e⟩
 | int i =>
   obtain ⟨t, rfl⟩ := r
   cases (show T = "int" from ty)
   exact ⟨typeIs_int s i t, fun _ e => nomatch e⟩
 | ref p =>
   cases r
   rcases ty with ⟨rfl, xs, hq⟩ | ⟨rfl, o, hk, hc, hd⟩ | ⟨rfl, hk⟩ | ⟨rfl, S, n, hk⟩
   ·obtain ⟨its, _, pl, _⟩ := I.list hq
    refine ⟨pl.isList.typeIs, fun a e => ?_⟩
    cases e
    obtain ⟨o, n, e, c, hd, _⟩ := pl
    exact ⟨o, e, hd⟩
   ·refine ⟨⟨o, I.kIn p o hk, hc⟩, fun a e => ?_⟩
    cases e
    exact ⟨o, I.kIn _ o hk, hd⟩
   ·have z : ∃ o, s.heap.get? p = some o ∧ o.ExactDict := by
     rcases hk with ⟨kvs, hk⟩ | ⟨kvs, hk⟩
     ·obtain ⟨_, _, _, _, o, _, _, e, ex, _⟩ := I.hok p _ hk
      exact ⟨o, e, ex⟩
     ·obtain ⟨_, _, _, _, o, _, _, e, ex, _⟩ := I.hok p _ hk
      exact ⟨o, e, ex⟩
    obtain ⟨o, e, ex⟩ := z
    refine ⟨⟨o, e, ex.1⟩, fun a e2 => ?_⟩
    cases e2
    exact ⟨o, e, ex.2.1⟩
   ·obtain ⟨o, _, _, _, e, ex, _⟩ := I.hok p _ hk
    refine ⟨⟨o, e, ex.1⟩, fun a e2 => ?_⟩
    cases e2
    exact ⟨o, e, ex.2.1⟩
 | _ => exact False.elim ty
def P8 (K : RU) (T : String) (r : V → List V → Hp → VK → Prop) (to : TE) : TE := fun σ H Q => to σ H fun x H1 => tyV K T x H1 ∧ r x [] H1 Q
def tBM (K : RU) (T : String) (r : V → List V → Hp → VK → Prop) (to : TE) (t : TA) : TE := fun σ H Q => to σ H fun x H1 => tyV K T x H1 ∧ t σ H1 fun xs H2 => r x xs H2 Q
variable {o e : Expr} {es : List Expr} {to : TE} {t : TA} {name : Str} {apos cpos : Pos} {T id : String} {r : V → List V → Hp → VK → Prop}
theorem Oj (pa : PlainAttrs T) (slot : Slot T name id) (hty : typeOf (.builtin id) = pure (.type "method_descriptor")) (hm : MtR X id r) (ho : PE X o to)
 (hbase : attributeBase o name X.env (eval o X.env) = eval o X.env := by rfl) (hline : (apos.endLine == cpos.line) = true := by rfl) {K : RU} (eK : X.K = K := by rfl) : PE X (.Call (.Attribute o name apos) [] [] cpos) (P8 K T r to) := by
 subst eK
 intro pins s σ H Q I h
 refine wpAny_Call_method0_late hbase hline (thn (ho pins s σ H _ I h) fun v s1 ⟨x, H1, I1, r1, ty, q1⟩ => ?_)
 obtain ⟨h1, h2⟩ := Lh I1 r1 ty
 exact ⟨T, id, pa, slot, hty, h1, h2, Calls.callWith_builtin rfl (PySem.evalArgs_none (hm pins s1 σ H1 x [] v [] Q I1 r1 .nil q1))⟩
theorem Ph (pa : PlainAttrs T) (slot : Slot T name id) (hty : typeOf (.builtin id) = pure (.type "method_descriptor")) (hm : MtR X id r) (ho : PE X o to) (ha : PA X (e :: es) t)
 (hbase : attributeBase o name X.env (eval o X.env) = eval o X.env := by rfl)
 (hfew : ((backTo cpos (starEach (e :: es) X.env)).all (fun x => !x.1) && (backToKw cpos (keywordEach [] X.env)).all (fun x => x.1.isSome)
  && decide ((e :: es).length + ([] : List Keyword).length + (if ([] : List Keyword).isEmpty then 0 else 1) < 30)) = true := by rfl)
 (hline : (apos.endLine == cpos.line) = true := by rfl) (hs : starEach (e :: es) X.env = (false, eval e X.env) :: starEach es X.env := by rfl) (hplain : (backTo cpos (starEach es X.env)).any (·.1) = false := by rfl) {K : RU} (eK : X.K = K := by rfl) :
 PE X (.Call (.Attribute o name apos) (e :: es) [] cpos) (tBM K T r to t) := by
 subst eK
 intro pins s σ H Q I h
 refine wpAny_Call_method_late hbase hfew hline rfl (thn (ho pins s σ H _ I h) fun v s1 ⟨x, H1, I1, r1, ty, q1⟩ => ?_)
 obtain ⟨h1, h2⟩ := Lh I1 r1 ty
 refine ⟨T, id, pa, slot, hty, h1, h2, ?_⟩
 have hA := ha cpos pins s1 σ H1 _ I1 q1
 rw [hs] at hA ⊢
 refine Calls.callWith_builtin (by show (false || (backTo cpos (starEach es X.env)).any (·.1)) = false; rw [hplain] <;> rfl) (Calls.evalArgs_plain ?_)
 exact thn hA fun us s2 ⟨vs, H2, I2, r2, q2⟩ => hm pins s2 σ H2 x vs v us Q I2 r1 r2 q2
end
end L2
namespace L2
open PySem PySem.Spec PyProof.Rows
def MtM (X : Cx) (id : String) (r : V → List V → Hp → VK → Prop) : Prop :=
 ∀ (pins : List (Addr × Obj)) (s : Shared) (σ : St) (H : Hp) (x : V) (xs : List V) (v : Value) (us : List Value) (Q : VK), Inv X pins σ H s → AI x v → AA xs us → r x xs H Q →
   wpAny (model X.prog X.w) X.A (call (.builtin id) (v :: us)) (EP X pins σ Q) X.xe s
theorem AA.one {x : V} {us : List Value} (h : AA [x] us) : ∃ u, us = [u] ∧ AI x u := by
 cases h with
 | cons r t => cases t; exact ⟨_, rfl, r⟩
theorem AA.two : ∀ {x y : V} {us : List Value}, AA [x, y] us → ∃ u v, us = [u, v] ∧ AI x u ∧ AI y v
 | _, _, _, .cons r (.cons q .nil) => ⟨_, _, rfl, r, q⟩
theorem AA.zero : ∀ {us : List Value}, AA [] us → us = []
 | _, .nil => rfl
theorem AA.dropLast {xs : List V} {us : List Value} (h : AA xs us) : AA xs.dropLast us.dropLast := by
 induction h with
 | nil => exact .nil
 | cons r t ih =>
   cases t with
   | nil => exact .nil
   | cons q t' => exact .cons r ih
theorem AA.rep {xs : List V} {us : List Value} (h : AA xs us) : ∀ k : Nat, AA (Si k xs).flatten (Si k us).flatten
 | 0 => .nil
 | k + 1 => by
   rw [SH, SH, SI, SI]
   exact AA.append h (AA.rep h k)
theorem JL {α : Type} (l : List α) : l.eraseIdx (l.length - 1) = l.dropLast := by
 induction l with
 | nil => rfl
 | cons a r ih =>
   cases r with
   | nil => rfl
   | cons b r =>
     have e : (a :: b :: r).length - 1 = ((b :: r).length - 1) + 1 := by
      have h1 : (a :: b :: r).length = r.length + 2 := rfl
      have h2 : (b :: r).length = r.length + 1 := rfl
      lia
     rw [e, List.eraseIdx_cons_succ, ih]
     all_goals rfl
theorem GI (its : List Value) : ∀ (k : Nat) (acc : List Value),
 List.foldl (fun x1 x2 => x1 ++ x2) acc.toArray (Si k its.toArray) = (acc ++ (Si k its).flatten).toArray
 | 0, acc => by simp
 | k + 1, acc => by
   have e : acc.toArray ++ its.toArray = (acc ++ its).toArray := by simp
   have e2 : (acc ++ its) ++ (Si k its).flatten = acc ++ (Si (k + 1) its).flatten := by
    rw [SH, SI, SJ]
   rw [← e2, ← GI its k (acc ++ its), ← e, SH, List.foldl_cons]
section
variable {X : Cx} {pins : List (Addr × Obj)} {σ : St} {H : Hp} {s : Shared} {l b : Addr} {xs ys zs : List V}
theorem Inv.lset {its its' : List Value} {n : Nat} {f : Array Value → Array Value} {t' : Nat} (I : Inv X pins σ H s) (hH : H l = some (.lst xs))
 (e : s.heap.get? l = some { cls := .type "list", data := .seq its.toArray n }) (hf : f its.toArray = its'.toArray) (hv : AA ys its') (hz : ys.length ≤ sizeLine) :
 Inv X pins σ (upd H l (.lst ys)) { s with heap := s.heap.update l (Obj.mapSeq f), toks := t' } := by
 have q := PySem.IsL.update e f
 rw [hf] at q
 refine I.write (x := l) (e := l) (by rw [hH]; exact trivial) (.inl rfl) (fun b' u hb hu => (Heap.get?_update_other s.heap (Obj.mapSeq f) (Ne.symm hb)).trans hu) ⟨_, q⟩ ?_
 exact ⟨hz, its', _, hv, q⟩
theorem Inv.lnew {its : List Value} {t' : Nat} (I : Inv X pins σ H s) (hv : AA ys its) (hz : ys.length ≤ sizeLine) :
 Inv X pins σ (upd H s.heap.objs.size (.lst ys)) { s with heap := s.heap.push { cls := .type "list", data := .seq its.toArray }, toks := t' } :=
 I.laid (fun _ _ q => Heap.get?_push_of_some _ q) (S9 _) ⟨hz, its, 0, hv, Heap.get?_push_size _ rfl⟩
theorem Inv.fresh (I : Inv X pins σ H s) : H s.heap.objs.size = none := I.hok.fresh (S9 _)
theorem Inv.lstM (I : Inv X pins σ H s) (hH : H l = some (.lst xs)) : xs.length ≤ sizeLine ∧ ∃ (its : List Value) (n : Nat), AA xs its ∧ xs.length = its.length ∧ s.heap.get? l = some { cls := .type "list", data := .seq its.toArray n } := by
 obtain ⟨z, its, n, r, e⟩ := I.hok l _ hH
 exact ⟨z, its, n, r, r.length, e⟩
theorem II {n : Nat} (h : n ≤ sizeLine) : Builtin.List.listTooLong n = false := by
 unfold Builtin.List.listTooLong
 exact decide_eq_false (by lia)
end
section
variable {X : Cx}
inductive JX (x : V) (vs : List V) (H : Hp) (Q : VK) : Prop
 | mk (l : _) (xs : _) (y : _) (h1 : x = .ref l) (h2 : vs = [y]) (h3 : H l = some (.lst xs)) (h4 : xs.length < sizeLine) (h5 : Q .non (upd H l (.lst (xs ++ [y])))) : JX x vs H Q
theorem Cp : MtM X "list.append" JX := by
 intro pins s σ H x vs v us Q I rx rv h
 obtain ⟨l, xs, y, rfl, rfl, hH, hz, q⟩ := h
 cases rx
 obtain ⟨u, rfl, ru⟩ := rv.one
 obtain ⟨z, its, n, r, hl, e⟩ := I.lstM hH
 refine call_meets F.slot_list_append ⟨_, e, rfl⟩ F.entry_list_append (F.args_list_append_2 _ _) (PySem.list_append l its.toArray n u (by rw [SE]; lia)) ⟨e, ?_⟩
 refine ⟨.non, _, I.lset (its' := its ++ [u]) hH e (by simp) (r.append (.cons ru .nil)) ?_, rfl, q⟩
 rw [Ss, SK]
 lia
inductive JW (x : V) (vs : List V) (H : Hp) (Q : VK) : Prop
 | mk (l : _) (b : _) (xs : _) (zs : _) (h1 : x = .ref l) (h2 : vs = [.ref b]) (h3 : H l = some (.lst xs)) (h4 : H b = some (.lst zs)) (h5 : xs.length + zs.length ≤ sizeLine) (h6 : Q .non (upd H l (.lst (xs ++ zs)))) : JW x vs H Q
theorem KJ : MtM X "list.extend" JW := by
 intro pins s σ H x vs v us Q I rx rv h
 obtain ⟨l, b, xs, zs, rfl, rfl, hH, hB, hz, q⟩ := h
 cases rx
 obtain ⟨u, rfl, ru⟩ := rv.one
 cases ru
 obtain ⟨z, its, n, r, hl, e⟩ := I.lstM hH
 obtain ⟨z2, its2, n2, r2, hl2, e2⟩ := I.lstM hB
 have hsz : its.toArray.size + its2.toArray.size ≤ sizeLine := by rw [SE, SE]; lia
 have hlong : ¬ (!its.toArray.isEmpty && Builtin.List.listTooLong (its.toArray.size + its2.toArray.size)) = true := by
  rw [II hsz, Bool.and_false]
  exact Bool.false_ne_true
 refine call_meets F.slot_list_extend ⟨_, e, rfl⟩ F.entry_list_extend (F.args_list_extend_2 _ _)
  (AutoSeq1.list_extend_list_list_0 l its.toArray n b its2.toArray n2 hlong (by rw [SE]; lia) (by lia)) ⟨e, e2, ?_⟩
 refine ⟨.non, _, I.lset (its' := its ++ its2) hH e (by simp) (r.append r2) ?_, rfl, q⟩
 rw [Ss]
 lia
inductive Pc (x : V) (vs : List V) (H : Hp) (Q : VK) : Prop
 | mk (l : _) (xs : _) (y : _) (h1 : x = .ref l) (h2 : vs = []) (h3 : H l = some (.lst xs)) (h4 : xs[xs.length - 1]? = some y) (h5 : Q y (upd H l (.lst xs.dropLast))) : Pc x vs H Q
theorem Oz : MtM X "list.pop" Pc := by
 intro pins s σ H x vs v us Q I rx rv h
 obtain ⟨l, xs, y, rfl, rfl, hH, hy, q⟩ := h
 cases rx
 have hus := rv.zero
 subst hus
 obtain ⟨z, its, n, r, hl, e⟩ := I.lstM hH
 obtain ⟨u, hu, ru⟩ := r.get hy
 have hy' : its.toArray[its.toArray.size - 1]? = some u := by
  show its.toArray[its.length - 1]? = some u
  rw [← SM, ← hl]
  exact hu
 refine call_meets F.slot_list_pop ⟨_, e, rfl⟩ F.entry_list_pop (F.args_list_pop_1 _) (MeetsSeq.list_pop_last l its.toArray n u hy' (by rw [SE]; lia)) ⟨e, ?_⟩
 refine ⟨y, _, I.lset (its' := its.dropLast) hH e ?_ r.dropLast ?_, ru, q⟩
 ·show its.toArray.eraseIdxIfInBounds (its.toArray.size - 1) = its.dropLast.toArray
  rw [SE, List.eraseIdxIfInBounds_toArray, JL]
 ·rw [List.length_dropLast]
  lia
inductive Pd (x : V) (y : V) (H : Hp) (Q : VK) : Prop
 | mk (l : _) (b : _) (xs : _) (zs : _) (h1 : x = .ref l) (h2 : y = .ref b) (h3 : H l = some (.lst xs)) (h4 : H b = some (.lst zs)) (h5 : xs.length + zs.length ≤ sizeLine) (h6 : ∀ p, H p = none → Q (.ref p) (upd H p (.lst (xs ++ zs)))) : Pd x y H Q
theorem DP : OpR X (binaryOp .Add) Pd := by
 intro pins s σ H x y v u Q I rx ry h
 obtain ⟨l, b, xs, zs, rfl, rfl, hH, hB, hz, q⟩ := h
 cases rx
 cases ry
 obtain ⟨z, its, n, r, hl, e⟩ := I.lstM hH
 obtain ⟨z2, its2, n2, r2, hl2, e2⟩ := I.lstM hB
 refine PySem.P.add_list e e2 ?_ (by rw [SE, SE]; lia)
 have ea : its.toArray ++ its2.toArray = (its ++ its2).toArray := by simp
 rw [ea]
 exact ⟨.ref _, _, I.lnew (t' := s.toks) (r.append r2) (by rw [Ss]; lia), rfl, q _ I.fresh⟩
inductive Pb (x : V) (y : V) (H : Hp) (Q : VK) : Prop
 | mk (l : _) (k : _) (xs : _) (h1 : x = .ref l) (h2 : y = .int k) (h3 : H l = some (.lst xs)) (h4 : -(2 ^ 63) ≤ k) (h5 : k < 2 ^ 63) (h6 : xs.length * k.toNat ≤ sizeLine) (h7 : ∀ p, H p = none → Q (.ref p) (upd H p (.lst (Si k.toNat xs).flatten))) : Pb x y H Q
theorem K3 {α : Type} (xs : List α) (k : Nat) : (Si k xs).flatten.length = k * xs.length := by
 induction k with
 | zero => simp
 | succ k ih => rw [SH, SI, Ss, ih, Nat.succ_mul, Nat.add_comm]
theorem DO : OpR X (binaryOp .Mult) Pb := by
 intro pins s σ H x y v u Q I rx ry h
 obtain ⟨l, k, xs, rfl, rfl, hH, h1, h2, hz, q⟩ := h
 cases rx
 obtain ⟨t, rfl⟩ := ry
 obtain ⟨z, its, n, r, hl, e⟩ := I.lstM hH
 have hlen : its.toArray.size * k.toNat ≤ sizeLine := by rw [SE, ← hl]; exact hz
 have hcap : ¬ its.toArray.size * k.toNat > (2 ^ 63 - 1) / 8 := by
  have : (sizeLine : Nat) ≤ (2 ^ 63 - 1) / 8 := by decide
  lia
 have hfit : ¬ (!Builtin.List.listFitsIndex k) = true := by
  rw [fitsIndex_both h1 h2]
  exact Bool.false_ne_true
 have hlong : ¬ Builtin.List.listTooLong (its.toArray.size * k.toNat) = true := by
  rw [II hlen]
  exact Bool.false_ne_true
 have hnew : List.foldl (fun x1 x2 => x1 ++ x2) #[] (Si (if its.toArray.isEmpty = true then 0 else k.toNat) its.toArray) = (Si k.toNat its).flatten.toArray := by
  have f0 : ∀ m : Nat, List.foldl (fun x1 x2 => x1 ++ x2) #[] (Si m its.toArray) = (Si m its).flatten.toArray := fun m => by
   have := GI its m []
   rw [List.nil_append] at this
   exact this
  rw [f0]
  cases its with
  | nil => simp
  | cons a r' => rw [if_neg (by simp)]
 refine wpAny_binaryOp_repeat_ref (T := "list") (U := "int") (by decide) ⟨_, e, rfl⟩ (fun s' => typeIs_int s' k t) noFill_list_mul F.fills_int_mul F.slot_int_rmul repeat_list F.slot_int_index.lookup
  (call_meets F.slot_int_rmul (typeIs_int s k t) F.entry_int_rmul (F.args_int_rmul_2 _ _) (int___rmul___int_list k t l its.toArray n)
   ⟨e, rfl, ⟨_, e, rfl⟩, call_meets F.slot_list_mul ⟨_, e, rfl⟩ F.entry_list_mul (F.args_list_mul_2 _ _) (AutoListH.list___mul___list_int_3 l its.toArray n k t hfit hcap hlong) ⟨e, ?_⟩⟩)
 rw [hnew]
 exact ⟨.ref _, _, I.lnew (t' := s.toks) (r.rep k.toNat) (by rw [K3, SN]; exact hz), rfl, q _ I.fresh⟩
end
section
variable {prog : Program} {w : World} {A : Around} {E : Value → Shared → Prop} {s : Shared}
set_option maxRecDepth 100000 in
end
section
variable {X : Cx}
end
end L2
namespace Att
open PySem PySem.W PySem.Calls PyProof.Rows
theorem ints_of_wellAll {P : Params} {h : Heap} : ∀ (ns : List Int) (vs : List Value), WellAll P h vs (ns.map WData.int) → IntsAre vs ns := by
 intro ns
 induction ns with
 | nil =>
   intro vs w
   rw [List.map_nil] at w
   cases w
   exact .nil
 | cons n ns ih =>
   intro vs w
   rw [SO] at w
   cases w with
   | cons a b =>
     cases a
     exact .cons _ _ (ih _ b)
theorem script_of {l : OpenLaw} {n : Nat} (hn : l.most = some n) {P : Params} {h : Heap} {args : List WData} {vals : List Value}
 (hpre : l.row.toRowW.claim.pre args = true) (hwl : WellAll P h vals args) :
 ∃ a vs ns, vals = [Value.ref a] ∧ args = [WData.list (ns.map WData.int)] ∧ h.get? a = some { cls := .type "list", data := .seq vs.toArray } ∧ IntsAre vs ns ∧ ns.length ≤ n := by
 have hsh : WShape.hasAll [] args [.list .int] = true := (pre_splitW hpre).1
 have hc : l.pre.holds [] { args := args } = true := (pre_splitW hpre).2
 obtain ⟨d, r, rfl, h1, h2⟩ := hasAllW_cons hsh
 obtain rfl := hasAllW_nil h2
 obtain ⟨xs, rfl, h3⟩ := hasW_list h1
 obtain ⟨ns, rfl⟩ := items_int h3
 have hlen : ns.length ≤ n := by
  unfold OpenLaw.pre at hc
  have h4 : (WTm.not (.lt (.lit (.int (n : Int))) (.len (.arg 0)))).holds [] { args := [.list (ns.map .int)] } = true := by
   have h4 := (holds_andW hc).1
   rw [hn] at h4
   exact h4
  have h5 := condW_of h4 (w_not (w_lt w_lit (w_len_list (w_arg rfl))))
  rw [Su] at h5
  refine Nat.le_of_not_lt fun q => ?_
  have q' : (n : Int) < ((ns.length : Nat) : Int) := by lia
  first
   | (rw [decide_eq_true q'] at h5; exact absurd h5 (by decide))
   | (simp at h5; lia)
 cases hwl with
 | cons w1 w2 =>
   cases w2
   cases w1 with
   | list ho hall => exact ⟨_, _, ns, rfl, rfl, ho, ints_of_wellAll ns _ hall, hlen⟩
theorem post_true (l : OpenLaw) (args : List WData) : l.row.toRowW.claim.post args (.bool true) args = true :=
 postW_of (r := l.row.toRowW) (X := (true == true))
  (show WShape.has [] (.bool true) .bool = true by first | rfl | decide | simp [WShape.has, WShape.arms, WShape.armsAll])
  (show (WTm.eq .res (.lit (.bool true))).value [] { args := args, res := some (.bool true), after := args } = some (.bool (true == true)) from w_eq_bool (w_res rfl) w_lit) rfl
theorem attach_call {l : OpenLaw} {n : Nat} {q : Program} {loose : List Str} {XP : (Str → Option Value) → Heap → Prop} {YP : World → Heap → Prop} {d : DefRec}
 (hn : l.most = some n) (hdf : d.params.defaults = [])
 (call : ∀ (w : World) (s₀ s₁ : Shared) (mg mb : Str → Option Value) (fa : Addr) (o : Obj) (pm cd doc : Value) (a : Addr) (vs : List Value) (ns : List Int),
  Ground q loose [] XP w s₀ mg mb s₁.heap → YP w s₁.heap →
  s₁.heap.get? fa = some o → o.data = .func (docDef d.name d.params d.body d.scope pm cd doc) → s₁.heap.CodeRec cd d.name → mg d.name = some (.ref fa) →
  s₁.heap.get? a = some { cls := .type "list", data := .seq vs.toArray } → IntsAre vs ns → ns.length ≤ n → s₁.gens = #[] →
  codeAny (model l.prog w) callerA (.call (.ref fa) ⟨[.ref a], []⟩) (fun r s' => r = .ok (.ret (.bool true)) ∧ OldK s₁.heap s'.heap ∧ s'.os = s₁.os ∧ AllBare s'.gens) s₁) :
 WalkO q loose XP YP l.row.toRowW d [] (fun f vs => PySem.call f vs) := by
 intro w s₀ s₁ mg mb G Y fa o pm cd doc dV kV ho hd hcd hD hmg hg args vals as hpre hlay hrd hwl hlo
 obtain rfl : dV = .none := Dflts.none hD hdf
 obtain rfl : kV = .none := Dflts.noKw hD
 obtain ⟨a, vs, ns, rfl, rfl, hobj, hints, hlen⟩ := script_of hn hpre hwl
 refine enter_call (codeAny_mono (call w s₀ s₁ mg mb fa o pm cd doc a vs ns G Y ho (fd_plain hd) hcd hmg hobj hints hlen hg) fun r s' hq => ?_)
 obtain ⟨rfl, h2, h3, h4⟩ := hq
 exact ⟨.inl ⟨.bool true, .bool true, [], rfl, fun _ => rfl, .bool true, post_true l _, fun _ => ⟨List.Pairwise.nil, fun _ hm => (nomatch hm)⟩⟩, h2, h3, h4⟩
section
variable {prog : Program} {w : World} {A : Around} {E : Value → Shared → Prop} {s : Shared} {K : Frag}
end
end Att
namespace L2
open PySem PySem.Spec PyProof.Rows
theorem Kr {vs : List Value} {ns : List Int} (h : IntsAre vs ns) : AA (ns.map V.int) vs := by
 induction h with
 | nil => exact .nil
 | cons n t h ih => exact .cons ⟨t, rfl⟩ ih
end L2
namespace L2
open PySem PySem.Spec PyProof.Rows
end L2
namespace L2
open PySem PySem.Spec PyProof.Rows
def Al (s : Stmt) : Arguments := match s with
 | .FunctionDef _ a _ _ _ _ _ _ _ _ => a
 | _ => { posonlyargs := [], args := [], vararg := none, kwonlyargs := [], kw_defaults := [], kwarg := none, defaults := [] }
def Ak (s : Stmt) : List Stmt := match s with
 | .FunctionDef _ _ b _ _ _ _ _ _ _ => b
 | _ => []
def Ae (s : Stmt) : Scope := match s with
 | .FunctionDef _ _ _ _ _ _ sc _ _ _ => sc
 | _ => { kind := .function, names := [], isGenerator := false, isCoroutine := false }
abbrev CX0 : CXT := fun _ _ _ _ _ _ => False
abbrev E0 : XK := fun _ _ _ => False
theorem Pj {X : Cx} : JQ CX0 X E0 := fun _ _ _ _ _ _ _ h => h.elim
structure Fun (K : RU) (x qual : Str) (st : Stmt) (f : Addr) (fd : FuncData) : Prop where
 ex : ∃ (oc : Value) (od : Option Addr) (kV doc pm : Value) (an : Option Addr) (cdv ct : Value) (osl : Array (Option Value)),
  fd = Sw x qual (Al st) (Ak st) (Ae st) .none kV doc pm an cdv ct ∧ K.lookup f = some ⟨oc, od, .func fd, osl⟩ ∧ Sx K cdv qual = true
 kp : Se K (.ref f) = true
section
variable {P : Program} {w : World} {K : RU} {mg : Str → Option Value} {base : Heap}
theorem Fun.ok {x qual : Str} {st : Stmt} {f : Addr} {fd : FuncData} {N ps : List Str} {k : Nat} {sp : Sp} (F : Fun K x qual st f fd) (S : Ar N ps (Ae st)) (len : ∀ vs H Q E, sp vs H Q E → vs.length = ps.length)
 (hbody : ∀ (cdv : Value) (A : Around) (outer : List Env) (s : Shared) (H : Hp) (vs : List V) (Q : VK) (E : XK), BZ k (A.deeper (envOfC qual (Ae st) s.heap.objs.size f cdv)) → sp vs H Q E →
  ∃ t, PSs (JN CX0 P w K mg base N qual (Ae st) f cdv A outer s H E).nox (Ak st) t ∧ t { nx := fun _ H' => Q .non H', rt := Q } (DU N vs) H) : AH P w K mg base CX0 (k + 1) f fd ps sp := by
 obtain ⟨oc, od, kV, doc, pm, an, cdv, ct, osl, rfl, lk, hcd⟩ := F.ex
 refine NO lk hcd S len fun A outer s H vs Q E hr hsp => ?_
 obtain ⟨t, h, q⟩ := hbody cdv A outer s H vs Q E hr hsp
 exact ⟨t, h.nox, q⟩
theorem Fun.binds {x qual : Str} {st : Stmt} {f : Addr} {fd : FuncData} {ps : List Str} (F : Fun K x qual st f fd)
 (h : ∀ (kV doc pm : Value) (an : Option Addr) (cdv ct : Value) (us : List Value), us.length = ps.length → bindArgs (Sw x qual (Al st) (Ak st) (Ae st) .none kV doc pm an cdv ct) ⟨us, []⟩ = pure (ps.zip us)) : C5 K fd ps [] := by
 obtain ⟨oc, od, kV, doc, pm, an, cdv, ct, osl, rfl, lk, hcd⟩ := F.ex
 exact .all (h kV doc pm an cdv ct)
theorem Az {x qual : Str} {st : Stmt} {f : Addr} {oc : Value} {od an : Option Addr} {osl : Array (Option Value)} {kV doc pm cdv ct : Value} (l : K.lookup f = some ⟨oc, od, .func (Sw x qual (Al st) (Ak st) (Ae st) .none kV doc pm an cdv ct), osl⟩)
 (c : Sx K cdv qual = true) (k : Se K (.ref f) = true) : Fun K x qual st f (Sw x qual (Al st) (Ak st) (Ae st) .none kV doc pm an cdv ct) := ⟨⟨oc, od, kV, doc, pm, an, cdv, ct, osl, rfl, l, c⟩, k⟩
end
theorem AF {n : Nat} (h : n ≤ 1000) : n < sizeLine := SQ h (by decide)
section
variable {X : Cx}
theorem pv (i : Nat) {x : Str} {pos : Pos} (hN : X.N[i]? = some x := by rfl) (hv : Vis X.env.scope x := by first | exact Or.inl rfl | exact Or.inr (Or.inl rfl) | exact Or.inr (Or.inr rfl)) (hd : (x == ("__debug__" : Str)) = false := by decide)
 (hcd : (x == ("__classdict__" : Str)) = false := by decide) : PE X (.Name x pos) (Ll i) := Og hN hv hd hcd
end
theorem IV {A B : Prop} (h : B) : if false = true then A else B := by
 rw [if_neg Bool.false_ne_true]
 exact h
theorem PY {A B : Prop} (h : A) : if true = true then A else B := by
 rw [if_pos rfl]
 exact h
theorem Gk {c A B : Prop} [Decidable c] (h1 : c → A) (h2 : ¬ c → B) : if c then A else B := by
 by_cases h : c
 ·rw [if_pos h]
  exact h1 h
 ·rw [if_neg h]
  exact h2 h
def Af (H H' : Hp) : Prop := ∀ b o, H b = some o → H' b = some o
theorem Af.refl (H : Hp) : Af H H := fun _ _ h => h
theorem Af.trans {H H1 H2 : Hp} (a : Af H H1) (b : Af H1 H2) : Af H H2 := fun c o h => b c o (a c o h)
theorem Af.free {H H' : Hp} (e : Af H H') {l : Addr} (h : H' l = Option.none) : H l = Option.none := by
 cases q : H l with
 | none => rfl
 | some o =>
   rw [e l o q] at h
   cases h
theorem Af.seq {K : RU} {H H' : Hp} {a : Addr} {xs : List V} (e : Af H H') (h : SqL K H a xs) : SqL K H' a xs := by
 rcases h with (h | ⟨o, h⟩) | h
 ·exact .inl (.inl (e _ _ h))
 ·exact .inl (.inr ⟨o, e _ _ h⟩)
 ·exact .inr h
end L2
namespace L2
open PySem PySem.Spec PyProof.Rows
section
variable {κ : Type} [DecidableEq κ]
end
theorem Pn {P : Program} {w : World} {k : Key} {u : Value} (r : AI (kV k) u) : (CA P w).is k u = true := by
 cases k with
 | inl i => obtain ⟨t, e⟩ := (show ∃ t, u = Value.int i t from r); subst e; exact IS P w i t
 | inr x => obtain ⟨t, e⟩ := (show ∃ t, u = Value.str x t from r); subst e; exact IQ P w x t
theorem GD {P : Program} {w : World} : ∀ {ks : List Key} {us : List Value}, AA (ks.map kV) us → ItemsAre (CA P w) ks us
 | [], _, r => by rw [List.map_nil] at r; cases r; exact .nil
 | k :: ks, _, r => by
   rw [SO] at r
   cases r with
   | cons h t => exact .cons (Pn h) (GD t)
section
variable {P : Program} {w : World} {H : Hp} {h : Heap} {a : Addr}
end
section
variable {X : Cx} {pins : List (Addr × Obj)} {σ : St} {H : Hp} {s : Shared} {a : Addr} {y v : V} {u r : Value} {o : Option V} {A : Around} {E : Value → Shared → Prop}
theorem Inv.big (I : Inv X pins σ H s) : sysModules < s.heap.objs.size := by
 have h : mainGlobals < s.heap.objs.size := (I.mod.glob.keeps I.bk).lt
 exact SR (by decide) h
end
section
variable {X : Cx} {pins : List (Addr × Obj)} {σ : St} {H : Hp} {s : Shared} {a : Addr} {kvs : List (Key × V)} {k : Key} {u : Value} {A : Around} {E : Value → Shared → Prop}
end
section
variable {X : Cx} {o i e value : Expr} {pos pos' tpos : Pos} {td ty tv : TE}
end
theorem Mi {P : Program} {w : World} {H : Hp} (h : Heap) (hb : sysModules < h.objs.size) : BX P w H (h.push { cls := .type "dict", data := .dict #[] }) h.objs.size (.dT []) :=
 ⟨Sb _, beq_eq_false_iff_ne.mpr (Ne.symm (RP hb)), [], .nil, _, #[], 0, Heap.get?_push_size _ rfl, ⟨rfl, rfl, rfl⟩, rfl, rfl, List.nodup_nil⟩
def O0 : TE := fun _ H Q => ∀ p, H p = none → Q (.ref p) (upd H p (.dT []))
section
variable {X : Cx} {pos : Pos}
theorem LI : PE X (.Dict [] [] pos) O0 := fun pins s σ H Q I h =>
 wpAny_Dict_empty ⟨.ref s.heap.objs.size, _, I.laid (a := s.heap.objs.size) (o := .dT []) (t' := s.toks) (fun _ _ q => Heap.get?_push_of_some _ q) (S9 _) (Mi s.heap I.big), rfl, h _ (I.hok.fresh (S9 _))⟩
end
structure M1 (X : Cx) (o : Expr) (m : Str) (apos : Pos) (e : Expr) (cpos : Pos) : Prop where
 base : attributeBase o m X.env (eval o X.env) = eval o X.env
 few : ((backTo cpos (starEach [e] X.env)).all (fun x => !x.1) && (backToKw cpos (keywordEach [] X.env)).all (fun x => x.1.isSome)
  && decide (([e] : List Expr).length + ([] : List Keyword).length + (if ([] : List Keyword).isEmpty then 0 else 1) < 30)) = true
 line : (apos.endLine == cpos.line) = true
 trees : backTo cpos (starEach [e] X.env) = [(false, eval e X.env)]
structure M2 (X : Cx) (o : Expr) (m : Str) (apos : Pos) (e f : Expr) (cpos : Pos) : Prop where
 base : attributeBase o m X.env (eval o X.env) = eval o X.env
 few : ((backTo cpos (starEach [e, f] X.env)).all (fun x => !x.1) && (backToKw cpos (keywordEach [] X.env)).all (fun x => x.1.isSome)
  && decide (([e, f] : List Expr).length + ([] : List Keyword).length + (if ([] : List Keyword).isEmpty then 0 else 1) < 30)) = true
 line : (apos.endLine == cpos.line) = true
 trees : backTo cpos (starEach [e, f] X.env) = [(false, eval e X.env), (false, eval f X.env)]
section
variable {X : Cx} {pins : List (Addr × Obj)} {σ : St} {H : Hp} {s : Shared} {a : Addr} {y d : V} {u r : Value} {o : Option V} {A : Around} {E : Value → Shared → Prop}
end
section
variable {X : Cx} {o e f : Expr} {apos cpos : Pos} {td ty tx : TE}
end
section
variable {X : Cx} {pins : List (Addr × Obj)} {σ : St} {H : Hp} {s : Shared} {a : Addr} {kvs : List (Key × V)} {A : Around} {E : Value → Shared → Prop}
end
section
variable {X : Cx} {pins : List (Addr × Obj)} {σ : St} {H : Hp} {s : Shared} {a : Addr} {y : V} {u : Value} {A : Around} {E : Value → Shared → Prop}
end
end L2
namespace Nm
def msr (a b : Int) : Int := if b < 0 then -(SS a b : Int) else (SS a b : Int)
theorem gcd_pos {a b : Int} (hb : b ≠ 0) : 0 < SS a b := SU fun h => hb (Int.gcd_eq_zero_iff.mp h).2
theorem msr_ne {a b : Int} (hb : b ≠ 0) : msr a b ≠ 0 := by
 have := gcd_pos (a := a) hb
 unfold msr; split <;> lia
theorem fdiv_neg_dvd {a g : Int} (h : g ∣ a) : a.fdiv (-g) = -(a / g) := by
 obtain ⟨k, rfl⟩ := h
 by_cases hg : g = 0
 ·subst hg; simp
 ·rw [Int.mul_ediv_cancel_left _ hg, show g * k = -g * -k by rw [Int.neg_mul_neg], SV _ (by lia)]
theorem fdiv_dvd {a g : Int} (h : g ∣ a) : a.fdiv g = a / g := by
 obtain ⟨k, rfl⟩ := h
 by_cases hg : g = 0
 ·subst hg; simp
 ·rw [Int.mul_ediv_cancel_left _ hg, SV _ hg]
theorem top_msr {a b : Int} (hb : b ≠ 0) : a.fdiv (msr a b) = (SW a b).num := by
 rw [Rat.num_divInt, Int.gcd_comm b a]
 have d : (SS a b : Int) ∣ a := SX ..
 unfold msr
 split
 ·rename_i h
  rw [fdiv_neg_dvd d, Int.sign_eq_neg_one_of_neg h, Int.neg_mul, SY, Int.neg_ediv_of_dvd d]
 ·rw [fdiv_dvd d, Int.sign_eq_one_of_pos (by lia), SY]
theorem bottom_msr {a b : Int} (hb : b ≠ 0) : b.fdiv (msr a b) = (SW a b).den := by
 rw [Rat.den_divInt, if_neg hb, Int.gcd_comm b a]
 have d : (SS a b : Int) ∣ b := T1 ..
 rw [Int.natCast_ediv]
 unfold msr
 split
 ·rename_i h
  rw [fdiv_neg_dvd d, ← Int.neg_ediv_of_dvd d, Int.ofNat_natAbs_of_nonpos (by lia)]
 ·rw [fdiv_dvd d, Int.natAbs_of_nonneg (by lia)]
theorem gcd_turn (x y : Int) : SS y (x % y) = SS x y := by
 have e : x % y + y * (x / y) = x := Int.emod_add_mul_ediv x y
 have h : SS (x % y + y * (x / y)) y = SS (x % y) y := Int.gcd_add_mul_left_left ..
 rw [e] at h
 rw [h, Int.gcd_comm]
theorem abs_if (i : Int) : (if i < 0 then -i else i) = (i.natAbs : Int) := by split <;> lia
theorem num_mul (q : Rat) : ((q.num : Int) : Rat) = q * ((q.den : Int) : Rat) := by
 have hd : ((q.den : Nat) : Int) ≠ 0 := by have := q.den_pos; lia
 have h1 : q = (q.num : Rat) / ((q.den : Int) : Rat) := by
  have := Rat.num_divInt_den q
  rw [T2] at this
  exact this.symm
 have h0 : (((q.den : Int)) : Rat) ≠ 0 := fun z => hd (by exact_mod_cast z)
 conv => rhs; lhs; rw [h1]
 rw [T3 h0]
theorem den_ne (q : Rat) : ((q.den : Nat) : Int) ≠ 0 := by have := q.den_pos; lia
theorem cast_ne {a : Int} (h : a ≠ 0) : (a : Rat) ≠ 0 := fun z => h (by exact_mod_cast z)
theorem div_eq {t b : Int} {q : Rat} (hb : b ≠ 0) (h : (t : Rat) = q * (b : Rat)) : SW t b = q := by
 rw [T2, h, Rat.mul_div_cancel (cast_ne hb)]
theorem plus_eq (p q : Rat) : SW (p.num * q.den + q.num * p.den) (p.den * q.den) = p + q :=
 div_eq (T4 (den_ne p) (den_ne q)) (by rw [Rat.intCast_add, T5, T5, T5, num_mul p, num_mul q]; grind)
theorem minus_eq (p q : Rat) : SW (p.num * q.den - q.num * p.den) (p.den * q.den) = p - q :=
 div_eq (T4 (den_ne p) (den_ne q)) (by rw [T6, T5, T5, T5, num_mul p, num_mul q]; grind)
theorem times_eq (p q : Rat) : SW (p.num * q.num) (p.den * q.den) = p * q :=
 div_eq (T4 (den_ne p) (den_ne q)) (by rw [T5, T5, num_mul p, num_mul q]; grind)
theorem pow_add (x : Rat) (m : Nat) : ∀ n : Nat, x ^ (m + n) = x ^ m * x ^ n
 | 0 => by rw [T7, T8]; grind
 | n + 1 => by rw [← Nat.add_assoc, T9, T9, pow_add x m n]; grind
end Nm
namespace Cv
def ev : List Rat → Rat → Rat
 | [], _ => 0
 | q :: r, x => q + x * ev r x
def strip : List Rat → List Rat
 | [] => []
 | q :: r => if strip r = [] ∧ q = 0 then [] else q :: strip r
theorem ev_strip (x : Rat) : ∀ qs, ev (strip qs) x = ev qs x
 | [] => rfl
 | q :: r => by
   have ih := ev_strip x r
   unfold strip
   split
   ·rename_i h
    rw [h.1] at ih
    show (0 : Rat) = q + x * ev r x
    rw [← ih, h.2]; show (0 : Rat) = 0 + x * 0; grind
   ·show q + x * ev (strip r) x = _
    rw [ih]; rfl
theorem strip_length : ∀ qs, (strip qs).length ≤ qs.length
 | [] => S9 _
 | q :: r => by
   have ih := strip_length r
   unfold strip
   split
   ·exact Sb _
   ·exact Nat.succ_le_succ ih
theorem strip_last : ∀ qs, strip qs ≠ [] → (strip qs)[(strip qs).length - 1]? ≠ some 0
 | [], h => absurd rfl h
 | q :: r, h => by
   have ih := strip_last r
   unfold strip at h ⊢
   split at h
   ·exact absurd rfl h
   ·rename_i hc
    rw [if_neg hc]
    by_cases e : strip r = []
    ·rw [e]
     intro z
     have z' : q = 0 := by simpa using z
     exact hc ⟨e, z'⟩
    ·have hl : 0 < (strip r).length := Tc.mpr e
     rw [Td, show (strip r).length + 1 - 1 = ((strip r).length - 1) + 1 by lia, Te]
     exact ih e
theorem strip_mem : ∀ qs q, q ∈ strip qs → q ∈ qs
 | [], _, h => h
 | p :: r, q, h => by
   unfold strip at h
   split at h
   ·cases h
   ·rcases S1.mp h with e | e
    ·exact e ▸ RY
    ·exact RZ _ (strip_mem r q e)
theorem take_strip : ∀ (qs : List Rat) (w : Nat), (∀ j q, w ≤ j → qs[j]? = some q → q = 0) → (w = 0 ∨ ∃ q, qs[w - 1]? = some q ∧ q ≠ 0) → qs.take w = strip qs
 | [], w, _, _ => by simp [strip]
 | p :: r, 0, h, _ => by
   have ih := take_strip r 0 (fun j q _ e => h (j + 1) q (by lia) (by simpa using e)) (.inl rfl)
   have hp : p = 0 := h 0 p (S9 _) rfl
   unfold strip
   rw [← ih, if_pos ⟨rfl, hp⟩]; rfl
 | p :: r, w + 1, h, h2 => by
   have hz : ∀ j q, w ≤ j → r[j]? = some q → q = 0 := fun j q hj e => h (j + 1) q (by lia) (by simpa using e)
   by_cases hw : w = 0
   ·subst hw
    have ih := take_strip r 0 hz (.inl rfl)
    rcases h2 with z | ⟨q, e, hq⟩
    ·exact absurd z (by lia)
    ·have e' : p = q := by simpa using e
     subst e'
     unfold strip
     rw [← ih, if_neg (fun z => hq z.2)]; rfl
   ·have ih := take_strip r w hz (by
     rcases h2 with z | ⟨q, e, hq⟩
     ·exact absurd z (by lia)
     ·refine .inr ⟨q, ?_, hq⟩
      rw [show w + 1 - 1 = (w - 1) + 1 by lia, Te] at e
      exact e)
    have hne : strip r ≠ [] := by
     rw [← ih]
     rcases h2 with z | ⟨q, e, hq⟩
     ·exact absurd z (by lia)
     ·rw [show w + 1 - 1 = (w - 1) + 1 by lia, Te] at e
      intro z
      have hl : 0 < (r.take w).length := by
       rw [Sj]
       have := (S4.mp e).1
       lia
      rw [z] at hl; simp at hl
    unfold strip
    rw [← ih, if_neg (fun z => hne (by rw [← ih]; exact z.1))]; rfl
def pw : List Rat → Rat → Rat → Rat
 | [], _, _ => 0
 | q :: r, x, p => q * p + pw r x (p * x)
theorem ev_scale (c x : Rat) : ∀ qs, ev (qs.map (· * c)) x = ev qs x * c
 | [] => by show (0 : Rat) = 0 * c; grind
 | q :: r => by
   show q * c + x * ev (r.map (· * c)) x = (q + x * ev r x) * c
   rw [ev_scale c x r]; grind
theorem ev_snoc (x q : Rat) : ∀ l : List Rat, ev (l ++ [q]) x = ev l x + q * x ^ l.length
 | [] => by show q + x * 0 = 0 + q * x ^ 0; rw [T8]; grind
 | p :: r => by
   show p + x * ev (r ++ [q]) x = (p + x * ev r x) + q * x ^ (r.length + 1)
   rw [ev_snoc x q r, T9]; grind
theorem strip_zeros : ∀ (qs : List Rat) (n : Nat), strip (qs ++ Si n 0) = strip qs
 | [], 0 => rfl
 | [], n + 1 => by
   have ih := strip_zeros [] n
   show strip (0 :: Si n 0) = []
   unfold strip
   have e : strip (Si n 0) = [] := by simpa [strip] using ih
   rw [if_pos ⟨e, rfl⟩]
 | q :: r, n => by
   have ih := strip_zeros r n
   show strip (q :: (r ++ Si n 0)) = strip (q :: r)
   unfold strip
   rw [ih]
theorem ev_set (x d : Rat) : ∀ (l : List Rat) (i : Nat) (v : Rat), l[i]? = some v → ev (l.set i (v + d)) x = ev l x + d * x ^ i
 | [], _, _, h => by simp at h
 | q :: r, 0, v, h => by
   have e : q = v := by simpa using h
   subst e
   show (q + d) + x * ev r x = (q + x * ev r x) + d * x ^ 0
   rw [T8]; grind
 | q :: r, i + 1, v, h => by
   show q + x * ev (r.set i (v + d)) x = (q + x * ev r x) + d * x ^ (i + 1)
   rw [ev_set x d r i v (by simpa using h), T9]; grind
theorem ev_zeros (x : Rat) : ∀ n, ev (Si n 0) x = 0
 | 0 => rfl
 | n + 1 => by
   show (0 : Rat) + x * ev (Si n 0) x = 0
   rw [ev_zeros x n]; grind
def evI (ts : List Int) (x : Rat) : Rat := ev (ts.map fun t : Int => (t : Rat)) x
theorem evI_set (x : Rat) (l : List Int) (i : Nat) (v d : Int) (h : l[i]? = some v) : evI (l.set i (v + d)) x = evI l x + (d : Rat) * x ^ i := by
 unfold evI
 rw [List.map_set, Rat.intCast_add]
 exact ev_set x _ _ i _ (by rw [Sn, h]; rfl)
theorem evI_zeros (x : Rat) (n : Nat) : evI (Si n 0) x = 0 := by
 unfold evI
 rw [List.map_replicate]
 exact ev_zeros x n
theorem evI_take_succ (x : Rat) (l : List Int) (i : Nat) (v : Int) (h : l[i]? = some v) : evI (l.take (i + 1)) x = evI (l.take i) x + (v : Rat) * x ^ i := by
 have hi : i < l.length := (S4.mp h).1
 unfold evI
 rw [Tf, h]
 show ev ((l.take i ++ [v]).map _) x = _
 rw [Tg]
 show ev (_ ++ [(v : Rat)]) x = _
 rw [ev_snoc, Su, Sj, Sz (by lia)]
theorem evI_cons (x : Rat) (t : Int) (l : List Int) : evI (t :: l) x = (t : Rat) + x * evI l x := rfl
def quot (c : Rat) : List Rat → List Rat
 | [] => []
 | [_] => []
 | _ :: b :: l => ev (b :: l) c :: quot c (b :: l)
theorem quot_ev (c x : Rat) : ∀ l : List Rat, ev l x = ev l c + (x - c) * ev (quot c l) x
 | [] => by show (0 : Rat) = 0 + _ * 0; grind
 | [a] => by show a + x * 0 = a + c * 0 + (x - c) * 0; grind
 | a :: b :: l => by
   have h := quot_ev c x (b :: l)
   show a + x * ev (b :: l) x = a + c * ev (b :: l) c + (x - c) * (ev (b :: l) c + x * ev (quot c (b :: l)) x)
   rw [h]; grind
theorem quot_length (c : Rat) : ∀ l : List Rat, (quot c l).length = l.length - 1
 | [] => rfl
 | [_] => rfl
 | _ :: b :: l => by
   show (quot c (b :: l)).length + 1 = _
   rw [quot_length c (b :: l)]
   simp
theorem ev_none (x : Rat) : ∀ l : List Rat, (∀ q ∈ l, q = 0) → ev l x = 0
 | [], _ => rfl
 | a :: l, h => by
   show a + x * ev l x = 0
   rw [h a RY, ev_none x l fun q hq => h q (RZ _ hq)]
   grind
theorem ident : ∀ (n : Nat) (l : List Rat), l.length ≤ n → ∀ s : Nat, (∀ k : Nat, s ≤ k → ev l (k : Rat) = 0) → ∀ q ∈ l, q = 0
 | 0, l, hl, _, _ => by
   have e : l = [] := Th (by lia)
   rw [e]
   exact fun q h => nomatch h
 | n + 1, [], _, _, _ => fun q h => nomatch h
 | n + 1, a :: t, hl, s, h => by
   have hs := h s (S9 _)
   have hq : ∀ q ∈ quot (s : Rat) (a :: t), q = 0 := ident n _ (by rw [quot_length]; simp at hl ⊢; lia) (s + 1) fun k hk => by
    have e := quot_ev (s : Rat) (k : Rat) (a :: t)
    rw [h k (by lia), hs] at e
    have e2 : ((k : Rat) - (s : Rat)) * ev (quot (s : Rat) (a :: t)) (k : Rat) = 0 := by grind
    rcases Ti.mp e2 with z | z
    ·have z2 : (k : Rat) = (s : Rat) := by grind
     have z3 : k = s := by exact_mod_cast z2
     lia
    ·exact z
   have hall : ∀ x, ev (a :: t) x = 0 := fun x => by
    rw [quot_ev (s : Rat) x (a :: t), hs, ev_none x _ hq]; grind
   have ha : a = 0 := by
    have := hall 0
    show a = 0
    have e : ev (a :: t) 0 = a + 0 * ev t 0 := rfl
    rw [e] at this
    grind
   have ht : ∀ q ∈ t, q = 0 := ident n t (by simp at hl; lia) 1 fun k hk => by
    have e := hall (k : Rat)
    have e1 : ev (a :: t) (k : Rat) = a + (k : Rat) * ev t (k : Rat) := rfl
    rw [e1, ha] at e
    have e2 : (k : Rat) * ev t (k : Rat) = 0 := by grind
    rcases Ti.mp e2 with z | z
    ·have z3 : k = 0 := by exact_mod_cast z
     lia
    ·exact z
   intro q hq'
   rcases S1.mp hq' with z | z
   ·rw [z]; exact ha
   ·exact ht q z
def dif : List Rat → List Rat → List Rat
 | [], m => m.map (· * (-1))
 | a :: l, m => (a - m.headD 0) :: dif l m.tail
theorem ev_head (x : Rat) (m : List Rat) : ev m x = m.headD 0 + x * ev m.tail x := by
 cases m with
 | nil => show (0 : Rat) = 0 + x * 0; grind
 | cons b m => rfl
theorem dif_ev (x : Rat) : ∀ l m : List Rat, ev (dif l m) x = ev l x - ev m x
 | [], m => by
   show ev (m.map (· * (-1))) x = 0 - ev m x
   rw [ev_scale]; grind
 | a :: l, m => by
   show (a - m.headD 0) + x * ev (dif l m.tail) x = (a + x * ev l x) - ev m x
   rw [dif_ev x l m.tail, ev_head x m]; grind
theorem dif_none : ∀ l m : List Rat, l.length = m.length → (∀ q ∈ dif l m, q = 0) → l = m
 | [], [], _, _ => rfl
 | [], _ :: _, e, _ => nomatch e
 | _ :: _, [], e, _ => nomatch e
 | a :: l, b :: m, e, h => by
   have h1 : a - b = 0 := h _ RY
   have h2 := dif_none l m (by simpa using e) fun q hq => h q (RZ _ hq)
   rw [h2, show a = b by grind]
theorem same_of (l m : List Rat) (e : l.length = m.length) (h : ∀ x, ev l x = ev m x) : l = m :=
 dif_none l m e (ident _ _ (S9 _) 0 fun k _ => by rw [dif_ev, h]; grind)
end Cv
namespace L2
open PySem PySem.Spec PyProof.Rows
theorem D4 {env : Env} : ∀ (names : List (Str × NameKind)) (acc : List (Str × Addr)), (∀ x ∈ names, x.2 = .free → ∃ c, env.cells.lookup x.1 = some c) →
 ∃ cl : List (Str × Addr), (forIn (m := Sem) names acc fun x r => do
  if x.2 == .free then pure (ForInStep.yield ((x.1, ← cellOf env x.1) :: r)) else pure (ForInStep.yield r)) = pure cl ∧
  (∀ p ∈ cl, p ∈ acc ∨ env.cells.lookup p.1 = some p.2) ∧ (∀ p ∈ acc, p ∈ cl) ∧ ∀ x ∈ names, x.2 = .free → ∃ c, (x.1, c) ∈ cl
 | [], acc, _ => ⟨acc, rfl, fun _ h => .inl h, fun _ h => h, fun _ h => nomatch h⟩
 | x :: r, acc, h => by
   by_cases hk : x.2 = .free
   ·obtain ⟨c, hc⟩ := h x RY hk
    obtain ⟨cl, e, h1, h2, h3⟩ := D4 r ((x.1, c) :: acc) fun y hy => h y (RZ _ hy)
    refine ⟨cl, ?_, fun p hp => ?_, fun p hp => h2 p (RZ _ hp), fun y hy hf => ?_⟩
    ·rw [Tj]
     have z : (x.2 == NameKind.free) = true := by rw [hk]; rfl
     have cell : cellOf env x.1 = pure c := by unfold cellOf; rw [hc]
     simp only [z, if_true, cell]
     exact e
    ·rcases h1 p hp with q | q
     ·rcases S1.mp q with rfl | q
      ·exact .inr hc
      ·exact .inl q
     ·exact .inr q
    ·rcases S1.mp hy with rfl | hy
     ·exact ⟨c, h2 _ RY⟩
     ·exact h3 y hy hf
   ·obtain ⟨cl, e, h1, h2, h3⟩ := D4 r acc fun y hy => h y (RZ _ hy)
    refine ⟨cl, ?_, h1, h2, fun y hy hf => ?_⟩
    ·rw [Tj]
     have z : (x.2 == NameKind.free) = false := by
      cases e : x.2 <;> first | rfl | exact absurd e hk
     simp only [z, Bool.false_eq_true, if_false]
     exact e
    ·rcases S1.mp hy with rfl | hy
     ·exact absurd hf hk
     ·exact h3 y hy hf
theorem DJ {x : Str} {c : Addr} : ∀ {cl : List (Str × Addr)}, (x, c) ∈ cl → ∃ c', cl.lookup x = some c'
 | [], h => nomatch h
 | (y, d) :: r, h => by
   by_cases e : x = y
   ·subst e; exact ⟨d, by simp⟩
   ·rcases S1.mp h with q | q
    ·cases q; exact absurd rfl e
    ·obtain ⟨c', q'⟩ := DJ q
     refine ⟨c', ?_⟩
     have : (x == y) = false := by simpa using e
     rw [Tn, this]
     exact q'
theorem DK {scope : Scope} {env : Env} (h : ∀ x ∈ scope.names, x.2 = .free → ∃ c, env.cells.lookup x.1 = some c) :
 ∃ cl : List (Str × Addr), closureFor scope env = pure cl ∧ (∀ x c, cl.lookup x = some c → env.cells.lookup x = some c) ∧ ∀ x ∈ scope.names, x.2 = .free → ∃ c, cl.lookup x.1 = some c := by
 obtain ⟨cl, e, h1, _, h3⟩ := D4 scope.names [] h
 refine ⟨cl, ?_, fun x c q => ?_, fun x hx hf => ?_⟩
 ·unfold closureFor
  simp only [bind_pure]
  exact e
 ·rcases h1 _ (PySem.mem_of_lookup q) with z | z
  ·exact nomatch z
  ·exact z
 ·obtain ⟨c, hc⟩ := h3 x hx hf
  exact DJ hc
theorem Ci {env : Env} : ∀ {names : List (Str × NameKind)} {x : Str}, names.lookup x = some .free →
 (names.map fun (n, k) => if (k == NameKind.free && env.scope.kind == .function && env.kindOf n == some .cell) then (n, NameKind.cell) else (n, k)).lookup x = some .cell ∨
 (names.map fun (n, k) => if (k == NameKind.free && env.scope.kind == .function && env.kindOf n == some .cell) then (n, NameKind.cell) else (n, k)).lookup x = some .free
 | [], _, h => by simp at h
 | (n, k) :: r, x, h => by
   have ih := @Ci env r x
   show To x ((if (k == NameKind.free && env.scope.kind == .function && env.kindOf n == some .cell) = true then (n, NameKind.cell) else (n, k)) :: _) = _ ∨ To x ((if (k == NameKind.free && env.scope.kind == .function && env.kindOf n == some .cell) = true then (n, NameKind.cell) else (n, k)) :: _) = _
   cases hx : x == n with
   | true =>
     simp only [Tn, hx] at h
     cases h
     by_cases hc : (NameKind.free == NameKind.free && env.scope.kind == .function && env.kindOf n == some .cell) = true
     ·rw [if_pos hc]; simp [Tn, hx]
     ·rw [if_neg hc]; simp [Tn, hx]
   | false =>
     simp only [Tn, hx] at h
     by_cases hc : (k == NameKind.free && env.scope.kind == .function && env.kindOf n == some .cell) = true
     ·rw [if_pos hc]; simp only [Tn, hx]; exact ih h
     ·rw [if_neg hc]; simp only [Tn, hx]; exact ih h
theorem DZ {env : Env} {x : Str} : ∀ {names : List (Str × NameKind)}, (∀ y ∈ names, y.2 ≠ .cell) →
 ((names.map fun (n, k) => if (k == NameKind.free && env.scope.kind == .function && env.kindOf n == some .cell) then (n, NameKind.cell) else (n, k)).lookup x = some .cell ∨
  (names.map fun (n, k) => if (k == NameKind.free && env.scope.kind == .function && env.kindOf n == some .cell) then (n, NameKind.cell) else (n, k)).lookup x = some .free) → (x, NameKind.free) ∈ names
 | [], _, h => by simp at h
 | (n, k) :: r, hc, h => by
   have ih := @DZ env x r fun y hy => hc y (RZ _ hy)
   have hk : k ≠ .cell := hc (n, k) RY
   change To x ((if (k == NameKind.free && env.scope.kind == .function && env.kindOf n == some .cell) = true then (n, NameKind.cell) else (n, k)) :: _) = _ ∨ To x ((if (k == NameKind.free && env.scope.kind == .function && env.kindOf n == some .cell) = true then (n, NameKind.cell) else (n, k)) :: _) = _ at h
   cases hx : x == n with
   | true =>
     have e : x = n := by simpa using hx
     subst e
     by_cases hq : (k == NameKind.free && env.scope.kind == .function && env.kindOf x == some .cell) = true
     ·have : k = .free := by
       cases k <;> first | rfl | (simp at hq)
      subst this; exact RY
     ·rw [if_neg hq] at h
      simp only [Tn, hx] at h
      rcases h with h | h
      ·cases h; exact absurd rfl hk
      ·cases h; exact RY
   | false =>
     refine RZ _ (ih ?_)
     by_cases hq : (k == NameKind.free && env.scope.kind == .function && env.kindOf n == some .cell) = true
     ·rw [if_pos hq] at h; simpa only [Tn, hx] using h
     ·rw [if_neg hq] at h; simpa only [Tn, hx] using h
def By (X : Cx) (N : List Str) (scope : Scope) (cl : List (Str × Addr)) (C : Addr) (s : Shared) (H : Hp) (fp : List Addr) : Cx :=
 { prog := X.prog, w := X.w, K := X.K, mg := X.mg, base := X.base, A := X.A, N := N, s₀ := s, H₀ := H, env := compEnvC scope cl C X.env, outer := X.stack, stack := X.stack, ex := fp,
   fn := fun _ => false, calm := X.calm, pn := [], xe := fun _ _ => False }
def cS (nt : Nat) (js : List Nat) (σ : St) : St := Si nt none ++ js.map fun i => σ.getD i none
abbrev E9 (ys : List Value) : Obj := { cls := .type "list", data := .seq ys.toArray ys.length }
theorem HN {prog : Program} {w : World} {A : Around} {R : Result → Shared → Prop} {s : Shared} {elt target iter : Expr} {ifs : List Expr} {scope : Scope} {pos : Pos} {it acc : Value} {env : Env} (I : Nat → Shared → Prop)
 (turn : ∀ n s, I n s → wpAny (model prog w) A (pyNext it) (fun r s₁ => match r with
  | none => R (.ok .next) s₁
  | some v => wpAny (model prog w) A (letOwnedTupleGo target it v) (fun _ s₁' => wpAny (model prog w) A (assign target env v) (fun _ s₂ =>
   wpAny (model prog w) A (forIn ifs true fun c r => if r = true then do let ok ← isTrue c env (eval c env); pure (ForInStep.yield ok) else pure (ForInStep.yield r)) (fun ok s₃ =>
    if ok = true then wpAny (model prog w) A (eval elt env) (fun x s₄ =>
     wpAny (model prog w) A (call (.builtin "list.append") [acc, x]) (fun _ s₅ => ∃ m, m < n ∧ I m s₅) (fun _ _ => False) s₄) (fun _ _ => False) s₃
    else ∃ m, m < n ∧ I m s₃) (fun _ _ => False) s₂) (fun _ _ => False) s₁') (fun _ _ => False) s₁) (fun _ _ => False) s)
 (n : Nat) (h : I n s) :
 codeAny (model prog w) A (.compLoop (.ListComp elt [⟨target, iter, ifs, 0⟩] scope pos) 0 it acc env) R s := by
 refine codeAny_loop rfl I (fun n s hI => ?_) n h
 show wpAny _ A ((compTurn (.ListComp elt [⟨target, iter, ifs, 0⟩] scope pos) 0 it acc env).onRaise (fun x => do noteFrame x env; theTreesLotGoes x)) _ _ s
 refine wpAny_noted ?_
 rw [compTurn_list]
 refine wpAny_bind (wpAny_standAt (wpAny_bind (wpAny_mono (turn n s hI) (fun r s₁ h₁ => ?_) fun _ _ h' => h'.elim)))
 cases r with
 | none => exact wpAny_pure h₁
 | some v =>
   refine wpAny_bind (wpAny_mono h₁ (fun _ s₁' h₁' => ?_) fun _ _ h' => h'.elim)
   refine wpAny_bind (wpAny_mono h₁' (fun _ s₂ h₂ => wpAny_bind (wpAny_mono h₂ (fun ok s₃ h₃ => ?_) fun _ _ h' => h'.elim)) fun _ _ h' => h'.elim)
   cases ok with
   | false => exact wpAny_pure ⟨rfl, h₃⟩
   | true =>
     exact wpAny_bind (wpAny_bind (wpAny_mono h₃ (fun x s₄ h₄ => wpAny_bind (wpAny_mono h₄ (fun _ s₅ h₅ => wpAny_pure (wpAny_pure ⟨rfl, h₅⟩)) fun _ _ h' => h'.elim)) fun _ _ h' => h'.elim))
def PTs (X : Cx) (ifs : List Expr) (t : TT) : Prop :=
 ∀ (pins : List (Addr × Obj)) (s : Shared) (σ : St) (H : Hp) (Q : Bool → Hp → Prop), Inv X pins σ H s → t σ H Q →
   wpAny (model X.prog X.w) X.A (forIn ifs true fun c r => if r = true then do let ok ← isTrue c X.env (eval c X.env); pure (ForInStep.yield ok) else pure (ForInStep.yield r)) (TP X pins σ Q) X.xe s
def Lk : TT := fun _ H Q => Q true H
theorem BP {X : Cx} : PTs X [] Lk := fun _ _ _ H _ I h => wpAny_tests_nil ⟨H, I, h⟩
theorem E2 {X : Cx} {c : Expr} {t : TT} (h : PT X c t) : PTs X [c] t := fun pins s σ H Q I q => wpAny_tests_one (h pins s σ H Q I q)
structure LcW (J : It) (n nt : Nat) (js : List Nat) (σ : St) (g : TG) (tc : TT) (te : TE) (Fin : List V → Hp → Prop) (W : Nat → List V → Hp → Prop) : Prop where
 go : ∀ i zs H, i < n → W i zs H → J.go i H ∧ zs.length < sizeLine
 step : ∀ i zs H x H', i < n → W i zs H → J.yld i H x H' → g x (cS nt js σ) H' fun σ2 H2 => tc σ2 H2 fun b H3 => if b = true then te σ2 H3 fun y H4 => W (i + 1) (zs ++ [y]) H4 else W (i + 1) zs H3
 stop : ∀ zs H, W n zs H → J.stop n H ∧ zs.length ≤ sizeLine ∧ Fin zs H
@[irreducible] def tLC (wi : TI) (nt : Nat) (js : List Nat) (g : TG) (tc : TT) (te : TE) : TE := fun σ H Q => wi σ H fun J H1 =>
 ∃ (n : Nat) (W : Nat → List V → Hp → Prop), W 0 [] H1 ∧ LcW J n nt js σ g tc te (fun zs H' => ∀ p, H' p = none → Q (.ref p) (upd H' p (.lst zs))) W
theorem Ce {wi : TI} {nt : Nat} {js : List Nat} {g : TG} {tc : TT} {te : TE} {σ : St} {H : Hp} {Q : VK}
 (h : wi σ H fun J H1 => ∃ (n : Nat) (W : Nat → List V → Hp → Prop), W 0 [] H1 ∧ LcW J n nt js σ g tc te (fun zs H' => ∀ p, H' p = none → Q (.ref p) (upd H' p (.lst zs))) W) : tLC wi nt js g tc te σ H Q := by
 unfold tLC; exact h
theorem NN {wi : TI} {nt : Nat} {js : List Nat} {g : TG} {tc : TT} {te : TE} {σ : St} {H : Hp} {Q : VK} (h : tLC wi nt js g tc te σ H Q) :
 wi σ H fun J H1 => ∃ (n : Nat) (W : Nat → List V → Hp → Prop), W 0 [] H1 ∧ LcW J n nt js σ g tc te (fun zs H' => ∀ p, H' p = none → Q (.ref p) (upd H' p (.lst zs))) W := by
 unfold tLC at h; exact h
structure Be (X : Cx) (N : List Str) (nt : Nat) (js : List Nat) (scope : Scope) : Prop where
 kind : scope.kind = .function
 nocell : ∀ y ∈ scope.names, y.2 ≠ .cell
 names : ∀ y ∈ scope.names, y.2 = .local → scope.names.lookup y.1 = some .local
 free : ∀ y ∈ scope.names, y.2 = .free → X.env.kindOf y.1 = some .cell ∨ X.env.kindOf y.1 = some .free
 len : N.length = nt + js.length
 outer : ∀ j i, js[j]? = some i → ∃ x, N[nt + j]? = some x ∧ X.N[i]? = some x ∧ scope.names.lookup x = some .free
def Kj (NX : List Str) (sc : Scope) (N : List Str) (nt : Nat) (js : List Nat) (scope : Scope) : Bool :=
 decide (scope.kind = .function) && scope.names.all (fun y => decide (y.2 ≠ .cell)) && scope.names.all (fun y => decide (y.2 ≠ .local) || decide (scope.names.lookup y.1 = some .local)) &&
 scope.names.all (fun y => decide (y.2 ≠ .free) || (decide (sc.names.lookup y.1 = some .cell) || decide (sc.names.lookup y.1 = some .free))) && decide (N.length = nt + js.length) &&
 (RQ js.length).all fun j => match js[j]?, N[nt + j]? with
  | some i, some x => decide (NX[i]? = some x) && decide (scope.names.lookup x = some .free)
  | _, _ => false
theorem Be.look {X : Cx} {NX N : List Str} {sc scope : Scope} {nt : Nat} {js : List Nat} (hN : X.N = NX) (hs : X.env.scope = sc) (h : Kj NX sc N nt js scope = true) : Be X N nt js scope := by
 unfold Kj at h
 simp only [Bool.and_eq_true, Tp, Bool.or_eq_true, decide_eq_true_eq] at h
 obtain ⟨⟨⟨⟨⟨h1, h2⟩, h3⟩, h4⟩, h5⟩, h6⟩ := h
 refine ⟨h1, h2, fun y hy hl => (h3 y hy).resolve_left fun z => z hl, fun y hy hf => ?_, h5, fun j i e => ?_⟩
 ·have q := (h4 y hy).resolve_left fun z => z hf
  rw [← hs] at q
  exact q
 ·have hj : j < js.length := (S4.mp e).1
  have q := h6 j (RT.mpr hj)
  rw [e] at q
  cases en : N[nt + j]? with
  | none => rw [en] at q; cases q
  | some x =>
    rw [en] at q
    simp only [Bool.and_eq_true, decide_eq_true_eq] at q
    exact ⟨x, rfl, by rw [hN]; exact q.1, q.2⟩
section
variable {X : Cx} {N : List Str} {nt : Nat} {js : List Nat} {scope : Scope} {cl : List (Str × Addr)}
theorem HOk.track {P : Program} {w : World} {H : Hp} {h : Heap} {a : Addr} {o : HO} (x : HOk P w H h) (hn : H a = none) (new : BX P w (upd H a o) h a o) : HOk P w (upd H a o) h := fun b u e => by
 by_cases hb : b = a
 ·subst hb; rw [Aa] at e; cases e; exact new
 ·rw [Am hb] at e
  exact (x b u e).stay (fun c v _ q => q) (fun c q => by rw [Am (Au q hn)]; exact q) fun c xs q => by rw [Am (Au q hn)]; exact q
theorem M4 {pins : List (Addr × Obj)} {σ : St} {H : Hp} {s : Shared} {C D : Addr} {h' : Heap} {tk : Nat} {fp : List Addr} {m : Str → Option Value} (I : Inv X pins σ H s) (ok : Be X N nt js scope)
 (hcl : ∀ x c, cl.lookup x = some c → X.env.cells.lookup x = some c) (hcl2 : ∀ x ∈ scope.names, x.2 = .free → ∃ c, cl.lookup x.1 = some c)
 (hf : ∀ b ∈ fp, Dx X pins H b) (ho : ∀ b ∈ fp, ∃ o, s.heap.get? b = some o ∧ ∀ v, o.data ≠ .cell v)
 (hD : s.heap.objs.size ≤ D) (hC : s.heap.objs.size ≤ C) (hDC : D ≠ C) (k : ∀ b o, s.heap.get? b = some o → h'.get? b = some o) (hn : h'.Ns C m) (hd : h'.get? D = some (E9 [])) :
 Inv (By X N scope cl C s H fp) [(D, E9 [])] (cS nt js σ) H { s with heap := h', toks := tk } := by
 have lt : ∀ b ∈ fp, b < s.heap.objs.size := fun b hb => by obtain ⟨o, e, _⟩ := ho b hb; exact Heap.lt_size e
 have frlt : ∀ b ∈ frs X.stack, b < s.heap.objs.size := fun b hb => by
  obtain ⟨_, o, e, _⟩ := I.stack.mem hb
  exact Heap.lt_size e
 refine ⟨⟨I.ok.mod, ok.kind, I.ok.glob, I.ok.blt, hC, fun x y c h1 h2 => I.ok.inj x y c (hcl x c h1) (hcl y c h2), fun x hx => ?_, fun x c hx => absurd hx Bool.false_ne_true, I.ok.hd, I.ok.frames, .inl rfl, fun b hb => ⟨?_, fun x c e => (hf b hb).2.2.2.2.1 x c (hcl x c e)⟩, I.bs,
  RV I.ok.bsz I.sz, fun b o e hb => ?_, fun b hb hs => ?_, I.stack, I.stkFree⟩, rfl, I.bare, Un.kept k, ⟨m, hn, fun j x v h1 h2 h3 => ?_⟩, fun x c e => ?_, I.hok.fresh hC, fun x c e => I.freeC x c (hcl x c e), fun p hp => ?_, I.hok.kept k, ?_⟩
 ·obtain ⟨c, hc⟩ := hcl2 (x, .free) (DZ ok.nocell hx) rfl
  exact ⟨c, hc⟩
 ·exact RP (RN (lt b hb) hC)
 ·rcases (hf b hb).2.2.2.1 with z | z
  ·exact I.ok.noex b o e z
  ·exact absurd (RN (Heap.lt_size e) (RV I.ok.bsz z)) (RO _)
 ·rcases S1.mp (I.stkSub b hs) with z | z
  ·exact (hf b hb).2.1 z
  ·exact (hf b hb).2.2.1 z
 ·change N[j]? = some x at h1
  unfold cS at h2
  by_cases hj : j < nt
  ·rw [Sm (by simpa using hj), Sl] at h2
   rw [if_pos hj] at h2; cases h2
  ·rw [Sk (by simpa using Nat.not_lt.mp hj), Sv, Sn] at h2
   cases ei : js[j - nt]? with
   | none => rw [ei] at h2; cases h2
   | some i =>
     rw [ei] at h2
     obtain ⟨y, e1, e2, e3⟩ := ok.outer _ i ei
     rw [show nt + (j - nt) = j by lia, h1] at e1
     cases e1
     have hv : σ[i]? = some (some v) := by
      simp only [Option.map_some, RL.injEq] at h2
      rw [Tq] at h2
      cases eσ : σ[i]? with
      | none => rw [eσ] at h2; cases h2
      | some z => rw [eσ] at h2; simp at h2; rw [h2]
     obtain ⟨m₀, _, hl⟩ := I.loc
     have kf := ok.free (x, .free) (PySem.mem_of_lookup e3) rfl
     obtain ⟨u, r, l⟩ := hl i x v e2 hv (kf.elim (fun z => .inr (.inl z)) fun z => .inr (.inr z))
     refine ⟨u, r, .inr ⟨Ci e3, ?_⟩⟩
     rcases l with ⟨kl, _⟩ | ⟨_, c, ec, ⟨oc, hoc, hod⟩⟩
     ·rcases kf with z | z <;> (rw [z] at kl; cases kl)
     ·obtain ⟨c', hc'⟩ := hcl2 (x, .free) (PySem.mem_of_lookup e3) rfl
      have e' := hcl x c' hc'
      rw [ec] at e'
      cases e'
      exact ⟨c, hc', oc, k _ _ hoc, hod⟩
 ·obtain ⟨v, oc, hoc, hod⟩ := I.cell x c (hcl x c e)
  exact ⟨v, oc, k _ _ hoc, hod⟩
 ·have e : p = (D, E9 []) := by
   have hp' : p ∈ [(D, E9 [])] := hp
   simpa using hp'
  subst e
  refine ⟨hd, I.hok.fresh hD, hDC, fun hb => absurd (RN (frlt D hb) hD) (RO _), fun v z => by cases z⟩
 ·show (cS nt js σ).length = N.length
  unfold cS
  rw [Ss, Sv, Su, ok.len]
end
end L2
namespace L2
open PySem PySem.Spec PyProof.Rows
def Jc (g : TG) (nt : Nat) : Prop := ∀ x σ H Q, g x σ H Q → g x σ H fun σ2 H2 => (σ2.length = σ.length ∧ σ2.drop nt = σ.drop nt) ∧ Q σ2 H2
theorem AL {i nt : Nat} (h : i < nt) : Jc (Cr i) nt := fun x σ H Q q => ⟨⟨SF, by
 apply Tr
 intro k
 rw [Ts, Ts, S5 (by lia)]⟩, q⟩
section
variable {X : Cx} {N : List Str} {nt : Nat} {js : List Nat} {scope : Scope} {elt iter tg : Expr} {ifs : List Expr} {pos : Pos} {g : TG} {tc : TT} {te : TE} {wi : TI}
theorem Kk {σ σ2 : St} (hl : σ2.length = (cS nt js σ).length) (hd : σ2.drop nt = (cS nt js σ).drop nt) : ∀ (i : Nat) v, (cS nt js σ)[i]? = some (some v) → σ2[i]? = some (some v) := fun i v e => by
 by_cases hi : i < nt
 ·unfold cS at e
  rw [Sm (by simpa using hi), Sl, if_pos hi] at e
  cases e
 ·have q : ((cS nt js σ).drop nt)[i - nt]? = some (some v) := by rw [Ts, show nt + (i - nt) = i by lia]; exact e
  rw [← hd, Ts, show nt + (i - nt) = i by lia] at q
  exact q
set_option maxHeartbeats 4000000 in
theorem J2 {pins : List (Addr × Obj)} {σ : St} {H : Hp} {s₂ : Shared} {cl : List (Str × Addr)} {J : It} {fp : List Addr} {it : Addr} {tn : Nat → Heap → Prop} {E : Value → Shared → Prop} {Fin : List V → Hp → Prop} {W : Nat → List V → Hp → Prop} {nn : Nat}
 {RR : Value → Addr → Result → Shared → Prop} (hcalm : X.calm = true) (ok : Be X N nt js scope)
 (hcl : ∀ x c, cl.lookup x = some c → X.env.cells.lookup x = some c) (hcl2 : ∀ x ∈ scope.names, x.2 = .free → ∃ c, cl.lookup x.1 = some c)
 (hg : ∀ cl C s H fp, PG (By X N scope cl C s H fp) tg g) (hk : Jc g nt) (hc : ∀ cl C s H fp, PTs (By X N scope cl C s H fp) ifs tc) (he : ∀ cl C s H fp, PE (By X N scope cl C s H fp) elt te)
 (I : Inv X pins σ H s₂) (T : Jb X.prog X.w X.K tg J fp it tn) (st : tn 0 s₂.heap) (hf : ∀ b ∈ fp, Dx X pins H b) (w0 : W 0 [] H) (lw : LcW J nn nt js σ g tc te Fin W)
 (hRR : ∀ D C s' H' zs m, Inv X pins σ (upd H' D (.lst zs)) s' → s'.heap.Ns C m → H' D = none → (upd H' D (.lst zs)) C = none → C ≠ X.env.locals → X.s₀.heap.objs.size ≤ C → (∀ x c, X.env.cells.lookup x = some c → c ≠ C) →
  (∀ p ∈ X.pn ++ pins, p.1 ≠ C) → Fin zs H' → RR (.ref D) C (.ok .next) s') :
 wpAny (model X.prog X.w) X.A (newList []) (fun acc s₃ => wpAny (model X.prog X.w) X.A (newFunctionEnv scope X.env.globals cl [] X.env.qual none .none (some X.env)) (fun cenv s₄ =>
  codeAny (model X.prog X.w) X.A (.compStart (.ListComp elt [⟨tg, iter, ifs, 0⟩] scope pos) 0 (.ref it) acc { cenv with scope := relabel scope X.env }) (RR acc cenv.locals) s₄) E s₃) E s₂ := by
 refine wpAny_newObj_type (wpAny_newFunctionEnv ok.nocell (by intro y hy; simp at hy) (fun h₁ hns₁ hsb₁ => ?_) ok.kind)
 dsimp only at hns₁ hsb₁ ⊢
 generalize hH2 : s₂.heap.push { cls := .type "list", dict := none, data := .seq ([] : List Value).toArray } = H2 at hns₁ hsb₁ ⊢
 have hC : H2.objs.size = s₂.heap.objs.size + 1 := by rw [← hH2, Heap.size_push]
 have hDC : s₂.heap.objs.size ≠ H2.objs.size := by rw [hC]; exact RP (Tt _)
 have hCle : s₂.heap.objs.size ≤ H2.objs.size := by rw [hC]; exact Tu _
 have below : ∀ b, b < s₂.heap.objs.size → b ≠ H2.objs.size ∧ b ≠ s₂.heap.objs.size := fun b hb => ⟨by rw [hC]; exact RP (Tv hb), RP hb⟩
 have old : ∀ b o, s₂.heap.get? b = some o → h₁.get? b = some o := fun b o e => hsb₁.extBut b o (below b (Heap.lt_size e)).1 (Heap.get?_push_of_some _ (hH2 ▸ Heap.get?_push_of_some _ e))
 have hacc : h₁.get? s₂.heap.objs.size = some (E9 []) := hsb₁.extBut _ _ hDC (Heap.get?_push_of_some _ (hH2 ▸ Heap.get?_push_size _ rfl))
 have ho := T.obj 0 _ st
 have lt : ∀ b ∈ fp, b < s₂.heap.objs.size := fun b hb => by obtain ⟨o, e, _⟩ := ho b hb; exact Heap.lt_size e
 have loop : ∀ s₃ : Shared, s₃ = { s₂ with heap := h₁, toks := s₂.toks + ([] : List (Str × Value)).length } →
  codeAny (model X.prog X.w) X.A (.compLoop (.ListComp elt [⟨tg, iter, ifs, 0⟩] scope pos) 0 (.ref it) (.ref s₂.heap.objs.size) (compEnvC scope cl H2.objs.size X.env)) (RR (.ref s₂.heap.objs.size) H2.objs.size) s₃ := by
  rintro s₃ rfl
  have I0 : Inv (By X N scope cl H2.objs.size s₂ H fp) [(s₂.heap.objs.size, E9 [])] (cS nt js σ) H { s₂ with heap := h₁, toks := s₂.toks + ([] : List (Str × Value)).length } :=
   M4 I ok hcl hcl2 hf ho (S9 _) hCle hDC old hns₁ hacc
  have fpy : ∀ {H' : Hp} {ys : List Value}, (∀ b ∈ fp, H' b = none) → ∀ b ∈ fp, Dx (By X N scope cl H2.objs.size s₂ H fp) [(s₂.heap.objs.size, E9 ys)] H' b := fun {H' ys} hn b hb =>
   ⟨hn b hb, (below b (lt b hb)).1, I0.ok.exfs b hb, .inl hb, (I0.ok.exf b hb).2, fun p hp => by
    have hp' : p ∈ [(s₂.heap.objs.size, E9 ys)] := hp
    have e : p = (s₂.heap.objs.size, E9 ys) := by simpa using hp'
    rw [e]; exact Ne.symm (below b (lt b hb)).2⟩
  refine HN (fun n s' => ∃ i zs ys H', n = nn - i ∧ i ≤ nn ∧ Inv (By X N scope cl H2.objs.size s₂ H fp) [(s₂.heap.objs.size, E9 ys)] (cS nt js σ) H' s' ∧ AA zs ys ∧ tn i s'.heap ∧ (∀ b ∈ fp, H' b = none) ∧ W i zs H') ?_ nn
   ⟨0, [], [], H, rfl, Sb _, I0, .nil, T.keep 0 _ _ st (fun b _ o e => old b o e), fun b hb => (hf b hb).1, w0⟩
  rintro n s' ⟨i, zs, ys, H', hn0, hile, I', rv, st', fr', w'⟩
  by_cases hlt : i < nn
  case neg =>
   have hie : i = nn := Nat.le_antisymm hile (Nat.not_lt.mp hlt)
   rw [hie] at w' st'
   obtain ⟨stop, zl, fin⟩ := lw.stop zs H' w'
   refine thn (T.done (By X N scope cl H2.objs.size s₂ H fp) rfl rfl rfl hcalm nn _ s' _ H' (fun _ _ => False) I' (fpy fr') st' stop) fun r s4 ⟨hr, I4⟩ => ?_
   subst hr
   have zD := (I4.pin (s₂.heap.objs.size, E9 ys) (Sa _ (Tw.mpr rfl)))
   have u := I4.base
   have u2 : Un (frs X.stack) fp H (upd H' s₂.heap.objs.size (.lst zs)) s₂.heap s4.heap :=
    ⟨u.keep, u.slot, fun b o q n hx => by rw [Am (RP (Heap.lt_size q))]; exact u.free b o q n hx, u.there, fun b xs q => by rw [Am (Au (u.tups b xs q) zD.2.1)]; exact u.tups b xs q,
     fun b o xs q => by rw [Am (Au (u.frzs b o xs q) zD.2.1)]; exact u.frzs b o xs q, fun b ps q => by
      obtain ⟨more, e⟩ := u.tbls b ps q
      exact ⟨more, by rw [Am (Au e zD.2.1)]; exact e⟩⟩
   have hok2 : HOk X.prog X.w (upd H' s₂.heap.objs.size (.lst zs)) s4.heap := HOk.track I4.hok zD.2.1 ⟨zl, ys, _, rv, zD.1⟩
   have I5 : Inv X pins σ (upd H' s₂.heap.objs.size (.lst zs)) s4 := I.call' I4.os u2 hok2 I4.bare fun b hb => ⟨(hf b hb).2.2.2.1, (hf b hb).2.1, (hf b hb).2.2.2.2.1, (hf b hb).2.2.2.2.2⟩
   obtain ⟨m, hn, _⟩ := I4.loc
   refine hRR _ _ s4 H' zs m I5 hn zD.2.1 ?_ ?_ (RV I.sz hCle) ?_ ?_ fin
   ·rw [Am (Ne.symm hDC)]; exact I4.free
   ·exact S7 (RN I.lt hCle)
   ·intro x c e z
    obtain ⟨v, q⟩ := I.cell x c e
    exact absurd (RN q.lt (by rw [z]; exact hCle)) (RO _)
   ·intro p hp z
    exact absurd (RN (Heap.lt_size (I.pin p hp).1) (by rw [z]; exact hCle)) (RO _)
  case pos =>
   obtain ⟨go, zl⟩ := lw.go i zs H' hlt w'
   have step := lw.step i zs H'
   refine thn (T.item (By X N scope cl H2.objs.size s₂ H fp) rfl rfl rfl hcalm i _ s' _ H' (fun _ _ => False) I' (fpy fr') st' go) fun r s4 ⟨u, hr, h4⟩ => ?_
   subst hr
   refine thn h4 fun _ s5 ⟨x, H5, I5, r5, y5, st5, fr5⟩ => ?_
   have I5' := I5.pinned (fpy fr5) (T.obj _ _ st5)
   refine thn (hg cl _ s₂ H fp _ s5 _ H5 x u _ I5' r5 (hk _ _ _ _ (step x H5 hlt w' y5))) fun _ s6 ⟨σ6, H6, I6, ⟨hl6, hd6⟩, q6⟩ => ?_
   refine thn (hc cl _ s₂ H fp _ s6 σ6 H6 _ I6 q6) fun okb s7 ⟨H7, I7, q7⟩ => ?_
   have frs' : ∀ {H8 : Hp} {σ8 : St} {s8 : Shared}, Inv (By X N scope cl H2.objs.size s₂ H fp) ([(s₂.heap.objs.size, E9 ys)] ++ FC fp s5.heap) σ8 H8 s8 → tn (i + 1) s8.heap ∧ ∀ b ∈ fp, H8 b = none := fun {H8 σ8 s8} I8 =>
    ⟨T.keep _ _ _ st5 fun b hb o e => (I8.pin (b, o) (Sa _ (Sa _ (CY hb e)))).1, fun b hb => by
     obtain ⟨o, e, d⟩ := T.obj _ _ st5 b hb
     exact (I8.pin (b, o) (Sa _ (Sa _ (CY hb e)))).2.1⟩
   cases okb with
   | false =>
     rw [if_neg Bool.false_ne_true] at q7 ⊢
     obtain ⟨a1, a2⟩ := frs' I7
     exact ⟨nn - (i + 1), by rw [hn0]; exact Nat.sub_lt_sub_left hlt (Tt i), i + 1, zs, ys, H7, rfl, hlt, I7.unpinned.weak (by rw [hl6]) (Kk hl6 hd6), rv, a1, a2, q7⟩
   | true =>
     rw [if_pos rfl] at q7 ⊢
     refine thn (he cl _ s₂ H fp _ s7 σ6 H7 _ I7 q7) fun v s8 ⟨y, H8, I8, r8, q8⟩ => ?_
     have zD := (I8.pin (s₂.heap.objs.size, E9 ys) (Sa _ (S3 _ (Tw.mpr rfl))))
     have ylen : ys.length < sizeLine := by rw [← rv.length]; exact zl
     obtain ⟨a1, a2⟩ := frs' I8
     refine append_at (hsz := by rw [SE]; exact RW ylen) zD.1 fun h9 hs9 hD9 => ?_
     have I8u : Inv (By X N scope cl H2.objs.size s₂ H fp) [] (cS nt js σ) H8 s8 := (I8.pins_of (pins' := []) fun p hp => nomatch hp).weak (by rw [hl6]) (Kk hl6 hd6)
     have I9 : Inv (By X N scope cl H2.objs.size s₂ H fp) [] (cS nt js σ) H8 { s8 with heap := h9 } := I8u.turned (t' := s8.toks) (it := s₂.heap.objs.size) (fun b o hb e => hs9.extBut b o hb e) zD.2.1 hDC (.inr (S9 _))
      (fun x c e z => by
       obtain ⟨v, q⟩ := I.cell x c (hcl x c e)
       exact absurd (RN q.lt (by rw [z]; exact S9 _)) (RO _)) (fun p hp => nomatch hp)
     refine ⟨nn - (i + 1), by rw [hn0]; exact Nat.sub_lt_sub_left hlt (Tt i), i + 1, zs ++ [y], ys ++ [v], H8, rfl, hlt, I9.pins_of (fun p hp => ?_), rv.snoc r8, T.keep _ _ _ a1 fun b hb o e => hs9.extBut b o (below b (lt b hb)).2 e, a2, q8⟩
     have e : p = (s₂.heap.objs.size, E9 (ys ++ [v])) := by simpa using hp
     subst e
     refine ⟨?_, zD.2.1, hDC, zD.2.2.2.1, fun v z => by cases z⟩
     rw [hD9]
     show some ({ cls := .type "list", data := .seq (ys.toArray.push v) (ys.length + 1) } : Obj) = some { cls := .type "list", data := .seq (ys ++ [v]).toArray (ys ++ [v]).length }
     rw [Ss, SK, List.push_toArray]
 exact codeAny_compStart_list (loop _ rfl) (T.self _ 0 _ _ _ (T.keep 0 _ _ st (fun b _ o e => old b o e)) (loop _ rfl))
theorem CG (hcalm : X.calm = true) (ok : Be X N nt js scope) (hi : PI X tg iter wi) (hg : ∀ cl C s H fp, PG (By X N scope cl C s H fp) tg g) (hk : Jc g nt) (hc : ∀ cl C s H fp, PTs (By X N scope cl C s H fp) ifs tc)
 (he : ∀ cl C s H fp, PE (By X N scope cl C s H fp) elt te) (hs : ∀ x, foldedSetIterable iter X.env x = pure x := by intro _; rfl) : PE X (.ListComp elt [⟨tg, iter, ifs, 0⟩] scope pos) (tLC wi nt js g tc te) := by
 intro pins s σ H Q I h
 obtain ⟨cl, hclos, hcl, hcl2⟩ := DK (scope := scope) (env := X.env) fun x hx hf => I.ok.has x.1 (ok.free x hx hf)
 rw [eval_ListComp]
 refine wpAny_comprehension_free (use := none) rfl hs hclos ok.kind ok.names ?_
 refine thn (hi pins s σ H _ I (NN h)) fun v s1 h1 => thn h1 fun itv s2 h2 => ?_
 obtain ⟨it, fp, tn, J, H2, e, I2, T, st2, f2, nn, W, w0, lw⟩ := h2
 subst e
 refine J2 (RR := fun acc C => compPost (model X.prog X.w) X.A X.xe none (EP X pins σ Q) acc C) hcalm ok hcl hcl2 hg hk hc he I2 T st2 f2 w0 lw ?_
 intro D C s' H' zs m I3 hn hDn hCn hCL hC0 hCc hCp fin
 exact ⟨m, hn, fun h'' hs'' => ⟨.ref D, _, I3.turned (t' := s'.toks) (it := C) (fun b o hb e => hs''.extBut b o hb e) hCn hCL (.inr hC0) hCc hCp, rfl, fin D hDn⟩⟩
theorem JZ {i : Nat} {y : Str} {py spos : Pos} (hcalm : X.calm = true) (hN : X.N.Nodup) (hi' : X.N[i]? = some y) (hy : X.env.kindOf y = some .local) (ok : Be X N nt js scope) (hi : PI X tg iter wi) (hg : ∀ cl C s H fp, PG (By X N scope cl C s H fp) tg g) (hk : Jc g nt)
 (hc : ∀ cl C s H fp, PTs (By X N scope cl C s H fp) ifs tc) (he : ∀ cl C s H fp, PE (By X N scope cl C s H fp) elt te)
 (hsw : swapsWith (.ListComp elt [⟨tg, iter, ifs, 0⟩] scope pos) (some (.Name y py)) spos.line X.env = pure true) (hs : ∀ x, foldedSetIterable iter X.env x = pure x := by intro _; rfl) :
 PS X (.Assign [.Name y py] (.ListComp elt [⟨tg, iter, ifs, 0⟩] scope pos) spos) (O1 (tLC wi nt js g tc te) (Cr i)) := by
 intro pins s σ H D₀ I h
 obtain ⟨cl, hclos, hcl, hcl2⟩ := DK (scope := scope) (env := X.env) fun x hx hf => I.ok.has x.1 (ok.free x hx hf)
 rw [exec_Assign_Name_used _ _ _ _ hsw]
 refine wpAny_bind (wpAny_standAt (wpAny_bind ?_))
 show wpAny _ X.A (do let _ ← comprehension (.ListComp elt [⟨tg, iter, ifs, 0⟩] scope pos) scope X.env _ (newList []) false (eval iter X.env) (some (assign (.Name y py) X.env))) _ _ s
 refine wpAny_bind (wpAny_mono (wpAny_comprehension_free (use := some (assign (.Name y py) X.env)) (Q := fun _ s' => SP X pins D₀ .next s') rfl hs hclos ok.kind ok.names
  (thn (hi pins s σ H _ I (NN (show tLC wi nt js g tc te σ H fun x H1 => Cr i x σ H1 D₀.nx from h))) fun v s1 h1 => thn h1 fun itv s2 h2 => ?_)) (fun _ s' hq => wpAny_pure (wpAny_pure hq)) fun _ _ e => e)
 obtain ⟨it, fp, tn, J, H2, e, I2, T, st2, f2, nn, W, w0, lw⟩ := h2
 subst e
 refine J2 (RR := fun acc C => compPost (model X.prog X.w) X.A X.xe (some (assign (.Name y py) X.env)) (fun _ s' => SP X pins D₀ .next s') acc C) hcalm ok hcl hcl2 hg hk hc he I2 T st2 f2 w0 lw ?_
 intro D C s' H' zs m I3 hn hDn hCn hCL hC0 hCc hCp fin
 show wpAny _ X.A (assign (.Name y py) X.env (.ref D)) _ _ _
 refine wpAny_assign_Name (Gr (v := .ref D) I3 hN hi' (.inl hy) rfl (fun s3 I4 hsb => ?_) (.inr hy))
 obtain ⟨a, hsb, ha⟩ := hsb
 have haC : C ≠ a := by
  rcases ha with z | z
  ·rw [z]; exact hCL
  ·exact Ne.symm (hCc y a z)
 refine ⟨m, hn.sameBut hsb haC, fun h'' hs'' => ?_⟩
 exact ⟨_, _, I4.turned (t' := s3.toks) (it := C) (fun b o hb e => hs''.extBut b o hb e) hCn hCL (.inr hC0) hCc hCp, fin D hDn⟩
end
end L2
namespace L2
open PySem PySem.Spec PyProof.Rows
def Bd (n : Nat) (x : Int) : Prop := x.natAbs < 2 ^ n
theorem Bd.bits {n : Nat} {x : Int} (h : Bd n x) : Builtin.Int.intBits x ≤ n := PySem.intBits_le_iff.mpr h
def ME (i j : Int) : Prop := ∃ m n, Bd m i ∧ Bd n j ∧ m + n ≤ 134217728
theorem ME.ok {i j : Int} (h : ME i j) : IntMulOk i j := by
 obtain ⟨m, n, h1, h2, h3⟩ := h
 exact PySem.IntMulOk.of_le h1.bits h2.bits h3
section
variable {X : Cx}
theorem Bi {k : Nat} (hr : BZ k X.A) (hT : X.prog.given.tree = none) (hk : 32 ≤ k := by decide)
 (hst : ∃ (env : Env) (l : List Env), X.stack = env :: l ∧ env.scope.isGenerator = false ∧ env.scope.isCoroutine = false ∧ env.builtins = builtinsNs ∧ env.globals = mainGlobals := by exact ⟨_, _, rfl, rfl, rfl, rfl, rfl⟩) :
 OpR X (binaryOp .FloorDiv) (rI (fun _ j => j ≠ 0) fun i j => .int (i.fdiv j)) := by
 intro pins s σ H x y v u Q I rx ry h
 obtain ⟨i, j, rfl, rfl, hc, q⟩ := h
 obtain ⟨t, rfl⟩ := rx
 obtain ⟨t', rfl⟩ := ry
 obtain ⟨env, l, e1, e2, e3, e4, e5⟩ := hst
 have hd : X.A.depth + Builtin.pylongFrames < recursionLimit := by
  have := hr.dp
  have e : Builtin.pylongFrames ≤ 101 := by decide
  lia
 refine floordiv_int hc ⟨.int (i.fdiv j), H, I.tok _, ⟨_, rfl⟩, q⟩ (.inr (PySem.PylongRoom.of I.nolimit hd (PySem.SeerAt.of (I.ok.mod.seer.keeps I.bk) hT (by rw [I.ok.frames, e1]) e2 e3 e4 e5)))
end
structure Fd (P : Program) (w : World) (K : RU) (mg : Str → Option Value) (base : Heap) (n : Nat) (x : Str) (ps : List Str) (sp : Sp) : Prop where
 ex : ∃ (f : Addr) (fd : FuncData), AH P w K mg base CX0 n f fd ps sp ∧ C5 K fd ps [] ∧ Se K (.ref f) = true ∧ mg x = some (.ref f)
theorem Ao {X : Cx} {n k : Nat} {x : Str} {ps : List Str} {sp : Sp} {e : Expr} {es : List Expr} {t : TA} {p pos : Pos} (F : Fd X.prog X.w X.K X.mg X.base n x ps sp) (hr : BZ k X.A) (hg : Gl X x) (ha : PA X (e :: es) t) (hn : n ≤ k := by decide)
 (hdb : (x == ("__debug__" : Str)) = false := by decide) (he : starEach (e :: es) X.env = (false, eval e X.env) :: starEach es X.env := by rfl) (hpl : (backTo pos (starEach es X.env)).any (·.1) = false := by rfl) :
 PE X (.Call (.Name x p) (e :: es) [] pos) (NI sp [] E0 t) := by
 obtain ⟨f, fd, F1, F2, F3, F4⟩ := F.ex
 exact N8 F1 (hr.mono hn) hg F4 F3 F2 .nil Pj ha hdb he hpl
inductive Rds (K : RU) (H : Hp) : V → PyData → Prop where
 | non : Rds K H .non .none
 | bl (b : Bool) : Rds K H (.bl b) (.bool b)
 | int (i : Int) : Rds K H (.int i) (.int i)
 | str (x : Str) : Rds K H (.str x) (.str x)
 | lst {a : Addr} {xs : List V} {ds : List PyData} : SqL K H a xs → xs.length = ds.length → (∀ (i : Nat) x d, xs[i]? = some x → ds[i]? = some d → Rds K H x d) → Rds K H (.ref a) (.list ds)
 | tup {a : Addr} {xs : List V} {ds : List PyData} : SqT K H a xs → xs.length = ds.length → (∀ (i : Nat) x d, xs[i]? = some x → ds[i]? = some d → Rds K H x d) → Rds K H (.ref a) (.tuple ds)
theorem Dh {h : Heap} : ∀ {us : List Value} {xs : List V} {ds : List PyData}, AA xs us → xs.length = ds.length → (∀ (i : Nat) x d u, xs[i]? = some x → ds[i]? = some d → AI x u → ∃ as, Reads h u d as) → ∃ as, ReadsAll h us ds as
 | [], _, [], .nil, _, _ => ⟨[], .nil⟩
 | [], _, _ :: _, .nil, hl, _ => by simp at hl
 | _ :: _, _, [], .cons _ _, hl, _ => by simp at hl
 | u :: us, x :: xs, d :: ds, .cons r t, hl, hr => by
   obtain ⟨a1, r1⟩ := hr 0 x d u rfl rfl r
   obtain ⟨a2, r2⟩ := Dh (us := us) (xs := xs) (ds := ds) t (by simpa using hl) fun i x' d' u' e1 e2 q => hr (i + 1) x' d' u' (by simpa using e1) (by simpa using e2) q
   exact ⟨_, .cons r1 r2⟩
theorem Cc {X : Cx} {pins : List (Addr × Obj)} {σ : St} {H : Hp} {s : Shared} (I : Inv X pins σ H s) {x : V} {d : PyData} (r : Rds X.K H x d) : ∀ {u : Value}, AI x u → ∃ as, Reads s.heap u d as := by
 induction r with
 | non => intro u ru; cases ru; exact ⟨_, .none⟩
 | bl b => intro u ru; cases ru; exact ⟨_, .bool b⟩
 | int i => intro u ru; obtain ⟨t, rfl⟩ := ru; exact ⟨_, .int i t⟩
 | str z => intro u ru; obtain ⟨t, rfl⟩ := ru; exact ⟨_, .str z t⟩
 | lst q hl _ ih =>
   intro u ru
   cases ru
   obtain ⟨its, rv, ⟨o, n, e, c, _, dd⟩, _⟩ := I.list q
   obtain ⟨as, ra⟩ := Dh rv hl fun i x d u e1 e2 rr => ih i x d e1 e2 rr
   exact ⟨_, .list e c dd (by simpa using ra)⟩
 | tup q hl _ ih =>
   intro u ru
   cases ru
   obtain ⟨its, rv, ⟨o, e, c, n, dd⟩, _⟩ := I.tuple q
   obtain ⟨as, ra⟩ := Dh rv hl fun i x d u e1 e2 rr => ih i x d e1 e2 rr
   exact ⟨_, .tuple e c dd (by simpa using ra)⟩
section
variable {X : Cx}
@[irreducible] def EN (K : RU) (neg : Bool) : R2 := fun x y H Q => ∃ d e, Rds K H x d ∧ Rds K H y e ∧ SeqAt.shaped d = true ∧ SeqAt.shaped e = true ∧ Q (.bl (if neg then !PyData.eqv d e else PyData.eqv d e)) H
theorem HK {K : RU} {neg : Bool} {x y : V} {H : Hp} {Q : VK} (h : ∃ d e, Rds K H x d ∧ Rds K H y e ∧ SeqAt.shaped d = true ∧ SeqAt.shaped e = true ∧ Q (.bl (if neg then !PyData.eqv d e else PyData.eqv d e)) H) : EN K neg x y H Q := by
 unfold EN; exact h
theorem Om (hu : X.A.units + 64 < cLine) : OpR X (compareOp .Eq) (EN X.K false) := by
 intro pins s σ H x y v u Q I rx ry h
 unfold EN at h
 obtain ⟨d, e, r1, r2, h1, h2, q⟩ := h
 obtain ⟨as, q1⟩ := Cc I r1 rx
 obtain ⟨bs, q2⟩ := Cc I r2 ry
 exact SeqAt.compareEq_shaped q1 q2 h1 h2 hu ⟨.bl _, H, I, rfl, q⟩
theorem Ol (hu : X.A.units + 64 < cLine) : OpR X (compareOp .NotEq) (EN X.K true) := by
 intro pins s σ H x y v u Q I rx ry h
 unfold EN at h
 obtain ⟨d, e, r1, r2, h1, h2, q⟩ := h
 obtain ⟨as, q1⟩ := Cc I r1 rx
 obtain ⟨bs, q2⟩ := Cc I r2 ry
 exact SeqAt.compareNe_shaped q1 q2 h1 h2 hu ⟨.bl _, H, I, rfl, q⟩
end
end L2
namespace L2
open PySem PySem.Spec PyProof.Rows
theorem AD : bootBuiltins "len" = some (.builtin "len") := by decide +kernel
theorem HU : bootBuiltins "abs" = some (.builtin "abs") := by decide +kernel
theorem OS : bootBuiltins "min" = some (.builtin "min") := by decide +kernel
theorem Nw : bootBuiltins "list" = some (.type "list") := by decide +kernel
theorem Eh : bootBuiltins "tuple" = some (.type "tuple") := by decide +kernel
theorem J6 : bootBuiltins "reversed" = some (.type "reversed") := by decide +kernel
def Fx (H : Hp) (L : List (Addr × HO)) : Prop := ∀ p ∈ L, H p.1 = some p.2
def Mv (a : Addr) (H H' : Hp) : Prop := ∀ b o, b ≠ a → H b = some o → H' b = some o
theorem Mv.refl (a : Addr) (H : Hp) : Mv a H H := fun _ _ _ h => h
theorem Mv.trans {a : Addr} {H H1 H2 : Hp} (x : Mv a H H1) (y : Mv a H1 H2) : Mv a H H2 := fun b o n h => y b o n (x b o n h)
theorem Mv.new {a p : Addr} {H : Hp} {o : HO} (h : H p = none) : Mv a H (upd H p o) := fun b u _ q => by rw [Am (Au q h)]; exact q
theorem Km {ns : List Int} {k : Int} (h0 : 0 ≤ k) (h : k < (ns.length : Int)) : ∃ v : Int, atI (ns.map V.int) k = some (.int v) := by
 have hk : k.toNat < ns.length := by lia
 have ek : k = ((k.toNat : Nat) : Int) := by lia
 have q : atI (ns.map V.int) ((k.toNat : Nat) : Int) = some (.int ns[k.toNat]) := AW (by rw [Sn, Tx hk] <;> rfl)
 rw [← ek] at q
 exact ⟨_, q⟩
def nT (q : Rat) : HO := .tup [.int q.num, .int q.den]
def Pen (H : Hp) (a : Addr) : Prop := ∃ c0 c1 c2 : Int, H a = some (.lst [.int c0, .int c1, .int c2])
theorem Pen.same {H : Hp} {a p : Addr} {o : HO} (x : Pen H a) (h : H p = none) : Pen (upd H p o) a := by
 obtain ⟨c0, c1, c2, e⟩ := x
 exact ⟨c0, c1, c2, by rw [Am (Au e h)]; exact e⟩
theorem Pen.put {H : Hp} {a : Addr} {c0 c1 c2 : Int} : Pen (upd H a (.lst [.int c0, .int c1, .int c2])) a := ⟨c0, c1, c2, Aa⟩
def Bv (i j : Int) : Prop := (-(2 ^ 64) < i ∧ i < 2 ^ 64) ∨ (-(2 ^ 64) < j ∧ j < 2 ^ 64) ∨ ME i j
theorem Bv.ok {i j : Int} (h : Bv i j) : IntMulOk i j := by
 rcases h with ⟨h1, h2⟩ | ⟨h1, h2⟩ | h
 ·exact .of_left (intBits_le_64 h1 h2)
 ·exact .of_right (intBits_le_64 h1 h2)
 ·exact h.ok
theorem Aw {X : Cx} : OpR X (binaryOp .Mult) (rI Bv fun i j => .int (i * j)) := opI fun _ _ _ _ _ _ _ hc q => mul_int q hc.ok
def BU (a : Addr) (H H' : Hp) : Prop := ∀ b, b ≠ a → H' b = H b
theorem BU.mv {a : Addr} {H H' : Hp} (x : BU a H H') : Mv a H H' := fun b o n h => by rw [x b n]; exact h
theorem BU.put {a : Addr} {H : Hp} {o : HO} : BU a H (upd H a o) := fun b n => Am n
theorem Pen.ne {H : Hp} {a p : Addr} {o : HO} (x : Pen H a) (h : H p = some o) (hd : ∀ c0 c1 c2 : Int, o ≠ .lst [.int c0, .int c1, .int c2]) : p ≠ a := by
 obtain ⟨c0, c1, c2, e⟩ := x
 exact EJ h e (hd c0 c1 c2)
structure Lg (a : Addr) (H : Hp) (L : List (Addr × HO)) : Prop where
 fx : Fx H L
 ne : ∀ x ∈ L, x.1 ≠ a
 pen : Pen H a
theorem Pm (q : Rat) : ∀ c0 c1 c2 : Int, nT q ≠ .lst [.int c0, .int c1, .int c2] := fun _ _ _ z => by cases z
theorem Nx {xs : List Int} {i : Int} (h0 : 0 ≤ i) (h : i < (xs.length : Int)) : ∃ v : Int, atI (xs.map V.int) i = some (.int v) ∧ v ∈ xs := by
 have hk : i.toNat < xs.length := by lia
 have ek : i = ((i.toNat : Nat) : Int) := by lia
 have q : atI (xs.map V.int) ((i.toNat : Nat) : Int) = some (.int xs[i.toNat]) := AW (by rw [Sn, Tx hk] <;> rfl)
 rw [← ek] at q
 exact ⟨_, q, Tz hk⟩
theorem Lo {K : RU} {H : Hp} {a p : Addr} {xs : List V} {o : HO} (hS : SqL K H a xs) (hp : H p = none) : SqL K (upd H p o) a xs := by
 have st : ∀ u, H a = some u → upd H p o a = some u := fun u e => by rw [Am (Au e hp)]; exact e
 rcases hS with (h | ⟨o, h⟩) | h
 ·exact .inl (.inl (st _ h))
 ·exact .inl (.inr ⟨o, st _ h⟩)
 ·exact .inr h
inductive En (vs : List V) (H : Hp) (Q : VK) (E_3 : XK) : Prop
 | mk (a : Addr) (m : Int) (h1 : vs = [.ref a, .int m]) (h2 : Pen H a) (h3 : 1 ≤ m) (h4 : m < 1073741824) (h5 : ∀ (d : Int) (H' : Hp), 0 ≤ d → d < m → BU a H H' → Pen H' a → Q (.int d) H') : En vs H Q E_3
inductive Lq (K : RU) (vs : List V) (H : Hp) (Q : VK) (E_3 : XK) : Prop
 | mk (a : Addr) (ns : List Int) (k : Int) (h1 : vs = [.ref a, .int k]) (h2 : SqL K H a (ns.map V.int)) (h3 : ns.length ≤ 63) (h4 : 0 ≤ k) (h5 : k < 2 ^ 62) (h6 : ∀ (p : Addr) (c0 c1 : Int), H p = none → Q (.ref p) (upd H p (.lst [.int c0, .int c1, .int 0]))) : Lq K vs H Q E_3
inductive D9 (vs : List V) (H : Hp) (Q : VK) (E_3 : XK) : Prop
 | mk (t b : Int) (h1 : vs = [.int t, .int b]) (h2 : b ≠ 0) (h3 : ∀ p, H p = none → Q (.ref p) (upd H p (nT (SW t b)))) : D9 vs H Q E_3
inductive Im (vs : List V) (H : Hp) (Q : VK) (E_3 : XK) : Prop
 | mk (a b : Int) (h1 : vs = [.int a, .int b]) (h2 : Q (.int (SS a b)) H) : Im vs H Q E_3
inductive Il (n : Nat) (vs : List V) (H : Hp) (Q : VK) (E_3 : XK) : Prop
 | mk (a : _) (h1 : vs = [.ref a]) (h2 : Pen H a) (h3 : ∀ (q : Rat) (r : Addr) (H' : Hp), Mv a H H' → Pen H' a → H' r = some (nT q) → Bd n q.num → Bd n q.den → Q (.ref r) H') : Il n vs H Q E_3
def mu (i : Nat) (σ : St) : Nat := match σ[i]? with | some (some (.int y)) => y.toNat | _ => 0
theorem Bd.mono {m n : Nat} {x : Int} (h : Bd m x) (hmn : m ≤ n) : Bd n x := RN h (TC (by decide) hmn)
theorem Bd.num {n : Nat} {t b : Int} (h : Bd n t) : Bd n (SW t b).num := by
 unfold Bd at *
 by_cases hb : b = 0
 ·subst hb; simp; exact SU (by simp)
 ·rw [← Nm.top_msr hb]
  exact SQ (PySem.natAbs_fdiv_le t _) h
theorem Bd.den {n : Nat} {t b : Int} (hb : b ≠ 0) (h : Bd n b) : Bd n (SW t b).den := by
 unfold Bd at *
 rw [← Nm.bottom_msr hb]
 exact SQ (PySem.natAbs_fdiv_le b _) h
end L2
namespace L2
open PySem PySem.Spec PyProof.Rows
def GO (K : RU) (a : Addr) (xs : List V) : It :=
 ⟨fun i H => SqL K H a xs ∧ i < xs.length, fun i H x H' => H' = H ∧ xs[xs.length - 1 - i]? = some x, fun i _ => xs.length = i⟩
theorem Lj {P : Program} {w : World} {K : RU} {tg : Expr} (a it : Addr) (xs : List V) : Jb P w K tg (GO K a xs) [it] it (fun i h => i ≤ xs.length ∧ h.IsRevIter it a ((xs.length : Int) - 1 - (i : Int))) where
 mem := by simp
 obj := fun i h st b hb => by
  have e : b = it := by simpa using hb
  subst e
  obtain ⟨_, o, e, c, d⟩ := st
  exact ⟨o, e, fun v z => by rw [d] at z; cases z⟩
 keep := fun i h h' st k => ⟨st.1, st.2.at fun o e => k it (by simp) o e⟩
 item := by
  intro X hP hw hK hc i pins s σ H E I hf st hg
  subst hP hw hK
  obtain ⟨hq, hi⟩ := hg
  obtain ⟨its, rv, p, hz⟩ := I.list hq
  have hl := rv.length
  have hx : xs[xs.length - 1 - i]? = some (xs[xs.length - 1 - i]'(by lia)) := Tx (by lia)
  obtain ⟨u, hu, ru⟩ := rv.get hx
  obtain ⟨f0, f1, f2, f3, f4, f5⟩ := hf it (by simp)
  have e : (xs.length : Int) - 1 - (i : Int) = ((xs.length - 1 - i : Nat) : Int) := by lia
  have st2 := st.2
  rw [e] at st2
  refine wpAny_pyNext_rev_item st2 p.isList (x := u) (by simpa using hu) fun h' st' sb => ?_
  have I1 : Inv X pins σ H { s with heap := h' } := I.turned (t' := s.toks) (fun b o hb e => (sb.2 b hb).trans e) f0 f1 f3 f4 f5
  obtain ⟨o, e', c, d⟩ := id st'
  have e2 : ((xs.length - 1 - i : Nat) : Int) - 1 = (xs.length : Int) - 1 - ((i + 1 : Nat) : Int) := by lia
  rw [e2] at st'
  exact ⟨u, rfl, IX (s := { s with heap := h' }) e' c d (by decide) ⟨_, H, I1, ru, ⟨rfl, hx⟩, ⟨hi, st'⟩, fun b hb => (hf b hb).1⟩⟩
 done := by
  intro X hP hw hK hc i pins s σ H E I hf st hg
  subst hP hw hK
  obtain ⟨f0, f1, f2, f3, f4, f5⟩ := hf it (by simp)
  have hg' : xs.length = i := hg
  have st2 := st.2
  rw [show (xs.length : Int) - 1 - (i : Int) = -1 by lia] at st2
  exact wpAny_pyNext_rev_end (I.ok.hd hc) st2 fun h' eb => ⟨rfl, I.turned (t' := s.toks) (fun b o hb e => eb b o hb e) f0 f1 f3 f4 f5⟩
 self := fun _ _ _ _ _ st h => wpAny_pyIter_revIter st.2 h
section
variable {X : Cx} {tg : Expr}
def Pq (K : RU) (tl : TE) : TI := fun σ H R => tl σ H fun x H1 => ∃ v, [x] = [v] ∧ ∃ a xs, v = .ref a ∧ SqL K H1 a xs ∧ R (GO K a xs) H1
theorem Oe {l : Expr} {tl : TE} {p pos : Pos} (hg : Gl X "reversed") (hm : X.mg "reversed" = none) (hl : PE X l tl) (hs : starEach [l] X.env = [(false, eval l X.env)] := by rfl) : PI X tg (.Call (.Name "reversed" p) [l] [] pos) (Pq X.K tl) := by
 intro pins s σ H R I h
 have ha : PA X [l] (NH tl P4) := A0 hl Ac (by rw [hs]; rfl)
 refine Call_ (CZ I hg hm J6 (PyProof.Rows.callWith_type1 (thn (ha pos pins s σ H (fun vs H1 => ∃ x, vs = [x] ∧ ∃ a xs, x = .ref a ∧ SqL X.K H1 a xs ∧ R (GO X.K a xs) H1) I h) fun us s1 ⟨vs, H1, I1, r1, q1⟩ => ?_) hs rfl))
 obtain ⟨x, e0, a, xs, e, hq, q⟩ := q1
 subst e0
 subst e
 cases r1 with
 | cons r rr =>
   cases rr
   cases r
   obtain ⟨its, rv, p, hz⟩ := I1.list hq
   refine call_reversed_list p.isList ?_
   have I2 : Inv X pins σ H1 { s1 with heap := s1.heap.push (revObj a ((its.toArray.size : Int) - 1)) } := I1.kept (t' := s1.toks) fun b o e => Heap.get?_push_of_some _ e
   have st : ({ s1 with heap := s1.heap.push (revObj a ((its.toArray.size : Int) - 1)) } : Shared).heap.IsRevIter s1.heap.objs.size a ((xs.length : Int) - 1 - ((0 : Nat) : Int)) := by
    refine ⟨_, Heap.get?_push_size _ rfl, rfl, ?_⟩
    have e : ((its.toArray.size : Nat) : Int) - 1 = (xs.length : Int) - 1 - ((0 : Nat) : Int) := by rw [SE, ← rv.length]; simp
    show Data.fields #[.ref a, rawInt _] = _
    rw [e]
   refine wpAny_pyIter_revIter st ?_
   refine ⟨s1.heap.objs.size, [s1.heap.objs.size], _, _, H1, rfl, I2, Lj a _ xs, ⟨Sb _, st⟩, fun b hb => ?_, q⟩
   have e : b = s1.heap.objs.size := by simpa using hb
   subst e
   exact I1.fpOk (S9 _) (I1.hok.fresh (S9 _))
end
theorem Nt {K : RU} {a : Addr} {xs : List V} {g : TG} {tb : TS} {D : CM} {σ : St} {H : Hp} (Pv : Nat → St → Hp → Prop) (h0 : Pv 0 σ H) (hl : ∀ i σ H, i ≤ xs.length → Pv i σ H → SqL K H a xs)
 (hs : ∀ i x σ H, i < xs.length → xs[xs.length - 1 - i]? = some x → Pv i σ H → g x σ H fun σ2 H2 => tb { D with nx := Pv (i + 1), ct := Pv (i + 1), bk := D.nx } σ2 H2) (hd : ∀ σ H, Pv xs.length σ H → D.nx σ H) :
 ∃ W : Nat → Nat → St → Hp → Prop, (∃ m, W 0 m σ H) ∧ ∀ i m σ H, W i m σ H →
   ((GO K a xs).stop i H ∧ D.nx σ H) ∨ ((GO K a xs).go i H ∧ ∃ N : St → Hp → Prop, (∀ σ' H', N σ' H' → ∃ m', m' < m ∧ W (i + 1) m' σ' H') ∧ ∀ x H', (GO K a xs).yld i H x H' → g x σ H' fun σ2 H2 => tb { D with nx := N, ct := N, bk := D.nx } σ2 H2) := by
 refine ⟨fun i m σ H => m = xs.length - i ∧ i ≤ xs.length ∧ Pv i σ H, ⟨xs.length, by simp, Sb _, h0⟩, ?_⟩
 rintro i m σ H ⟨rfl, hi, p⟩
 have q := hl i σ H hi p
 by_cases hlt : i < xs.length
 ·refine .inr ⟨⟨q, hlt⟩, Pv (i + 1), fun σ' H' p' => ⟨xs.length - (i + 1), by lia, rfl, hlt, p'⟩, fun x H' y => ?_⟩
  obtain ⟨e, y⟩ := y
  subst e
  exact hs i x σ _ hlt y p
 ·have e : i = xs.length := by lia
  subst e
  exact .inl ⟨rfl, hd σ H p⟩
end L2
namespace L2
open PySem PySem.Spec PyProof.Rows
theorem SqT.same {K : RU} {H H' : Hp} {a : Addr} {xs : List V} (h : SqT K H a xs) (e : Af H H') : SqT K H' a xs := by
 rcases h with (h | ⟨o, h⟩) | h
 ·exact .inl (.inl (e _ _ h))
 ·exact .inl (.inr ⟨o, e _ _ h⟩)
 ·exact .inr h
theorem Af.new {H : Hp} {p : Addr} {o : HO} (h : H p = none) : Af H (upd H p o) := fun b u q => by rw [Am (Au q h)]; exact q
theorem Af.mv {H H' : Hp} {a : Addr} (h : Af H H') : Mv a H H' := fun b o _ q => h b o q
theorem Paired.get {α β : Type} {F : α → β → Prop} : ∀ {l₁ : List α} {l₂ : List β} {i : Nat} {a : α}, Paired F l₁ l₂ → l₁[i]? = some a → ∃ b, l₂[i]? = some b ∧ F a b
 | _, _, _, _, .nil, e => by simp at e
 | _, _, 0, _, .cons h _, e => by simp at e; subst e; exact ⟨_, rfl, h⟩
 | _, _, i + 1, _, .cons _ t, e => by
   obtain ⟨b, h1, h2⟩ := Paired.get (i := i) t (by simpa using e)
   exact ⟨b, by simpa using h1, h2⟩
theorem Paired.get' {α β : Type} {F : α → β → Prop} : ∀ {l₁ : List α} {l₂ : List β} {i : Nat} {b : β}, Paired F l₁ l₂ → l₂[i]? = some b → ∃ a, l₁[i]? = some a ∧ F a b
 | _, _, _, _, .nil, e => by simp at e
 | _, _, 0, _, .cons h _, e => by simp at e; subst e; exact ⟨_, rfl, h⟩
 | _, _, i + 1, _, .cons _ t, e => by
   obtain ⟨b, h1, h2⟩ := Paired.get' (i := i) t (by simpa using e)
   exact ⟨b, by simpa using h1, h2⟩
theorem Paired.take {α β : Type} {F : α → β → Prop} : ∀ {l₁ : List α} {l₂ : List β} (n : Nat), Paired F l₁ l₂ → Paired F (l₁.take n) (l₂.take n)
 | _, _, 0, _ => by simp; exact .nil
 | _, _, _ + 1, .nil => .nil
 | _, _, n + 1, .cons h t => .cons h (Paired.take n t)
theorem Paired.append {α β : Type} {F : α → β → Prop} {l₁ l₁' : List α} {l₂ l₂' : List β} (a : Paired F l₁ l₂) (b : Paired F l₁' l₂') : Paired F (l₁ ++ l₁') (l₂ ++ l₂') := by
 induction a with
 | nil => exact b
 | cons h t ih => exact .cons h ih
theorem Paired.set {α β : Type} {F : α → β → Prop} {a : α} {b : β} (q : F a b) : ∀ {l₁ : List α} {l₂ : List β} (i : Nat), Paired F l₁ l₂ → Paired F (l₁.set i a) (l₂.set i b)
 | _, _, _, .nil => .nil
 | _, _, 0, .cons _ t => .cons q t
 | _, _, i + 1, .cons h t => .cons h (Paired.set q i t)
def AB (K : RU) (H : Hp) (x : V) (q : Rat) : Prop := ∃ r, x = .ref r ∧ SqT K H r [.int q.num, .int q.den]
abbrev Ap (K : RU) (H : Hp) : List V → List Rat → Prop := Paired (AB K H)
theorem AB.of {K : RU} {H : Hp} {r : Addr} {q : Rat} (h : H r = some (nT q)) : AB K H (.ref r) q := ⟨r, rfl, SqT.of h⟩
theorem AB.same {K : RU} {H H' : Hp} {x : V} {q : Rat} (h : AB K H x q) (e : Af H H') : AB K H' x q := by
 obtain ⟨r, rfl, h⟩ := h
 exact ⟨r, rfl, h.same e⟩
theorem Ap.same {K : RU} {H H' : Hp} {xs : List V} {qs : List Rat} (h : Ap K H xs qs) (e : Af H H') : Ap K H' xs qs := Paired.mapP h fun _ _ z => z.same e
theorem SqT.mv {K : RU} {H H' : Hp} {a p : Addr} {xs : List V} (h : SqT K H a xs) (pn : Pen H p) (m : Mv p H H') : SqT K H' a xs := by
 obtain ⟨c0, c1, c2, e⟩ := pn
 rcases h with (h | ⟨o, h⟩) | h
 ·exact .inl (.inl (m _ _ (EJ h e (fun z => by cases z)) h))
 ·exact .inl (.inr ⟨o, m _ _ (EJ h e (fun z => by cases z)) h⟩)
 ·exact .inr h
theorem AB.mv {K : RU} {H H' : Hp} {x : V} {q : Rat} {p : Addr} (h : AB K H x q) (pn : Pen H p) (m : Mv p H H') : AB K H' x q := by
 obtain ⟨r, rfl, h⟩ := h
 exact ⟨r, rfl, h.mv pn m⟩
theorem Ap.mv {K : RU} {H H' : Hp} {xs : List V} {qs : List Rat} {p : Addr} (h : Ap K H xs qs) (pn : Pen H p) (m : Mv p H H') : Ap K H' xs qs := Paired.mapP h fun _ _ z => z.mv pn m
theorem SqT.put {K : RU} {H : Hp} {a p : Addr} {xs ys : List V} {o : HO} (h : SqT K H a xs) (hp : H p = some (.lst ys)) : SqT K (upd H p o) a xs := by
 rcases h with (h | ⟨u, h⟩) | h
 ·exact .inl (.inl (by rw [Am (EJ h hp (fun z => by cases z))]; exact h))
 ·exact .inl (.inr ⟨u, by rw [Am (EJ h hp (fun z => by cases z))]; exact h⟩)
 ·exact .inr h
theorem AB.put {K : RU} {H : Hp} {x : V} {q : Rat} {p : Addr} {ys : List V} {o : HO} (h : AB K H x q) (hp : H p = some (.lst ys)) : AB K (upd H p o) x q := by
 obtain ⟨r, rfl, h⟩ := h
 exact ⟨r, rfl, h.put hp⟩
theorem Ap.put {K : RU} {H : Hp} {xs : List V} {qs : List Rat} {p : Addr} {ys : List V} {o : HO} (h : Ap K H xs qs) (hp : H p = some (.lst ys)) : Ap K (upd H p o) xs qs := Paired.mapP h fun _ _ z => z.put hp
def Crv (K : RU) (H : Hp) (r : Addr) (qs : List Rat) : Prop := ∃ xs, SqT K H r xs ∧ Ap K H xs qs
theorem Crv.same {K : RU} {H H' : Hp} {r : Addr} {qs : List Rat} (h : Crv K H r qs) (e : Af H H') : Crv K H' r qs := let ⟨xs, a, b⟩ := h; ⟨xs, a.same e, b.same e⟩
theorem Crv.mv {K : RU} {H H' : Hp} {r p : Addr} {qs : List Rat} (h : Crv K H r qs) (pn : Pen H p) (m : Mv p H H') : Crv K H' r qs := let ⟨xs, a, b⟩ := h; ⟨xs, a.mv pn m, b.mv pn m⟩
theorem Crv.put {K : RU} {H : Hp} {r p : Addr} {qs : List Rat} {ys : List V} {o : HO} (h : Crv K H r qs) (hp : H p = some (.lst ys)) : Crv K (upd H p o) r qs := let ⟨xs, a, b⟩ := h; ⟨xs, a.put hp, b.put hp⟩
def nD (q : Rat) : PyData := .tuple [.int q.num, .int q.den]
theorem AB.rds {K : RU} {H : Hp} {x : V} {q : Rat} (h : AB K H x q) : Rds K H x (nD q) := by
 obtain ⟨r, rfl, h⟩ := h
 refine .tup h rfl fun i x d e1 e2 => ?_
 match i with
 | 0 => simp at e1 e2; subst e1; subst e2; exact .int _
 | 1 => simp at e1 e2; subst e1; subst e2; exact .int _
 | i + 2 => simp at e1
theorem JC (p q : Rat) : PyData.eqv (nD p) (nD q) = decide (p = q) := by
 show (p.num == q.num && (((p.den : Int) == (q.den : Int)) && true)) = _
 rw [Bool.and_true, Bool.eq_iff_iff]
 simp only [Bool.and_eq_true, beq_iff_eq, decide_eq_true_eq]
 constructor
 ·rintro ⟨h1, h2⟩
  exact Rat.ext h1 (Int.ofNat.inj h2)
 ·rintro rfl
  exact ⟨rfl, rfl⟩
theorem DD : ∀ ps qs : List Rat, PyData.eqvAll (ps.map nD) (qs.map nD) = decide (ps = qs)
 | [], [] => rfl
 | [], _ :: _ => rfl
 | _ :: _, [] => rfl
 | p :: ps, q :: qs => by
   show (PyData.eqv (nD p) (nD q) && PyData.eqvAll (ps.map nD) (qs.map nD)) = _
   rw [JC, DD ps qs, Bool.eq_iff_iff]
   simp
theorem EB (q : Rat) : SeqAt.shaped (nD q) = true := by rfl
theorem Ap.rds {K : RU} {H : Hp} {xs : List V} {qs : List Rat} (h : Ap K H xs qs) : ∀ (i : Nat) x d, xs[i]? = some x → (qs.map nD)[i]? = some d → Rds K H x d := fun i x d e1 e2 => by
 obtain ⟨q, hq, hn⟩ := Paired.get h e1
 rw [Sn, hq] at e2
 cases e2
 exact hn.rds
theorem Ap.rdsT {K : RU} {H : Hp} {r : Addr} {xs : List V} {qs : List Rat} (h : Ap K H xs qs) (s : SqT K H r xs) : Rds K H (.ref r) (.tuple (qs.map nD)) := .tup s (by rw [h.length, Su]) h.rds
theorem Ap.rdsL {K : RU} {H : Hp} {r : Addr} {xs : List V} {qs : List Rat} (h : Ap K H xs qs) (s : SqL K H r xs) : Rds K H (.ref r) (.list (qs.map nD)) := .lst s (by rw [h.length, Su]) h.rds
theorem DC : ∀ qs : List Rat, PyData.canLayAll0 (qs.map nD) = true
 | [] => rfl
 | q :: r => by
   show (PyData.canLay0 (nD q) && PyData.canLayAll0 (r.map nD)) = true
   rw [DC r]; rfl
theorem Co : ∀ qs : List Rat, PyData.depthAll (qs.map nD) ≤ 1
 | [] => Sb _
 | q :: r => by
   have ih := Co r
   show max (PyData.depth (nD q)) (PyData.depthAll (r.map nD)) ≤ 1
   exact Nat.max_le.mpr ⟨S9 _, ih⟩
theorem HC (qs : List Rat) : SeqAt.shaped (.list (qs.map nD)) = true := by
 show (PyData.canLayAll0 (qs.map nD) && decide (PyData.depthAll (qs.map nD) + 1 ≤ 64)) = true
 rw [DC, Bool.true_and]
 exact decide_eq_true (by have := Co qs; lia)
theorem eqN {K : RU} {H : Hp} {x y : V} {p q : Rat} {Q : VK} {neg : Bool} (h1 : AB K H x p) (h2 : AB K H y q) (h : Q (.bl (if neg then !decide (p = q) else decide (p = q))) H) : EN K neg x y H Q :=
 HK ⟨_, _, h1.rds, h2.rds, EB _, EB _, by rw [JC]; exact h⟩
theorem eqL {K : RU} {H : Hp} {a b : Addr} {xs ys : List V} {ps qs : List Rat} {Q : VK} {neg : Bool} (s1 : SqL K H a xs) (n1 : Ap K H xs ps) (s2 : SqL K H b ys) (n2 : Ap K H ys qs) (h : Q (.bl (if neg then !decide (ps = qs) else decide (ps = qs))) H) : EN K neg (.ref a) (.ref b) H Q := by
 refine HK ⟨_, _, n1.rdsL s1, n2.rdsL s2, HC _, HC _, ?_⟩
 have e : PyData.eqv (.list (ps.map nD)) (.list (qs.map nD)) = decide (ps = qs) := DD ps qs
 rw [e]; exact h
theorem ND {c : TT} {tb : TS} {D : CM} {σ : St} {H : Hp} (Pv : St → Hp → Prop) (μ : St → Hp → Nat) (h0 : Pv σ H)
 (hs : ∀ σ H, Pv σ H → c σ H fun b H1 => if b = true then ∃ N : St → Hp → Prop, (∀ σ' H', N σ' H' → ∃ m', m' < μ σ H ∧ (m' = μ σ' H' ∧ Pv σ' H')) ∧ tb { D with nx := N, ct := N, bk := D.nx } σ H1 else D.nx σ H1) : Jj c tb D σ H := by
 refine ⟨fun m σ H => m = μ σ H ∧ Pv σ H, ⟨_, rfl, h0⟩, ?_⟩
 rintro m σ H ⟨rfl, p⟩
 exact hs σ H p
theorem NC {tb : TS} {D : CM} {σ : St} {H1 : Hp} {m : Nat} {Pv : St → Hp → Prop} {μ : St → Hp → Nat}
 (h : tb { D with nx := fun σ' H' => Pv σ' H' ∧ μ σ' H' < m, ct := fun σ' H' => Pv σ' H' ∧ μ σ' H' < m, bk := D.nx } σ H1) :
 ∃ N : St → Hp → Prop, (∀ σ' H', N σ' H' → ∃ m', m' < m ∧ (m' = μ σ' H' ∧ Pv σ' H')) ∧ tb { D with nx := N, ct := N, bk := D.nx } σ H1 :=
 ⟨_, fun _ _ ⟨p, l⟩ => ⟨_, l, rfl, p⟩, h⟩
def RB (n : Nat) (q : Rat) : Prop := Bd n q.num ∧ Bd n (q.den : Int)
theorem Bd.mul {m n : Nat} {x y : Int} (h1 : Bd m x) (h2 : Bd n y) : Bd (m + n) (x * y) := by
 unfold Bd at *
 rw [Int.natAbs_mul, Nat.pow_add]
 exact Nat.mul_lt_mul'' h1 h2
theorem Bd.add {n : Nat} {x y : Int} (h1 : Bd n x) (h2 : Bd n y) : Bd (n + 1) (x + y) := by
 unfold Bd at *
 rw [TF, Nat.mul_two]
 exact SQ (Int.natAbs_add_le x y) (Nat.add_lt_add h1 h2)
theorem Bd.sub {n : Nat} {x y : Int} (h1 : Bd n x) (h2 : Bd n y) : Bd (n + 1) (x - y) := by
 rw [Int.sub_eq_add_neg]
 exact Bd.add h1 (by unfold Bd; rw [Int.natAbs_neg]; exact h2)
theorem Bd.fdiv {n : Nat} {x y : Int} (h : Bd n x) : Bd n (x.fdiv y) := SQ (PySem.natAbs_fdiv_le x y) h
theorem Bv.bd {m n : Nat} {x y : Int} (h1 : Bd m x) (h2 : Bd n y) (h : m + n ≤ 134217728 := by lia) : Bv x y := .inr (.inr ⟨m, n, h1, h2, h⟩)
theorem RB.mono {m n : Nat} {q : Rat} (h : RB m q) (hmn : m ≤ n) : RB n q := ⟨h.1.mono hmn, h.2.mono hmn⟩
theorem RB.div {m n : Nat} {t b : Int} (h1 : Bd n t) (h2 : Bd n b) (hb : b ≠ 0) : RB n (SW t b) := ⟨Bd.num h1, Bd.den hb h2⟩
theorem Ie : ∀ {us : List Value} {xs : List V}, us.map La = xs.map some → (∀ u ∈ us, ∀ x, La u = some x → AI x u) → AA xs us
 | [], [], _, _ => .nil
 | [], _ :: _, e, _ => by simp at e
 | _ :: _, [], e, _ => by simp at e
 | u :: us, x :: xs, e, h => by
   simp only [SO, List.cons.injEq] at e
   exact .cons (h u RY x e.1) (Ie e.2 fun v hv => h v (RZ _ hv))
theorem My {u : Value} {x : V} (h : La u = some x) : AI x u := by
 cases u <;> first | (cases h; rfl) | (cases h; exact ⟨_, rfl⟩) | cases h
theorem KU {K : RU} {H : Hp} {a : Addr} {o : Obj} {vs : Array Value} {n : Nat} {q : Rat} (hk : K.lookup a = some o) (hc : o.cls = .type "tuple") (hd : o.data = .seq vs n) (e : vs.toList.map La = [some (.int q.num), some (.int (q.den : Int))]) : SqT K H a [.int q.num, .int q.den] := by
 refine .inr ⟨o, vs, n, hk, hc, hd, ?_, Ie e fun u _ x h => My h⟩
 have hl := congrArg List.length e
 simp at hl
 rw [hl]; decide
theorem RB.plus {m n : Nat} {p q : Rat} (h1 : RB m p) (h2 : RB n q) : RB (m + n + 1) (p + q) := by
 rw [← Nm.plus_eq]
 refine ⟨Bd.num (Bd.add (h1.1.mul h2.2) ((h2.1.mul h1.2).mono (by lia))), Bd.den (T4 (Nm.den_ne p) (Nm.den_ne q)) ((h1.2.mul h2.2).mono (by lia))⟩
theorem RB.minus {m n : Nat} {p q : Rat} (h1 : RB m p) (h2 : RB n q) : RB (m + n + 1) (p - q) := by
 rw [← Nm.minus_eq]
 refine ⟨Bd.num (Bd.sub (h1.1.mul h2.2) ((h2.1.mul h1.2).mono (by lia))), Bd.den (T4 (Nm.den_ne p) (Nm.den_ne q)) ((h1.2.mul h2.2).mono (by lia))⟩
theorem RB.times {m n : Nat} {p q : Rat} (h1 : RB m p) (h2 : RB n q) : RB (m + n) (p * q) := by
 rw [← Nm.times_eq]
 exact ⟨Bd.num (h1.1.mul h2.1), Bd.den (T4 (Nm.den_ne p) (Nm.den_ne q)) (h1.2.mul h2.2)⟩
theorem RB.zero {n : Nat} (h : 1 ≤ n) : RB n 0 := ⟨(show Bd 1 0 by unfold Bd; decide).mono h, (show Bd 1 1 by unfold Bd; decide).mono h⟩
theorem RB.one {n : Nat} (h : 1 ≤ n) : RB n 1 := ⟨(show Bd 1 1 by unfold Bd; decide).mono h, (show Bd 1 1 by unfold Bd; decide).mono h⟩
inductive Dc (K : RU) (g : Rat → Rat → Rat) (vs : List V) (H : Hp) (Q : VK) (E_3 : XK) : Prop
 | mk (x y : V) (p q : Rat) (m n : Nat) (h1 : vs = [x, y]) (h2 : AB K H x p) (h3 : AB K H y q) (h4 : RB m p) (h5 : RB n q) (h6 : m + n ≤ 100000000) (h7 : ∀ r, H r = none → Q (.ref r) (upd H r (nT (g p q)))) : Dc K g vs H Q E_3
end L2
namespace L2
open PySem PySem.Spec PyProof.Rows
def Sq (b : Bool) (K : RU) (H : Hp) (a : Addr) (xs : List V) : Prop := match b with
 | true => SqL K H a xs
 | false => SqT K H a xs
theorem Sq.same {b : Bool} {K : RU} {H H' : Hp} {a : Addr} {xs : List V} (h : Sq b K H a xs) (e : Af H H') : Sq b K H' a xs := by
 cases b
 ·exact SqT.same h e
 ·exact e.seq h
theorem Kz {X : Cx} {tg l : Expr} {w1 w2 : TI} (h1 : PI X tg l w1) (h2 : PI X tg l w2) : PI X tg l (fun σ H R => w1 σ H R ∨ w2 σ H R) := fun pins s σ H R I h => by
 rcases h with h | h
 ·exact h1 pins s σ H R I h
 ·exact h2 pins s σ H R I h
abbrev ON (K : RU) (tl : TE) : TI := fun σ H R => Ma K tl σ H R ∨ OM K tl σ H R
theorem Kc {K : RU} {b : Bool} {a : Addr} {n : Nat} {xs : List V} {g : TG} {tb : TS} {D : CM} {σ : St} {H : Hp} (hσ : σ[n]? = some (some (.ref a))) (Pv : Nat → St → Hp → Prop) (h0 : Pv 0 σ H) (hl : ∀ i σ H, i ≤ xs.length → Pv i σ H → Sq b K H a xs)
 (hs : ∀ i x σ H, xs[i]? = some x → Pv i σ H → g x σ H fun σ2 H2 => tb { D with nx := Pv (i + 1), ct := Pv (i + 1), bk := D.nx } σ2 H2) (hd : ∀ σ H, Pv xs.length σ H → D.nx σ H) :
 NZ (ON K (Ll n)) g tb D σ H := by
 have q := hl 0 σ H (Sb _) h0
 cases b with
 | true => exact .inl ⟨_, hσ, a, rfl, ⟨xs, q⟩, FV Pv h0 hl hs hd⟩
 | false => exact .inr ⟨_, hσ, a, rfl, ⟨xs, q⟩, Fe Pv h0 hl hs hd⟩
theorem LY {K : RU} {b : Bool} {a : Addr} {n : Nat} {js : List Nat} {xs : List V} {te : TE} {σ : St} {H : Hp} {Q : VK} (hσ : σ[n]? = some (some (.ref a))) (Pv : Nat → List V → Hp → Prop) (h0 : Pv 0 [] H)
 (hl : ∀ i zs H, i ≤ xs.length → Pv i zs H → Sq b K H a xs ∧ zs.length = i) (hz : xs.length ≤ sizeLine)
 (hs : ∀ i x zs H, xs[i]? = some x → Pv i zs H → te ((cS 1 js σ).set 0 (some x)) H fun y H4 => Pv (i + 1) (zs ++ [y]) H4) (fin : ∀ zs H', Pv xs.length zs H' → ∀ p, H' p = none → Q (.ref p) (upd H' p (.lst zs))) :
 tLC (ON K (Ll n)) 1 js (Cr 0) Lk te σ H Q := by
 have q := (hl 0 [] H (Sb _) h0).1
 cases b with
 | true =>
   refine Ce (.inl ⟨_, hσ, a, rfl, ⟨xs, q⟩, xs.length, Pv, h0, ⟨?_, ?_, ?_⟩⟩)
   ·intro i zs H' hi p
    have hle := RW hi
    obtain ⟨h1, h2⟩ := hl i zs H' hle p
    exact ⟨⟨xs, xs[i], h1, by simp [hi]⟩, by lia⟩
   ·rintro i zs H' x H1 hi p ⟨rfl, y⟩
    have hle := RW hi
    have hx := y xs (hl i zs _ hle p).1
    exact hs i x zs _ hx p
   ·intro zs H' p
    have hle := S9 xs.length
    obtain ⟨h1, h2⟩ := hl _ zs H' hle p
    exact ⟨⟨xs, h1, S9 _⟩, by lia, fin zs H' p⟩
 | false =>
   refine Ce (.inr ⟨_, hσ, a, rfl, ⟨xs, q⟩, xs.length, Pv, h0, ⟨?_, ?_, ?_⟩⟩)
   ·intro i zs H' hi p
    have hle := RW hi
    obtain ⟨h1, h2⟩ := hl i zs H' hle p
    exact ⟨⟨xs, xs[i], h1, by simp [hi]⟩, by lia⟩
   ·rintro i zs H' x H1 hi p ⟨rfl, y⟩
    have hle := RW hi
    have hx := y xs (hl i zs _ hle p).1
    exact hs i x zs _ hx p
   ·intro zs H' p
    have hle := S9 xs.length
    obtain ⟨h1, h2⟩ := hl _ zs H' hle p
    exact ⟨⟨xs, h1, S9 _⟩, by lia, fin zs H' p⟩
section
variable {X : Cx} (K : RU)
theorem ixT (e : X.K = K := by rfl) : IxR X (O7 K) := by subst e; exact OJ
theorem ixL (e : X.K = K := by rfl) : IxR X (O8 K) := by subst e; exact Np
theorem eqD (hu : X.A.units + 64 < cLine) (e : X.K = K := by rfl) : OpR X (compareOp .Eq) (EN K false) := by subst e; exact Om hu
theorem neD (hu : X.A.units + 64 < cLine) (e : X.K = K := by rfl) : OpR X (compareOp .NotEq) (EN K true) := by subst e; exact Ol hu
theorem Ot (e : X.K = K := by rfl) : OpR X (compareOp .NotIn) (rIn K true) := by subst e; exact Hl
theorem slL (e : X.K = K := by rfl) : SlR X (O6 K) := by subst e; exact MT
inductive TyX (K : RU) (H : Hp) : V → Value → Prop where
 | of {x : V} {t : Value} (h : EW K H x t) : TyX K H x t
 | tup {a : Addr} {xs : List V} (h : SqT K H a xs) : TyX K H (.ref a) (.type "tuple")
 | lst {a : Addr} {xs : List V} (h : SqL K H a xs) : TyX K H (.ref a) (.type "list")
inductive Pu (xs : List V) (H : Hp) (Q : VK) : Prop
 | mk (p : _) (ys : _) (h1 : xs = [.ref p]) (h2 : (SqL K H p ys ∨ SqT K H p ys)) (h3 : Q (.int ys.length) H) : Pu xs H Q
theorem Bx (e : X.K = K := by rfl) : Dy X (.builtin "len") (Pu K) := by subst e; exact fun pins s σ H xs us Q I r ⟨p, ys, h1, h2, h3⟩ => HS pins s σ H xs us Q I r ⟨p, ys, h1, h2, h3⟩
inductive Mp (xs : List V) (H : Hp) (Q : VK) : Prop
 | mk (p : _) (ys : _) (h1 : xs = [.ref p]) (h2 : ((SqL K H p ys ∧ ∀ l, H l = none → Q (.ref l) (upd H l (.tup ys))) ∨ (SqT K H p ys ∧ Q (.ref p) H))) : Mp xs H Q
theorem GQ (e : X.K = K := by rfl) : Dy X (.type "tuple") (Mp K) := by subst e; exact fun pins s σ H xs us Q I r ⟨p, ys, h1, h2⟩ => Gn pins s σ H xs us Q I r ⟨p, ys, h1, h2⟩
variable {tg l : Expr} {tl : TE}
theorem piL (hl : PE X l tl) (e : X.K = K := by rfl) : PI X tg l (Ma K tl) := by subst e; exact K1 hl
theorem piT (hl : PE X l tl) (e : X.K = K := by rfl) : PI X tg l (OM K tl) := by subst e; exact LG hl
theorem piS (hl : PE X l tl) (e : X.K = K := by rfl) : PI X tg l (ON K tl) := by subst e; exact Kz (K1 hl) (LG hl)
theorem Pg {p pos : Pos} (hg : Gl X "reversed") (hm : X.mg "reversed" = none) (hl : PE X l tl) (hs : starEach [l] X.env = [(false, eval l X.env)] := by rfl) (e : X.K = K := by rfl) : PI X tg (.Call (.Name "reversed" p) [l] [] pos) (Pq K tl) := by subst e; exact Oe hg hm hl hs
theorem pgT {es : List Expr} {k : Nat} {t : TGs} {n : Nat} {pos : Pos} (hc : X.calm = true) (h : PGs X es t) (hn : (assignEach es X.env).length = n := by rfl) (hst : (assignEach es X.env).findIdx? (·.1) = none := by rfl) (e : X.K = K := by rfl) : PG X (.Tuple es k pos) (KS K n t) := by subst e; exact Of hc h hn hst
end
end L2
namespace L2
open PySem PySem.Spec PyProof.Rows
inductive MA (K : RU) (H : Hp) : V → Bool → Prop where
 | int (i : Int) : MA K H (.int i) true
 | bl (b : Bool) : MA K H (.bl b) false
 | oth {x : V} {t : Value} (ty : TyX K H x t) (h : PySem.W.kitOne K t (.type "int") = some false) : MA K H x false
theorem LZ {lo : Int} {n : Nat} {js : List Nat} {te : TE} {σ : St} {H : Hp} {Fin : List V → Hp → Prop} (Pv : Nat → List V → Hp → Prop) (h0 : Pv 0 [] H) (hl : ∀ i zs H, i ≤ n → Pv i zs H → zs.length = i) (hz : n ≤ sizeLine)
 (hs : ∀ i zs H, i < n → Pv i zs H → te ((cS 1 js σ).set 0 (some (.int (lo + i)))) H fun y H4 => Pv (i + 1) (zs ++ [y]) H4) (fin : ∀ zs H', Pv n zs H' → Fin zs H') :
 ∃ (n' : Nat) (W : Nat → List V → Hp → Prop), W 0 [] H ∧ LcW (Itr lo n) n' 1 js σ (Cr 0) Lk te Fin W := by
 refine ⟨n, Pv, h0, ⟨?_, ?_, ?_⟩⟩
 ·intro i zs H' hi p
  have := hl i zs H' (RW hi) p
  exact ⟨hi, by lia⟩
 ·rintro i zs H' x H1 hi p ⟨rfl, rfl⟩
  exact hs i zs _ hi p
 ·intro zs H' p
  have := hl n zs H' (S9 _) p
  exact ⟨S9 _, by lia, fin zs H' p⟩
theorem J8 {α : Type} {xs : List α} {v : α} (h : xs[xs.length - 1]? = some v) : atI xs (-1) = some v := by
 have hl : xs.length - 1 < xs.length := (S4.mp h).1
 have e : ixN xs.length (-1) = some (xs.length - 1) := by
  unfold ixN
  rw [if_neg (by decide), if_pos (by lia)]
  congr 1
  lia
 unfold atI
 rw [e]
 exact h
def Cu (qs : List Rat) : Prop := qs = [] ∨ ∃ q, qs[qs.length - 1]? = some q ∧ q ≠ 0
theorem C8 (qs : List Rat) : Cu (Cv.strip qs) := by
 by_cases h : Cv.strip qs = []
 ·exact .inl h
 ·have hl : 0 < (Cv.strip qs).length := Tc.mpr h
  have e := Tx (l := Cv.strip qs) (i := (Cv.strip qs).length - 1) (by lia)
  refine .inr ⟨_, e, fun z => Cv.strip_last qs h ?_⟩
  rw [e, z]
theorem Pen.sm {H H' : Hp} {p : Addr} (h : Pen H p) (e : Af H H') : Pen H' p := let ⟨c0, c1, c2, z⟩ := h; ⟨c0, c1, c2, e _ _ z⟩
theorem DY {K : RU} {H : Hp} {x : V} {q : Rat} (h : AB K H x q) : ∀ n : Nat, Ap K H (Si n [x]).flatten (Si n q)
 | 0 => .nil
 | n + 1 => by
   rw [SH, SI, SH]
   exact .cons h (DY h n)
theorem Ei {ns : List Int} {i : Nat} {t : Int} {k : Int} (h : ns[i]? = some t) (e : k = (i : Int)) : atI (ns.map V.int) k = some (.int t) := by
 subst e
 exact AW (by rw [Sn, h]; rfl)
theorem IU {n i : Nat} {k : Int} (h : i < n) (e : k = (i : Int)) : ixN n k = some i := by
 subst e
 unfold ixN
 rw [if_pos (by lia), if_pos (by lia), Sy]
theorem Af.put {H H' : Hp} {p : Addr} {o : HO} (h : Af H H') (hp : H p = none) : Af H (upd H' p o) := fun b u q => by rw [Am (Au q hp)]; exact h b u q
def Up (c M : Nat) (t : Int) : Prop := t.natAbs ≤ c * 2 ^ M
theorem Up.bd {c k M : Nat} {t : Int} (h : Up c M t) (hc : c < 2 ^ k) : Bd (M + k) t := by
 unfold Up at h
 unfold Bd
 rw [Nat.pow_add, SN (2 ^ M)]
 exact SQ h (Nat.mul_lt_mul_of_pos_right hc (Nat.pow_pos (by decide)))
theorem Up.add {c M : Nat} {t d : Int} (h : Up c M t) (hd : Bd M d) : Up (c + 1) M (t + d) := by
 unfold Up at *
 unfold Bd at hd
 rw [TH, TJ]
 exact RV (Int.natAbs_add_le t d) (Nat.add_le_add h (RW hd))
theorem Up.mono {c c' M : Nat} {t : Int} (h : Up c M t) (hc : c ≤ c') : Up c' M t := RV h (Nat.mul_le_mul_right _ hc)
end L2
namespace L2
open PySem PySem.Spec PyProof.Rows
def CX1 (P : Program) (w : World) : CXT := fun outer H s E e s' => ∃ (ea : Addr) (cls a0 : Value) (B : Heap) (H' : Hp), e = .ref ea ∧ s'.os = s.os ∧ AllBare s'.gens ∧ Un (frs outer) [] H H' s.heap s'.heap ∧ HOk P w H' s'.heap ∧
 Heap.FlyingW B outer ea cls a0 s'.heap ∧ (∀ b o, s.heap.get? b = some o → b ∉ frs outer → ∃ o', B.get? b = some o') ∧ (∀ b u, H' b = some u → ∃ o', B.get? b = some o') ∧ E cls none H'
section
variable {X : Cx} {pins : List (Addr × Obj)} {σ : St} {H H' : Hp} {s s' : Shared} {B : Heap}
end
section
variable {P : Program} {w : World} {K : RU} {mg : Str → Option Value} {base : Heap} {N : List Str} {qual : Str} {scope : Scope} {f : Addr} {cd : Value} {A : Around} {outer : List Env} {s : Shared} {H : Hp} {E : XK}
end
structure XCls (K : RU) (x : Str) (C : Addr) : Prop where
 ns : TK K mainGlobals x = some (some (.ref C))
 ob : ∃ bm N nm q bs hdct sn sub ab col dd k0 k1 k2 k3 k5, K.lookup C = some (excClassObj nm q C N bs bm hdct sn sub ab col dd k0 k1 k2 k3 k5 "ValueError.__new__")
 ex : PySem.W.excIn K C [.type "ValueError", .type "Exception", .type "BaseException", .type "object"] "ValueError.__new__" = true
section
variable {X : Cx} {pins : List (Addr × Obj)} {σ : St} {H H' : Hp} {s s' : Shared} {B : Heap}
end
section
open PySem.W PySem.Builtin PySem.Builtin.ObjectAttr PySem.Builtin.Getset_descriptor
variable {prog : Program} {w : World} {A : Around} {E : Value → Shared → Prop} {s : Shared} {K : RU} {x D : Addr}
structure XTy (K : RU) (D : Addr) : Prop where
 ga : findIn K (.ref D) "__getattribute__" = some (some (.builtin "BaseException.__getattribute__"))
 gt : findIn K (.ref D) "__getattr__" = some none
 ca : findIn K (.ref D) "__class__" = some (some (.builtin "object.__class__"))
 gg : specialIn K (.builtin "object.__class__") "__get__" = some (some (.builtin "getset_descriptor.__get__"))
 tk : takesIn K (.builtin "object.__class__") = some true
 ob : mroIn K D (.type "object") = some true
 be : mroIn K D (.type "BaseException") = some true
 cl : ∃ c d cd sl, K.lookup D = some ⟨c, d, .cls cd, sl⟩
end
section
open PySem.W
variable {X : Cx} (K : RU)
end
section
variable {P : Program} {w : World} {K : RU} {mg : Str → Option Value} {base : Heap}
end
structure FdX (P : Program) (w : World) (K : RU) (mg : Str → Option Value) (base : Heap) (n : Nat) (x : Str) (ps : List Str) (sp : Sp) : Prop where
 ex : ∃ (f : Addr) (fd : FuncData), AH P w K mg base (CX1 P w) n f fd ps sp ∧ C5 K fd ps [] ∧ Se K (.ref f) = true ∧ mg x = some (.ref f)
end L2
namespace L2
open PySem PySem.Spec PyProof.Rows
def Itd (lo : Int) (n : Nat) : It := ⟨fun i _ => i < n, fun i H x H' => H' = H ∧ x = .int (lo - i), fun i _ => n ≤ i⟩
theorem Kt {P : Program} {w : World} {K : RU} {tg : Expr} (it : Addr) (lo : Int) (n : Nat) : Jb P w K tg (Itd lo n) [it] it (fun i h => IsRangeIter h it (lo + (i : Nat) * (-1)) ((n : Int) - (i : Nat)) (-1)) where
 mem := by simp
 obj := fun i h st b hb => by
  have e : b = it := by simpa using hb
  subst e
  exact ⟨_, st, fun v z => by
   have z' : Data.fields _ = Data.cell v := z
   cases z'⟩
 keep := fun i h h' st k => k it (by simp) _ st
 item := by
  intro X hP hw hK hc i pins s σ H E I hf st hg
  subst hP hw hK
  obtain ⟨f0, f1, f2, f3, f4, f5⟩ := hf it (by simp)
  refine (Walks.range (prog := X.prog) (w := X.w) (I.ok.hd hc) it lo (-1) n).item i s _ _ hg st fun v h' tk hv st' kk => ?_
  obtain ⟨t, rfl⟩ := hv
  have I1 : Inv X pins σ H { s with heap := h', toks := tk } := I.turned (fun b o hb e => kk b o (by simpa using hb) e) f0 f1 f3 f4 f5
  refine ⟨_, rfl, IX (s := { s with heap := h', toks := tk }) (n := "range_iterator") st' rfl rfl (by decide) ⟨.int (lo - i), H, I1, ⟨t, ?_⟩, ⟨rfl, rfl⟩, st', fun b hb => (hf b hb).1⟩⟩
  rw [show lo + (i : Int) * -1 = lo - i by lia]
 done := by
  intro X hP hw hK hc i pins s σ H E I hf st hg
  subst hP hw hK
  obtain ⟨f0, f1, f2, f3, f4, f5⟩ := hf it (by simp)
  exact wpAny_pyNext_range_end (I.ok.hd hc) st (by have : n ≤ i := hg; lia) fun h' eb => ⟨rfl, I.turned (t' := s.toks) (fun b o hb e => eb b o hb e) f0 f1 f3 f4 f5⟩
 self := fun _ _ _ _ _ st h => wpAny_pyIter_rangeiter st h
theorem Gu (a b : Int) : Builtin.Range.rangeSize a b (-1) = (((a - b).toNat : Nat) : Int) := by
 unfold Builtin.Range.rangeSize
 rw [if_neg (by decide)]
 split
 ·rw [show -(-1 : Int) = 1 by decide, Int.ediv_one]; lia
 ·lia
section
variable {X : Cx} {tg : Expr}
def Pr (ta : TA) : TI := fun σ H R => ta σ H fun vs H1 => ∃ i j : Int, vs = [.int i, .int j, .int (-1)] ∧ (-1000000 ≤ i ∧ i ≤ 1000000 ∧ -1000000 ≤ j ∧ j ≤ 1000000) ∧ R (Itd i (i - j).toNat) H1
theorem N6 {a b c : Expr} {ta : TA} {p pos : Pos} (hg : Gl X "range") (hm : X.mg "range" = none) (ha : PA X [a, b, c] ta) (hs : starEach [a, b, c] X.env = [(false, eval a X.env), (false, eval b X.env), (false, eval c X.env)] := by rfl)
 (hs2 : starEach [b, c] X.env = [(false, eval b X.env), (false, eval c X.env)] := by rfl) : PI X tg (.Call (.Name "range" p) [a, b, c] [] pos) (Pr ta) := by
 intro pins s σ H R I h
 refine Call_ (CZ I hg hm boot_range (PyProof.Rows.callWith_type1 (thn (ha pos pins s σ H _ I h) fun us s1 ⟨vs, H1, I1, r1, q1⟩ => ?_) (by rw [hs, hs2]) (by rw [hs2]; rfl)))
 obtain ⟨i, j, e, ⟨q1, q2, q3, q4⟩, q⟩ := q1
 subst e
 cases r1 with
 | cons r rr =>
   cases rr with
   | cons r' rr =>
     cases rr with
     | cons r3 rr =>
       cases rr
       obtain ⟨t, rfl⟩ := r
       obtain ⟨t', rfl⟩ := r'
       obtain ⟨t3, rfl⟩ := r3
       have sm : Builtin.Range.small i j (-1) = true := by
        unfold Builtin.Range.small
        rw [Gu]
        simp only [Builtin.Range.rangeFitsLong, Bool.and_eq_true, Bool.or_eq_true, decide_eq_true_eq, beq_iff_eq]
        rw [if_neg (by decide)]
        simp only [Bool.and_eq_true, decide_eq_true_eq]
        lia
       refine call_range_3 (by decide) ?_ (.inl (PyProof.noPylong_small (by lia)))
       refine wpAny_pyIter_range (IsRange.new ..) sm ?_
       have I2 : Inv X pins σ H1 { s1 with heap := s1.heap.push { cls := .type "range", data := .fields #[.int i t, .int j t', .int (-1) t3] }, toks := s1.toks } := I1.kept fun b o e => Heap.get?_push_of_some _ e
       refine ⟨_, [_], _, _, H1, rfl, I2.kept (t' := s1.toks) fun b o e => Heap.get?_push_of_some _ e, Kt _ i (i - j).toNat, ?_, fun b hb => ?_, q⟩
       ·show IsRangeIter _ _ (i + ((0 : Nat) : Int) * (-1)) ((((i - j).toNat : Nat) : Int) - ((0 : Nat) : Int)) (-1)
        rw [show i + ((0 : Nat) : Int) * (-1) = i by lia, show (((i - j).toNat : Nat) : Int) - ((0 : Nat) : Int) = Builtin.Range.rangeSize i j (-1) by rw [Gu]; lia]
        exact Heap.get?_push_size _ rfl
       ·have e := Tw.mp hb
        subst e
        exact I2.fpOk (S9 _) (I2.hok.fresh (S9 _))
end
theorem Mf {lo : Int} {n : Nat} {g : TG} {tb : TS} {D : CM} {σ : St} {H : Hp} (Pv : Nat → St → Hp → Prop) (h0 : Pv 0 σ H)
 (hs : ∀ i σ H, i < n → Pv i σ H → g (.int (lo - i)) σ H fun σ2 H2 => tb { D with nx := Pv (i + 1), ct := Pv (i + 1), bk := D.nx } σ2 H2) (hd : ∀ σ H, Pv n σ H → D.nx σ H) :
 ∃ W : Nat → Nat → St → Hp → Prop, (∃ m, W 0 m σ H) ∧ ∀ i m σ H, W i m σ H →
   ((Itd lo n).stop i H ∧ D.nx σ H) ∨ ((Itd lo n).go i H ∧ ∃ N : St → Hp → Prop, (∀ σ' H', N σ' H' → ∃ m', m' < m ∧ W (i + 1) m' σ' H') ∧ ∀ x H', (Itd lo n).yld i H x H' → g x σ H' fun σ2 H2 => tb { D with nx := N, ct := N, bk := D.nx } σ2 H2) := by
 refine ⟨fun i m σ H => m = n - i ∧ i ≤ n ∧ Pv i σ H, ⟨n, by simp, Sb _, h0⟩, ?_⟩
 rintro i m σ H ⟨rfl, hi, p⟩
 by_cases hlt : i < n
 ·refine .inr ⟨hlt, Pv (i + 1), fun σ' H' p' => ⟨n - (i + 1), by lia, rfl, hlt, p'⟩, fun x H' y => ?_⟩
  obtain ⟨rfl, rfl⟩ := y
  exact hs i σ _ hlt p
 ·have e : i = n := by lia
  subst e
  exact .inl ⟨S9 _, hd σ H p⟩
theorem DQ {K : RU} {a : Addr} {js : List Nat} {xs : List V} {te : TE} {σ : St} {H : Hp} {Fin : List V → Hp → Prop} (Pv : Nat → List V → Hp → Prop) (h0 : Pv 0 [] H)
 (hl : ∀ i zs H, i ≤ xs.length → Pv i zs H → SqL K H a xs ∧ zs.length = i) (hz : xs.length ≤ sizeLine)
 (hs : ∀ i x zs H, xs[i]? = some x → Pv i zs H → te ((cS 1 js σ).set 0 (some x)) H fun y H4 => Pv (i + 1) (zs ++ [y]) H4) (fin : ∀ zs H', Pv xs.length zs H' → Fin zs H') :
 ∃ (n' : Nat) (W : Nat → List V → Hp → Prop), W 0 [] H ∧ LcW (Itl K a) n' 1 js σ (Cr 0) Lk te Fin W := by
 refine ⟨xs.length, Pv, h0, ⟨?_, ?_, ?_⟩⟩
 ·intro i zs H' hi p
  obtain ⟨h1, h2⟩ := hl i zs H' (RW hi) p
  exact ⟨⟨xs, xs[i], h1, by simp [hi]⟩, by lia⟩
 ·rintro i zs H' x H1 hi p ⟨rfl, y⟩
  exact hs i x zs _ (y xs (hl i zs _ (RW hi) p).1) p
 ·intro zs H' p
  obtain ⟨h1, h2⟩ := hl _ zs H' (S9 _) p
  exact ⟨⟨xs, h1, S9 _⟩, by lia, fin zs H' p⟩
end L2
namespace L2
open PySem PySem.Spec PyProof.Rows
theorem Kw {i : Nat} {v : V} {c : TT} {t u BY : TS} {D : CM} {σ : St} {H : Hp} (Pv : St → Hp → Prop) (h : ∀ nx : St → Hp → Prop, (∀ σ' H', Pv σ' H' → nx σ' H') → MP c t u { D with nx := nx } (σ.set i (some v)) H) (k : ∀ σ' H', Pv σ' H' → BY D σ' H') : Cr i v σ H (MN (MP c t u) BY D) := h _ k
theorem Bd.neg {n : Nat} {x : Int} (h : Bd n x) : Bd n (-x) := by unfold Bd at *; rw [Int.natAbs_neg]; exact h
theorem N4 {a c b : Rat} (hb : b ≠ 0) (h : a * b = c * b) : a = c := by
 have h2 : a * b * b⁻¹ = c * b * b⁻¹ := by rw [h]
 rw [Rat.mul_assoc, Rat.mul_assoc, Rat.mul_inv_cancel _ hb, Rat.mul_one, Rat.mul_one] at h2
 exact h2
theorem Mj {b : Int} (hb : b ≠ 0) (t : Int) : SW t b * (b : Rat) = (t : Rat) := by
 rw [T2]
 exact T3 (Nm.cast_ne hb)
theorem Kd {b : Int} (hb : b ≠ 0) (x : Rat) : ∀ ts : List Int, Cv.ev (ts.map fun t => SW t b) x * (b : Rat) = Cv.evI ts x
 | [] => by show (0 : Rat) * _ = 0; grind
 | t :: ts => by
   have ih := Kd hb x ts
   have e := Mj hb t
   show (SW t b + x * Cv.ev (ts.map fun t => SW t b) x) * (b : Rat) = (t : Rat) + x * Cv.evI ts x
   rw [← ih, ← e]
   grind
theorem HL {α : Type} {l : List α} {n i : Nat} {v : α} (hn : l.length = n) (hi : i < n) (h : l[n - 1 - i]? = some v) : l.drop (n - (i + 1)) = v :: l.drop (n - i) := by
 have hlt : n - (i + 1) < l.length := by rw [hn]; exact Nat.sub_lt (SQ (Sb _) hi) (TL i)
 rw [List.drop_eq_getElem_cons hlt, show n - (i + 1) + 1 = n - i from Nat.succ_pred_eq_of_pos (Nat.sub_pos_of_lt hi)]
 congr 1
 have e : l[n - (i + 1)]? = some v := by rw [show n - (i + 1) = n - 1 - i by rw [Nat.sub_sub, Nat.add_comm]]; exact h
 rw [Tx hlt] at e
 exact RL.inj e
theorem Mv.put' {a l : Addr} {H H' : Hp} {o : HO} (m : Mv a H H') (hl : H l = none) : Mv a H (upd H' l o) := fun b u n q => by rw [Am (Au q hl)]; exact m b u n q
theorem Pen.put' {H : Hp} {a l : Addr} {o : HO} (h : Pen H a) (la : l ≠ a) : Pen (upd H l o) a := let ⟨x0, x1, x2, ex⟩ := h; ⟨x0, x1, x2, by rw [Am (Ne.symm la)]; exact ex⟩
theorem Pen.ne' {H : Hp} {a l : Addr} (h : Pen H a) (hl : H l = none) : l ≠ a := let ⟨_, _, _, ex⟩ := h; (Au ex hl).symm
def Q8 (K : RU) (H : Hp) (x : V) (rs : List Rat) : Prop := ∃ a ys, x = .ref a ∧ SqL K H a ys ∧ Ap K H ys rs
abbrev Rows (K : RU) (H : Hp) : List V → List (List Rat) → Prop := Paired (Q8 K H)
end L2
namespace L2
open PySem PySem.Spec PyProof.Rows
section
variable {X : Cx}
@[irreducible] def Ir (K : RU) (neg : Bool) : R2 := fun x y H Q => ∃ p ds d, y = .ref p ∧ Rds K H (.ref p) (.list ds) ∧ Rds K H x d ∧ SeqAt.shaped (.list ds) = true ∧ SeqAt.shaped d = true ∧ Q (.bl (if neg then !(ds.any fun y => PyData.eqv y d) else ds.any fun y => PyData.eqv y d)) H
theorem M8 {K : RU} {neg : Bool} {x y : V} {H : Hp} {Q : VK} (h : ∃ p ds d, y = .ref p ∧ Rds K H (.ref p) (.list ds) ∧ Rds K H x d ∧ SeqAt.shaped (.list ds) = true ∧ SeqAt.shaped d = true ∧ Q (.bl (if neg then !(ds.any fun y => PyData.eqv y d) else ds.any fun y => PyData.eqv y d)) H) : Ir K neg x y H Q := by
 unfold Ir; exact h
theorem inD (K : RU) {k : Nat} (hr : BZ k X.A) (e : X.K = K := by rfl) : OpR X (compareOp .In) (Ir K false) := by
 subst e
 intro pins s σ H x y v u Q I rx ry h
 unfold Ir at h
 obtain ⟨p, ds, d, rfl, r1, r2, h1, h2, q⟩ := h
 cases ry
 obtain ⟨as, q1⟩ := Cc I r1 (u := .ref p) rfl
 obtain ⟨bs, q2⟩ := Cc I r2 rx
 exact SeqAt.in_list_reads q1 q2 (SeqAt.canLay_of_shaped h1) (SeqAt.canLay_of_shaped h2) (PyProof.Rows.room_in_shaped h2 (by have := hr.un; lia)) ⟨.bl _, H, I, rfl, q⟩
theorem Ou (K : RU) {k : Nat} (hr : BZ k X.A) (e : X.K = K := by rfl) : OpR X (compareOp .NotIn) (Ir K true) := by
 subst e
 intro pins s σ H x y v u Q I rx ry h
 unfold Ir at h
 obtain ⟨p, ds, d, rfl, r1, r2, h1, h2, q⟩ := h
 cases ry
 obtain ⟨as, q1⟩ := Cc I r1 (u := .ref p) rfl
 obtain ⟨bs, q2⟩ := Cc I r2 rx
 exact SeqAt.notIn_list_reads q1 q2 (SeqAt.canLay_of_shaped h1) (SeqAt.canLay_of_shaped h2) (PyProof.Rows.room_in_shaped h2 (by have := hr.un; lia)) ⟨.bl _, H, I, rfl, q⟩
end
theorem Mu (q : Rat) : ∀ qs : List Rat, ((qs.map nD).any fun y => PyData.eqv y (nD q)) = decide (q ∈ qs)
 | [] => by simp
 | c :: r => by
   rw [SO, SG, JC, Mu q r, Bool.eq_iff_iff]
   simp only [Bool.or_eq_true, decide_eq_true_eq, S1]
   constructor
   ·rintro (h | h)
    ·exact .inl h.symm
    ·exact .inr h
   ·rintro (h | h)
    ·exact .inl h.symm
    ·exact .inr h
theorem inN {K : RU} {H : Hp} {x : V} {a : Addr} {xs : List V} {q : Rat} {qs : List Rat} {Q : VK} {neg : Bool} (h1 : AB K H x q) (s2 : SqL K H a xs) (n2 : Ap K H xs qs) (h : Q (.bl (if neg then !decide (q ∈ qs) else decide (q ∈ qs))) H) : Ir K neg x (.ref a) H Q :=
 M8 ⟨a, _, _, rfl, n2.rdsL s2, h1.rds, HC _, EB _, by rw [Mu]; exact h⟩
def PtV (K : RU) (H : Hp) (x : V) (ps : List Rat) : Prop := ∃ a, x = .ref a ∧ Crv K H a ps
abbrev Pts (K : RU) (H : Hp) : List V → List (List Rat) → Prop := Paired (PtV K H)
theorem PtV.same {K : RU} {H H' : Hp} {x : V} {ps : List Rat} (h : PtV K H x ps) (e : Af H H') : PtV K H' x ps := let ⟨a, h1, h2⟩ := h; ⟨a, h1, h2.same e⟩
theorem PtV.put {K : RU} {H : Hp} {x : V} {ps : List Rat} {p : Addr} {ys : List V} {o : HO} (h : PtV K H x ps) (hp : H p = some (.lst ys)) : PtV K (upd H p o) x ps := let ⟨a, h1, h2⟩ := h; ⟨a, h1, h2.put hp⟩
theorem Pts.same {K : RU} {H H' : Hp} {xs : List V} {pss : List (List Rat)} (h : Pts K H xs pss) (e : Af H H') : Pts K H' xs pss := Paired.mapP h fun _ _ z => z.same e
theorem Pts.put {K : RU} {H : Hp} {xs : List V} {pss : List (List Rat)} {p : Addr} {ys : List V} {o : HO} (h : Pts K H xs pss) (hp : H p = some (.lst ys)) : Pts K (upd H p o) xs pss := Paired.mapP h fun _ _ z => z.put hp
structure FY where
 x : Rat
 k : Int
 n : Rat
deriving DecidableEq
end L2
namespace L2
open PySem PySem.Spec PyProof.Rows
section
variable {X : Cx} {e : Expr} {te : TE}
end
def HX (t : TGs) (nt : Nat) : Prop := ∀ (vs : List V) (σ : St) (H : Hp) (Q : St → Hp → Prop) (σ0 : St), (σ.length = σ0.length ∧ σ.drop nt = σ0.drop nt) → t vs σ H Q → t vs σ H fun σ2 H2 => (σ2.length = σ0.length ∧ σ2.drop nt = σ0.drop nt) ∧ Q σ2 H2
theorem Fj {nt : Nat} : HX Nr nt := fun _ _ _ _ _ r ⟨e, q⟩ => ⟨e, r, q⟩
theorem Cw {i nt : Nat} {u : TGs} (h : i < nt) (hu : HX u nt) : HX (FU (Cr i) u) nt := fun vs σ H Q σ0 r ⟨v, rs, e, q⟩ => ⟨v, rs, e, hu rs (σ.set i (some v)) H Q σ0 ⟨by rw [SF]; exact r.1, by
 rw [← r.2]
 apply Tr
 intro k
 rw [Ts, Ts, S5 (by lia)]⟩ q⟩
theorem Gs {K : RU} {n nt : Nat} {t : TGs} (h : HX t nt) : Jc (KS K n t) nt := fun _ σ H Q ⟨a, xs, e, s, l, q⟩ => ⟨a, xs, e, s, l, h xs σ H Q σ ⟨rfl, rfl⟩ q⟩
end L2
namespace L2
def Bq : List Rat → List Rat → List Rat
 | [], m => m
 | a :: l, [] => a :: l
 | a :: l, b :: m => (a + b) :: Bq l m
theorem J9 (l : List Rat) : Bq l [] = l := by cases l <;> rfl
theorem BC (x : Rat) : ∀ l m, Cv.ev (Bq l m) x = Cv.ev l x + Cv.ev m x
 | [], m => by show _ = 0 + _; grind [Bq]
 | a :: l, [] => by show _ = _ + 0; rw [Bq]; grind
 | a :: l, b :: m => by
   have ih := BC x l m
   show (a + b) + x * Cv.ev (Bq l m) x = (a + x * Cv.ev l x) + (b + x * Cv.ev m x)
   rw [ih]; grind
theorem Bc : ∀ l m, (Bq l m).length = max l.length m.length
 | [], m => by show m.length = max 0 m.length; lia
 | a :: l, [] => by show l.length + 1 = max (l.length + 1) 0; lia
 | a :: l, b :: m => by
   have ih := Bc l m
   show (Bq l m).length + 1 = max (l.length + 1) (m.length + 1)
   lia
theorem Ja : ∀ (l m : List Rat) (i : Nat), l.length ≤ i → (Bq l m)[i]? = m[i]?
 | [], m, i, _ => rfl
 | a :: l, [], i, h => by rw [J9, TM h]; rfl
 | a :: l, b :: m, 0, h => by simp at h
 | a :: l, b :: m, i + 1, h => by
   have ih := Ja l m i (by simpa using h)
   show (Bq l m)[i]? = m[i]?
   exact ih
def Ds : List Rat → List Rat → List Rat
 | [], _ => []
 | a :: l, m => Bq (m.map (· * a)) (0 :: Ds l m)
theorem Ee (x : Rat) (m : List Rat) : ∀ l, Cv.ev (Ds l m) x = Cv.ev l x * Cv.ev m x
 | [] => by show (0 : Rat) = 0 * _; grind
 | a :: l => by
   have ih := Ee x m l
   show Cv.ev (Bq (m.map (· * a)) (0 :: Ds l m)) x = (a + x * Cv.ev l x) * _
   rw [BC, Cv.ev_scale]
   show _ + (0 + x * Cv.ev (Ds l m) x) = _
   rw [ih]; grind
theorem Dr (m : List Rat) (hm : 1 ≤ m.length) : ∀ l, 1 ≤ l.length → (Ds l m).length = l.length + m.length - 1
 | [], h => by simp at h
 | [a], _ => by
   show (Bq (m.map (· * a)) [0]).length = 1 + m.length - 1
   rw [Bc, Su]
   show max m.length 1 = _
   lia
 | a :: b :: l, _ => by
   have ih := Dr m hm (b :: l) (by simp)
   show (Bq (m.map (· * a)) (0 :: Ds (b :: l) m)).length = l.length + 1 + 1 + m.length - 1
   rw [Bc, Su]
   show max m.length ((Ds (b :: l) m).length + 1) = _
   rw [ih]
   show max m.length (l.length + 1 + m.length - 1 + 1) = _
   lia
theorem GA (m : List Rat) (u : Rat) (hu : m[m.length - 1]? = some u) : ∀ (l : List Rat) (v : Rat), l[l.length - 1]? = some v → (Ds l m)[l.length + m.length - 2]? = some (u * v)
 | [], v, h => by simp at h
 | [a], v, h => by
   have hm : m.length - 1 < m.length := (S4.mp hu).1
   have e : a = v := by simpa using h
   subst e
   show (Bq (m.map (· * a)) [0])[1 + m.length - 2]? = _
   cases m with
   | nil => simp at hm
   | cons b m' =>
     rw [show 1 + (b :: m').length - 2 = m'.length by simp only [Td]; lia]
     have hu' : (b :: m')[m'.length]? = some u := hu
     cases m' with
     | nil =>
       have e : b = u := by simpa using hu'
       subst e
       show some (b * a + 0) = some (b * a)
       congr 1; grind
     | cons c m'' =>
       show (Bq ((c :: m'').map (· * a)) [])[m''.length]? = _
       rw [J9, Sn]
       have hu2 : (c :: m'')[m''.length]? = some u := hu'
       rw [hu2]; rfl
 | a :: b :: l, v, h => by
   have hm : m.length - 1 < m.length := (S4.mp hu).1
   have ih := GA m u hu (b :: l) v h
   show (Bq (m.map (· * a)) (0 :: Ds (b :: l) m))[l.length + 1 + 1 + m.length - 2]? = _
   rw [Ja _ _ _ (by rw [Su]; lia)]
   rw [show l.length + 1 + 1 + m.length - 2 = (l.length + 1 + m.length - 2) + 1 by lia]
   exact ih
theorem Ka {l m : List Rat} (hm : Cu m) (hle : l.length ≤ m.length) (h : ∀ x, Cv.ev l x = Cv.ev m x) : l = m := by
 have e : l ++ Si (m.length - l.length) 0 = m := by
  refine Cv.same_of _ _ (by rw [Ss, Sv]; lia) fun x => ?_
  rw [← Cv.ev_strip, Cv.strip_zeros, Cv.ev_strip]
  exact h x
 by_cases hlt : l.length < m.length
 ·rcases hm with hm | ⟨q, hq, q0⟩
  ·rw [hm] at hlt; simp at hlt
  ·exfalso
   rw [← e, Ss, Sv, Sk (by lia), Sl, if_pos (by lia)] at hq
   exact q0 (RL.inj hq).symm
 ·rw [show m.length - l.length = 0 by lia, List.replicate_zero, Sf] at e
  exact e
theorem Eb {l m : List Rat} (hl : Cu l) (hm : Cu m) (h : ∀ x, Cv.ev l x = Cv.ev m x) : l = m := by
 by_cases hle : l.length ≤ m.length
 ·exact Ka hm hle h
 ·exact (Ka hl (by lia) fun x => (h x).symm).symm
open PySem PySem.Spec PyProof.Rows
end L2
namespace L2
def ch : Nat → Nat → Nat
 | _, 0 => 1
 | 0, _ + 1 => 0
 | n + 1, k + 1 => ch n k + ch n (k + 1)
def goL (a b : Rat) : Rat → List Rat → List Rat
 | p, [] => [a * p]
 | p, c :: r => (a * p + b * c) :: goL a b c r
def NP (a b : Rat) : List Rat → List Rat
 | [] => []
 | q :: r => match NP a b r with
   | [] => [q]
   | c :: s => (q + b * c) :: goL a b c s
end L2
namespace L2
def sd : List Rat → List Rat
 | [] => []
 | [_] => []
 | _ :: p :: r => Bq (0 :: sd (p :: r)) (NP 1 1 (p :: r))
end L2
namespace L2
open PySem PySem.Spec PyProof.Rows PySem.SeqAt
end L2
namespace L2
def dL : List Rat → List Rat
 | [] => []
 | _ :: r => Bq r (0 :: dL r)
def ty (x : Rat) : List Rat → List Rat
 | [] => []
 | q :: r => Bq (q :: ty x r) ((ty x r).map (· * x))
theorem Cq : ∀ (l m : List Rat) (k : Nat), (Bq l m).getD k 0 = l.getD k 0 + m.getD k 0
 | [], m, k => by show m.getD k 0 = 0 + m.getD k 0; grind
 | a :: l, [], k => by show (a :: l).getD k 0 = (a :: l).getD k 0 + 0; grind
 | a :: l, b :: m, 0 => rfl
 | a :: l, b :: m, k + 1 => Cq l m k
theorem BG (y : Rat) (l : List Rat) (k : Nat) : (l.map (· * y)).getD k 0 = l.getD k 0 * y := by
 rw [Tq, Tq, Sn]
 cases l[k]? with
 | none => show (0 : Rat) = 0 * y; grind
 | some t => rfl
theorem J3 {l m : List Rat} (h : ∀ k : Nat, Cv.ev l ((k : Nat) : Rat) = Cv.ev m ((k : Nat) : Rat)) (k : Nat) : l.getD k 0 = m.getD k 0 := by
 have z := Cv.ident _ (Bq l (m.map (· * (-1)))) (S9 _) 0 fun k _ => by
  rw [BC, Cv.ev_scale, h k]; grind
 have e : (Bq l (m.map (· * (-1)))).getD k 0 = 0 := by
  rw [Tq]
  cases q : (Bq l (m.map (· * (-1))))[k]? with
  | none => rfl
  | some t => exact z t (Sr q)
 rw [Cq, BG] at e
 grind
def quo (c : Rat) : List Rat → List Rat
 | [] => []
 | _ :: r => Bq r ((quo c r).map (· * c))
theorem LB (c x : Rat) : ∀ l, Cv.ev l x = Cv.ev l c + (x - c) * Cv.ev (quo c l) x
 | [] => by show (0 : Rat) = 0 + _ * 0; grind
 | q :: r => by
   have ih := LB c x r
   show q + x * Cv.ev r x = (q + c * Cv.ev r c) + (x - c) * Cv.ev (Bq r ((quo c r).map (· * c))) x
   rw [BC, Cv.ev_scale]
   have h : (x - c) * (Cv.ev r x + Cv.ev (quo c r) x * c) = x * Cv.ev r x - c * (Cv.ev r x - (x - c) * Cv.ev (quo c r) x) := by grind
   rw [h, show Cv.ev r x - (x - c) * Cv.ev (quo c r) x = Cv.ev r c by grind]
   grind
theorem Fw (c : Rat) : ∀ l, (quo c l).length = l.length - 1
 | [] => rfl
 | q :: r => by
   have ih := Fw c r
   show (Bq r ((quo c r).map (· * c))).length = r.length
   rw [Bc, Su, ih]
   lia
end L2
namespace L2
def prL : List Rat → List Rat
 | [] => [1]
 | o :: os => Ds [-o, 1] (prL os)
def prV (x : Rat) : List Rat → Rat
 | [] => 1
 | o :: os => (x - o) * prV x os
theorem Ju (x : Rat) : ∀ os, Cv.ev (prL os) x = prV x os
 | [] => by show (1 : Rat) + x * 0 = 1; grind
 | o :: os => by
   show Cv.ev (Ds [-o, 1] (prL os)) x = _
   rw [Ee, Ju x os]
   show (-o + x * (1 + x * 0)) * prV x os = (x - o) * prV x os
   grind
theorem Jt {x : Rat} : ∀ {os : List Rat}, x ∈ os → prV x os = 0
 | o :: os, h => by
   show (x - o) * prV x os = 0
   rcases S1.mp h with e | e
   ·rw [e]; grind
   ·rw [Jt e]; grind
end L2
namespace L2
open PySem PySem.Spec PyProof.Rows
theorem Fc {K : RU} {a : Addr} {js : List Nat} {xs : List V} {tc : TT} {te : TE} {σ : St} {H : Hp} {Fin : List V → Hp → Prop} (Pv : Nat → List V → Hp → Prop) (h0 : Pv 0 [] H)
 (hl : ∀ i zs H, i ≤ xs.length → Pv i zs H → SqL K H a xs ∧ zs.length ≤ i) (hz : xs.length ≤ sizeLine)
 (hs : ∀ i x zs H, xs[i]? = some x → Pv i zs H → tc ((cS 1 js σ).set 0 (some x)) H fun b H3 => if b = true then te ((cS 1 js σ).set 0 (some x)) H3 fun y H4 => Pv (i + 1) (zs ++ [y]) H4 else Pv (i + 1) zs H3) (fin : ∀ zs H', Pv xs.length zs H' → Fin zs H') :
 ∃ (n' : Nat) (W : Nat → List V → Hp → Prop), W 0 [] H ∧ LcW (Itl K a) n' 1 js σ (Cr 0) tc te Fin W := by
 refine ⟨xs.length, Pv, h0, ⟨?_, ?_, ?_⟩⟩
 ·intro i zs H' hi p
  obtain ⟨h1, h2⟩ := hl i zs H' (RW hi) p
  exact ⟨⟨xs, xs[i], h1, by simp [hi]⟩, by lia⟩
 ·rintro i zs H' x H1 hi p ⟨rfl, y⟩
  exact hs i x zs _ (y xs (hl i zs _ (RW hi) p).1) p
 ·intro zs H' p
  obtain ⟨h1, h2⟩ := hl _ zs H' (S9 _) p
  exact ⟨⟨xs, h1, S9 _⟩, by lia, fin zs H' p⟩
end L2
namespace PySem
open Sem (wp)
open Builtin
set_option maxRecDepth 100000
end PySem
namespace L2
open PySem PySem.Spec PyProof.Rows
variable {X : Cx}
end L2
namespace L2
open PySem PySem.Spec PyProof.Rows
def tpD (rs : List Rat) : PyData := .tuple (rs.map nD)
theorem PtV.rds {K : RU} {H : Hp} {x : V} {ps : List Rat} (h : PtV K H x ps) : Rds K H x (tpD ps) := by
 obtain ⟨a, rfl, xs, s, n⟩ := h
 exact n.rdsT s
theorem Ii : ∀ ps qs : List (List Rat), PyData.eqvAll (ps.map tpD) (qs.map tpD) = decide (ps = qs)
 | [], [] => rfl
 | [], _ :: _ => rfl
 | _ :: _, [] => rfl
 | p :: ps, q :: qs => by
   show (PyData.eqv (tpD p) (tpD q) && PyData.eqvAll (ps.map tpD) (qs.map tpD)) = _
   have e : PyData.eqv (tpD p) (tpD q) = decide (p = q) := DD p q
   rw [e, Ii ps qs, Bool.eq_iff_iff]
   simp
theorem Ih : ∀ qs : List (List Rat), PyData.canLayAll0 (qs.map tpD) = true
 | [] => rfl
 | q :: r => by
   show (PyData.canLayAll0 (q.map nD) && PyData.canLayAll0 (r.map tpD)) = true
   rw [DC q, Ih r]; rfl
theorem Fh : ∀ qs : List (List Rat), PyData.depthAll (qs.map tpD) ≤ 2
 | [] => Sb _
 | q :: r => by
   have ih := Fh r
   have iq := Co q
   show max (PyData.depthAll (q.map nD) + 1) (PyData.depthAll (r.map tpD)) ≤ 2
   exact Nat.max_le.mpr ⟨by lia, ih⟩
theorem Fg (qs : List (List Rat)) : SeqAt.shaped (.list (qs.map tpD)) = true := by
 show (PyData.canLayAll0 (qs.map tpD) && decide (PyData.depthAll (qs.map tpD) + 1 ≤ 64)) = true
 rw [Ih, Bool.true_and]
 exact decide_eq_true (by have := Fh qs; lia)
theorem Pts.rds {K : RU} {H : Hp} {xs : List V} {rss : List (List Rat)} (h : Pts K H xs rss) : ∀ (i : Nat) x d, xs[i]? = some x → (rss.map tpD)[i]? = some d → Rds K H x d := fun i x d e1 e2 => by
 obtain ⟨q, hq, hn⟩ := Paired.get h e1
 rw [Sn, hq] at e2
 cases e2
 exact hn.rds
theorem Q6 {K : RU} {H : Hp} {a b : Addr} {xs ys : List V} {ps qs : List (List Rat)} {Q : VK} {neg : Bool} (s1 : SqL K H a xs) (n1 : Pts K H xs ps) (s2 : SqL K H b ys) (n2 : Pts K H ys qs) (h : Q (.bl (if neg then !decide (ps = qs) else decide (ps = qs))) H) : EN K neg (.ref a) (.ref b) H Q := by
 refine HK ⟨_, _, .lst s1 (by rw [n1.length, Su]) n1.rds, .lst s2 (by rw [n2.length, Su]) n2.rds, Fg _, Fg _, ?_⟩
 have e : PyData.eqv (.list (ps.map tpD)) (.list (qs.map tpD)) = decide (ps = qs) := Ii ps qs
 rw [e]; exact h
end L2
namespace L2
open PySem PySem.Spec PyProof.Rows
def kQ (q : Rat) : List Key := [.inl q.num, .inl (q.den : Int)]
theorem OI {p q : Rat} (h : kQ p = kQ q) : p = q := by
 unfold kQ at h
 injection h with h1 h2
 injection h2 with h2 _
 injection h1 with h1
 injection h2 with h2
 exact Rat.ext h1 (Int.ofNat.inj h2)
def Ej (H : Hp) (x : V) (q : Rat) : Prop := ∃ r, x = .ref r ∧ H r = some (nT q)
abbrev AE (H : Hp) : List V → List Rat → Prop := Paired (Ej H)
theorem Ej.num {K : RU} {H : Hp} {x : V} {q : Rat} (h : Ej H x q) : AB K H x q := let ⟨r, e, h⟩ := h; ⟨r, e, SqT.of h⟩
theorem Ej.same {H H' : Hp} {x : V} {q : Rat} (h : Ej H x q) (e : Af H H') : Ej H' x q := let ⟨r, z, h⟩ := h; ⟨r, z, e _ _ h⟩
theorem Ej.mv {H H' : Hp} {x : V} {q : Rat} {p : Addr} (h : Ej H x q) (pn : Pen H p) (m : Mv p H H') : Ej H' x q := let ⟨r, z, h⟩ := h; ⟨r, z, m r _ (pn.ne h (Pm q)) h⟩
theorem Ej.put {H : Hp} {x : V} {q : Rat} {p : Addr} {ys : List V} {o : HO} (h : Ej H x q) (hp : H p = some (.lst ys)) : Ej (upd H p o) x q := let ⟨r, z, h⟩ := h; ⟨r, z, by rw [Am (EJ h hp (fun z => by cases z))]; exact h⟩
theorem AE.nums {K : RU} {H : Hp} {xs : List V} {qs : List Rat} (h : AE H xs qs) : Ap K H xs qs := Paired.mapP h fun _ _ z => z.num
theorem AE.same {H H' : Hp} {xs : List V} {qs : List Rat} (h : AE H xs qs) (e : Af H H') : AE H' xs qs := Paired.mapP h fun _ _ z => z.same e
theorem AE.mv {H H' : Hp} {xs : List V} {qs : List Rat} {p : Addr} (h : AE H xs qs) (pn : Pen H p) (m : Mv p H H') : AE H' xs qs := Paired.mapP h fun _ _ z => z.mv pn m
theorem AE.put {H : Hp} {xs : List V} {qs : List Rat} {p : Addr} {ys : List V} {o : HO} (h : AE H xs qs) (hp : H p = some (.lst ys)) : AE (upd H p o) xs qs := Paired.mapP h fun _ _ z => z.put hp
def PtT (K : RU) (H : Hp) (x : V) (ps : List Rat) : Prop := ∃ a us p, x = .ref a ∧ SqT K H a us ∧ Ap K H us ps ∧ us[0]? = some (.ref p) ∧ H p = some (nT (ps.getD 0 0))
abbrev Cg (K : RU) (H : Hp) : List V → List (List Rat) → Prop := Paired (PtT K H)
section
variable {K : RU} {H H' : Hp} {x : V} {ps : List Rat} {xs : List V} {pss : List (List Rat)} {p : Addr} {ys : List V} {o : HO}
theorem PtT.same (h : PtT K H x ps) (e : Af H H') : PtT K H' x ps := let ⟨a, us, b, z, h1, h2, h3, h4⟩ := h; ⟨a, us, b, z, h1.same e, h2.same e, h3, e _ _ h4⟩
theorem Cg.same (h : Cg K H xs pss) (e : Af H H') : Cg K H' xs pss := Paired.mapP h fun _ _ z => z.same e
end
def TlT (K : RU) (H : Hp) (v : V) (t : FY) : Prop := ∃ a p rn, v = .ref a ∧ SqT K H a [.ref p, .int t.k, rn] ∧ H p = some (nT t.x) ∧ AB K H rn t.n
abbrev FZ (K : RU) (H : Hp) : List V → List FY → Prop := Paired (TlT K H)
section
variable {K : RU} {H H' : Hp} {x : V} {t : FY} {xs : List V} {ts : List FY} {p : Addr} {ys : List V} {o : HO}
theorem TlT.same (h : TlT K H x t) (e : Af H H') : TlT K H' x t := let ⟨a, b, rn, z, h1, h2, h3⟩ := h; ⟨a, b, rn, z, h1.same e, e _ _ h2, h3.same e⟩
theorem TlT.put (h : TlT K H x t) (hp : H p = some (.lst ys)) : TlT K (upd H p o) x t := let ⟨a, b, rn, z, h1, h2, h3⟩ := h; ⟨a, b, rn, z, h1.put hp, by rw [Am (EJ h2 hp (fun z => by cases z))]; exact h2, h3.put hp⟩
theorem FZ.same (h : FZ K H xs ts) (e : Af H H') : FZ K H' xs ts := Paired.mapP h fun _ _ z => z.same e
theorem FZ.put (h : FZ K H xs ts) (hp : H p = some (.lst ys)) : FZ K (upd H p o) xs ts := Paired.mapP h fun _ _ z => z.put hp
end
end L2
namespace L2
theorem CV : ∀ os, (prL os).length = os.length + 1
 | [] => rfl
 | o :: os => by
   have ih := CV os
   show (Bq ((prL os).map (· * -o)) (0 :: Bq ((prL os).map (· * 1)) (0 :: Ds [] (prL os)))).length = _
   have e : Ds [] (prL os) = [] := rfl
   rw [Bc, Su, Td, Bc, Su, e, ih]
   simp only [Td, TN]
   lia
def nwT (T : Nat → Nat → Rat) (x : Nat → Rat) (j : Nat) : Nat → List Rat
 | 0 => []
 | n + 1 => Bq (nwT T x j n) ((prL ((RQ n).map fun i => x (j + i))).map (· * T n j))
def prF (x : Nat → Rat) (j n : Nat) (X : Rat) : Rat := prV X ((RQ n).map fun i => x (j + i))
theorem K0 (X : Rat) : ∀ (l m : List Rat), prV X (l ++ m) = prV X l * prV X m
 | [], m => by show prV X m = 1 * prV X m; grind
 | a :: l, m => by
   show (X - a) * prV X (l ++ m) = (X - a) * prV X l * prV X m
   rw [K0 X l m]; grind
theorem FA (x : Nat → Rat) (j n : Nat) (X : Rat) : prF x j (n + 1) X = prF x j n X * (X - x (j + n)) := by
 unfold prF
 rw [TQ, Tg, K0]
 show _ * ((X - x (j + n)) * 1) = _
 grind
theorem Gy (x : Nat → Rat) (j : Nat) (X : Rat) : ∀ n, prF x j (n + 1) X = (X - x j) * prF x (j + 1) n X
 | 0 => by show (X - x (j + 0)) * 1 = (X - x j) * 1; rw [T7]
 | n + 1 => by
   rw [FA, Gy x j X n, FA, show j + (n + 1) = j + 1 + n by lia]; grind
theorem EA (T : Nat → Nat → Rat) (x : Nat → Rat) (j n : Nat) (X : Rat) : Cv.ev (nwT T x j (n + 1)) X = Cv.ev (nwT T x j n) X + T n j * prF x j n X := by
 show Cv.ev (Bq _ _) X = _
 rw [BC, Cv.ev_scale, Ju]
 show _ + prV X _ * _ = _ + _ * prV X _
 grind
def MB (T : Nat → Nat → Rat) (x : Nat → Rat) (N : Nat) : Prop := ∀ k j, j + k + 1 < N → T (k + 1) j * (x (j + k + 1) - x j) = T k (j + 1) - T k j
theorem IG {T : Nat → Nat → Rat} {x : Nat → Rat} {N : Nat} (h : MB T x N) (X : Rat) : ∀ n j, j + n < N → Cv.ev (nwT T x j (n + 1)) X = Cv.ev (nwT T x (j + 1) n) X + T n j * prF x (j + 1) n X
 | 0, j, _ => by
   rw [EA]
   show Cv.ev [] X + T 0 j * 1 = Cv.ev [] X + T 0 j * 1
   rfl
 | n + 1, j, hj => by
   have ih := IG h X n j (by lia)
   have hk := h n j (by lia)
   rw [EA, ih, EA T x (j + 1) n, Gy, FA x (j + 1) n, show j + 1 + n = j + n + 1 by lia]
   grind
theorem LO {T : Nat → Nat → Rat} {x : Nat → Rat} {N : Nat} (h : MB T x N) : ∀ n j i, j + n ≤ N → i < n → Cv.ev (nwT T x j n) (x (j + i)) = T 0 (j + i)
 | n + 1, j, i, hj, hi => by
   have IH := LO h n
   by_cases hin : i < n
   ·rw [EA, IH j i (by lia) hin]
    have : prF x j n (x (j + i)) = 0 := Jt (TR.mpr ⟨i, RT.mpr hin, rfl⟩)
    rw [this]; grind
   ·have e : i = n := by lia
    subst e
    match i, hj, IH with
    | 0, _, _ =>
      rw [EA]
      show (0 : Rat) + T 0 j * 1 = T 0 j
      grind
    | i + 1, hj, IH =>
      rw [IG h _ (i + 1) j (by lia)]
      have ih := IH (j + 1) i (by lia) (by lia)
      rw [show j + 1 + i = j + (i + 1) by lia] at ih
      rw [ih]
      have : prF x (j + 1) (i + 1) (x (j + (i + 1))) = 0 := Jt (TR.mpr ⟨i, RT.mpr (by lia), by show x (j + 1 + i) = _; rw [show j + 1 + i = j + (i + 1) by lia]⟩)
      rw [this]; grind
end L2
namespace HT
open PySem PyProof.Rows
open PySem.SeqAt
open PySem.AutoSeq1 (wpAny_loadPart')
open PySem.MeetsSeq PySem.MeetsSeq2 PySem.MeetsSeq3
end HT
namespace L2
open PySem PySem.Spec PyProof.Rows
section
variable {X : Cx} {K : RU}
end
theorem Dv (xs : List V) (v : Nat) : CD xs none (some (v : Int)) = xs.take v := by
 unfold CD
 have e1 : HT.sIx xs.length 0 none = 0 := rfl
 have e2 : HT.sIx xs.length xs.length (some (v : Int)) = min v xs.length := HT.sIx_nat _ _ v
 rw [e1, e2, TU, TV]
 by_cases h : v ≤ xs.length
 ·rw [Sz h]
 ·rw [SA (by lia), TX (S9 _), TX (by lia)]
end L2
namespace L2
open PySem PySem.Spec PyProof.Rows PySem.SeqAt
section
variable {X : Cx}
end
theorem Ef (xs : List V) (v : Nat) : CD xs (some (v : Int)) none = xs.drop v := by
 unfold CD
 have e1 : HT.sIx xs.length 0 (some (v : Int)) = min v xs.length := HT.sIx_nat _ _ v
 have e2 : HT.sIx xs.length xs.length none = xs.length := rfl
 rw [e1, e2]
 by_cases h : v ≤ xs.length
 ·rw [Sz h, TX (by rw [SD]; exact S9 _)]
 ·rw [SA (by lia), Nat.sub_self, TY, TZ (by lia)]
end L2
namespace L2
open PySem PySem.Spec PyProof.Rows
theorem Mq : bootBuiltins "zip" = some (.type "zip") := by decide +kernel
section
variable {X : Cx} {pins : List (Addr × Obj)} {σ : List (Option V)} {H : Hp} {s : Shared} {h' : Heap}
theorem Inv.turnedL {t' : Nat} {ch : List Addr} (I : Inv X pins σ H s) (k : ∀ b o, b ∉ ch → s.heap.get? b = some o → h'.get? b = some o) (hf : ∀ b ∈ ch, Dx X pins H b) : Inv X pins σ H { s with heap := h', toks := t' } := by
 have nit : ∀ b u, H b = some u → b ∉ ch := fun b u e z => by rw [(hf b z).1] at e; cases e
 refine I.step (g' := s.gens) (d' := s.drawn) (ch := ch) (fun b hb => ?_) (fun b o _ _ hc e _ => k b o hc e) (fun b o _ _ hc e _ => ⟨o.slots, k b o hc e⟩) (fun _ _ _ _ n => n)
  (fun b o hc e => ⟨o, k b o hc e⟩) (fun _ _ e => e) (fun _ _ _ e => e) (fun b ps e => ⟨#[], by rw [e]; simp⟩) (fun m hm => ?_) (fun b u e => ?_) I.bare
 ·obtain ⟨_, hL, _, h1, h2, h3⟩ := hf b hb
  exact ⟨h1, hL, h2, h3⟩
 ·obtain ⟨o, es, ep, ho, r⟩ := hm
  exact ⟨o, es, ep, k _ o (fun z => (hf _ z).2.1 rfl) ho, r⟩
 ·refine (I.hok b u e).stay (fun c v hc q => k c v ?_ q) (fun _ q => q) fun _ _ q => q
  rcases hc with z | z
  ·rw [z]; exact nit b u e
  ·exact nit c _ z
end
def Itz (K : RU) (a b : Addr) (xs ys : List V) : It :=
 ⟨fun i H => SqL K H a xs ∧ SqL K H b ys ∧ i < min xs.length ys.length,
  fun i H x H' => ∃ T x1 y1, xs[i]? = some x1 ∧ ys[i]? = some y1 ∧ H T = none ∧ x = .ref T ∧ H' = upd H T (.tup [x1, y1]),
  fun i H => SqL K H a xs ∧ SqL K H b ys ∧ min xs.length ys.length ≤ i⟩
theorem Li {P : Program} {w : World} {K : RU} {elts : List Expr} {kk} {pos : Pos} {a b z TI TO i1 i2 : Addr} (D : ZipApart z TI TO i1 i2 a b) (xs ys : List V) :
 Jb P w K (.Tuple elts kk pos) (Itz K a b xs ys) [z, TI, TO, i1, i2] z (fun i h => IsZip h z TI TO .none ∧ IsPair h TI (.ref i1) (.ref i2) ∧ (∃ u v, IsPair h TO u v) ∧ h.IsListIter i1 a i ∧ h.IsListIter i2 b i) where
 mem := by simp
 obj := fun i h st c hc => by
  obtain ⟨hz, hTI, ⟨u, v, hTO⟩, ⟨o1, e1, _, d1⟩, ⟨o2, e2, _, d2⟩⟩ := st
  have hc' : c = z ∨ c = TI ∨ c = TO ∨ c = i1 ∨ c = i2 := by simpa using hc
  rcases hc' with rfl | rfl | rfl | rfl | rfl
  ·exact ⟨_, hz, fun v z => by cases z⟩
  ·exact ⟨_, hTI, fun v z => by cases z⟩
  ·exact ⟨_, hTO, fun v z => by cases z⟩
  ·exact ⟨o1, e1, fun v z => by rw [d1] at z; cases z⟩
  ·exact ⟨o2, e2, fun v z => by rw [d2] at z; cases z⟩
 keep := fun i h h' st k => by
  obtain ⟨hz, hTI, ⟨u, v, hTO⟩, h1, h2⟩ := st
  exact ⟨k z (by simp) _ hz, k TI (by simp) _ hTI, ⟨u, v, k TO (by simp) _ hTO⟩, h1.at fun o e => k i1 (by simp) o e, h2.at fun o e => k i2 (by simp) o e⟩
 item := by
  intro X hP hw hK hc i pins s σ H E I hf st hg
  subst hP hw hK
  obtain ⟨hq1, hq2, hi⟩ := hg
  obtain ⟨its1, rv1, p1, _⟩ := I.list hq1
  obtain ⟨its2, rv2, p2, _⟩ := I.list hq2
  have hx : xs[i]? = some (xs[i]'(by lia)) := Tx (by lia)
  have hy : ys[i]? = some (ys[i]'(by lia)) := Tx (by lia)
  obtain ⟨u1, hu1, ru1⟩ := rv1.get hx
  obtain ⟨u2, hu2, ru2⟩ := rv2.get hy
  generalize xs[i]'(by lia) = x1 at hx ru1
  generalize ys[i]'(by lia) = y1 at hy ru2
  obtain ⟨hz, hTI, ⟨ta, tb, hTO⟩, h1, h2⟩ := st
  refine wpAny_pyNext_zip_item D hz hTI hTO h1 h2 p1.isList p2.isList (x := u1) (y := u2) (by simpa using hu1) (by simpa using hu2) fun h' a1 a2 a3 a4 a5 a6 a7 => ?_
  refine ⟨_, rfl, wpAny_letOwnedTupleGo_zip (s := { s with heap := h' }) a1 fun h'' b1 b2 => ?_⟩
  have lz : z < s.heap.objs.size := Heap.lt_size hz
  have lTI : TI < s.heap.objs.size := Heap.lt_size hTI
  have lTO : TO < s.heap.objs.size := Heap.lt_size hTO
  have l1 : i1 < s.heap.objs.size := by obtain ⟨_, e, _⟩ := h1; exact Heap.lt_size e
  have l2 : i2 < s.heap.objs.size := by obtain ⟨_, e, _⟩ := h2; exact Heap.lt_size e
  have I1 : Inv X pins σ (upd H s.heap.objs.size (.tup [x1, y1])) { s with heap := s.heap.push { cls := .type "tuple", data := .seq #[u1, u2] } } :=
   I.laid (t' := s.toks) (o := .tup [x1, y1]) (fun b ob q => Heap.get?_push_of_some _ q) (S9 _) ⟨by show 2 ≤ sizeLine; decide, [u1, u2], .cons ru1 (.cons ru2 .nil), IsTup.new _ _⟩
  have hfp : ∀ c ∈ [z, TI, TO, i1, i2], Dx X pins (upd H s.heap.objs.size (.tup [x1, y1])) c := fun c hc => by
   obtain ⟨f0, fr⟩ := hf c hc
   have hlt : c < s.heap.objs.size := by
    have hc' : c = z ∨ c = TI ∨ c = TO ∨ c = i1 ∨ c = i2 := by simpa using hc
    rcases hc' with rfl | rfl | rfl | rfl | rfl <;> assumption
   exact ⟨by rw [Am (RP hlt)]; exact f0, fr⟩
  have I2 := I1.turnedL (h' := h'') (t' := s.toks) (ch := [z, TO, i1, i2]) (fun c o hcn e => by
   have hcn' : c ≠ z ∧ c ≠ TO ∧ c ≠ i1 ∧ c ≠ i2 := by simpa using hcn
   obtain ⟨c1, c2, c3, c4⟩ := hcn'
   refine b2.extBut _ _ c1 ?_
   by_cases hcs : c = s.heap.objs.size
   ·subst hcs
    have e' : (s.heap.push { cls := .type "tuple", data := .seq #[u1, u2] }).get? s.heap.objs.size = some o := e
    rw [Heap.get?_push_size _ rfl] at e'
    cases e'
    exact a5
   ·have e' : (s.heap.push { cls := .type "tuple", data := .seq #[u1, u2] }).get? c = some o := e
    refine a7 c o c1 c2 c3 c4 ?_
    rw [Heap.get?_push_ne _ _ _ hcs] at e'
    exact e') (fun c hc => hfp c (by
     have hc' : c = z ∨ c = TO ∨ c = i1 ∨ c = i2 := by simpa using hc
     rcases hc' with rfl | rfl | rfl | rfl <;> simp))
  refine ⟨.ref s.heap.objs.size, upd H s.heap.objs.size (.tup [x1, y1]), I2, rfl, ⟨_, x1, y1, hx, hy, I.hok.fresh (S9 _), rfl, rfl⟩, ⟨b1, ?_, ⟨_, _, b2.extBut _ _ D.TOz a2⟩, a3.extBut b2.extBut D.i1z, a4.extBut b2.extBut D.i2z⟩, fun c hc => (hfp c hc).1⟩
  exact b2.extBut _ _ D.TIz (a7 _ _ D.TIz D.TITO D.TIi1 D.TIi2 hTI)
 done := by
  intro X hP hw hK hc i pins s σ H E I hf st hg
  subst hP hw hK
  obtain ⟨hq1, hq2, hi⟩ := hg
  obtain ⟨its1, rv1, p1, _⟩ := I.list hq1
  obtain ⟨its2, rv2, p2, _⟩ := I.list hq2
  have e1 := rv1.length
  have e2 := rv2.length
  obtain ⟨hz, hTI, ⟨ta, tb, hTO⟩, h1, h2⟩ := st
  refine wpAny_pyNext_zip_end (I.ok.hd hc) D hz hTI hTO h1 h2 p1.isList p2.isList ?_ fun h' k => ⟨rfl, I.turnedL (t' := s.toks) (ch := [z, TO, i1, i2]) (fun c o hcn e => by
   have hcn' : c ≠ z ∧ c ≠ TO ∧ c ≠ i1 ∧ c ≠ i2 := by simpa using hcn
   exact k c o hcn'.1 hcn'.2.1 hcn'.2.2.1 hcn'.2.2.2 e) fun c hc => hf c (by
    have hc' : c = z ∨ c = TO ∨ c = i1 ∨ c = i2 := by simpa using hc
    rcases hc' with rfl | rfl | rfl | rfl <;> simp)⟩
  by_cases h : xs.length ≤ i
  ·exact .inl (by rw [U0]; simp; lia)
  ·exact .inr (by rw [U0]; simp; lia)
 self := fun _ _ _ _ _ st h => wpAny_pyIter_zip st.1 h
section
variable {X : Cx}
def Po (K : RU) (ta : TA) : TI := fun σ H R => ta σ H fun vs H1 => ∃ a b xs ys, vs = [.ref a, .ref b] ∧ SqL K H1 a xs ∧ SqL K H1 b ys ∧ R (Itz K a b xs ys) H1
theorem Od {elts : List Expr} {kk} {pos' : Pos} {e1 e2 : Expr} {ta : TA} {p pos : Pos} (hg : Gl X "zip") (hm : X.mg "zip" = none) (ha : PA X [e1, e2] ta) (hs : starEach [e1, e2] X.env = [(false, eval e1 X.env), (false, eval e2 X.env)] := by rfl) (hs2 : starEach [e2] X.env = [(false, eval e2 X.env)] := by rfl) :
 PI X (.Tuple elts kk pos') (.Call (.Name "zip" p) [e1, e2] [] pos) (Po X.K ta) := by
 intro pins s σ H R I h
 refine Call_ (CZ I hg hm Mq (PyProof.Rows.callWith_type1 (thn (ha pos pins s σ H _ I h) fun us s1 ⟨vs, H1, I1, r1, q1⟩ => ?_) (by rw [hs, hs2]) (by rw [hs2]; rfl)))
 obtain ⟨a, b, xs, ys, e, hq1, hq2, q⟩ := q1
 subst e
 cases r1 with
 | cons r rr =>
   cases rr with
   | cons r' rr =>
     cases rr
     cases r
     cases r'
     obtain ⟨its1, rv1, p1, _⟩ := I1.list hq1
     obtain ⟨its2, rv2, p2, _⟩ := I1.list hq2
     have la : a < s1.heap.objs.size := by obtain ⟨_, e, _⟩ := p1.isList; exact Heap.lt_size e
     have lb : b < s1.heap.objs.size := by obtain ⟨_, e, _⟩ := p2.isList; exact Heap.lt_size e
     refine call_zip_2 p1.isList p2.isList fun h' hz hTI hTO hi1 hi2 hsz hk => ?_
     refine wpAny_pyIter_zip (s := { s1 with heap := h' }) hz ?_
     have D := zipApart_new la lb
     refine ⟨s1.heap.objs.size + 4, [s1.heap.objs.size + 4, s1.heap.objs.size + 2, s1.heap.objs.size + 3, s1.heap.objs.size, s1.heap.objs.size + 1], _, _, H1, rfl, I1.kept (t' := s1.toks) hk, Li D xs ys, ⟨hz, hTI, ⟨_, _, hTO⟩, hi1, hi2⟩, fun c hc => ?_, q⟩
     have hge : s1.heap.objs.size ≤ c := by
      have hc' : c = s1.heap.objs.size + 4 ∨ c = s1.heap.objs.size + 2 ∨ c = s1.heap.objs.size + 3 ∨ c = s1.heap.objs.size ∨ c = s1.heap.objs.size + 1 := by simpa using hc
      rcases hc' with rfl | rfl | rfl | rfl | rfl
      ·exact U1 _ _
      ·exact U1 _ _
      ·exact U1 _ _
      ·exact S9 _
      ·exact U1 _ _
     exact I1.fpOk hge (I1.hok.fresh hge)
theorem NK (K : RU) {elts : List Expr} {kk} {pos' : Pos} {e1 e2 : Expr} {ta : TA} {p pos : Pos} (hg : Gl X "zip") (hm : X.mg "zip" = none) (ha : PA X [e1, e2] ta) (hs : starEach [e1, e2] X.env = [(false, eval e1 X.env), (false, eval e2 X.env)] := by rfl) (hs2 : starEach [e2] X.env = [(false, eval e2 X.env)] := by rfl) (e : X.K = K := by rfl) :
 PI X (.Tuple elts kk pos') (.Call (.Name "zip" p) [e1, e2] [] pos) (Po K ta) := by subst e; exact Od hg hm ha hs hs2
end
theorem Kb {K : RU} {a b : Addr} {xs ys : List V} {g : TG} {tb : TS} {D : CM} {σ : St} {H : Hp} (Pv : Nat → St → Hp → Prop) (h0 : Pv 0 σ H) (hl : ∀ i σ H, i ≤ min xs.length ys.length → Pv i σ H → SqL K H a xs ∧ SqL K H b ys)
 (hs : ∀ i x y T σ H, xs[i]? = some x → ys[i]? = some y → H T = none → Pv i σ H → g (.ref T) σ (upd H T (.tup [x, y])) fun σ2 H2 => tb { D with nx := Pv (i + 1), ct := Pv (i + 1), bk := D.nx } σ2 H2) (hd : ∀ σ H, Pv (min xs.length ys.length) σ H → D.nx σ H) :
 ∃ W : Nat → Nat → St → Hp → Prop, (∃ m, W 0 m σ H) ∧ ∀ i m σ H, W i m σ H →
   ((Itz K a b xs ys).stop i H ∧ D.nx σ H) ∨ ((Itz K a b xs ys).go i H ∧ ∃ N : St → Hp → Prop, (∀ σ' H', N σ' H' → ∃ m', m' < m ∧ W (i + 1) m' σ' H') ∧ ∀ x H', (Itz K a b xs ys).yld i H x H' → g x σ H' fun σ2 H2 => tb { D with nx := N, ct := N, bk := D.nx } σ2 H2) := by
 refine ⟨fun i m σ H => m = min xs.length ys.length - i ∧ i ≤ min xs.length ys.length ∧ Pv i σ H, ⟨min xs.length ys.length, by simp, Sb _, h0⟩, ?_⟩
 rintro i m σ H ⟨rfl, hi, p⟩
 obtain ⟨q1, q2⟩ := hl i σ H hi p
 by_cases hlt : i < min xs.length ys.length
 ·refine .inr ⟨⟨q1, q2, hlt⟩, Pv (i + 1), fun σ' H' p' => ⟨min xs.length ys.length - (i + 1), by lia, rfl, hlt, p'⟩, fun x H' y => ?_⟩
  obtain ⟨T, x1, y1, hx, hy, hT, rfl, rfl⟩ := y
  exact hs i x1 y1 T σ _ hx hy hT p
 ·have e : i = min xs.length ys.length := by lia
  subst e
  exact .inl ⟨⟨q1, q2, S9 _⟩, hd σ H p⟩
end L2
namespace L2
open PySem PySem.Spec PyProof.Rows
namespace St
open SetTable
def it (mask : Nat) : Nat → Nat → Nat
 | 0, i => i
 | n + 1, i => it mask n ((i * 5 + 1) % (mask + 1))
theorem cover7 : ∀ i : Fin 8, ∀ e : Fin 8, ∃ m : Fin 8, it 7 m.val i.val = e.val := by decide +kernel
theorem cover31 : ∀ i : Fin 32, ∀ e : Fin 32, ∃ m : Fin 32, it 31 m.val i.val = e.val := by decide +kernel
theorem cover {mask : Nat} (hm : mask = 7 ∨ mask = 31) {i e : Nat} (hi : i < mask + 1) (he : e < mask + 1) : ∃ m, m ≤ mask ∧ it mask m i = e := by
 rcases hm with rfl | rfl
 ·obtain ⟨m, h⟩ := cover7 ⟨i, hi⟩ ⟨e, he⟩
  exact ⟨m.val, by lia, h⟩
 ·obtain ⟨m, h⟩ := cover31 ⟨i, hi⟩ ⟨e, he⟩
  exact ⟨m.val, by lia, h⟩
def bs (mask : Nat) (b : Nat) : Nat → Nat × Nat
 | 0 => (b % (mask + 1), b)
 | n + 1 => leap mask (bs mask b n).1 (bs mask b n).2
theorem bs_pert (mask b : Nat) : ∀ n, (bs mask b n).2 = b / 32 ^ n
 | 0 => by show b = b / 1; rw [Nat.div_one]
 | n + 1 => by
   show (bs mask b n).2 / 32 = _
   rw [bs_pert mask b n, Nat.div_div_eq_div_mul, TF]
theorem bs_lt (mask b : Nat) : ∀ n, (bs mask b n).1 < mask + 1
 | 0 => Nat.mod_lt _ (TL _)
 | _ + 1 => Nat.mod_lt _ (TL _)
theorem bits_lt (h : Int) : bits h < 2 ^ 64 := by
 unfold bits
 have h1 : (0 : Int) ≤ h % 2 ^ 64 := U2 _ (by decide)
 have h2 : h % 2 ^ 64 < 2 ^ 64 := U3 _ (by decide)
 lia
theorem bs_late {mask b n : Nat} (hb : b < 2 ^ 64) (hn : 13 ≤ n) : (bs mask b n).2 = 0 := by
 rw [bs_pert]
 refine Nat.div_eq_of_lt (RN hb ?_)
 exact RV (by decide : 2 ^ 64 ≤ 32 ^ 13) (TC (by decide) hn)
theorem bs_cyc {mask b : Nat} (hb : b < 2 ^ 64) : ∀ m n, 13 ≤ n → (bs mask b (n + m)).1 = it mask m (bs mask b n).1
 | 0, n, _ => rfl
 | m + 1, n, hn => by
   have ih := bs_cyc (mask := mask) hb m (n + 1) (by lia)
   rw [show n + (m + 1) = n + 1 + m by lia, ih]
   show it mask m (leap mask (bs mask b n).1 (bs mask b n).2).1 = it mask m (((bs mask b n).1 * 5 + 1) % (mask + 1))
   rw [bs_late hb hn]
   rfl
theorem bs_hits {mask b e : Nat} (hm : mask = 7 ∨ mask = 31) (hb : b < 2 ^ 64) (he : e < mask + 1) : ∃ n, n ≤ 13 + mask ∧ (bs mask b n).1 = e := by
 obtain ⟨m, h1, h2⟩ := cover hm (bs_lt mask b 13) he
 exact ⟨13 + m, by lia, by rw [bs_cyc hb m 13 (S9 _)]; exact h2⟩
def base (mask i pert : Nat) : Probe := { j := i, more := runEnd mask i - i, i, perturb := pert, dummy := none }
def advs (t : SetTable) : Nat → Probe → Probe
 | 0, p => p
 | n + 1, p => advs t n (t.advance p)
theorem advs_add (t : SetTable) : ∀ m n p, advs t (m + n) p = advs t n (advs t m p)
 | 0, n, p => by rw [U4]; rfl
 | m + 1, n, p => by rw [show m + 1 + n = (m + n) + 1 by lia]; exact advs_add t m n _
theorem run_le (mask i : Nat) : runEnd mask i - i ≤ 9 := by unfold runEnd; split <;> lia
theorem advs_run (t : SetTable) : ∀ (r j i pert : Nat), advs t (r + 1) { j := j, more := r, i := i, perturb := pert, dummy := none } = base t.mask (leap t.mask i pert).1 (leap t.mask i pert).2
 | 0, j, i, pert => rfl
 | r + 1, j, i, pert => by
   have ih := advs_run t r (j + 1) i pert
   show advs t (r + 1) (t.advance { j := j, more := r + 1, i := i, perturb := pert, dummy := none }) = _
   rw [← ih]
   rfl
theorem reach (t : SetTable) (h : Int) : ∀ n, ∃ k, k ≤ 10 * n ∧ advs t k (t.probeStart h) = base t.mask (bs t.mask (bits h) n).1 (bs t.mask (bits h) n).2
 | 0 => ⟨0, S9 _, rfl⟩
 | n + 1 => by
   obtain ⟨k, hk, e⟩ := reach t h n
   refine ⟨k + (runEnd t.mask (bs t.mask (bits h) n).1 - (bs t.mask (bits h) n).1 + 1), ?_, ?_⟩
   ·have := run_le t.mask (bs t.mask (bits h) n).1
    lia
   ·rw [advs_add, e]
    exact advs_run t _ _ _ _
theorem slot_empty {t : SetTable} (hd : t.dummies = #[]) {e : Nat} (he : ∀ i : Nat, t.place[i]? ≠ some e) : t.slot e = .empty := by
 unfold slot
 have h1 : (t.place[below t.place e]? == some e) = false := by
  rw [beq_eq_false_iff_ne]; exact he _
 have h2 : has t.dummies e = false := by
  rw [hd]; unfold has; rfl
 simp only [h1, h2]
 rfl
theorem slot_cases {t : SetTable} (hd : t.dummies = #[]) (j : Nat) : t.slot j = .empty ∨ ∃ i, t.slot j = .live i ∧ t.place[i]? = some j := by
 by_cases h : t.place[below t.place j]? = some j
 ·refine .inr ⟨below t.place j, ?_, h⟩
  unfold slot
  have h1 : (t.place[below t.place j]? == some j) = true := by rw [h]; exact beq_self_eq_true _
  simp only [h1]
  rfl
 ·refine .inl ?_
  unfold slot
  have h1 : (t.place[below t.place j]? == some j) = false := by rw [beq_eq_false_iff_ne]; exact h
  have h2 : has t.dummies j = false := by rw [hd]; unfold has; rfl
  simp only [h1, h2]
  rfl
def Hit (t : SetTable) (k : Nat) (p : Probe) : Prop := t.slot (advs t k p).j = .empty
theorem adv_dummy (t : SetTable) {p : Probe} (h : p.dummy = none) : (t.advance p).dummy = none := by
 unfold advance
 split
 ·exact h
 ·exact h
theorem go_hit {t : SetTable} (hd : t.dummies = #[]) {ha : Nat → Int} {h : Int} : ∀ (fuel k : Nat) (p : Probe), k < fuel → p.dummy = none → Hit t k p →
 (∃ j, probe.go t ha h fuel p = some (.empty j none)) ∨ ∃ j i next k', probe.go t ha h fuel p = some (.candidate j i next) ∧ t.slot j = .live i ∧ t.place[i]? = some j ∧ next.dummy = none ∧ Hit t k' next ∧ k' < k
 | fuel + 1, k, p, hk, hp, hh => by
   unfold probe.go
   rcases slot_cases hd p.j with z | ⟨i, z, zp⟩
   ·rw [z]
    exact .inl ⟨p.j, by simp only [hp]⟩
   ·rw [z]
    have hk0 : ∃ k', k = k' + 1 := by
     cases k with
     | zero => unfold Hit at hh; rw [show advs t 0 p = p from rfl, z] at hh; cases hh
     | succ k' => exact ⟨k', rfl⟩
    obtain ⟨k', rfl⟩ := hk0
    have hh' : Hit t k' (t.advance p) := hh
    by_cases hq : (ha i == h) = true
    ·refine .inr ⟨p.j, i, t.advance p, k', ?_, z, zp, adv_dummy t hp, hh', by lia⟩
     simp only [hq]
     rfl
    ·have hq' : (ha i == h) = false := by simpa using hq
     simp only [hq']
     rcases go_hit hd fuel k' (t.advance p) (by lia) (adv_dummy t hp) hh' with ⟨j, e⟩ | ⟨j, i', nx, k2, e, r1, r2, r3, r4, r5⟩
     ·exact .inl ⟨j, e⟩
     ·exact .inr ⟨j, i', nx, k2, e, r1, r2, r3, r4, by lia⟩
theorem nd_le : ∀ {l m : List Nat}, l.Nodup → (∀ x, x ∈ l → x ∈ m) → l.length ≤ m.length
 | [], m, _, _ => Sb _
 | a :: l, m, hn, hs => by
   rw [Sg] at hn
   have ha := hs a RY
   have ih := nd_le (l := l) (m := m.erase a) hn.2 fun x hx => (List.mem_erase_of_ne (fun e : x = a => hn.1 (e ▸ hx))).mpr (hs x (RZ _ hx))
   rw [List.length_erase_of_mem ha] at ih
   have := List.length_pos_of_mem ha
   rw [Td]; lia
theorem start_hit {t : SetTable} (hm : t.mask = 7 ∨ t.mask = 31) (hd : t.dummies = #[]) (hs : t.place.size ≤ t.mask) (h : Int) : ∃ k, k < 10 * turns t.mask ∧ Hit t k (t.probeStart h) := by
 have he : ∃ e, e < t.mask + 1 ∧ ∀ i : Nat, t.place[i]? ≠ some e := by
  refine Classical.byContradiction fun hn => ?_
  have hall : ∀ e, e < t.mask + 1 → e ∈ t.place.toList := fun e he => by
   refine Classical.byContradiction fun hne => hn ⟨e, he, fun i hi => hne ?_⟩
   exact Sr (by rw [SM]; exact hi)
  have hsub : (RQ (t.mask + 1)).Subset t.place.toList := fun e he => hall e (RT.mp he)
  have hlen := nd_le (List.nodup_range (n := t.mask + 1)) hsub
  rw [U5, S6] at hlen
  lia
 obtain ⟨e, he1, he2⟩ := he
 obtain ⟨n, hn, hb⟩ := bs_hits (b := bits h) hm (bits_lt h) he1
 obtain ⟨k, hk, hr⟩ := reach t h n
 refine ⟨k, ?_, ?_⟩
 ·unfold turns; lia
 ·unfold Hit
  rw [hr]
  show t.slot (bs t.mask (bits h) n).1 = _
  rw [hb]
  exact slot_empty hd he2
end St
end L2
namespace L2
open PySem PySem.Spec PyProof.Rows
namespace St
open SetTable
section
variable {prog : Program} {w : World} {K : Type} [DecidableEq K] (knd : KeyKind prog w K)
def IsN (h : Heap) (ks : List K) (a : Addr) : Prop := ∃ o items n, h.get? a = some o ∧ o.cls = .type "tuple" ∧ o.data = .seq items n ∧ ItemsAre knd ks items.toList ∧ ∀ v ∈ items.toList, ∃ k t, v = .int k t
variable {knd}
theorem IsN.key {h : Heap} {ks : List K} {a : Addr} (x : IsN knd h ks a) : IsTupleKey knd h ks a := let ⟨o, i, n, h1, h2, h3, h4, _⟩ := x; ⟨o, i, n, h1, h2, h3, h4⟩
theorem IsN.keep {h h' : Heap} {ks : List K} {a : Addr} (x : IsN knd h ks a) (k : ∀ o, h.get? a = some o → h'.get? a = some o) : IsN knd h' ks a := let ⟨o, i, n, h1, h2⟩ := x; ⟨o, i, n, k o h1, h2⟩
variable {A : Around} {E : Value → Shared → Prop} {s : Shared}
theorem wpAny_seqItemsQ {M : Model} {a : Addr} {o : Obj} {items n} {Q : Option (Array Value) → Shared → Prop} (ho : s.heap.get? a = some o) (hd : o.data = .seq items n) (h : Q (some items) s) : wpAny M A (seqItems? (.ref a)) Q E s := by
 unfold seqItems?
 refine wpAny_bind (wpAny_load ho ?_)
 rw [hd]
 exact wpAny_pure h
theorem hashByValue_n {ks : List K} {a : Addr} {Q : Bool → Shared → Prop} (hk : IsN knd s.heap ks a) (h : Q true s) : wpAny (model prog w) A (hashByValue 8 (.ref a)) Q E s := by
 have hT := hk.key.typeIs
 obtain ⟨o, items, n, ho, _, hd, hi, hall⟩ := hk
 unfold hashByValue
 refine wpAny_bind (wpAny_specialOf hT F.slot_tuple_hash.lookup ?_)
 show wpAny _ _ (seqItems? (.ref a) >>= _) _ _ s
 refine wpAny_bind (wpAny_seqItemsQ ho hd ?_)
 refine wpAny_bind ?_
 show wpAny _ _ (forIn items _ _) _ _ s
 rw [← U6]
 refine wpAny_forIn_list _ (fun BY r s' => r.1 = none ∧ s' = s ∧ ∀ v ∈ BY, ∃ k t, v = Value.int k t) _ ?_ ?_ _ _ ⟨rfl, rfl, hall⟩
 ·rintro v BY r s' ⟨hr, rfl, hall⟩
  obtain ⟨k, t, rfl⟩ := hall v RY
  refine wpAny_bind (m := hashByValue 7 (.int k t)) (wpAny_pure ?_)
  simp only [Bool.not_true, Bool.false_eq_true, if_false]
  exact wpAny_pure ⟨rfl, rfl, fun u hu' => hall u (RZ _ hu')⟩
 ·rintro ⟨r1, r2⟩ s' ⟨hr, rfl, _⟩
  simp only at hr
  subst hr
  exact wpAny_pure h
theorem ofClass_n {ks : List K} {a : Addr} {Q : Bool → Shared → Prop} (hk : IsN knd s.heap ks a) (h : Q false s) : wpAny (model prog w) A (ofAClassStatement 8 (.ref a)) Q E s := by
 have hT := hk.key.typeIs
 obtain ⟨o, items, n, ho, _, hd, hi, hall⟩ := hk
 unfold ofAClassStatement
 refine wpAny_bind (wpAny_typeOf hT ?_)
 refine wpAny_bind (m := pure true) (wpAny_pure ?_)
 simp only [Bool.not_true, Bool.false_eq_true, if_false]
 refine wpAny_bind (wpAny_seqItemsQ ho hd ?_)
 refine wpAny_bind ?_
 show wpAny _ _ (forIn items _ _) _ _ s
 rw [← U6]
 refine wpAny_forIn_list _ (fun BY r s' => r.1 = none ∧ s' = s ∧ ∀ v ∈ BY, ∃ k t, v = Value.int k t) _ ?_ ?_ _ _ ⟨rfl, rfl, hall⟩
 ·rintro v BY r s' ⟨hr, rfl, hall⟩
  obtain ⟨k, t, rfl⟩ := hall v RY
  refine wpAny_bind (m := ofAClassStatement 7 (.int k t)) (wpAny_pure ?_)
  simp only [Bool.false_eq_true, if_false]
  exact wpAny_pure ⟨rfl, rfl, fun u hu' => hall u (RZ _ hu')⟩
 ·rintro ⟨r1, r2⟩ s' ⟨hr, rfl, _⟩
  simp only at hr
  subst hr
  exact wpAny_pure h
def Ns (knd : KeyKind prog w K) (h : Heap) (l : List Value) (ks : List K) : Prop := ∀ v ∈ l, ∃ b k', v = .ref b ∧ IsN knd h k' b ∧ k' ≠ ks
theorem unseen {ks : List K} {x : Addr} {Q : Bool → Shared → Prop} (hx : IsN knd s.heap ks x) {l : List Value} (hl : Ns knd s.heap l ks) (h : Q false s) : wpAny (model prog w) A (searchCouldBeSeen (.ref x) l) Q E s := by
 unfold searchCouldBeSeen
 refine wpAny_bind ?_
 refine wpAny_forIn_list _ (fun BY r s' => r.1 = none ∧ s' = s ∧ Ns knd s.heap BY ks) _ ?_ ?_ _ _ ⟨rfl, rfl, hl⟩
 ·rintro v BY r s' ⟨hr, rfl, hall⟩
  obtain ⟨b, k', rfl, hb, hne⟩ := hall v RY
  have hrest : Ns knd s'.heap BY ks := fun u hu' => hall u (RZ _ hu')
  have hxb : (x == b) = false := by
   rw [beq_eq_false_iff_ne]
   intro e
   subst e
   exact hne (hb.key.inj hx.key)
  have hc : ((match (Value.ref x), (Value.ref b) with | .ref a, .ref b => a == b | _, _ => false) || (carriedByValue (.ref x) && carriedByValue (.ref b))) = false := by
   show ((x == b) || (false && false)) = false
   rw [hxb]; rfl
  show wpAny _ _ (if ((match (Value.ref x), (Value.ref b) with | .ref a, .ref b => a == b | _, _ => false) || (carriedByValue (.ref x) && carriedByValue (.ref b))) = true then _ else _) _ _ _
  rw [if_neg (by rw [hc]; exact Bool.false_ne_true)]
  refine wpAny_bind (wpAny_eqIsQuiet_tuple hx.key ?_)
  simp only [Bool.not_true, Bool.false_eq_true, if_false]
  refine wpAny_bind (wpAny_eqIsQuiet_tuple hb.key ?_)
  simp only [Bool.not_true, Bool.false_eq_true, if_false]
  refine wpAny_bind (ofClass_n hx ?_)
  simp only [Bool.false_eq_true, if_false]
  refine wpAny_bind (ofClass_n hb ?_)
  simp only [Bool.false_eq_true, if_false]
  exact wpAny_pure ⟨rfl, rfl, hrest⟩
 ·rintro ⟨r1, r2⟩ s' ⟨hr, rfl, _⟩
  simp only at hr
  subst hr
  exact wpAny_pure h
theorem search_free {S : Addr} {o : Obj} {es : Array (Int × Value)} {ep : Nat} {t : SetTable} (ho : s.heap.get? S = some o) (hd : o.data = .set es ep t) (hf : t.fits es.size = true) (hm : t.mask = 7 ∨ t.mask = 31) (hdm : t.dummies = #[])
 {x : Addr} {ks : List K} (hx : IsN knd s.heap ks x) (hes : ∀ e ∈ es.toList, ∃ b k', e.2 = Value.ref b ∧ IsN knd s.heap k' b ∧ k' ≠ ks) (hu : A.units < cLine) {h : Int} {Q : SetFound → Shared → Prop} (hQ : ∀ j, Q (.free j false) s) :
 ∀ (k F : Nat) (stand : Option Probe), k < F → k < 10 * turns t.mask → (stand.getD (t.probeStart h)).dummy = none → Hit t k (stand.getD (t.probeStart h)) → wpAny (model prog w) A (setSearchFrom S (.ref x) h true F stand) Q E s := by
 intro k
 induction k using Nat.strongRecOn with
 | ind k ih =>
   intro F stand hF hk hdn hh
   obtain ⟨F', rfl⟩ : ∃ F', F = F' + 1 := ⟨F - 1, by lia⟩
   unfold setSearchFrom
   refine wpAny_bind (wpAny_setState_of ho hd hf ?_)
   dsimp only
   have hgw : t.gaveWay = false := by
    unfold gaveWay
    rcases hm with z | z <;> rw [z] <;> rfl
   rw [hgw]
   simp only [Bool.false_eq_true, if_false]
   have bad : ∀ {ha : Nat → Int}, (∀ met, t.probe ha h (stand.getD (t.probeStart h)) = some met → False) → False := fun {ha} hn => by
    rcases go_hit (ha := ha) (h := h) hdm (10 * turns t.mask) k _ hk hdn hh with ⟨j, e⟩ | ⟨j, i, next, k', e, _⟩
    ·exact hn _ e
    ·exact hn _ e
   split
   ·next met heq =>
    rcases go_hit hdm (10 * turns t.mask) k _ hk hdn hh with ⟨j, e⟩ | ⟨j, i, next, k', e, r1, r2, r3, r4, r5⟩
    ·have e2 := RL.inj (e.symm.trans heq)
     subst e2
     exact wpAny_pure (hQ j)
    ·have e2 := RL.inj (e.symm.trans heq)
     subst e2
     dsimp only
     have hps : t.place.size = es.size := by
      unfold fits at hf
      rw [Bool.and_eq_true] at hf
      exact eq_of_beq hf.1
     have hil : i < es.size := by
      have := (Array.getElem?_eq_some_iff.mp r2).1
      lia
     obtain ⟨h0, y, hei⟩ : ∃ h0 y, es[i]? = some (h0, y) := ⟨es[i].1, es[i].2, U7 hil⟩
     obtain ⟨b, kb, eb, hb, hne⟩ := hes (h0, y) (Sr (by rw [SM]; exact hei))
     have eb : y = .ref b := eb
     subst eb
     have hNs : Ns knd s.heap (List.map (fun x => x.snd) (Array.filter (fun x => x.fst == h) es).toList) ks := fun v hv => by
      obtain ⟨e0, he0, rfl⟩ := TR.mp hv
      rw [Array.toList_filter] at he0
      obtain ⟨b', k2, q1, q2, q3⟩ := hes e0 (RS.mp he0).1
      exact ⟨b', k2, q1, q2, q3⟩
     have hsm : t.sameMemory t.moves t.mask = some true := by unfold sameMemory; rw [if_pos (beq_self_eq_true _)]
     rcases Bool.eq_false_or_eq_true t.led with hl | hl
     ·simp only [hl, Bool.not_true, Bool.false_eq_true, if_false]
      rw [hei]
      dsimp only
      refine wpAny_bind (wpAny_holding (wpAny_eqBool_tuple hu hb.key hx.key ?_))
      rw [decide_eq_false hne]
      refine wpAny_bind (wpAny_setState_of ho hd hf ?_)
      simp only [Bool.and_false, Bool.false_eq_true, if_false, hsm, if_true, r1, hei]
      refine wpAny_bind (wpAny_isSame_ref_self ?_)
      simp only [if_true]
      refine wpAny_bind (wpAny_pure ?_)
      simp only [Bool.false_eq_true, if_false]
      exact ih k' r5 F' (some next) (by lia) (by lia) r3 r4
     ·simp only [hl, Bool.not_false, if_true]
      refine wpAny_bind (unseen hx hNs ?_)
      simp only [Bool.false_eq_true, if_false]
      rw [hei]
      dsimp only
      refine wpAny_bind (wpAny_holding (wpAny_eqBool_tuple hu hb.key hx.key ?_))
      rw [decide_eq_false hne]
      refine wpAny_bind (wpAny_setState_of ho hd hf ?_)
      simp only [Bool.and_false, Bool.false_eq_true, if_false, hsm, if_true, r1, hei]
      refine wpAny_bind (wpAny_isSame_ref_self ?_)
      simp only [if_true]
      refine wpAny_bind (wpAny_pure ?_)
      simp only [Bool.false_eq_true, if_false]
      exact ih k' r5 F' (some next) (by lia) (by lia) r3 r4
   ·next heq => exact (bad heq).elim
end
end St
end L2
namespace L2
open PySem PySem.Spec PyProof.Rows
namespace St
open SetTable
theorem free_ok {owner : Array (Option Nat)} {b e : Nat} (he : owner.getD e (some 0) = none) : ∀ (fuel m n : Nat), m < fuel → (bs 31 b (n + m)).1 = e →
 ∃ j, layClean.free 31 owner fuel (bs 31 b n).1 (bs 31 b n).2 = some j ∧ owner.getD j (some 0) = none
 | fuel + 1, m, n, hm, hb => by
   unfold layClean.free
   split
   ·next k hk =>
    have := List.find?_some hk
    exact ⟨_, rfl, Option.isNone_iff_eq_none.mp this⟩
   ·next hk =>
    cases m with
    | zero =>
      exfalso
      rw [List.find?_eq_none] at hk
      have h0 : (0 : Nat) ∈ RQ (runEnd 31 (bs 31 b n).1 + 1 - (bs 31 b n).1) := RT.mpr (by unfold runEnd; split <;> lia)
      have h1 := hk 0 h0
      rw [T7] at hb h1
      rw [hb, he] at h1
      exact h1 rfl
    | succ m =>
      obtain ⟨j, h1, h2⟩ := free_ok he fuel m (n + 1) (by lia) (by rw [show n + 1 + m = n + (m + 1) by lia]; exact hb)
      exact ⟨j, h1, h2⟩
def lv (owner : Array (Option Nat)) (j : Nat) : Option (Nat × Nat) := (owner.getD j none).map (j, ·)
theorem lv_set {owner : Array (Option Nat)} {j k : Nat} (hj : owner.getD j (some 0) = none) (hs : owner.size = 32) : (((RQ 32).filterMap (lv (owner.setIfInBounds j (some k)))).map (·.2)).Perm (k :: ((RQ 32).filterMap (lv owner)).map (·.2)) ∧ j < 32 := by
 have hjl : j < 32 := by
  refine Nat.lt_of_not_le fun hle => ?_
  rw [U8, U0 (by lia)] at hj
  cases hj
 refine ⟨?_, hjl⟩
 have hsplit : RQ 32 = RQ j ++ j :: (RQ 32).drop (j + 1) := by
  have h1 : (RQ 32)[j]? = some j := U9 hjl
  obtain ⟨hlt, hg⟩ := S4.mp h1
  have h2 := (List.take_append_drop j (RQ 32)).symm
  rw [List.drop_eq_getElem_cons hlt, hg, List.take_range, Sz (by lia)] at h2
  exact h2
 have hne1 : ∀ a ∈ RQ j, lv (owner.setIfInBounds j (some k)) a = lv owner a := fun a ha => by
  have : a ≠ j := by have := RT.mp ha; lia
  unfold lv
  rw [U8, U8, Ua (Ne.symm this)]
 have hne2 : ∀ a ∈ (RQ 32).drop (j + 1), lv (owner.setIfInBounds j (some k)) a = lv owner a := fun a ha => by
  have : a ≠ j := by
   obtain ⟨i, hi⟩ := List.getElem?_of_mem ha
   rw [Ts] at hi
   have hi2 := (S4.mp hi)
   obtain ⟨hl, hi3⟩ := hi2
   rw [List.getElem_range] at hi3
   lia
  unfold lv
  rw [U8, U8, Ua (Ne.symm this)]
 have hnew : lv (owner.setIfInBounds j (some k)) j = some (j, k) := by
  unfold lv
  rw [U8, Array.getElem?_setIfInBounds_self_of_lt (by lia)]; rfl
 have hold : lv owner j = none := by
  unfold lv
  rw [U8] at hj ⊢
  have hlt : j < owner.size := by lia
  rw [U7 hlt] at hj ⊢
  show (owner[j]).map _ = none
  have hj' : owner[j] = none := hj
  rw [hj']; rfl
 have hcong : ∀ {l : List Nat}, (∀ a ∈ l, lv (owner.setIfInBounds j (some k)) a = lv owner a) → l.filterMap (lv (owner.setIfInBounds j (some k))) = l.filterMap (lv owner) := fun {l} h => by
  induction l with
  | nil => rfl
  | cons a l ih =>
    rw [RX, RX, h a RY, ih fun b hb => h b (RZ _ hb)]
 rw [hsplit, List.filterMap_append, List.filterMap_append, List.filterMap_cons_some hnew, List.filterMap_cons_none hold, hcong hne1, hcong hne2, Tg, Tg, SO]
 exact List.perm_middle
def Own (owner : Array (Option Nat)) (k : Nat) : Prop := owner.size = 32 ∧ (((RQ 32).filterMap (lv owner)).map (·.2)).Perm (RQ k)
theorem own_free {owner : Array (Option Nat)} {k : Nat} (ho : Own owner k) (hk : k < 32) : ∃ e, e < 32 ∧ owner.getD e (some 0) = none := by
 refine Classical.byContradiction fun hn => ?_
 have hall : ∀ e, e < 32 → owner.getD e (some 0) ≠ none := fun e he z => hn ⟨e, he, z⟩
 have hlen := ho.2.length_eq
 rw [Su, U5] at hlen
 have hall2 : ∀ a ∈ RQ 32, (lv owner a).isSome = true := fun a ha => by
  have ha' := RT.mp ha
  have h1 := hall a ha'
  unfold lv
  rw [U8] at h1 ⊢
  have hlt : a < owner.size := by rw [ho.1]; exact ha'
  rw [U7 hlt] at h1 ⊢
  cases hc : owner[a] with
  | none => rw [hc] at h1; exact absurd rfl h1
  | some v => show ((some v).map (fun x => (a, x))).isSome = true; rfl
 have hfl : ∀ {l : List Nat}, (∀ a ∈ l, (lv owner a).isSome = true) → (l.filterMap (lv owner)).length = l.length := fun {l} h => by
  induction l with
  | nil => rfl
  | cons a l ih =>
    obtain ⟨v, hv⟩ := Option.isSome_iff_exists.mp (h a RY)
    rw [List.filterMap_cons_some hv, Td, Td, ih fun b hb => h b (RZ _ hb)]
 rw [hfl hall2, U5] at hlen
 lia
def stp (acc : Option (Array (Option Nat) × Nat)) (h : Int) : Option (Array (Option Nat) × Nat) := do
 let (owner, k) ← acc
 let j ← layClean.free 31 owner (turns 31) (bits h % (31 + 1)) (bits h)
 pure (owner.setIfInBounds j (some k), k + 1)
theorem stp_ok {owner : Array (Option Nat)} {k : Nat} (ho : Own owner k) (hk : k < 32) (h : Int) : ∃ owner', stp (some (owner, k)) h = some (owner', k + 1) ∧ Own owner' (k + 1) := by
 obtain ⟨e, he, hn⟩ := own_free ho hk
 obtain ⟨n, hn1, hn2⟩ := bs_hits (mask := 31) (b := bits h) (.inr rfl) (bits_lt h) (show e < 31 + 1 by lia)
 obtain ⟨j, hj1, hj2⟩ := free_ok (owner := owner) (b := bits h) hn (turns 31) n 0 (by unfold turns; lia) (by rw [U4]; exact hn2)
 have hp := lv_set (k := k) hj2 ho.1
 refine ⟨owner.setIfInBounds j (some k), ?_, ?_, ?_⟩
 ·have hj1' : layClean.free 31 owner (turns 31) (bits h % (31 + 1)) (bits h) = some j := hj1
  show (do let j ← layClean.free 31 owner (turns 31) (bits h % (31 + 1)) (bits h); pure (owner.setIfInBounds j (some k), k + 1)) = _
  rw [hj1']; rfl
 ·rw [Array.size_setIfInBounds]; exact ho.1
 ·refine hp.1.trans ?_
  rw [show RQ (k + 1) = RQ k ++ [k] from TQ]
  exact (List.Perm.cons k ho.2).trans (List.perm_append_comm (l₁ := [k]))
theorem fold_ok : ∀ (hs : List Int) {owner : Array (Option Nat)} {k : Nat}, Own owner k → k + hs.length ≤ 32 → ∃ owner', hs.foldl stp (some (owner, k)) = some (owner', k + hs.length) ∧ Own owner' (k + hs.length)
 | [], owner, k, ho, _ => ⟨owner, rfl, ho⟩
 | h :: hs, owner, k, ho, hl => by
   rw [Td] at hl
   obtain ⟨o1, e1, ho1⟩ := stp_ok ho (by lia) h
   obtain ⟨o2, e2, ho2⟩ := fold_ok hs ho1 (by lia)
   refine ⟨o2, ?_, ?_⟩
   ·rw [List.foldl_cons, e1, e2, Td, show k + 1 + hs.length = k + (hs.length + 1) by lia]
   ·rw [Td, show k + (hs.length + 1) = k + 1 + hs.length by lia]; exact ho2
theorem own_none : Own (Ub 32 none) 0 := by
 refine ⟨Array.size_replicate, ?_⟩
 have : (RQ 32).filterMap (lv (Ub 32 none)) = [] := by decide +kernel
 rw [this]; exact List.Perm.refl _
theorem laid_ok (hashes : Array Int) (hn : hashes.size ≤ 32) (finger moves : Nat) (led plain : Bool) : ∃ t order, laid 31 finger moves led plain hashes = some (t, order) ∧ t.mask = 31 ∧ t.dummies = #[] ∧ t.place.size = hashes.size ∧ order.toList.Perm (RQ hashes.size) := by
 obtain ⟨owner, e, ho⟩ := fold_ok hashes.toList own_none (by rw [S6]; lia)
 have hc : layClean 31 hashes = some owner := by
  unfold layClean
  have e' : hashes.foldl stp (some (Ub 32 none, 0)) = some (owner, 0 + hashes.toList.length) := by rw [← Array.foldl_toList]; exact e
  have e2 : hashes.foldl (init := some (Ub (31 + 1) none, 0)) (fun acc h => do
   let (owner, k) ← acc
   let j ← layClean.free 31 owner (turns 31) (bits h % (31 + 1)) (bits h)
   pure (owner.setIfInBounds j (some k), k + 1)) = some (owner, 0 + hashes.toList.length) := e'
  rw [e2]; rfl
 have hp := ho.2
 rw [U4, S6] at hp
 refine ⟨{ mask := 31, place := (((RQ 32).filterMap (lv owner)).map (·.1)).toArray, dummies := #[], finger, led, moves, plain }, (((RQ 32).filterMap (lv owner)).map (·.2)).toArray, ?_, rfl, rfl, ?_, ?_⟩
 ·unfold laid
  rw [hc]
  rfl
 ·have := hp.length_eq
  rw [Su, U5] at this
  show (((RQ 32).filterMap (lv owner)).map (·.1)).toArray.size = _
  rw [SE, Su]; exact this
 ·exact hp
end St
end L2
namespace L2
open PySem PySem.Spec PyProof.Rows
namespace St
open SetTable
section
variable {prog : Program} {w : World} {K : Type} [DecidableEq K] (knd : KeyKind prog w K) (G : Addr → Prop)
def SetN (h : Heap) (S : Addr) (keys : List (List K)) : Prop := ∃ o es ep t, h.get? S = some o ∧ o.ExactSet ∧ o.data = .set es ep t ∧ (t.mask = 7 ∧ es.size ≤ 4 ∨ t.mask = 31) ∧ t.dummies = #[] ∧ t.place.size = es.size ∧ es.size = keys.length ∧
 ∀ e ∈ es.toList, ∃ b k, e.2 = Value.ref b ∧ IsN knd h k b ∧ k ∈ keys ∧ G b
variable {knd} {G}
theorem SetN.keep {h h' : Heap} {S : Addr} {keys : List (List K)} (x : SetN knd G h S keys) (k : ∀ b o, b = S ∨ G b → h.get? b = some o → h'.get? b = some o) : SetN knd G h' S keys := by
 obtain ⟨o, es, ep, t, h1, h2, h3, h4, h5, h6, h7, h8⟩ := x
 refine ⟨o, es, ep, t, k _ _ (.inl rfl) h1, h2, h3, h4, h5, h6, h7, fun e he => ?_⟩
 obtain ⟨b, k', q1, q2, q3, q4⟩ := h8 e he
 exact ⟨b, k', q1, q2.keep fun o e => k _ o (.inr q4) e, q3, q4⟩
variable {A : Around} {E : Value → Shared → Prop} {s : Shared}
theorem insert_size {α : Type} (xs : Array α) (p : Nat) (x : α) : (insertAt xs p x).size = xs.size + 1 := by
 have h := (SetTable.insertAt_perm xs p x).length_eq
 rw [S6, S6, Uc] at h
 exact h
theorem keep_but {h h' : Heap} {S : Addr} (sb : Heap.SameBut S h h') {ks : List K} {b : Addr} {o : Obj} {es ep t} (hS : h.get? S = some o) (hd : o.data = .set es ep t) (x : IsN knd h ks b) : IsN knd h' ks b := by
 obtain ⟨o', items, n, h1, h2, h3, h4⟩ := id x
 have hne : b ≠ S := by
  rintro rfl
  rw [hS] at h1
  cases h1
  rw [hd] at h3
  cases h3
 exact x.keep fun o'' e => (sb.2 b hne).trans e
theorem add_tail {S : Addr} {o : Obj} {es : Array (Int × Value)} {ep : Nat} {t : SetTable} (ho : s.heap.get? S = some o) (hcl : o.ExactSet) (hd : o.data = .set es ep t) {es1 : Array (Int × Value)} {t1 : SetTable} {keys : List (List K)}
 (hmk : t1.mask = 7 ∧ es1.size ≤ 5 ∨ t1.mask = 31) (hdm : t1.dummies = #[]) (hps : t1.place.size = es1.size) (hn : es1.size = keys.length) (h17 : es1.size ≤ 17) (hel : ∀ e ∈ es1.toList, ∃ b k, e.2 = Value.ref b ∧ IsN knd s.heap k b ∧ k ∈ keys ∧ G b) {m : Nat} (hm : m = es1.size) {Q : Bool → Shared → Prop}
 (h : ∀ h', Heap.SameBut S s.heap h' → SetN knd G h' S keys → Q true { s with heap := h' }) :
 wpAny (model prog w) A (do storeSet S es1 t1; if (!false && t1.tooFull) = true then do { setRelay S (grown m); pure true } else pure true) Q E s := by
 refine wpAny_bind (wpAny_storeSet_of ho hd ?_ (RV h17 (by decide)))
 have hg1 : (s.heap.update S (Obj.putSet es1 t1)).get? S = some { o with data := .set es1 (ep + 1) t1 } := by
  have := Heap.get?_update_self (Obj.putSet es1 t1) ho (by rw [putSet_of _ _ hd]; rfl)
  rw [putSet_of _ _ hd] at this; exact this
 have sb1 : Heap.SameBut S s.heap (s.heap.update S (Obj.putSet es1 t1)) := Heap.SameBut.update ..
 generalize s.heap.update S (Obj.putSet es1 t1) = h1 at hg1 sb1 ⊢
 have hel1 : ∀ e ∈ es1.toList, ∃ b k, e.2 = Value.ref b ∧ IsN knd h1 k b ∧ k ∈ keys ∧ G b := fun e he => by
  obtain ⟨b, k, q1, q2, q3, q4⟩ := hel e he
  exact ⟨b, k, q1, keep_but sb1 ho hd q2, q3, q4⟩
 have hfl : SetTable.fill t1 = es1.size := by unfold SetTable.fill; rw [hdm, hps]; rfl
 by_cases hfull : t1.tooFull = true
 ·have hf5 : es1.size * 5 ≥ t1.mask * 3 := by
   unfold tooFull at hfull
   rw [hfl] at hfull
   exact of_decide_eq_true hfull
  have hm7 : t1.mask = 7 ∧ es1.size = 5 := by
   rcases hmk with z | z
   ·rw [z.1] at hf5; exact ⟨z.1, by lia⟩
   ·rw [z] at hf5; lia
  simp only [hfull, Bool.not_false, Bool.and_self, if_true]
  refine wpAny_bind ?_
  unfold setRelay
  have hfit1 : t1.fits es1.size = true := by
   unfold fits
   rw [hfl, hps, hm7.1, hm7.2]; rfl
  refine wpAny_bind (wpAny_setState_of (s := { s with heap := h1 }) (o := { o with data := .set es1 (ep + 1) t1 }) hg1 rfl hfit1 ?_)
  dsimp only
  have hgr : grown m = 20 := by rw [hm, hm7.2]; rfl
  have hsa : sizeAbove 20 = 32 := by decide
  rw [hgr, hsa, if_neg (by decide)]
  have hrl : t1.relaid (es1.map (·.1)) 20 = laid 31 t1.finger (t1.movedTo 31) t1.led t1.plain (es1.map (·.1)) := by
   unfold relaid
   rw [hsa]
  obtain ⟨t2, order, el, et1, et2, et3, eo⟩ := laid_ok (es1.map (·.1)) (by rw [Array.size_map]; lia) t1.finger (t1.movedTo 31) t1.led t1.plain
  rw [Array.size_map] at et3 eo
  have hperm : (order.filterMap (es1[·]?)).toList.Perm es1.toList := by
   rw [Array.toList_filterMap]
   have := eo.filterMap (fun i => es1[i]?)
   rw [filterMap_getElem?_range] at this
   exact this
  have hsz2 : (order.filterMap (es1[·]?)).size = es1.size := by
   have := hperm.length_eq
   rw [S6, S6] at this
   exact this
  rw [hrl, el]
  refine wpAny_bind ?_
  show wpAny _ _ (if ((order.filterMap (es1[·]?)).size != es1.size) = true then _ else pure (order.filterMap (es1[·]?), t2)) _ _ _
  rw [if_neg (by rw [hsz2]; simp)]
  refine wpAny_pure ?_
  generalize order.filterMap (es1[·]?) = es2 at hperm hsz2 ⊢
  refine wpAny_storeSet_of (s := { s with heap := h1 }) (o := { o with data := .set es1 (ep + 1) t1 }) hg1 rfl ?_ (by rw [hsz2]; exact RV h17 (by decide))
  have hg2 : (h1.update S (Obj.putSet es2 t2)).get? S = some { o with data := .set es2 (ep + 1 + 1) t2 } := by
   have := Heap.get?_update_self (Obj.putSet es2 t2) hg1 (by rw [putSet_of (es := es1) (ep := ep + 1) (t := t1) _ _ rfl]; rfl)
   rw [putSet_of (es := es1) (ep := ep + 1) (t := t1) _ _ rfl] at this; exact this
  have sb2 : Heap.SameBut S h1 (h1.update S (Obj.putSet es2 t2)) := Heap.SameBut.update ..
  have hel2 : ∀ e ∈ es2.toList, ∃ b k, e.2 = Value.ref b ∧ IsN knd (h1.update S (Obj.putSet es2 t2)) k b ∧ k ∈ keys ∧ G b := fun e he => by
   obtain ⟨b, k, q1, q2, q3, q4⟩ := hel1 e (hperm.mem_iff.mp he)
   exact ⟨b, k, q1, keep_but (es := es1) (ep := ep + 1) (t := t1) sb2 hg1 rfl q2, q3, q4⟩
  refine wpAny_pure (h (h1.update S (Obj.putSet es2 t2)) ⟨sb2.1.trans sb1.1, fun b hb => (sb2.2 b hb).trans (sb1.2 b hb)⟩ ⟨_, _, _, _, hg2, hcl, rfl, .inr et1, et2, by rw [et3, hsz2], by rw [hsz2]; exact hn, hel2⟩)
 ·have hfull' : t1.tooFull = false := by simpa using hfull
  simp only [hfull', Bool.and_false, Bool.false_eq_true, if_false]
  refine wpAny_pure (h h1 sb1 ⟨_, _, _, _, hg1, hcl, rfl, ?_, hdm, hps, hn, hel1⟩)
  rcases hmk with z | z
  ·refine .inl ⟨z.1, ?_⟩
   unfold tooFull at hfull'
   rw [hfl, z.1] at hfull'
   have hf' := of_decide_eq_false hfull'
   lia
  ·exact .inr z
theorem add_n {S x : Addr} {ks : List K} {keys : List (List K)} {hsh : Int} {Q : Bool → Shared → Prop} (hS : SetN knd G s.heap S keys) (hx : IsN knd s.heap ks x) (hGx : G x) (hne : ks ∉ keys) (hl : keys.length ≤ 16) (hu : A.units < cLine)
 (h : ∀ h', Heap.SameBut S s.heap h' → SetN knd G h' S (ks :: keys) → Q true { s with heap := h' }) : wpAny (model prog w) A (setAddHashed S (.ref x) hsh) Q E s := by
 obtain ⟨o, es, ep, t, ho, hcl, hd, hmk, hdm, hps, hn, hel⟩ := hS
 have hm : t.mask = 7 ∨ t.mask = 31 := hmk.elim (fun z => .inl z.1) .inr
 have hsz : es.size ≤ t.mask := by rcases hmk with z | z <;> lia
 have hfl : SetTable.fill t = es.size := by unfold SetTable.fill; rw [hdm, hps]; rfl
 have hfit : t.fits es.size = true := by
  unfold fits
  rw [hfl, hps]
  simp
  exact hsz
 have hes : ∀ e ∈ es.toList, ∃ b k', e.2 = Value.ref b ∧ IsN knd s.heap k' b ∧ k' ≠ ks := fun e he => by
  obtain ⟨b, k, q1, q2, q3, _⟩ := hel e he
  exact ⟨b, k, q1, q2, fun z => hne (z ▸ q3)⟩
 unfold setAddHashed setAddHashedIn
 refine wpAny_holding (wpAny_bind (wpAny_setState_of ho hd hfit ?_))
 dsimp only
 have hbs : byScan (.ref x) es = false := rfl
 rw [hbs]
 simp only [Bool.false_eq_true, if_false]
 obtain ⟨k, hk1, hk2⟩ := start_hit hm hdm (by rw [hps]; exact hsz) hsh
 have hkF : k < 100000 := by
  unfold turns at hk1
  rcases hm with z | z <;> rw [z] at hk1 <;> lia
 refine wpAny_bind (m := setSearch S (.ref x) hsh true) (search_free ho hd hfit hm hdm hx hes hu (fun j => ?_) k 100000 none hkF hk1 rfl hk2)
 dsimp only
 refine wpAny_bind (wpAny_setState_of ho hd hfit ?_)
 dsimp only
 have hput : (t.put j).1 = { t with place := insertAt t.place (t.put j).2 j } := by
  unfold put
  have hz : has t.dummies j = false := by rw [hdm]; unfold has; rfl
  simp only [hz, Bool.false_eq_true, if_false]
 have hpl1 : (t.put j).1.place.size = es.size + 1 := by rw [hput]; show (insertAt _ _ _).size = _; rw [insert_size, hps]
 have hdm1 : (t.put j).1.dummies = #[] := by rw [hput]; exact hdm
 have hmk1 : (t.put j).1.mask = t.mask := by rw [hput]
 generalize (t.put j).1 = t1 at hpl1 hdm1 hmk1 ⊢
 generalize (t.put j).2 = p
 have hsz1 : (insertAt es p (hsh, Value.ref x)).size = es.size + 1 := insert_size _ _ _
 have hel1 : ∀ e ∈ (insertAt es p (hsh, Value.ref x)).toList, ∃ b k, e.2 = Value.ref b ∧ IsN knd s.heap k b ∧ k ∈ ks :: keys ∧ G b := fun e he => by
  have he' := (SetTable.insertAt_perm es p (hsh, Value.ref x)).mem_iff.mp he
  rw [Array.toList_push] at he'
  rcases S2.mp he' with z | z
  ·obtain ⟨b, k, q1, q2, q3, q4⟩ := hel e z
   exact ⟨b, k, q1, q2, RZ _ q3, q4⟩
  ·rw [Tw.mp z]
   exact ⟨x, ks, rfl, hx, RY, hGx⟩
 have tail := add_tail (knd := knd) (G := G) (A := A) (E := E) (Q := Q) ho hcl hd (es1 := insertAt es p (hsh, Value.ref x)) (t1 := t1) (keys := ks :: keys) (by rw [hmk1, hsz1]; rcases hmk with z | z; exact .inl ⟨z.1, by lia⟩; exact .inr z) hdm1 (by rw [hpl1, hsz1]) (by rw [hsz1, hn]; rfl) (by rw [hsz1]; lia) hel1 (m := es.size + 1) (by rw [hsz1]) h
 split
 ·refine wpAny_bind (hashByValue_n hx ?_)
  simp only [if_true]
  exact tail
 ·refine wpAny_bind (wpAny_pure ?_)
  simp only [if_true]
  exact tail
end
end St
end L2
namespace L2
open PySem PySem.Spec PyProof.Rows
namespace St
section
variable {prog : Program} {w : World} {K : Type} [DecidableEq K] {knd : KeyKind prog w K} {G : Addr → Prop} {A : Around} {R : Result → Shared → Prop} {I : Addr} {fp wr : List Addr} {GG : Array GenState → Array GenState → Prop} {n : Nat} {P : Nat → Value → Prop} {St : Nat → Shared → Prop}
def ksAt (key : Nat → List K) : Nat → List (List K)
 | 0 => []
 | i + 1 => key i :: ksAt key i
theorem ksAt_length (key : Nat → List K) : ∀ i, (ksAt key i).length = i
 | 0 => rfl
 | i + 1 => by show (ksAt key i).length + 1 = i + 1; rw [ksAt_length key i]
theorem ksAt_mem {key : Nat → List K} {k : List K} : ∀ {i}, k ∈ ksAt key i → ∃ j, j < i ∧ key j = k
 | i + 1, h => by
   rcases S1.mp h with z | z
   ·exact ⟨i, Tt _, z.symm⟩
   ·obtain ⟨j, h1, h2⟩ := ksAt_mem z
    exact ⟨j, Tv h1, h2⟩
theorem turn_of {S : Addr} {s : Shared} (hz : wpAny (model prog w) A.in1 (Builtin.«set.update.loop» ⟨[.ref S, .ref I], []⟩)
 (fun fin s' => match fin with | .done f => R (.ok f) s' | .again c' => c'.quiet = true ∧ codeAny (model prog w) A c' R s') (fun e s' => R (.error e) s') s) :
 codeAny (model prog w) A (.builtin "set.update.loop" ⟨[.ref S, .ref I], []⟩) R s :=
 codeAny_builtin F.entry_set_update_loop ((Around.under_plainId F.plain_set_update_loop (A := A) ⟨[.ref S, .ref I], []⟩).symm ▸ hz)
theorem loop_n (W : WalksS prog w A.in1 I fp wr GG n P St) (S : Addr) (hSf : S ∉ fp) (key : Nat → List K) (adr : Nat → Addr) (hval : ∀ i v, P i v → v = Value.ref (adr i)) (hG : ∀ i, i < n → G (adr i)) (hGw : ∀ b, G b → b ∉ wr ∧ b ≠ S)
 (hinj : ∀ i j, i < n → j < n → key i = key j → i = j) (hn : n ≤ 17) (hu : A.units + 1 < cLine) (left i : Nat) (s : Shared) (hk : i + left = n) (hst : St i s) (hN : ∀ j, j < n → IsN knd s.heap (key j) (adr j)) (hS : SetN knd G s.heap S (ksAt key i))
 (hR : ∀ s', Moved (S :: wr) GG s s' → SetN knd G s'.heap S (ksAt key n) → R (.ok (.ret .none)) s') : codeAny (model prog w) A (.builtin "set.update.loop" ⟨[.ref S, .ref I], []⟩) R s := by
 have grow : ∀ {a b : Shared}, Moved wr GG a b → Moved (S :: wr) GG a b := fun m => m.mono fun _ => RZ _
 have stay : ∀ {a b : Shared}, Moved wr GG a b → ∀ c o, c = S ∨ G c → a.heap.get? c = some o → b.heap.get? c = some o := fun m c o hc => m.heap c o (hc.elim (fun z => z ▸ mt (W.sub _) hSf) fun z => (hGw c z).1)
 induction left generalizing i s with
 | zero =>
   obtain rfl : i = n := by lia
   refine turn_of (show wpAny (model prog w) A.in1 (pyNext (Value.ref I) >>= _) _ _ s from wpAny_bind (W.done s _ _ hst fun s' m => ?_))
   exact wpAny_pure (hR s' (grow m) (hS.keep (stay m)))
 | succ left ih =>
   have hlt : i < n := by lia
   refine turn_of (show wpAny (model prog w) A.in1 (pyNext (Value.ref I) >>= _) _ _ s from wpAny_bind (W.item i s _ _ hlt hst fun v s' hP hst' m => ?_))
   obtain rfl := hval i v hP
   have hN' : ∀ j, j < n → IsN knd s'.heap (key j) (adr j) := fun j hj => (hN j hj).keep fun o e => stay m _ o (.inr (hG j hj)) e
   have hS' : SetN knd G s'.heap S (ksAt key i) := hS.keep (stay m)
   refine wpAny_bind (m := holding [Value.ref (adr i)] (setAdd S (Value.ref (adr i)))) (wpAny_holding ?_)
   unfold setAdd
   refine wpAny_holding (wpAny_bind (wpAny_pyHash_tuple hu (hN' i hlt).key ?_))
   refine add_n (knd := knd) (G := G) (s := { s' with toks := s'.toks + ((key i).length + 1) }) hS' (hN' i hlt) (hG i hlt) (fun z => ?_) (by rw [ksAt_length]; lia) hu fun h' sb hS2 => ?_
   ·obtain ⟨j, j1, j2⟩ := ksAt_mem z
    have := hinj j i (by lia) hlt j2
    lia
   have other : ∀ c o, c ≠ S → s'.heap.get? c = some o → h'.get? c = some o := fun c o hc e => (sb.2 c hc).trans e
   refine wpAny_pure ⟨plainId_quiet F.plain_set_update_loop _, ih (i + 1) _ (by lia) (W.frame _ s' _ _ hst' (U1 _ _) fun b hb o e => other b o (fun z => hSf (z ▸ hb)) e) (fun j hj => (hN' j hj).keep fun o e => other _ o (hGw _ (hG j hj)).2 e) hS2 fun s'' m2 hS3 => ?_⟩
   exact hR s'' (((grow m).then_heap (U1 _ _) fun b o hb e => other b o (fun z => hb (z ▸ RY)) e).trans W.gtrans m2) hS3
end
section
variable {prog : Program} {w : World} {K : Type} [DecidableEq K] {knd : KeyKind prog w K} {A : Around} {E : Value → Shared → Prop} {s : Shared}
abbrev nS (led : Bool) : Obj := { cls := .type "set", dict := none, data := .set #[] 0 (.fresh 0 0 led) }
abbrev nI (l : Addr) : Obj := { cls := .type "list_iterator", data := .fields #[.ref l, .int 0 0] }
theorem init_n {l : Addr} {items : Array Value} (led : Bool) (key : Nat → List K) (adr : Nat → Addr) (hh : A.handled = none) (hl : s.heap.IsList l items) (hv : ∀ (i : Nat) (v : Value), items[i]? = some v → v = Value.ref (adr i)) (hN : ∀ j, j < items.size → IsN knd s.heap (key j) (adr j))
 (hinj : ∀ i j, i < items.size → j < items.size → key i = key j → i = j) (hb : items.size ≤ 17) (hu : A.units + 20 < cLine) {Q : Fin → Shared → Prop} {E' : Value → Shared → Prop}
 (h : ∀ (h' : Heap) (tk : Nat), SetN knd (fun b => b < s.heap.objs.size) h' s.heap.objs.size (ksAt key items.size) → (∀ b o, s.heap.get? b = some o → h'.get? b = some o) → Q (.done (.ret .none)) { s with heap := h', toks := tk }) :
 wpAny (model prog w) A (Builtin.«set.__init__» ⟨[.ref s.heap.objs.size, .ref l], []⟩) Q E' { s with heap := s.heap.push (nS led) } := by
 have lS : l < s.heap.objs.size := by obtain ⟨_, e, _⟩ := hl; exact Heap.lt_size e
 obtain ⟨⟨_, od, _, osl⟩, el, hc, nl, hd⟩ := id hl
 simp only at hc hd; subst hc hd
 have el1 : (s.heap.push (nS led)).get? l = some { cls := .type "list", dict := od, data := .seq items nl, slots := osl } := Heap.get?_push_of_some _ el
 have eS : (s.heap.push (nS led)).get? s.heap.objs.size = some (nS led) := Heap.get?_push_size _ rfl
 have hl1 : (s.heap.push (nS led)).IsList l items := ⟨_, el1, rfl, nl, rfl⟩
 have t1 := F.sub_list_set; have t2 := F.sub_list_frozenset; have t3 : (Value.type "list" == Value.type "dict") = false := by decide
 unfold Builtin.«set.__init__» noKeywords Builtin.Frozenset.updateFrom
 generalize hPI : pyIter = PI; wp_walk; subst hPI
 have zS : (s.heap.push (nS led)).objs.size = s.heap.objs.size + 1 := Heap.size_push ..
 refine wpAny_pyIter_list hl1 (wpAny_bind (wpAny_runValue ?_))
 have up : ∀ b o, s.heap.get? b = some o → ((s.heap.push (nS led)).push (nI l)).get? b = some o := fun b o e => Heap.get?_push_of_some _ (Heap.get?_push_of_some _ e)
 have lI : l ≠ (s.heap.push (nS led)).objs.size := by rw [zS]; exact RP (Tv lS)
 refine loop_n (knd := knd) (G := fun b => b < s.heap.objs.size) ((Walks.list (A := A.in1) hh _ l lI items).toS) s.heap.objs.size ?_ key adr (fun i v hP => hv i v hP) (fun i hi => ?_) (fun b hb => ⟨?_, RP hb⟩) hinj hb (by lia) items.size 0 _ (U4 _)
  ⟨⟨_, Heap.get?_push_size _ rfl, rfl, rfl⟩, hl1.push _⟩ (fun j hj => (hN j hj).keep fun o e => up _ _ e) ⟨_, _, _, _, Heap.get?_push_of_some _ eS, ⟨rfl, rfl, rfl⟩, rfl, .inl ⟨rfl, Sb _⟩, rfl, rfl, rfl, (fun e he => by simp at he)⟩ ?_
 ·rw [zS]; intro hm
  rcases S1.mp hm with z | z
  ·exact absurd z (RP (Tt _))
  ·exact absurd (Tw.mp z) (S7 lS)
 ·obtain ⟨_, _, _, e, _⟩ := hN i hi; exact Heap.lt_size e
 ·rw [zS]; intro hm
  exact absurd (Tw.mp hm) (RP (Tv hb))
 rintro ⟨h', g', d', tk', os'⟩ m hS'
 obtain rfl : g' = s.gens := m.gens
 obtain rfl : d' = s.drawn := m.drawn
 obtain rfl : os' = s.os := m.os
 refine wpAny_pure (wpAny_pure (h h' tk' hS' fun b o e => ?_))
 have lb := Heap.lt_size e
 refine m.heap b o (fun hm => ?_) (up b o e)
 rw [zS] at hm
 rcases S1.mp hm with z | z
 ·exact absurd z (RP lb)
 ·exact absurd (Tw.mp z) (RP (Tv lb))
theorem call_setN {l : Addr} {items : Array Value} {Q : Value → Shared → Prop} (key : Nat → List K) (adr : Nat → Addr) (hh : A.handled = none) (hl : s.heap.IsList l items) (hv : ∀ (i : Nat) (v : Value), items[i]? = some v → v = Value.ref (adr i)) (hN : ∀ j, j < items.size → IsN knd s.heap (key j) (adr j))
 (hinj : ∀ i j, i < items.size → j < items.size → key i = key j → i = j) (hb : items.size ≤ 17) (hu : A.units + 40 < cLine)
 (h : ∀ (h' : Heap) (tk : Nat), SetN knd (fun b => b < s.heap.objs.size) h' s.heap.objs.size (ksAt key items.size) → (∀ b o, s.heap.get? b = some o → h'.get? b = some o) → Q (.ref s.heap.objs.size) { s with heap := h', toks := tk }) :
 wpAny (model prog w) A (call (.type "set") [.ref l]) Q E s := by
 obtain ⟨_, _, hmro⟩ := F.called_set.mro
 have m1 := F.called_set.made; have m2 := F.called_set.sub; have m3 := F.called_set.notType; have m4 := F.called_set.canCreate; have m5 := F.typeCall_set_1 (.ref l)
 refine wpAny_call (codeAny_of_tree (show wpAny _ _ (callAny (.type "set") _) _ _ _ from wpAny_pure ⟨Code.quiet_builtin _ (by decide +kernel), codeAny_builtin F.entry_type_call ?_⟩))
 rw [Around.under_plain (weight_type_call_type "set" [.ref l] []) rfl]
 repeat any_goals first | assumption | wp_step
 refine codeAny_mono (code_set_new_1 (.ref l) (E := E) (Q₁ := fun v s₁ => v = .ref s.heap.objs.size ∧ ∃ led, s₁ = { s with heap := s.heap.push (nS led) }) fun led => ⟨rfl, led, rfl⟩) fun r s₁ hr => ?_
 rcases r with e | fl
 ·exact hr
 cases fl with
 | ret v =>
   obtain ⟨e1, led, e2⟩ := hr
   subst e1 e2
   have hT : Shared.TypeIs { s with heap := s.heap.push (nS led) } (.ref s.heap.objs.size) "set" := ⟨_, Heap.get?_push_size _ rfl, rfl⟩
   have m6 := F.called_set.init.lookup; have m7 := F.called_set.init.bind (.ref s.heap.objs.size)
   repeat any_goals first | assumption | wp_step
   refine codeAny_mono (codeAny_call_builtin (R := wants (fun r s₂ => r = .none ∧ Q (.ref s.heap.objs.size) s₂) E) F.called_set.init.plain F.entry_set_init (check_set_init_1 hT ?_)) fun r₂ s₂ hr₂ => ?_
   ·refine init_n (knd := knd) led key adr ?_ hl hv hN hinj hb ?_ fun h' tk hS hk => ?_
    ·simp [hh]
    ·simp only [Around.in1]; lia
    ·exact ⟨rfl, h h' tk hS hk⟩
   ·rcases r₂ with e | fl₂
    ·exact hr₂
    cases fl₂ with
    | ret _ =>
      obtain ⟨e3, q⟩ := hr₂
      subst e3
      repeat any_goals first | assumption | wp_step
    | _ => exact hr₂.elim
 | _ => exact hr.elim
end
end St
end L2
namespace L2
open PySem PySem.Spec PyProof.Rows
theorem OR : bootBuiltins "set" = some (.type "set") := by decide +kernel
def MC (p : Addr) (n : Nat) : HO := .ext fun h => ∃ o es ep t, h.get? p = some o ∧ o.ExactSet ∧ o.data = .set es ep t ∧ SetTable.fits t es.size = true ∧ es.size = n
theorem OK {P : Program} {w : World} {H : Hp} {h : Heap} {a : Addr} {q : Rat} (ok : HOk P w H h) (e : H a = some (nT q)) : St.IsN (CA P w) h (kQ q) a := by
 obtain ⟨_, its, rv, o, ho, hc, n, hd⟩ := ok a _ e
 refine ⟨o, its.toArray, n, ho, hc, hd, GD (ks := kQ q) rv, fun v hv => ?_⟩
 have hv' : v ∈ its := by simpa using hv
 cases rv with
 | cons r1 rr =>
   cases rr with
   | cons r2 rr =>
     cases rr
     obtain ⟨t1, rfl⟩ := r1
     obtain ⟨t2, rfl⟩ := r2
     rcases S1.mp hv' with z | z
     ·exact ⟨_, _, z⟩
     ·exact ⟨_, _, Tw.mp z⟩
section
variable {X : Cx}
inductive LA (K : RU) (xs : List V) (H : Hp) (Q : VK) : Prop
 | mk (l : Addr) (ys : List V) (qs : List Rat) (h1 : xs = [.ref l]) (h2 : SqL K H l ys) (h3 : AE H ys qs) (h4 : qs.Nodup) (h5 : qs.length ≤ 17) (h6 : ∀ p, H p = none → Q (.ref p) (upd H p (MC p qs.length))) : LA K xs H Q
theorem KY (hc : X.calm = true) (hu : X.A.units + 64 < cLine) : Dy X (.type "set") (LA X.K) := by
 intro pins s σ H xs us Q I r h
 obtain ⟨l, ys, qs, rfl, hq, hn, hnd, h17, q⟩ := h
 obtain ⟨u, rfl, rfl⟩ := Ig r
 obtain ⟨its, rv, p, hz⟩ := I.list hq
 have hl := rv.length
 have hyl := hn.length
 have hsz : its.toArray.size = qs.length := by rw [SE]; lia
 let adr : Nat → Addr := fun j => match ys[j]? with | some (.ref r) => r | _ => 0
 have had : ∀ j, j < qs.length → ∃ r, ys[j]? = some (.ref r) ∧ adr j = r ∧ H r = some (nT (qs.getD j 0)) := fun j hj => by
  have g : qs[j]? = some (qs.getD j 0) := by rw [Tq, Tx hj]; rfl
  obtain ⟨y, hy, r, rfl, hr⟩ := Paired.get' hn g
  exact ⟨r, hy, by show (match ys[j]? with | some (.ref r) => r | _ => 0) = r; rw [hy], hr⟩
 refine St.call_setN (knd := CA X.prog X.w) (fun j => kQ (qs.getD j 0)) adr (I.ok.hd hc) p.isList (fun i v hv => ?_) (fun j hj => ?_) (fun i j hi hj e => ?_) (by lia) (by lia) fun h' tk hS hk => ?_
 ·have hv' : its[i]? = some v := by simpa using hv
  have hi : i < its.length := (S4.mp hv').1
  obtain ⟨r, hy, hr, _⟩ := had i (by lia)
  obtain ⟨u, hu1, ru⟩ := rv.get hy
  rw [hv'] at hu1
  cases hu1
  rw [hr]; exact ru
 ·rw [hsz] at hj
  obtain ⟨r, _, hr, hH⟩ := had j hj
  rw [hr]
  exact OK I.hok hH
 ·rw [hsz] at hi hj
  have e' := OI e
  have g1 : qs[i]? = some (qs.getD i 0) := by rw [Tq, Tx hi]; rfl
  have g2 : qs[j]? = some (qs.getD j 0) := by rw [Tq, Tx hj]; rfl
  exact (List.getElem?_inj hi hnd).mp (by rw [g1, g2, e'])
 ·obtain ⟨o, es, ep, t, h1, h2, h3, h4, h5, h6, h7, _⟩ := hS
  rw [St.ksAt_length, hsz] at h7
  have hfit : SetTable.fits t es.size = true := by
   unfold SetTable.fits SetTable.fill
   rw [h5, h6]
   rcases h4 with z | z <;> simp <;> lia
  have new : BX X.prog X.w (upd H s.heap.objs.size (MC s.heap.objs.size qs.length)) h' s.heap.objs.size (MC s.heap.objs.size qs.length) := by
   refine ⟨⟨o, es, ep, t, h1, h2, h3, hfit, h7⟩, ⟨o, h1⟩, fun g1 g2 hg hk => ?_⟩
   obtain ⟨o, es, ep, t, k1, k2, k3, k4, k5⟩ := hg
   exact ⟨o, es, ep, t, hk o k1, k2, k3, k4, k5⟩
  exact ⟨.ref s.heap.objs.size, _, I.laid (t' := tk) hk (S9 _) new, rfl, q _ (I.hok.fresh (S9 _))⟩
theorem PU (K : RU) (hc : X.calm = true) (hu : X.A.units + 64 < cLine) (e : X.K = K := by rfl) : Dy X (.type "set") (LA K) := by subst e; exact KY hc hu
theorem L0 : Dy X (.builtin "len") (fun xs H Q => ∃ (p : Addr) (n : Nat), xs = [.ref p] ∧ H p = some (MC p n) ∧ n ≤ 1000 ∧ Q (.int (n : Int)) H) := by
 intro pins s σ H xs us Q I r h
 obtain ⟨p, n, rfl, hp, hn, q⟩ := h
 obtain ⟨u, rfl, rfl⟩ := Ig r
 obtain ⟨⟨o, es, ep, t, h1, h2, h3, h4, h5⟩, _⟩ := I.hok p _ hp
 subst h5
 exact call_len_set h1 h2 h3 h4 (by lia) ⟨.int _, H, I.tok _, ⟨_, rfl⟩, q⟩
end
end L2
namespace L2
open PySem PySem.Spec PyProof.Rows
section
open PySem.W
variable {X : Cx} (K : RU)
end
end L2
namespace L2
open PySem PySem.Spec PyProof.Rows
structure PF (X : Cx) (N : List Str) (nt : Nat) (js : List Nat) (scope : Scope) (x : Str) : Prop where
 kind : scope.kind = .function
 split : ∃ pre post, scope.names = pre ++ (x, .cell) :: post ∧ (∀ y ∈ pre, y.2 ≠ .cell) ∧ ∀ y ∈ post, y.2 ≠ .cell
 only : ∀ y ∈ scope.names, y.2 = .cell → y.1 = x
 lx : scope.names.lookup x = some .cell
 names : ∀ y ∈ scope.names, y.2 = .local → scope.names.lookup y.1 = some .local
 free : ∀ y ∈ scope.names, y.2 = .free → X.env.kindOf y.1 = some .cell ∨ X.env.kindOf y.1 = some .free
 len : N.length = nt + js.length
 outer : ∀ j i, js[j]? = some i → ∃ x, N[nt + j]? = some x ∧ X.N[i]? = some x ∧ scope.names.lookup x = some .free
section
variable {X : Cx} {N : List Str} {nt : Nat} {js : List Nat} {scope : Scope} {cl : List (Str × Addr)} {x : Str} {c : Addr}
end
section
variable {X : Cx} {N : List Str} {nt : Nat} {js : List Nat} {scope : Scope} {elt iter tg : Expr} {ifs : List Expr} {pos : Pos} {g : TG} {tc : TT} {te : TE} {wi : TI} {xn : Str}
end
end L2
namespace L2
open PySem PySem.Spec PyProof.Rows
@[reducible] def Cl (u : RU → TS) (K : RU) : TS := u K
theorem Ab {X : Cx} {st : Stmt} {BY : List Stmt} {t v : TS} {K : RU} {u : RU → TS} (h1 : PS X st t) (h2 : PSs X BY v) (e : v = u K) : PSs X (st :: BY) (MN t (Cl u K)) := by
 subst e; exact LD h1 h2
section
variable {X : Cx} {o e : Expr} {es : List Expr} {to : TE} {t : TA} {name : Str} {apos cpos : Pos} {T id : String} {r : V → List V → Hp → VK → Prop}
theorem N9 (K : RU) (pa : PlainAttrs T) (slot : Slot T name id) (hty : typeOf (.builtin id) = pure (.type "method_descriptor")) (hm : MtR X id r) (ho : PE X o to)
 (hbase : attributeBase o name X.env (eval o X.env) = eval o X.env := by rfl) (hline : (apos.endLine == cpos.line) = true := by rfl) (eK : X.K = K := by rfl) : PE X (.Call (.Attribute o name apos) [] [] cpos) (P8 K T r to) := Oj pa slot hty hm ho hbase hline eK
theorem Dj (K : RU) (pa : PlainAttrs T) (slot : Slot T name id) (hty : typeOf (.builtin id) = pure (.type "method_descriptor")) (hm : MtR X id r) (ho : PE X o to) (ha : PA X (e :: es) t)
 (hbase : attributeBase o name X.env (eval o X.env) = eval o X.env := by rfl)
 (hfew : ((backTo cpos (starEach (e :: es) X.env)).all (fun x => !x.1) && (backToKw cpos (keywordEach [] X.env)).all (fun x => x.1.isSome)
  && decide ((e :: es).length + ([] : List Keyword).length + (if ([] : List Keyword).isEmpty then 0 else 1) < 30)) = true := by rfl)
 (hline : (apos.endLine == cpos.line) = true := by rfl) (hs : starEach (e :: es) X.env = (false, eval e X.env) :: starEach es X.env := by rfl) (hplain : (backTo cpos (starEach es X.env)).any (·.1) = false := by rfl) (eK : X.K = K := by rfl) :
 PE X (.Call (.Attribute o name apos) (e :: es) [] cpos) (tBM K T r to t) := Ph pa slot hty hm ho ha hbase hfew hline hs hplain eK
end
theorem AZ {c : Bool} {A B : Prop} (e : c = true) (h : A) : if c = true then A else B := by
 rw [if_pos e]; exact h
theorem AM {c : Bool} {A B : Prop} (e : c = false) (h : B) : if c = true then A else B := by
 rw [if_neg (by rw [e]; decide)]; exact h
theorem Bt {α : Type} {l : List α} {n : Nat} (h : l.length = n + 1) : ∃ a r, l = a :: r ∧ r.length = n := by
 cases l with
 | nil => cases h
 | cons a r => exact ⟨a, r, rfl, Nat.succ.inj h⟩
theorem Fun.binds1 {K : RU} {x qual : Str} {st : Stmt} {f : Addr} {fd : FuncData} (p1 : Str) (F : Fun K x qual st f fd)
 (h : ∀ (kV doc pm : Value) (an : Option Addr) (cdv ct a1 : Value), bindArgs (Sw x qual (Al st) (Ak st) (Ae st) .none kV doc pm an cdv ct) ⟨[a1], []⟩ = pure [(p1, a1)]) : C5 K fd [p1] [] :=
 F.binds fun kV doc pm an cdv ct us l0 => by
  obtain ⟨a1, r1, rfl, l1⟩ := Bt l0
  cases Ud.mp l1
  exact h kV doc pm an cdv ct a1
theorem Fun.binds2 {K : RU} {x qual : Str} {st : Stmt} {f : Addr} {fd : FuncData} (p1 p2 : Str) (F : Fun K x qual st f fd)
 (h : ∀ (kV doc pm : Value) (an : Option Addr) (cdv ct a1 a2 : Value), bindArgs (Sw x qual (Al st) (Ak st) (Ae st) .none kV doc pm an cdv ct) ⟨[a1, a2], []⟩ = pure [(p1, a1), (p2, a2)]) : C5 K fd [p1, p2] [] :=
 F.binds fun kV doc pm an cdv ct us l0 => by
  obtain ⟨a1, r1, rfl, l1⟩ := Bt l0
  obtain ⟨a2, r2, rfl, l2⟩ := Bt l1
  cases Ud.mp l2
  exact h kV doc pm an cdv ct a1 a2
theorem Fun.binds3 {K : RU} {x qual : Str} {st : Stmt} {f : Addr} {fd : FuncData} (p1 p2 p3 : Str) (F : Fun K x qual st f fd)
 (h : ∀ (kV doc pm : Value) (an : Option Addr) (cdv ct a1 a2 a3 : Value), bindArgs (Sw x qual (Al st) (Ak st) (Ae st) .none kV doc pm an cdv ct) ⟨[a1, a2, a3], []⟩ = pure [(p1, a1), (p2, a2), (p3, a3)]) : C5 K fd [p1, p2, p3] [] :=
 F.binds fun kV doc pm an cdv ct us l0 => by
  obtain ⟨a1, r1, rfl, l1⟩ := Bt l0
  obtain ⟨a2, r2, rfl, l2⟩ := Bt l1
  obtain ⟨a3, r3, rfl, l3⟩ := Bt l2
  cases Ud.mp l3
  exact h kV doc pm an cdv ct a1 a2 a3
theorem Fun.binds4 {K : RU} {x qual : Str} {st : Stmt} {f : Addr} {fd : FuncData} (p1 p2 p3 p4 : Str) (F : Fun K x qual st f fd)
 (h : ∀ (kV doc pm : Value) (an : Option Addr) (cdv ct a1 a2 a3 a4 : Value), bindArgs (Sw x qual (Al st) (Ak st) (Ae st) .none kV doc pm an cdv ct) ⟨[a1, a2, a3, a4], []⟩ = pure [(p1, a1), (p2, a2), (p3, a3), (p4, a4)]) : C5 K fd [p1, p2, p3, p4] [] :=
 F.binds fun kV doc pm an cdv ct us l0 => by
  obtain ⟨a1, r1, rfl, l1⟩ := Bt l0
  obtain ⟨a2, r2, rfl, l2⟩ := Bt l1
  obtain ⟨a3, r3, rfl, l3⟩ := Bt l2
  obtain ⟨a4, r4, rfl, l4⟩ := Bt l3
  cases Ud.mp l4
  exact h kV doc pm an cdv ct a1 a2 a3 a4
@[reducible] def L1 {α1 : Type} {δ : Type} (x1 : α1) (u : α1 → δ) : δ := u x1
@[reducible] def L2 {α1 α2 : Type} {δ : Type} (x1 : α1) (x2 : α2) (u : α1 → α2 → δ) : δ := u x1 x2
@[reducible] def L3 {α1 α2 α3 : Type} {δ : Type} (x1 : α1) (x2 : α2) (x3 : α3) (u : α1 → α2 → α3 → δ) : δ := u x1 x2 x3
@[reducible] def L4 {α1 α2 α3 α4 : Type} {δ : Type} (x1 : α1) (x2 : α2) (x3 : α3) (x4 : α4) (u : α1 → α2 → α3 → α4 → δ) : δ := u x1 x2 x3 x4
@[reducible] def L5 {α1 α2 α3 α4 α5 : Type} {δ : Type} (x1 : α1) (x2 : α2) (x3 : α3) (x4 : α4) (x5 : α5) (u : α1 → α2 → α3 → α4 → α5 → δ) : δ := u x1 x2 x3 x4 x5
@[reducible] def L6 {α1 α2 α3 α4 α5 α6 : Type} {δ : Type} (x1 : α1) (x2 : α2) (x3 : α3) (x4 : α4) (x5 : α5) (x6 : α6) (u : α1 → α2 → α3 → α4 → α5 → α6 → δ) : δ := u x1 x2 x3 x4 x5 x6
@[reducible] def L7 {α1 α2 α3 α4 α5 α6 α7 : Type} {δ : Type} (x1 : α1) (x2 : α2) (x3 : α3) (x4 : α4) (x5 : α5) (x6 : α6) (x7 : α7) (u : α1 → α2 → α3 → α4 → α5 → α6 → α7 → δ) : δ := u x1 x2 x3 x4 x5 x6 x7
@[reducible] def L8 {α1 α2 α3 α4 α5 α6 α7 α8 : Type} {δ : Type} (x1 : α1) (x2 : α2) (x3 : α3) (x4 : α4) (x5 : α5) (x6 : α6) (x7 : α7) (x8 : α8) (u : α1 → α2 → α3 → α4 → α5 → α6 → α7 → α8 → δ) : δ := u x1 x2 x3 x4 x5 x6 x7 x8
@[reducible] def L9 {α1 α2 α3 α4 α5 α6 α7 α8 α9 : Type} {δ : Type} (x1 : α1) (x2 : α2) (x3 : α3) (x4 : α4) (x5 : α5) (x6 : α6) (x7 : α7) (x8 : α8) (x9 : α9) (u : α1 → α2 → α3 → α4 → α5 → α6 → α7 → α8 → α9 → δ) : δ := u x1 x2 x3 x4 x5 x6 x7 x8 x9
@[reducible] def L10 {α1 α2 α3 α4 α5 α6 α7 α8 α9 α10 : Type} {δ : Type} (x1 : α1) (x2 : α2) (x3 : α3) (x4 : α4) (x5 : α5) (x6 : α6) (x7 : α7) (x8 : α8) (x9 : α9) (x10 : α10) (u : α1 → α2 → α3 → α4 → α5 → α6 → α7 → α8 → α9 → α10 → δ) : δ := u x1 x2 x3 x4 x5 x6 x7 x8 x9 x10
@[reducible] def L11 {α1 α2 α3 α4 α5 α6 α7 α8 α9 α10 α11 : Type} {δ : Type} (x1 : α1) (x2 : α2) (x3 : α3) (x4 : α4) (x5 : α5) (x6 : α6) (x7 : α7) (x8 : α8) (x9 : α9) (x10 : α10) (x11 : α11) (u : α1 → α2 → α3 → α4 → α5 → α6 → α7 → α8 → α9 → α10 → α11 → δ) : δ := u x1 x2 x3 x4 x5 x6 x7 x8 x9 x10 x11
@[reducible] def L12 {α1 α2 α3 α4 α5 α6 α7 α8 α9 α10 α11 α12 : Type} {δ : Type} (x1 : α1) (x2 : α2) (x3 : α3) (x4 : α4) (x5 : α5) (x6 : α6) (x7 : α7) (x8 : α8) (x9 : α9) (x10 : α10) (x11 : α11) (x12 : α12) (u : α1 → α2 → α3 → α4 → α5 → α6 → α7 → α8 → α9 → α10 → α11 → α12 → δ) : δ := u x1 x2 x3 x4 x5 x6 x7 x8 x9 x10 x11 x12
@[reducible] def L13 {α1 α2 α3 α4 α5 α6 α7 α8 α9 α10 α11 α12 α13 : Type} {δ : Type} (x1 : α1) (x2 : α2) (x3 : α3) (x4 : α4) (x5 : α5) (x6 : α6) (x7 : α7) (x8 : α8) (x9 : α9) (x10 : α10) (x11 : α11) (x12 : α12) (x13 : α13) (u : α1 → α2 → α3 → α4 → α5 → α6 → α7 → α8 → α9 → α10 → α11 → α12 → α13 → δ) : δ := u x1 x2 x3 x4 x5 x6 x7 x8 x9 x10 x11 x12 x13
@[reducible] def L14 {α1 α2 α3 α4 α5 α6 α7 α8 α9 α10 α11 α12 α13 α14 : Type} {δ : Type} (x1 : α1) (x2 : α2) (x3 : α3) (x4 : α4) (x5 : α5) (x6 : α6) (x7 : α7) (x8 : α8) (x9 : α9) (x10 : α10) (x11 : α11) (x12 : α12) (x13 : α13) (x14 : α14) (u : α1 → α2 → α3 → α4 → α5 → α6 → α7 → α8 → α9 → α10 → α11 → α12 → α13 → α14 → δ) : δ := u x1 x2 x3 x4 x5 x6 x7 x8 x9 x10 x11 x12 x13 x14
@[reducible] def L15 {α1 α2 α3 α4 α5 α6 α7 α8 α9 α10 α11 α12 α13 α14 α15 : Type} {δ : Type} (x1 : α1) (x2 : α2) (x3 : α3) (x4 : α4) (x5 : α5) (x6 : α6) (x7 : α7) (x8 : α8) (x9 : α9) (x10 : α10) (x11 : α11) (x12 : α12) (x13 : α13) (x14 : α14) (x15 : α15) (u : α1 → α2 → α3 → α4 → α5 → α6 → α7 → α8 → α9 → α10 → α11 → α12 → α13 → α14 → α15 → δ) : δ := u x1 x2 x3 x4 x5 x6 x7 x8 x9 x10 x11 x12 x13 x14 x15
@[reducible] def L16 {α1 α2 α3 α4 α5 α6 α7 α8 α9 α10 α11 α12 α13 α14 α15 α16 : Type} {δ : Type} (x1 : α1) (x2 : α2) (x3 : α3) (x4 : α4) (x5 : α5) (x6 : α6) (x7 : α7) (x8 : α8) (x9 : α9) (x10 : α10) (x11 : α11) (x12 : α12) (x13 : α13) (x14 : α14) (x15 : α15) (x16 : α16) (u : α1 → α2 → α3 → α4 → α5 → α6 → α7 → α8 → α9 → α10 → α11 → α12 → α13 → α14 → α15 → α16 → δ) : δ := u x1 x2 x3 x4 x5 x6 x7 x8 x9 x10 x11 x12 x13 x14 x15 x16
@[reducible] def L17 {α1 α2 α3 α4 α5 α6 α7 α8 α9 α10 α11 α12 α13 α14 α15 α16 α17 : Type} {δ : Type} (x1 : α1) (x2 : α2) (x3 : α3) (x4 : α4) (x5 : α5) (x6 : α6) (x7 : α7) (x8 : α8) (x9 : α9) (x10 : α10) (x11 : α11) (x12 : α12) (x13 : α13) (x14 : α14) (x15 : α15) (x16 : α16) (x17 : α17) (u : α1 → α2 → α3 → α4 → α5 → α6 → α7 → α8 → α9 → α10 → α11 → α12 → α13 → α14 → α15 → α16 → α17 → δ) : δ := u x1 x2 x3 x4 x5 x6 x7 x8 x9 x10 x11 x12 x13 x14 x15 x16 x17
@[reducible] def L18 {α1 α2 α3 α4 α5 α6 α7 α8 α9 α10 α11 α12 α13 α14 α15 α16 α17 α18 : Type} {δ : Type} (x1 : α1) (x2 : α2) (x3 : α3) (x4 : α4) (x5 : α5) (x6 : α6) (x7 : α7) (x8 : α8) (x9 : α9) (x10 : α10) (x11 : α11) (x12 : α12) (x13 : α13) (x14 : α14) (x15 : α15) (x16 : α16) (x17 : α17) (x18 : α18) (u : α1 → α2 → α3 → α4 → α5 → α6 → α7 → α8 → α9 → α10 → α11 → α12 → α13 → α14 → α15 → α16 → α17 → α18 → δ) : δ := u x1 x2 x3 x4 x5 x6 x7 x8 x9 x10 x11 x12 x13 x14 x15 x16 x17 x18
@[reducible] def L19 {α1 α2 α3 α4 α5 α6 α7 α8 α9 α10 α11 α12 α13 α14 α15 α16 α17 α18 α19 : Type} {δ : Type} (x1 : α1) (x2 : α2) (x3 : α3) (x4 : α4) (x5 : α5) (x6 : α6) (x7 : α7) (x8 : α8) (x9 : α9) (x10 : α10) (x11 : α11) (x12 : α12) (x13 : α13) (x14 : α14) (x15 : α15) (x16 : α16) (x17 : α17) (x18 : α18) (x19 : α19) (u : α1 → α2 → α3 → α4 → α5 → α6 → α7 → α8 → α9 → α10 → α11 → α12 → α13 → α14 → α15 → α16 → α17 → α18 → α19 → δ) : δ := u x1 x2 x3 x4 x5 x6 x7 x8 x9 x10 x11 x12 x13 x14 x15 x16 x17 x18 x19
@[reducible] def L20 {α1 α2 α3 α4 α5 α6 α7 α8 α9 α10 α11 α12 α13 α14 α15 α16 α17 α18 α19 α20 : Type} {δ : Type} (x1 : α1) (x2 : α2) (x3 : α3) (x4 : α4) (x5 : α5) (x6 : α6) (x7 : α7) (x8 : α8) (x9 : α9) (x10 : α10) (x11 : α11) (x12 : α12) (x13 : α13) (x14 : α14) (x15 : α15) (x16 : α16) (x17 : α17) (x18 : α18) (x19 : α19) (x20 : α20) (u : α1 → α2 → α3 → α4 → α5 → α6 → α7 → α8 → α9 → α10 → α11 → α12 → α13 → α14 → α15 → α16 → α17 → α18 → α19 → α20 → δ) : δ := u x1 x2 x3 x4 x5 x6 x7 x8 x9 x10 x11 x12 x13 x14 x15 x16 x17 x18 x19 x20
@[reducible] def L21 {α1 α2 α3 α4 α5 α6 α7 α8 α9 α10 α11 α12 α13 α14 α15 α16 α17 α18 α19 α20 α21 : Type} {δ : Type} (x1 : α1) (x2 : α2) (x3 : α3) (x4 : α4) (x5 : α5) (x6 : α6) (x7 : α7) (x8 : α8) (x9 : α9) (x10 : α10) (x11 : α11) (x12 : α12) (x13 : α13) (x14 : α14) (x15 : α15) (x16 : α16) (x17 : α17) (x18 : α18) (x19 : α19) (x20 : α20) (x21 : α21) (u : α1 → α2 → α3 → α4 → α5 → α6 → α7 → α8 → α9 → α10 → α11 → α12 → α13 → α14 → α15 → α16 → α17 → α18 → α19 → α20 → α21 → δ) : δ := u x1 x2 x3 x4 x5 x6 x7 x8 x9 x10 x11 x12 x13 x14 x15 x16 x17 x18 x19 x20 x21
@[reducible] def L22 {α1 α2 α3 α4 α5 α6 α7 α8 α9 α10 α11 α12 α13 α14 α15 α16 α17 α18 α19 α20 α21 α22 : Type} {δ : Type} (x1 : α1) (x2 : α2) (x3 : α3) (x4 : α4) (x5 : α5) (x6 : α6) (x7 : α7) (x8 : α8) (x9 : α9) (x10 : α10) (x11 : α11) (x12 : α12) (x13 : α13) (x14 : α14) (x15 : α15) (x16 : α16) (x17 : α17) (x18 : α18) (x19 : α19) (x20 : α20) (x21 : α21) (x22 : α22) (u : α1 → α2 → α3 → α4 → α5 → α6 → α7 → α8 → α9 → α10 → α11 → α12 → α13 → α14 → α15 → α16 → α17 → α18 → α19 → α20 → α21 → α22 → δ) : δ := u x1 x2 x3 x4 x5 x6 x7 x8 x9 x10 x11 x12 x13 x14 x15 x16 x17 x18 x19 x20 x21 x22
@[reducible] def L23 {α1 α2 α3 α4 α5 α6 α7 α8 α9 α10 α11 α12 α13 α14 α15 α16 α17 α18 α19 α20 α21 α22 α23 : Type} {δ : Type} (x1 : α1) (x2 : α2) (x3 : α3) (x4 : α4) (x5 : α5) (x6 : α6) (x7 : α7) (x8 : α8) (x9 : α9) (x10 : α10) (x11 : α11) (x12 : α12) (x13 : α13) (x14 : α14) (x15 : α15) (x16 : α16) (x17 : α17) (x18 : α18) (x19 : α19) (x20 : α20) (x21 : α21) (x22 : α22) (x23 : α23) (u : α1 → α2 → α3 → α4 → α5 → α6 → α7 → α8 → α9 → α10 → α11 → α12 → α13 → α14 → α15 → α16 → α17 → α18 → α19 → α20 → α21 → α22 → α23 → δ) : δ := u x1 x2 x3 x4 x5 x6 x7 x8 x9 x10 x11 x12 x13 x14 x15 x16 x17 x18 x19 x20 x21 x22 x23
@[reducible] def L24 {α1 α2 α3 α4 α5 α6 α7 α8 α9 α10 α11 α12 α13 α14 α15 α16 α17 α18 α19 α20 α21 α22 α23 α24 : Type} {δ : Type} (x1 : α1) (x2 : α2) (x3 : α3) (x4 : α4) (x5 : α5) (x6 : α6) (x7 : α7) (x8 : α8) (x9 : α9) (x10 : α10) (x11 : α11) (x12 : α12) (x13 : α13) (x14 : α14) (x15 : α15) (x16 : α16) (x17 : α17) (x18 : α18) (x19 : α19) (x20 : α20) (x21 : α21) (x22 : α22) (x23 : α23) (x24 : α24) (u : α1 → α2 → α3 → α4 → α5 → α6 → α7 → α8 → α9 → α10 → α11 → α12 → α13 → α14 → α15 → α16 → α17 → α18 → α19 → α20 → α21 → α22 → α23 → α24 → δ) : δ := u x1 x2 x3 x4 x5 x6 x7 x8 x9 x10 x11 x12 x13 x14 x15 x16 x17 x18 x19 x20 x21 x22 x23 x24
theorem AQ {X : Cx} {c : Expr} {a b : List Stmt} {pos : Pos} {tc : TT} {v1 v2 : TS} {K : RU} {u1 u2 : RU → TS} (hc : PT X c tc) (ha : PSs X a v1) (hb : PSs X b v2) (e1 : v1 = u1 K) (e2 : v2 = u2 K) : PS X (.If c a b pos) (MP tc (Cl u1 K) (Cl u2 K)) := by
 subst e1; subst e2; exact Pe hc ha hb
theorem Bb {X : Cx} {tg iter : Expr} {body : List Stmt} {wi : TI} {g : TG} {v : TS} {pos : Pos} {K : RU} {u : RU → TS} (hp : PassesOwn (model X.prog X.w) X.A X.env X.xe) (hc : X.calm = true) (hi : PI X tg iter wi) (hg : PG X tg g) (hb : PSs X body v) (e : v = u K)
 (hs : ∀ x, foldedSetIterable iter X.env x = pure x := by intro _; rfl) : PS X (.For tg iter body [] pos) (NZ wi g (Cl u K)) := by
 subst e; exact Oc hp hc hi hg hb hs
theorem LV {a b c d : Nat} (h1 : a = c) (h2 : b = d) : ((a : Int) - (b : Int)).toNat = c - d := by rw [h1, h2]; exact Int.toNat_sub c d
theorem Dq {a b : Nat} (h : a = b) : ((a : Int) - 1).toNat = b - 1 := LV (b := 1) h rfl
theorem KH {a b c d : Nat} (h1 : a = c) (h2 : b = d) (_h : 1 ≤ d) : ((a : Int) + (b : Int) - 1).toNat = c + d - 1 := by
 rw [h1, h2, ← Int.natCast_add]
 exact Dq rfl
theorem LU {a b : Nat} (h : 1 ≤ b) : ((a : Int) + (b : Int) - 1).toNat = a + b - 1 := KH rfl rfl h
theorem KG {a b m : Nat} (h1 : a ≤ m) (h2 : b ≤ m) : ((a : Int) + (b : Int) - 1).toNat ≤ 2 * m := by
 rw [← Int.natCast_add, Dq rfl, Nat.two_mul]
 exact RV (Nat.sub_le _ _) (Nat.add_le_add h1 h2)
theorem LW {a b i : Nat} (h : a = b) (hi : i < b) : (a : Int) - 1 - (i : Int) = ((b - 1 - i : Nat) : Int) := by
 rw [h, Int.ofNat_sub (show i ≤ b - 1 from Nat.le_pred_of_lt hi), Int.ofNat_sub (show 1 ≤ b from SQ (Sb i) hi)]
 rfl
theorem Ov {b i : Nat} (hi : i < b) : b - 1 - i < b := SQ (Nat.sub_le _ _) (Nat.sub_lt (SQ (Sb i) hi) Nat.one_pos)
theorem Ni {a b : Nat} (h : a = b) : ((a : Int) - 1 - -1).toNat = b := by
 rw [h, Int.sub_neg, Int.sub_add_cancel]
 exact Sy b
theorem Nk {a k m t b : Nat} (ha : a ≤ 200) (hk : k < m - 1) (hm : m = 2 ∨ m = 3) (e : a = t) : t + min k b ≤ 204 := by
 rw [← e]
 have h4 : k ≤ 4 := by
  rcases hm with rfl | rfl
  ·exact RV (RW hk) (by decide)
  ·exact RV (RW hk) (by decide)
 exact Nat.add_le_add ha (RV (Nat.min_le_left _ _) h4)
theorem Nj {a m : Nat} (ha : a ≤ 200) (hm : m = 2 ∨ m = 3) : a + (m - 1) * 1 ≤ 300 := by
 rcases hm with rfl | rfl
 ·exact RV (Ue ha _) (by decide)
 ·exact RV (Ue ha _) (by decide)
theorem Nh {a m : Nat} (h : a = m) (hm : m = 2 ∨ m = 3) : ((a : Int) - 1).toNat ≤ 2 := by
 rw [Dq h]
 rcases hm with rfl | rfl <;> decide
theorem Ow {i j a b n : Nat} (hi : i < a) (hj : j < b) (h : n = a + b - 1) : i + j < n := by
 rw [h]
 refine Nat.lt_sub_of_add_lt ?_
 rw [Nat.add_right_comm]
 exact Nat.add_lt_add_of_le_of_lt hi hj
end L2
namespace L2
open PySem PySem.Spec PyProof.Rows
def EX (f : Addr) (fd : FuncData) : HO := .ext fun h => h.get? f = some { cls := .type "function", data := .func fd }
def EF (c : Addr) (o : Obj) : HO := .ext fun h => h.get? c = some o
def HY (c : Addr) (q : Str) : HO := .ext fun h => h.CodeRec (.ref c) q
def offC (cs : List Addr) (H : Hp) : Hp := fun b => if b ∈ cs then none else H b
def onC (cs : List Addr) (H0 H : Hp) : Hp := fun b => if b ∈ cs then H0 b else H b
theorem Ez {cs : List Addr} {H : Hp} {b : Addr} (h : b ∈ cs) : offC cs H b = none := if_pos h
theorem BJ {cs : List Addr} {H : Hp} {b : Addr} (h : b ∉ cs) : offC cs H b = H b := if_neg h
theorem NM {cs : List Addr} {H0 H : Hp} {b : Addr} (h : b ∈ cs) : onC cs H0 H b = H0 b := if_pos h
theorem Dl {cs : List Addr} {H0 H : Hp} {b : Addr} (h : b ∉ cs) : onC cs H0 H b = H b := if_neg h
theorem Dm {cs : List Addr} {H : Hp} {b : Addr} (h : H b = none) : offC cs H b = none := by
 unfold offC; split
 ·rfl
 ·exact h
section
variable {P : Program} {w : World} {fs cs : List Addr} {H H' : Hp} {h h' : Heap}
theorem Un.onC (u : Un fs [] (offC cs H) H' h h') (hc : ∀ c ∈ cs, ∃ o, H c = some (EF c o)) : Un fs [] H (onC cs H H') h h' := by
 have no : ∀ {b : Addr} {o : HO}, H b = some o → (∀ c ob, o ≠ EF c ob) → b ∉ cs := fun {b o} e hne hb => by
  obtain ⟨ob, q⟩ := hc b hb
  rw [e] at q
  exact hne b ob (RL.inj q)
 refine ⟨fun b o e n hb hx => u.keep b o e (Dm n) hb hx, fun b o e n hb hx => u.slot b o e (Dm n) hb hx, fun b o e n hx => ?_, u.there, fun b xs e => ?_, fun b o v e => ?_, fun b ps e => ?_⟩
 ·have hb : b ∉ cs := fun z => by obtain ⟨ob, q⟩ := hc b z; rw [n] at q; cases q
  rw [Dl hb]
  exact u.free b o e (Dm n) hx
 ·have hb := no e fun c ob z => by cases z
  rw [Dl hb]
  exact u.tups b xs (by rw [BJ hb]; exact e)
 ·have hb := no e fun c ob z => by cases z
  rw [Dl hb]
  exact u.frzs b o v (by rw [BJ hb]; exact e)
 ·have hb := no e fun c ob z => by cases z
  rw [Dl hb]
  exact u.tbls b ps (by rw [BJ hb]; exact e)
theorem HOk.onC (ok : HOk P w H h) (u : Un fs [] (offC cs H) H' h h') (ok' : HOk P w H' h') (hc : ∀ c ∈ cs, ∃ o, H c = some (EF c o)) (hn : ∀ c ∈ cs, H' c = none) (hf : ∀ c ∈ cs, c ∉ fs) : HOk P w (onC cs H H') h' := fun b o e => by
 by_cases hb : b ∈ cs
 ·rw [NM hb] at e
  obtain ⟨ob, q⟩ := hc b hb
  rw [q] at e
  cases e
  obtain ⟨p, _, st⟩ := ok b _ q
  have p' : h.get? b = some ob := p
  have k := u.keep b ob p' (Ez hb) (hf b hb) (by simp)
  exact ⟨k, ⟨ob, k⟩, st⟩
 ·rw [Dl hb] at e
  have nc : ∀ {c : Addr} {v : HO}, H' c = some v → c ∉ cs := fun {c v} q z => by rw [hn c z] at q; cases q
  exact (ok' b o e).stay (fun _ _ _ q => q) (fun c q => by rw [Dl (nc q)]; exact q) fun c xs q => by rw [Dl (nc q)]; exact q
theorem HOk.offC (ok : HOk P w H h) (hc : ∀ c ∈ cs, ∃ o, H c = some (EF c o)) : HOk P w (offC cs H) h := fun b o e => by
 by_cases hb : b ∈ cs
 ·rw [Ez hb] at e; cases e
 ·rw [BJ hb] at e
  have no : ∀ {c : Addr} {v : HO}, H c = some v → (∀ d ob, v ≠ EF d ob) → c ∉ cs := fun {c v} q hne z => by
   obtain ⟨ob, q'⟩ := hc c z
   rw [q] at q'
   exact hne c ob (RL.inj q')
  exact (ok b o e).stay (fun _ _ _ q => q) (fun c q => by rw [BJ (no q fun d ob z => by cases z)]; exact q) fun c xs q => by rw [BJ (no q fun d ob z => by cases z)]; exact q
end
def Ki (CX : CXT) (P : Program) (w : World) (K : RU) (mg : Str → Option Value) (base : Heap) (N : List Str) (qual : Str) (scope : Scope) (f : Addr) (cd : Value) (cl : List (Str × Addr)) (A : Around) (outer : List Env) (s : Shared) (H : Hp) (E : XK) : Cx where
 prog := P
 w := w
 K := K
 mg := mg
 base := base
 A := A.deeper (Ug qual scope s.heap.objs.size f cd cl)
 N := N
 s₀ := s
 H₀ := H
 env := Ug qual scope s.heap.objs.size f cd cl
 outer := outer
 stack := Ug qual scope s.heap.objs.size f cd cl :: outer
 ex := []
 calm := true
 fn := fun _ => false
 pn := []
 xe := fun e s' => wpAny (model P w) (A.deeper (Ug qual scope s.heap.objs.size f cd cl)) (leaving (Ug qual scope s.heap.objs.size f cd cl) e) (fun _ s'' => CX outer H s E e s'') (fun e' s'' => CX outer H s E e' s'') s'
structure Jd (H : Hp) (scope : Scope) (N ps : List Str) (cl : List (Str × Addr)) (σ : St) (vs : List V) : Prop where
 kind : scope.kind = .function
 co : scope.isCoroutine = false
 gen : scope.isGenerator = false
 nocell : ∀ x ∈ scope.names, x.2 ≠ .cell
 par : ∀ p ∈ ps, scope.names.lookup p = some .local
 inj : ∀ x y c, cl.lookup x = some c → cl.lookup y = some c → x = y
 has : ∀ x, scope.names.lookup x = some .free → ∃ c, cl.lookup x = some c
 len : σ.length = N.length
 cel : ∀ p ∈ cl, ∃ (o : Obj) (v : Option Value), H p.2 = some (EF p.2 o) ∧ o.data = .cell v
 val : ∀ (i : Nat) (x : Str) (v : V), N[i]? = some x → σ[i]? = some (some v) →
  (scope.names.lookup x = some .local ∧ ∃ j : Nat, ps[j]? = some x ∧ vs[j]? = some v) ∨ (scope.names.lookup x = some .free ∧ ∃ c o u, cl.lookup x = some c ∧ H c = some (EF c o) ∧ o.data = .cell (some u) ∧ AI v u)
theorem Jd.cells {H : Hp} {scope : Scope} {N ps : List Str} {cl : List (Str × Addr)} {σ : St} {vs : List V} (S : Jd H scope N ps cl σ vs) : ∀ c ∈ cl.map (·.2), ∃ o, H c = some (EF c o) := fun c hc => by
 obtain ⟨p, hp, rfl⟩ := TR.mp hc
 obtain ⟨o, v, e, _⟩ := S.cel p hp
 exact ⟨o, e⟩
theorem Nq {CX : CXT} {P : Program} {w : World} {K : RU} {mg : Str → Option Value} {base : Heap} {N ps : List Str} {qual : Str} {scope : Scope} {f : Addr} {cd : Value} {cl : List (Str × Addr)} {A : Around} {outer : List Env} {s : Shared} {H : Hp} {E : XK} {us : List Value} {vs : List V} {σ : St} {h1 : Heap}
 (S : Jd H scope N ps cl σ vs) (hd : A.handled = none) (e0 : Lb P w K mg base A outer s H) (r : AA vs us) (hlk : ∀ (j : Nat) (x : Str) (u : Value), ps[j]? = some x → us[j]? = some u → (ps.zip us).reverse.lookup x = some u)
 (hns : h1.Ns s.heap.objs.size fun x => (ps.zip us).reverse.lookup x) (hk : ∀ b o, s.heap.get? b = some o → h1.get? b = some o) (tk : Nat) :
 Inv (Ki CX P w K mg base N qual scope f cd cl A outer s (offC (cl.map (·.2)) H) E) [] σ (offC (cl.map (·.2)) H) { s with heap := h1, toks := tk } := by
 have hcs := S.cells
 have ok' := e0.hok.offC hcs
 have noA : ∀ b : Addr, b ∉ (Ki CX P w K mg base N qual scope f cd cl A outer s (offC (cl.map (·.2)) H) E).ex := fun b z => absurd (show b ∈ ([] : List Addr) from z) (by simp)
 have mem : ∀ {x : Str} {c : Addr}, cl.lookup x = some c → c ∈ cl.map (·.2) := fun h => Uh (f := (·.2)) (PySem.mem_of_lookup h)
 have cellOf : ∀ {x : Str} {c : Addr}, cl.lookup x = some c → ∀ o, H c = some (EF c o) → h1.get? c = some o := fun {x c} h o q => by
  obtain ⟨p, _, _⟩ := e0.hok c _ q
  exact hk c o p
 refine ⟨⟨e0.mod, S.kind, rfl, rfl, S9 _, S.inj, fun y hy => ?_, fun y c h => ?_, fun _ => hd, Around.frames_deeper e0.frames, .inr ⟨rfl, rfl⟩, fun b z => absurd z (noA b), fun b o e => ⟨(e0.bs b o e).1, Dm (e0.bs b o e).2⟩, e0.bsz, fun b _ _ => noA b, fun b z => absurd z (noA b), e0.funs, fun b hb => Dm (e0.frf b hb)⟩,
  rfl, e0.bare, Un.kept hk, ⟨_, hns, fun i y v h1 h2 h3 => ?_⟩, fun y c h => ?_, ok'.fresh (S9 _), fun y c h => Ez (mem h), fun p hp => absurd (show p ∈ ([] : List (Addr × Obj)) from hp) (by simp), ok'.kept hk, S.len⟩
 ·rcases hy with hy | hy
  ·exact absurd rfl (S.nocell _ (PySem.mem_of_lookup hy))
  ·exact S.has y hy
 ·cases h
 ·rcases S.val i y v h1 h2 with ⟨hl, j, hp, hv⟩ | ⟨hl, c, o, u, hc, ho, hd, rv⟩
  ·obtain ⟨u, hu, rv⟩ := r.get hv
   exact ⟨u, rv, .inl ⟨hl, hlk j y u hp hu⟩⟩
  ·exact ⟨u, rv, .inr ⟨.inr hl, c, hc, o, cellOf hc o ho, hd⟩⟩
 ·obtain ⟨o, v, ho, hd⟩ := S.cel (y, c) (PySem.mem_of_lookup h)
  exact ⟨v, o, cellOf h o ho, hd⟩
theorem OC {CX : CXT} {P : Program} {w : World} {K : RU} {mg : Str → Option Value} {base : Heap} {k : Nat} {f c' : Addr} {name qual : Str} {params : Arguments} {body : Expr} {scope : Scope} {cl : List (Str × Addr)} {pm ctv : Value} {N ps : List Str} {sp : Sp}
 (len : ∀ vs H Q E, sp vs H Q E → vs.length = ps.length)
 (hlk : ∀ us : List Value, us.length = ps.length → ∀ (j : Nat) (x : Str) (u : Value), ps[j]? = some x → us[j]? = some u → (ps.zip us).reverse.lookup x = some u)
 (hbody : ∀ (A : Around) (outer : List Env) (s : Shared) (H : Hp) (vs : List V) (Q : VK) (E : XK), BZ k (A.deeper (Ug qual scope s.heap.objs.size f (.ref c') cl)) → sp vs H Q E →
  H f = some (EX f (Ui name qual params body scope cl pm (.ref c') ctv)) ∧ H c' = some (HY c' qual) ∧ ∃ σ, Jd H scope N ps cl σ vs ∧
  ∃ t, PE (Ki CX P w K mg base N qual scope f (.ref c') cl A outer s (offC (cl.map (·.2)) H) E) body t ∧ t σ (offC (cl.map (·.2)) H) (fun v H' => (∀ c ∈ cl.map (·.2), H' c = none) → Q v (onC (cl.map (·.2)) H H')) ∧
  ∀ e s', CX outer (offC (cl.map (·.2)) H) s E e s' → CX outer H s E e s') :
 AH P w K mg base CX (k + 1) f (Ui name qual params body scope cl pm (.ref c') ctv) ps sp := by
 refine ⟨len, fun A outer s H args us vs Q E hr e0 hb r hsp => ?_⟩
 have hl := len _ _ _ _ hsp
 obtain ⟨hf, hcode, σ, S, t, ht, hq, hCX⟩ := hbody A outer s H vs Q E (hr.deeper _) hsp
 have lim : s.heap.NoLimit := e0.mod.nolimit.keeps fun b o e => (e0.bs b o e).1
 obtain ⟨hfo, _, _⟩ := e0.hok f _ hf
 obtain ⟨hco, _, _⟩ := e0.hok c' _ hcode
 have hlu : us.length = ps.length := by rw [← r.length]; exact hl
 refine PySem.W.kla_callFunE hr.depth hfo rfl S.co S.gen rfl hco (hb _ _ _ _ ?_)
 refine wpAny_newFunctionEnv S.nocell (fun y hy => S.par _ (Sh hy).1) (fun h1 hns hsb => ?_) S.kind
 have hk : ∀ b o, s.heap.get? b = some o → h1.get? b = some o := fun b o e => hsb.extBut b o (RP (Heap.lt_size e)) (Heap.get?_push_of_some _ e)
 refine ⟨lim.keeps hk, ?_⟩
 show codeAny _ _ (.expr body (Ug qual scope s.heap.objs.size f (.ref c') cl)) _ _
 have I := Nq (CX := CX) (qual := qual) (f := f) (cd := .ref c') (E := E) S hr.hd e0 r (hlk us hlu) hns hk (s.toks + (ps.zip us).length)
 refine PySem.W.kla_codeExpr (wpAny_mono (ht [] _ _ _ _ I hq) (fun u s' hs => ?_) fun e s' hs => ?_)
 ·obtain ⟨v, H', J, rv, q⟩ := hs
  have hn : ∀ c ∈ cl.map (·.2), H' c = none := fun c hc => by
   obtain ⟨p, hp, rfl⟩ := TR.mp hc
   obtain ⟨o, v, e, _⟩ := S.cel p hp
   obtain ⟨p', _, _⟩ := e0.hok _ _ e
   exact J.base.free _ o p' (Ez hc) (by intro z; cases z)
  have ub : Un (frs outer) [] (offC (cl.map (·.2)) H) H' s.heap s'.heap := J.base
  refine ⟨v, onC (cl.map (·.2)) H H', J.os, J.bare, Un.onC ub S.cells, HOk.onC e0.hok ub J.hok S.cells hn fun c hc hz => ?_, rv, q hn⟩
  obtain ⟨o, e⟩ := S.cells c hc
  have z : H c = none := e0.frf c hz
  rw [z] at e; cases e
 ·exact wpAny_mono hs (fun _ s'' h => hCX _ _ h) fun _ s'' h => hCX _ _ h
section
variable {X : Cx} {CX : CXT} {k i : Nat} {E : XK} {x : Str} {p pos : Pos} {e : Expr} {es : List Expr} {t : TA}
end
def DL (cs : List Addr) (os : Addr → Obj) (H : Hp) : Hp := fun b => if b ∈ cs then some (EF b (os b)) else H b
theorem Jh {cs : List Addr} {os : Addr → Obj} {H : Hp} {b : Addr} (h : b ∈ cs) : DL cs os H b = some (EF b (os b)) := if_pos h
theorem Bz {cs : List Addr} {os : Addr → Obj} {H : Hp} {b : Addr} (h : b ∉ cs) : DL cs os H b = H b := if_neg h
structure HZ (env : Env) (cl : List (Str × Addr)) : Prop where
 sub : ∀ x c, (x, c) ∈ cl → env.cells.lookup x = some c
 inj : ∀ x y c, (x, c) ∈ cl → (y, c) ∈ cl → x = y
def Lc (N : List Str) (σ : St) (sc : Scope) (cl : List (Str × Addr)) (os : Addr → Obj) : Prop := ∀ x c, (x, c) ∈ cl → (∃ v, (os c).data = .cell v) ∧
 ∀ (i : Nat) (v : V), N[i]? = some x → σ[i]? = some (some v) → sc.names.lookup x = some .cell → ∃ u, (os c).data = .cell (some u) ∧ AI v u
theorem HZ.look {env : Env} {cl : List (Str × Addr)} (C : HZ env cl) {x : Str} {c : Addr} (h : (x, c) ∈ cl) : cl.lookup x = some c := by
 cases e : cl.lookup x with
 | none =>
   have := List.lookup_eq_none_iff.mp e (x, c) h
   simp at this
 | some d =>
   have h2 := C.sub x d (PySem.mem_of_lookup e)
   rw [C.sub x c h] at h2
   exact congrArg some (RL.inj h2).symm
section
variable {X : Cx} {CX : CXT} {k : Nat} {f : Addr} {fd : FuncData} {ps : List Str} {sp : Sp} {E : XK} {x : Str} {p pos : Pos} {e : Expr} {es : List Expr} {t : TA}
theorem MY {pins : List (Addr × Obj)} {σ : St} {H : Hp} {s : Shared} {Q : VK} {us : List Value} {vs : List V} {cl : List (Str × Addr)} (F : AH X.prog X.w X.K X.mg X.base CX k f fd ps sp) (hr : BZ k X.A) (hb : C5 X.K fd ps [])
 (hfn : ∀ y, X.fn y = true) (hx : ∀ (e : Value) (H' : Hp) (s' : Shared), Inv X pins σ H s → CX X.stack H' s E e s' → X.xe e s') (I : Inv X pins σ H s) (r : AA vs us) (C : HZ X.env cl)
 (h : ∀ os, (∀ c ∈ cl.map (·.2), H c = none) → Lc X.N σ X.env.scope cl os → sp vs (DL (cl.map (·.2)) os H) (fun v H2 => (∀ c ∈ cl.map (·.2), H2 c = some (EF c (os c))) ∧ Q v (offC (cl.map (·.2)) H2)) E) :
 wpAny (model X.prog X.w) X.A (call (.ref f) us) (EP X pins σ Q) X.xe s := by
 obtain ⟨os, hos⟩ : ∃ os : Addr → Obj, ∀ c ∈ cl.map (·.2), s.heap.get? c = some (os c) ∧ ∃ v, (os c).data = .cell v := by
  refine ⟨fun c => (s.heap.get? c).getD { cls := .none, data := .plain }, fun c hc => ?_⟩
  obtain ⟨⟨y, c⟩, hp, rfl⟩ := TR.mp hc
  obtain ⟨v, o, ho, hd⟩ := I.cell y c (C.sub y c hp)
  have e : ((s.heap.get? c).getD { cls := .none, data := .plain }) = o := by rw [ho]; rfl
  exact ⟨by show s.heap.get? c = some ((s.heap.get? c).getD { cls := .none, data := .plain }); rw [e]; exact ho, v, by show ((s.heap.get? c).getD { cls := .none, data := .plain }).data = _; rw [e]; exact hd⟩
 have hcn : ∀ c ∈ cl.map (·.2), H c = none := fun c hc => by
  obtain ⟨⟨y, c⟩, hp, rfl⟩ := TR.mp hc
  exact I.freeC y c (C.sub y c hp)
 have hab : ∀ c ∈ cl.map (·.2), X.s₀.heap.objs.size ≤ c := fun c hc => by
  obtain ⟨⟨y, c⟩, hp, rfl⟩ := TR.mp hc
  exact I.ok.cab y c (hfn y) (C.sub y c hp)
 have hfr : ∀ b ∈ frs X.stack, b ∉ cl.map (·.2) := fun b hb hc => by
  rcases S1.mp (I.stkSub b hb) with z | z
  ·obtain ⟨⟨y, c⟩, hp, e⟩ := TR.mp hc
   exact I.cne y c (C.sub y c hp) (by rw [← z]; exact e)
  ·obtain ⟨_, o, ho, _⟩ := I.ok.funs.mem z
   exact absurd (RN (Heap.lt_size ho) (hab b hc)) (RO _)
 have hci : Lc X.N σ X.env.scope cl os := fun y c hp => by
  obtain ⟨h1, v0, h2⟩ := hos c (Uh (f := (·.2)) hp)
  refine ⟨⟨v0, h2⟩, fun i v hN hσ hk => ?_⟩
  obtain ⟨m, hn, hl⟩ := I.loc
  obtain ⟨u, ru, lk⟩ := hl i y v hN hσ (.inr (.inl hk))
  rcases lk with ⟨hk', _⟩ | ⟨_, c2, hc2, o, ho, hd⟩
  ·rw [show X.env.kindOf y = some .cell from hk] at hk'; cases hk'
  ·rw [C.sub y c hp] at hc2
   cases hc2
   rw [h1] at ho
   cases ho
   exact ⟨u, hd, ru⟩
 have q := h os hcn hci
 have e0 := I.env0
 have hokT : HOk X.prog X.w (DL (cl.map (·.2)) os H) s.heap := fun b o e => by
  by_cases hb : b ∈ cl.map (·.2)
  ·rw [Jh hb] at e
   cases e
   have g := (hos b hb).1
   exact ⟨g, ⟨_, g⟩, fun h1 h2 z st => st _ z⟩
  ·rw [Bz hb] at e
   have no : ∀ {c : Addr} {v : HO}, H c = some v → c ∉ cl.map (·.2) := fun {c v} q z => by rw [hcn c z] at q; cases q
   exact (I.hok b o e).stay (fun _ _ _ q => q) (fun c q => by rw [Bz (no q)]; exact q) fun c xs q => by rw [Bz (no q)]; exact q
 have eT : Lb X.prog X.w X.K X.mg X.base X.A X.stack s (DL (cl.map (·.2)) os H) := ⟨e0.frames, e0.mod, fun b o e => ⟨(e0.bs b o e).1, by
  have hb : b ∉ cl.map (·.2) := fun hc => absurd (RN (Heap.lt_size e) (RV I.ok.bsz (hab b hc))) (RO _)
  rw [Bz hb]; exact (e0.bs b o e).2⟩, e0.bsz, e0.funs, fun b hb => by rw [Bz (hfr b hb)]; exact e0.frf b hb, hokT, e0.bare⟩
 have hl : us.length = ps.length := by rw [← r.length]; exact F.len _ _ _ _ q
 have hb' := hb s us I.kIn (by rw [Sf]; exact hl)
 rw [Sf] at hb'
 refine wpAny_call (codeAny_mono (F.run X.A X.stack s _ ⟨us, []⟩ us vs _ E hr eT hb' r q) fun rr s' hq => ?_)
 cases rr with
 | error e => exact hx e _ s' I hq
 | ok fl =>
   cases fl with
   | next => exact False.elim hq
   | brk => exact False.elim hq
   | cont => exact False.elim hq
   | ret u =>
     obtain ⟨v, H2, hos', bare, un, hok2, rv, hc2, qv⟩ := hq
     refine I.after ⟨v, offC (cl.map (·.2)) H2, hos', bare, ⟨fun b o e n hb hx' => ?_, fun b o e n hb hx' => ?_, fun b o e n hx' => ?_, un.there, fun b xs e => ?_, fun b o w' e => ?_, fun b pp e => ?_⟩, HOk.offC hok2 (fun c hc => ⟨_, hc2 c hc⟩), rv, qv⟩
     ·by_cases hbc : b ∈ cl.map (·.2)
      ·obtain ⟨g, _, _⟩ := hok2 b _ (hc2 b hbc)
       have g' : s'.heap.get? b = some (os b) := g
       rw [(hos b hbc).1] at e
       cases e
       exact g'
      ·exact un.keep b o e (by rw [Bz hbc]; exact n) hb hx'
     ·exact un.slot b o e (by rw [Bz (hfr b hb)]; exact n) hb hx'
     ·by_cases hbc : b ∈ cl.map (·.2)
      ·exact Ez hbc
      ·rw [BJ hbc]; exact un.free b o e (by rw [Bz hbc]; exact n) hx'
     ·have hbc : b ∉ cl.map (·.2) := fun z => by rw [hcn b z] at e; cases e
      rw [BJ hbc]; exact un.tups b xs (by rw [Bz hbc]; exact e)
     ·have hbc : b ∉ cl.map (·.2) := fun z => by rw [hcn b z] at e; cases e
      rw [BJ hbc]; exact un.frzs b o w' (by rw [Bz hbc]; exact e)
     ·have hbc : b ∉ cl.map (·.2) := fun z => by rw [hcn b z] at e; cases e
      rw [BJ hbc]; exact un.tbls b pp (by rw [Bz hbc]; exact e)
end
section
variable {K : RU} {cs : List Addr} {H H' : Hp}
theorem Af.trk {os : Addr → Obj} (hn : ∀ c ∈ cs, H c = none) : Af H (DL cs os H) := fun b o e => by
 have hb : b ∉ cs := fun z => by rw [hn b z] at e; cases e
 rw [Bz hb]; exact e
theorem Af.untrk {os : Addr → Obj} (s : Af (DL cs os H) H') (hn : ∀ c ∈ cs, H c = none) : Af H (offC cs H') := fun b o e => by
 have hb : b ∉ cs := fun z => by rw [hn b z] at e; cases e
 rw [BJ hb]; exact s b o (by rw [Bz hb]; exact e)
end
end L2
namespace L2
open PySem PySem.Spec PyProof.Rows
def Bm (mg : Str → Option Value) (base : Heap) : Prop := ∃ bm ob, mg "__builtins__" = some (.ref bm) ∧ bm ≠ builtinsNs ∧ base.get? bm = some ob ∧ ob.cls = .type "module" ∧ ob.dict = some builtinsNs ∧ ob.data = .plain
def CN (Pt : Addr) (q : Str) (H : Hp) : Prop := ∃ ps : Array Value, H Pt = some (.tbl ps) ∧ TriplesOk ps.toList ∧ ∀ pos cv, codeAmong pos ps.toList = some cv → ∃ c', cv = .ref c' ∧ H c' = some (HY c' q)
theorem Gm {pos : Pos} {a b : Int} {c cv : Value} (l : List Value) (h : TriplesOk l) (e : codeAmong pos (l ++ [rawInt a, rawInt b, c]) = some cv) : codeAmong pos l = some cv ∨ cv = c := by
 fun_induction TriplesOk l with
 | case1 =>
   simp only [List.nil_append, rawInt, codeAmong] at e
   split at e
   ·exact .inr (RL.inj e).symm
   ·cases e
 | case2 a' t b' u x BY ih =>
   simp only [List.cons_append, codeAmong] at e ⊢
   split at e
   ·rename_i hc; rw [if_pos hc]; exact .inl e
   ·rename_i hc; rw [if_neg hc]; exact ih h e
 | case3 l h1 h2 => exact h.elim
structure MF (H H' : Hp) (Pt : Addr) (q : Str) (f c' : Addr) (fd : FuncData) : Prop where
 new : H f = none
 lam : H' f = some (EX f fd)
 cod : H' c' = some (HY c' q)
 tab : CN Pt q H'
 old : ∀ b o, b ≠ Pt → H b = some o → H' b = some o
def P6 (env : Env) (mg : Str → Option Value) (Pt : Addr) (q : Str) (params : Arguments) (body : Expr) (scope : Scope) : TE := fun _ H Q => CN Pt q H ∧ ∀ f c' cl ctv H', HZ env cl → (∀ x ∈ scope.names, x.2 = .free → ∃ c, (x.1, c) ∈ cl) →
 MF H H' Pt q f c' (Ui "<lambda>" q params body scope cl ((mg "__name__").getD .none) (.ref c') ctv) → Q (.ref f) H'
theorem Oi {X : Cx} {params : Arguments} {body : Expr} {scope : Scope} {pos : Pos} {c Pt : Addr} (hc : X.env.code = .ref c) (hcd : Uj X.K c Pt = true) (hbm : Bm X.mg X.base)
 (hdef : defaultsOf params X.env = ([], []) := by rfl) (hfree : ∀ x ∈ scope.names, x.2 = .free → X.env.kindOf x.1 = some .cell ∨ X.env.kindOf x.1 = some .free) :
 PE X (.Lambda params body scope pos) (P6 X.env X.mg Pt (X.env.qual ++ "<lambda>") params body scope) := by
 intro pins s σ H Q I h
 obtain ⟨⟨ps, hP, ht, hcodes⟩, h⟩ := h
 have hPo : s.heap.get? Pt = some (Uk ps) := I.hok Pt _ hP
 have hcells : ∀ x ∈ scope.names, x.2 = .free → ∃ c, X.env.cells.lookup x.1 = some c := fun x hx hf => I.ok.has _ (hfree x hx hf)
 obtain ⟨cl, e1, h1, _, h3⟩ := D4 scope.names [] hcells
 have hcl : closureFor scope X.env = pure cl := by
  unfold closureFor
  simp only [bind_pure]
  exact e1
 have C : HZ X.env cl := ⟨fun x c hp => by
  rcases h1 _ hp with z | z
  ·exact nomatch z
  ·exact z, fun x y c hx hy => I.ok.inj x y c (by
   rcases h1 _ hx with z | z
   ·exact nomatch z
   ·exact z) (by
   rcases h1 _ hy with z | z
   ·exact nomatch z
   ·exact z)⟩
 have hgs : s.heap.Ns mainGlobals X.mg := I.mod.glob.keeps I.bk
 obtain ⟨bm, ob, b1, b2, b3, b4, b5, b6⟩ := hbm
 have b3' : s.heap.get? bm = some ob := I.bk _ _ b3
 have hgP : mainGlobals ≠ Pt := fun q => by
  obtain ⟨o, es, ep, e, hd, _⟩ := hgs
  rw [q, hPo] at e; cases e; cases hd
 have hbP : bm ≠ Pt := fun q => by rw [q, hPo] at b3'; cases b3'; cases b4
 have hbG : bm ≠ mainGlobals := fun q => by
  obtain ⟨o, es, ep, e, hd, _⟩ := hgs
  rw [q, e] at b3'; cases b3'; rw [hd] at b6; cases b6
 refine PySem.W.kla_eval hdef ?_
 have hB : s.heap.BuiltinsAt X.mg Pt := ⟨bm, ob, b1, b2, hbG, hbP, b3', b4, b5, b6⟩
 cases hf : codeAmong pos ps.toList with
 | none =>
   refine PySem.W.kla_makeFunction (mg := X.mg) hcl I.ok.glob hgs hc (Ul I.kIn hcd) hPo ht hf hgP hB fun c' ctv h' tk hx hge hlt hrec htb => ?_
   have hcn : H c' = none := I.hok.fresh hge
   have hsz : s.heap.objs.size ≤ h'.objs.size := RV hge (RW hlt)
   have hfn : H h'.objs.size = none := I.hok.fresh hsz
   have hcf : c' ≠ h'.objs.size := RP hlt
   have hPc : Pt ≠ c' := Au hP hcn
   have hPf : Pt ≠ h'.objs.size := Au hP hfn
   have at_ : ∀ b, b ≠ Pt → b ≠ c' → b ≠ h'.objs.size → upd (upd (upd H Pt (.tbl (ps ++ #[rawInt pos.line, rawInt pos.col, .ref c']))) c' (HY c' (X.env.qual ++ "<lambda>"))) h'.objs.size (EX h'.objs.size (Ui "<lambda>" (X.env.qual ++ "<lambda>") params body scope cl ((X.mg "__name__").getD .none) (.ref c') ctv)) b = H b := fun b n1 n2 n3 => by rw [Am n3, Am n2, Am n1]
   have aP : upd (upd (upd H Pt (.tbl (ps ++ #[rawInt pos.line, rawInt pos.col, .ref c']))) c' (HY c' (X.env.qual ++ "<lambda>"))) h'.objs.size (EX h'.objs.size (Ui "<lambda>" (X.env.qual ++ "<lambda>") params body scope cl ((X.mg "__name__").getD .none) (.ref c') ctv)) Pt = some (.tbl (ps ++ #[rawInt pos.line, rawInt pos.col, .ref c'])) := by rw [Am hPf, Am hPc]; exact Aa
   have aC : upd (upd (upd H Pt (.tbl (ps ++ #[rawInt pos.line, rawInt pos.col, .ref c']))) c' (HY c' (X.env.qual ++ "<lambda>"))) h'.objs.size (EX h'.objs.size (Ui "<lambda>" (X.env.qual ++ "<lambda>") params body scope cl ((X.mg "__name__").getD .none) (.ref c') ctv)) c' = some (HY c' (X.env.qual ++ "<lambda>")) := by rw [Am hcf]; exact Aa
   have aF : upd (upd (upd H Pt (.tbl (ps ++ #[rawInt pos.line, rawInt pos.col, .ref c']))) c' (HY c' (X.env.qual ++ "<lambda>"))) h'.objs.size (EX h'.objs.size (Ui "<lambda>" (X.env.qual ++ "<lambda>") params body scope cl ((X.mg "__name__").getD .none) (.ref c') ctv)) h'.objs.size = some (EX h'.objs.size (Ui "<lambda>" (X.env.qual ++ "<lambda>") params body scope cl ((X.mg "__name__").getD .none) (.ref c') ctv)) := Aa
   generalize upd (upd (upd H Pt (.tbl (ps ++ #[rawInt pos.line, rawInt pos.col, .ref c']))) c' (HY c' (X.env.qual ++ "<lambda>"))) h'.objs.size (EX h'.objs.size (Ui "<lambda>" (X.env.qual ++ "<lambda>") params body scope cl ((X.mg "__name__").getD .none) (.ref c') ctv)) = H' at at_ aP aC aF
   have old : ∀ b o, b ≠ Pt → H b = some o → H' b = some o := fun b o n e => by rw [at_ b n (Au e hcn) (Au e hfn)]; exact e
   have lts : ∀ {b : Addr} {o : Obj}, s.heap.get? b = some o → b ≠ c' ∧ b ≠ h'.objs.size := fun e => ⟨RP (RN (Heap.lt_size e) hge), RP (RN (Heap.lt_size e) hsz)⟩
   have kp : ∀ b o, b ≠ Pt → s.heap.get? b = some o → (h'.push (Um "<lambda>" (X.env.qual ++ "<lambda>") params body scope cl ((X.mg "__name__").getD .none) c' ctv)).get? b = some o := fun b o n e => Heap.get?_push_of_some _ (hx b o n e)
   have nP : ∀ {b : Addr}, H b = none → b ≠ Pt := fun n z => by rw [z, hP] at n; cases n
   refine I.after ⟨.ref h'.objs.size, H', rfl, I.bare, ⟨fun b o e n _ _ => kp b o (nP n) e, fun b o e n _ _ => ⟨o.slots, kp b o (nP n) e⟩, fun b o e n _ => by rw [at_ b (nP n) (lts e).1 (lts e).2]; exact n, fun b o e _ => ?_, fun b xs e => old b _ (fun z => by rw [z, hP] at e; cases e) e, fun b o u e => old b _ (fun z => by rw [z, hP] at e; cases e) e, fun b pp e => ?_⟩, fun b o e => ?_, rfl, ?_⟩
   ·by_cases n : b = Pt
    ·subst n; exact ⟨_, Heap.get?_push_of_some _ htb⟩
    ·exact ⟨o, kp b o n e⟩
   ·by_cases n : b = Pt
    ·subst n; rw [hP] at e; cases e; exact ⟨_, aP⟩
    ·exact ⟨#[], by rw [old b _ n e]; simp⟩
   ·by_cases n3 : b = h'.objs.size
    ·subst n3; rw [aF] at e; cases e
     have g : (h'.push (Um "<lambda>" (X.env.qual ++ "<lambda>") params body scope cl ((X.mg "__name__").getD .none) c' ctv)).get? h'.objs.size = some (Um "<lambda>" (X.env.qual ++ "<lambda>") params body scope cl ((X.mg "__name__").getD .none) c' ctv) := Heap.get?_push_size _ rfl
     exact ⟨g, ⟨_, g⟩, fun h1 h2 z st => st _ z⟩
    ·by_cases n2 : b = c'
     ·subst n2; rw [aC] at e; cases e
      obtain ⟨c2, oc, vs, t, e2, hoc, hd, hv⟩ := hrec
      cases e2
      have g := Heap.get?_push_of_some (Um "<lambda>" (X.env.qual ++ "<lambda>") params body scope cl ((X.mg "__name__").getD .none) b ctv) hoc
      exact ⟨⟨_, oc, vs, t, rfl, g, hd, hv⟩, ⟨_, g⟩, fun h1 h2 ⟨c3, oc3, vs3, t3, e3, hoc3, hd3, hv3⟩ st => by cases e3; exact ⟨_, oc3, vs3, t3, rfl, st _ hoc3, hd3, hv3⟩⟩
     ·by_cases n1 : b = Pt
      ·subst n1; rw [aP] at e; cases e
       show (h'.push _).get? b = some _
       exact Heap.get?_push_of_some _ htb
      ·rw [at_ b n1 n2 n3] at e
       exact (I.hok b o e).stay (fun d u hd q => kp d u (fun z => by
        rcases hd with hd | hd
        ·exact n1 (by rw [← hd]; exact z)
        ·rw [z, hP] at hd; cases hd) q) (fun d q => old d _ (fun z => by rw [z, hP] at q; cases q) q) fun d xs q => old d _ (fun z => by rw [z, hP] at q; cases q) q
   ·refine h h'.objs.size c' cl ctv H' C h3 ⟨hfn, aF, aC, ⟨_, aP, ?_, fun pos' cv q => ?_⟩, old⟩
    ·rw [Array.toList_append]; exact TriplesOk_snoc _ _ _ _ ht
    ·rw [Array.toList_append] at q
     rcases Gm _ ht q with z | z
     ·obtain ⟨c2, e2, k2⟩ := hcodes pos' cv z
      exact ⟨c2, e2, old c2 _ (fun z => by rw [z, hP] at k2; cases k2) k2⟩
     ·exact ⟨c', z, aC⟩
 | some cv =>
   obtain ⟨c', rfl, hco⟩ := hcodes pos cv hf
   refine PySem.W.kla_makeFunctionHit (mg := X.mg) hcl I.ok.glob hgs hc (Ul I.kIn hcd) hPo ht hf hB fun ctv h' tk hk hsz => ?_
   have hfn : H h'.objs.size = none := I.hok.fresh hsz
   have J := I.laid (t' := tk) (h' := h'.push { cls := .type "function", data := .func (Ui "<lambda>" (X.env.qual ++ "<lambda>") params body scope cl ((X.mg "__name__").getD .none) (.ref c') ctv) }) (a := h'.objs.size) (o := EX h'.objs.size (Ui "<lambda>" (X.env.qual ++ "<lambda>") params body scope cl ((X.mg "__name__").getD .none) (.ref c') ctv)) (fun b ob q => Heap.get?_push_of_some _ (hk b ob q)) hsz (by
    have g : (h'.push { cls := .type "function", data := .func (Ui "<lambda>" (X.env.qual ++ "<lambda>") params body scope cl ((X.mg "__name__").getD .none) (.ref c') ctv) }).get? h'.objs.size = some { cls := .type "function", data := .func (Ui "<lambda>" (X.env.qual ++ "<lambda>") params body scope cl ((X.mg "__name__").getD .none) (.ref c') ctv) } := Heap.get?_push_size _ rfl
    exact ⟨g, ⟨_, g⟩, fun h1 h2 z st => st _ z⟩)
   have old : ∀ b o, H b = some o → upd H h'.objs.size (EX h'.objs.size (Ui "<lambda>" (X.env.qual ++ "<lambda>") params body scope cl ((X.mg "__name__").getD .none) (.ref c') ctv)) b = some o := fun b o e => by rw [Am (Au e hfn)]; exact e
   exact ⟨.ref h'.objs.size, _, J, rfl, h _ c' cl ctv _ C h3 ⟨hfn, Aa, old _ _ hco, ⟨ps, old _ _ hP, ht, fun pos' cv q => by
    obtain ⟨c2, e2, k2⟩ := hcodes pos' cv q
    exact ⟨c2, e2, old _ _ k2⟩⟩, fun b o _ e => old b o e⟩⟩
end L2
namespace L2
open PySem PySem.Spec PyProof.Rows
def MD (Pt : Addr) (H : Hp) : Prop := ∀ b, b ≠ Pt → H b = none ∨ ∃ o xs, H b = some (.frz o (.lst xs))
theorem KL {P : Program} {w : World} {K : RU} {mg mb : Str → Option Value} {CX : CXT} {k : Nat} {fa a Pt c : Addr} {fd : FuncData} {x : Str} {sp : Sp} {s₁ : Shared} {vs : List Value} {ns : List Int}
 (KX : K.In s₁.heap) (hns : s₁.heap.Ns mainGlobals mg) (hb : s₁.heap.Ns builtinsNs mb) (hbb : ∀ x : Str, x ≠ "__name__" → mb x = bootBuiltins x) (hlim : s₁.heap.NoLimit) (hsee : s₁.heap.NoSeer) (hbm : Bm mg s₁.heap) (hg : s₁.gens = #[])
 (hPt : s₁.heap.get? Pt = some (Uk #[])) (hPK : K.lookup Pt = none) (hcd : Uj K c Pt = true)
 (ha : s₁.heap.get? a = some { cls := .type "list", data := .seq vs.toArray }) (hi : IntsAre vs ns) (hl : ns.length ≤ sizeLine) (hr : BZ k callerA)
 (F : ∀ base : Heap, K.In base → base.Ns mainGlobals mg → Bm mg base → AH P w K mg base CX k fa fd [x] sp) (hbind : ∀ (s : Shared) (u : Value), BindsTo s fd ⟨[u], []⟩ [(x, u)])
 (hsp : ∀ H : Hp, MD Pt H → SqL K H a (ns.map V.int) → H Pt = some (.tbl #[]) → sp [.ref a] H (fun v _ => v = .bl true) fun _ _ _ => False)
 (hCX : ∀ H e s', CX [] H s₁ (fun _ _ _ => False) e s' → False) :
 codeAny (model P w) callerA (.call (.ref fa) ⟨[.ref a], []⟩) (fun r s' => r = .ok (.ret (.bool true)) ∧ OldK s₁.heap s'.heap ∧ s'.os = s₁.os ∧ AllBare s'.gens) s₁ := by
 have rv := Kr hi
 have lenV := hi.length
 have aP : a ≠ Pt := fun z => by rw [z, hPt] at ha; cases ha
 have core : ∀ H : Hp, MD Pt H → H Pt = some (.tbl #[]) → SqL K H a (ns.map V.int) → HOk P w H s₁.heap → (∀ b, H b ≠ none → b = a ∨ b = Pt) → (H a ≠ none → K.lookup a = none) →
  codeAny (model P w) callerA (.call (.ref fa) ⟨[.ref a], []⟩) (fun r s' => r = .ok (.ret (.bool true)) ∧ OldK s₁.heap s'.heap ∧ s'.os = s₁.os ∧ AllBare s'.gens) s₁ := by
  intro H hO hHP hS hok hA hK
  have base_of : ∀ {b : Addr} {o : Obj}, s₁.heap.get? b = some o → H b = none → (FT s₁.heap H).get? b = some o := fun e n => Mb e n
  have noA : ∀ {b : Addr} {o : Obj} {es : Array DictEntry} {ep : Nat}, s₁.heap.get? b = some o → o.data = .dict es ep → H b = none := fun {b o es ep} e d => by
   cases q : H b with
   | none => rfl
   | some u =>
     rcases hA b (by rw [q]; simp) with e' | e'
     ·subst e'
      rw [ha] at e; cases e
      have d' : Data.seq vs.toArray _ = Data.dict es ep := d
      cases d'
     ·subst e'
      rw [hPt] at e; cases e
      have d' : Data.fields #[] = Data.dict es ep := d
      cases d'
  have nsK : ∀ {b : Addr} {m : Str → Option Value}, s₁.heap.Ns b m → (FT s₁.heap H).Ns b m := fun {b m} ⟨o, es, ep, e, d, r⟩ => ⟨o, es, ep, base_of e (noA e d), d, r⟩
  have hKb : K.In (FT s₁.heap H) := fun b o e => base_of (KX b o e) (by
   cases q : H b with
   | none => rfl
   | some u =>
     rcases hA b (by rw [q]; simp) with e' | e'
     ·subst e'
      rw [hK (by rw [q]; simp)] at e; cases e
     ·subst e'
      rw [hPK] at e; cases e)
  have modN : ∀ {bm : Addr} {ob : Obj}, s₁.heap.get? bm = some ob → ob.cls = .type "module" → H bm = none := fun {bm ob} z u => by
   cases q : H bm with
   | none => rfl
   | some o =>
     rcases hA bm (by rw [q]; simp) with e' | e'
     ·subst e'
      rw [ha] at z; cases z
      have u' : Value.type "list" = Value.type "module" := u
      exact absurd u' (by decide)
     ·subst e'
      rw [hPt] at z; cases z; cases u
  have seerK : (FT s₁.heap H).NoSeer := ⟨let ⟨mc, x, y⟩ := hsee.statics; ⟨mc, nsK x, y⟩, let ⟨mm, x, y⟩ := hsee.mods; ⟨mm, nsK x, y⟩, let ⟨mi, x, y⟩ := hsee.imp; ⟨mi, nsK x, y⟩, by
   obtain ⟨mg', bm, ob, x, y, z, u, v⟩ := hsee.main
   exact ⟨mg', bm, ob, nsK x, y, base_of z (modN z u), u, v⟩⟩
  have bmK : Bm mg (FT s₁.heap H) := by
   obtain ⟨bm, ob, x, y, z, u, v, t⟩ := hbm
   exact ⟨bm, ob, x, y, base_of z (modN z u), u, v, t⟩
  have hM : Mod K mg (FT s₁.heap H) := ⟨hKb, nsK hns, ⟨mb, nsK hb, hbb⟩, let ⟨mc, h1, h2⟩ := hlim; ⟨mc, nsK h1, h2⟩, seerK⟩
  have e0 : Lb P w K mg (FT s₁.heap H) callerA [] s₁ H := ⟨rfl, hM, fun b o e => Nf e, Nat.le_of_eq (KR _ _), trivial, fun b hb => absurd (show b ∈ ([] : List Addr) from hb) (by simp), hok, .of_eq hg⟩
  refine codeAny_mono ((F _ hKb (nsK hns) bmK).run callerA [] s₁ H ⟨[.ref a], []⟩ [.ref a] [.ref a] _ _ hr e0 (hbind s₁ (.ref a)) (.cons rfl .nil) (hsp H hO hS hHP)) fun r s' h => ?_
  cases r with
  | error e => exact (hCX H e s' h).elim
  | ok fl =>
    cases fl with
    | next => exact False.elim h
    | brk => exact False.elim h
    | cont => exact False.elim h
    | ret u =>
      obtain ⟨v, H', os, bare, un, hok', r', q⟩ := h
      have q' : v = .bl true := q
      subst q'
      obtain rfl : u = Value.bool true := r'
      obtain ⟨more, hP'⟩ := un.tbls Pt _ hHP
      have gP : s'.heap.get? Pt = some (Uk (#[] ++ more)) := hok' Pt _ hP'
      have kp : ∀ b o, b ≠ Pt → s₁.heap.get? b = some o → s'.heap.get? b = some o := fun b o n e => by
       cases q : H b with
       | none => exact un.keep b o e q (by intro z; exact absurd (show b ∈ ([] : List Addr) from z) (by simp)) (by simp)
       | some u =>
         rcases hO b n with z | ⟨ob, xs, z⟩
         ·rw [q] at z; cases z
         ·have z2 := un.frzs b ob _ z
          obtain ⟨e1, _⟩ := hok b _ z
          obtain ⟨e2, _⟩ := hok' b _ z2
          rw [e] at e1; cases e1
          exact e2
      obtain ⟨oc, cvs, _, _, _, _, _, _, _, g1, g2, g3, g4, _⟩ := Ul KX hcd
      refine ⟨rfl, ⟨fun b o e => ?_, fun b o e => ?_⟩, os, bare⟩
      ·by_cases n : b = Pt
       ·subst n
        rw [hPt] at e; cases e
        exact .inr (.inl ⟨⟨c, oc, cvs, g1, g2, g3, g4⟩, rfl, #[], more, rfl, gP⟩)
       ·exact .inl (kp b o n e)
      ·by_cases n : b = Pt
       ·subst n; exact ⟨_, gP⟩
       ·exact ⟨o, kp b o n e⟩
 cases hk : K.lookup a with
 | some o =>
   have e := KX a o hk
   rw [ha] at e
   cases e
   refine core (fun b => if b = Pt then some (.tbl #[]) else none) (fun b n => .inl (if_neg n)) (if_pos rfl) (.inr ⟨_, vs.toArray, _, hk, rfl, rfl, rfl, by rw [SE, lenV]; exact hl, by simpa using rv⟩) (fun b u z => ?_) (fun b z => ?_) fun z => absurd (if_neg aP) z
   ·by_cases n : b = Pt
    ·subst n
     have z' := (if_pos rfl).symm.trans z
     cases z'
     exact hPt
    ·have z' := (if_neg n).symm.trans z
     cases z'
   ·by_cases n : b = Pt
    ·exact .inr n
    ·exact absurd (if_neg n) z
 | none =>
   refine core (fun b => if b = a then some (.frz { cls := .type "list", data := .seq vs.toArray } (.lst (ns.map V.int))) else if b = Pt then some (.tbl #[]) else none) (fun b n => ?_) (by show (if Pt = a then _ else if Pt = Pt then some (HO.tbl #[]) else none) = _; rw [if_neg (Ne.symm aP), if_pos rfl]) (.inl (.inr ⟨{ cls := .type "list", data := .seq vs.toArray }, if_pos rfl⟩)) (fun b u z => ?_) (fun b z => ?_) fun _ => hk
   ·by_cases hb : b = a
    ·exact .inr ⟨_, _, if_pos hb⟩
    ·exact .inl (by show (if b = a then _ else if b = Pt then _ else none) = none; rw [if_neg hb, if_neg n])
   ·by_cases hb : b = a
    ·have z' := (if_pos hb).symm.trans z
     cases z'
     subst hb
     exact ⟨ha, by rw [Su]; exact hl, vs, _, rv, ha⟩
    ·by_cases n : b = Pt
     ·subst n
      have z' : some (HO.tbl #[]) = some u := by rw [← z]; show _ = (if b = a then _ else if b = b then some (HO.tbl #[]) else none); rw [if_neg hb, if_pos rfl]
      cases z'
      exact hPt
     ·have z' : (none : Option HO) = some u := by rw [← z]; show _ = (if b = a then _ else if b = Pt then some (HO.tbl #[]) else none); rw [if_neg hb, if_neg n]
      cases z'
   ·by_cases hb : b = a
    ·exact .inl hb
    ·by_cases n : b = Pt
     ·exact .inr n
     ·exact absurd (by show (if b = a then _ else if b = Pt then _ else none) = none; rw [if_neg hb, if_neg n]) z
theorem Lf {l : Uo} {n k : Nat} {q : Program} {loose : List Str} {XP : (Str → Option Value) → Heap → Prop} {YP : World → Heap → Prop} {d : DefRec} {K : Params → RU} {CX : World → CXT} {sp : World → Sp} {x : Str} {Pt : Addr}
 (hI : importsNone q = true) (hn : l.most = some n) (hn2 : n ≤ sizeLine) (hdf : d.params.defaults = []) (hr : BZ k callerA)
 (hY : ∀ (w : World) (h : Heap), YP w h → (K w.params).In h ∧ h.get? Pt = some (Uk #[]) ∧ (K w.params).lookup Pt = none)
 (F : ∀ (w : World) (mg : Str → Option Value) (fa : Addr) (h : Heap), (K w.params).In h → h.Ns mainGlobals mg → mg d.name = some (.ref fa) →
  ∃ (fd : FuncData) (c : Addr), Uj (K w.params) c Pt = true ∧ (∀ (s : Shared) (u : Value), BindsTo s fd ⟨[u], []⟩ [(x, u)]) ∧
    ∀ base : Heap, (K w.params).In base → base.Ns mainGlobals mg → Bm mg base → AH l.prog w (K w.params) mg base (CX w) k fa fd [x] (sp w))
 (hsp : ∀ (w : World) (H : Hp) (a : Addr) (ns : List Int), ns.length ≤ n → MD Pt H → SqL (K w.params) H a (ns.map V.int) → H Pt = some (.tbl #[]) → sp w [.ref a] H (fun v _ => v = .bl true) fun _ _ _ => False)
 (hCX : ∀ (w : World) (H : Hp) (s : Shared) (e : Value) (s' : Shared), CX w [] H s (fun _ _ _ => False) e s' → False) :
 PySem.W.WalkO q loose XP YP l.row.toRowW d [] (fun f vs => PySem.call f vs) := by
 refine Att.attach_call hn hdf fun w s₀ s₁ mg mb fa o pm cd doc a vs ns G Y ho hd hcd hmg hobj hints hlen hg => ?_
 obtain ⟨KX, hPt, hPK⟩ := hY w _ Y
 obtain ⟨fd, c, hc, hb, hF⟩ := F w mg fa _ KX G.T.g hmg
 exact KL KX G.T.g G.T.b G.T.builtins G.T.nolimit (G.T.seer hI) G.T.bmain hg hPt hPK hc hobj hints (RV hlen hn2) hr hF hb (fun H hO hS hP => hsp w H a ns hlen hO hS hP) fun H e s' => hCX w H s₁ e s'
def EE (K : RU) (f Pt : Addr) : Bool := match K.lookup f with
 | some ⟨_, _, .func fd, _⟩ => (match fd.code with | .ref c => Uj K c Pt | _ => false)
 | _ => false
theorem Fun.okL {P : Program} {w : World} {K : RU} {mg : Str → Option Value} {base : Heap} {x qual : Str} {st : Stmt} {f Pt : Addr} {fd : FuncData} {N ps : List Str} {k : Nat} {sp : Sp} (F : Fun K x qual st f fd) (hl : EE K f Pt = true) (S : Ar N ps (Ae st)) (len : ∀ vs H Q E, sp vs H Q E → vs.length = ps.length)
 (hbody : ∀ (c : Addr) (A : Around) (outer : List Env) (s : Shared) (H : Hp) (vs : List V) (Q : VK) (E : XK), Uj K c Pt = true → BZ k (A.deeper (envOfC qual (Ae st) s.heap.objs.size f (.ref c))) → sp vs H Q E →
  ∃ t, PSs (JN CX0 P w K mg base N qual (Ae st) f (.ref c) A outer s H E).nox (Ak st) t ∧ t { nx := fun _ H' => Q .non H', rt := Q } (DU N vs) H) : AH P w K mg base CX0 (k + 1) f fd ps sp := by
 obtain ⟨oc, od, kV, doc, pm, an, cdv, ct, osl, rfl, lk, hcd⟩ := F.ex
 refine NO lk hcd S len fun A outer s H vs Q E hr hsp => ?_
 unfold EE at hl
 rw [lk] at hl
 cases cdv with
 | ref c =>
   obtain ⟨t, h, q⟩ := hbody c A outer s H vs Q E hl hr hsp
   exact ⟨t, h.nox, q⟩
 | _ => cases hl
def K6 (sc scope : Scope) : Bool := scope.names.all fun x => decide (x.2 ≠ .free) || decide (sc.names.lookup x.1 = some .cell)
theorem N7 {X : Cx} {params : Arguments} {body : Expr} {scope sc : Scope} {pos : Pos} {c Pt : Addr} (hcd : Uj X.K c Pt = true) (hbm : Bm X.mg X.base) (hc : X.env.code = .ref c := by rfl) (hs : X.env.scope = sc := by rfl) (hf : K6 sc scope = true := by decide +kernel)
 (hdef : defaultsOf params X.env = ([], []) := by rfl) : PE X (.Lambda params body scope pos) (P6 X.env X.mg Pt (X.env.qual ++ "<lambda>") params body scope) :=
 Oi hc hcd hbm hdef fun x hx hfr => .inl (by
  unfold K6 at hf
  have h := Tp.mp hf x hx
  rw [Bool.or_eq_true, decide_eq_true_eq, decide_eq_true_eq] at h
  rcases h with h | h
  ·exact absurd hfr h
  ·show X.env.scope.names.lookup x.1 = _
   rw [hs]; exact h)
end L2
namespace L2
open PySem PySem.Spec PyProof.Rows
def spT (ps : List Str) (Pre : List V → Prop) (Ans : List V → V → Hp → Prop) (H0 : Hp) : Sp := fun vs H Q _ => vs.length = ps.length ∧ Pre vs ∧ Af H0 H ∧ ∀ r H', Af H H' → Ans vs r H' → Q r H'
structure Tells (P : Program) (w : World) (K : RU) (mg : Str → Option Value) (base : Heap) (k : Nat) (H : Hp) (f : Addr) (ps : List Str) (Pre : List V → Prop) (Ans : List V → V → Hp → Prop) : Prop where
 ex : ∃ fd, AH P w K mg base CX0 k f fd ps (spT ps Pre Ans H) ∧ C5 K fd ps [] ∧ H f = some (EX f fd)
inductive Cap (sc scope : Scope) (N : List Str) (σ : St) : List Str → List V → Prop
 | nil : Cap sc scope N σ [] []
 | cons {y : Str} {v : V} {fr : List Str} {ws : List V} (i : Nat) (h1 : scope.names.lookup y = some .free) (h2 : sc.names.lookup y = some .cell) (hN : N[i]? = some y) (hσ : σ[i]? = some (some v)) (t : Cap sc scope N σ fr ws) : Cap sc scope N σ (y :: fr) (v :: ws)
theorem Cap.length {sc scope : Scope} {N : List Str} {σ : St} {fr : List Str} {ws : List V} (h : Cap sc scope N σ fr ws) : fr.length = ws.length := by
 induction h with
 | nil => rfl
 | cons i h1 h2 hN hσ t ih => exact congrArg (· + 1) ih
theorem Cap.get {sc scope : Scope} {N : List Str} {σ : St} {fr : List Str} {ws : List V} (h : Cap sc scope N σ fr ws) : ∀ {j : Nat} {y : Str} {v : V}, fr[j]? = some y → (ws.map some)[j]? = some (some v) → scope.names.lookup y = some .free ∧ sc.names.lookup y = some .cell ∧ ∃ i : Nat, N[i]? = some y ∧ σ[i]? = some (some v) := by
 induction h with
 | nil => intro j y v e; cases e
 | cons i h1 h2 hN hσ t ih =>
   intro j y v e1 e2
   cases j with
   | zero => cases e1; cases e2; exact ⟨h1, h2, i, hN, hσ⟩
   | succ j => exact ih e1 e2
structure NR (scope : Scope) (ps : List Str) : Prop where
 kind : scope.kind = .function
 co : scope.isCoroutine = false
 gen : scope.isGenerator = false
 nocell : (scope.names.all fun x => decide (x.2 ≠ .cell)) = true
 par : (ps.all fun p => decide (scope.names.lookup p = some .local)) = true
theorem M0 {env : Env} {N : List Str} {σ : St} {scope : Scope} {cl : List (Str × Addr)} {os : Addr → Obj} {H2 H' : Hp} {ps fr : List Str} {vs ws : List V} (S : NR scope ps) (C : HZ env cl) (hfree : ∀ x ∈ scope.names, x.2 = .free → ∃ c, (x.1, c) ∈ cl)
 (hci : Lc N σ env.scope cl os) (cap : Cap env.scope scope N σ fr ws) (hl : vs.length = ps.length) (hm : Af (DL (cl.map (·.2)) os H2) H') : Jd H' scope (ps ++ fr) ps cl (vs.map some ++ ws.map some) vs := by
 have mem : ∀ {x : Str} {c : Addr}, (x, c) ∈ cl → c ∈ cl.map (·.2) := fun h => Uh (f := (·.2)) h
 have cel : ∀ {x : Str} {c : Addr}, (x, c) ∈ cl → H' c = some (EF c (os c)) := fun h => hm _ _ (Jh (mem h))
 refine ⟨S.kind, S.co, S.gen, fun x hx => ?_, fun p hp => ?_, fun x y c h1 h2 => C.inj x y c (PySem.mem_of_lookup h1) (PySem.mem_of_lookup h2), fun x hx => ?_, ?_, fun p hp => ?_, fun i x v hN hσ => ?_⟩
 ·exact of_decide_eq_true (Tp.mp S.nocell x hx)
 ·exact of_decide_eq_true (Tp.mp S.par p hp)
 ·obtain ⟨c, hc⟩ := hfree _ (PySem.mem_of_lookup hx) rfl
  exact ⟨c, C.look hc⟩
 ·rw [Ss, Ss, Su, Su, hl, cap.length]
 ·obtain ⟨⟨v, hv⟩, _⟩ := hci p.1 p.2 hp
  exact ⟨os p.2, v, cel (x := p.1) hp, hv⟩
 ·by_cases hi : i < ps.length
  ·rw [Sm hi] at hN
   rw [Sm (by rw [Su, hl]; exact hi), Sn] at hσ
   refine .inl ⟨of_decide_eq_true (Tp.mp S.par x (Sr hN)), i, hN, ?_⟩
   cases e : vs[i]? with
   | none => rw [e] at hσ; cases hσ
   | some u => rw [e] at hσ; cases hσ; rfl
  ·have hi' : ps.length ≤ i := Nat.le_of_not_lt hi
   rw [Sk hi'] at hN
   rw [Sk (by rw [Su, hl]; exact hi'), Su, hl] at hσ
   obtain ⟨h1, h2, j, hj, hs⟩ := cap.get hN hσ
   obtain ⟨c, hc⟩ := hfree _ (PySem.mem_of_lookup h1) rfl
   obtain ⟨_, hv⟩ := hci x c hc
   obtain ⟨u, hu, r⟩ := hv j v hj hs h2
   exact .inr ⟨h1, c, os c, u, C.look hc, cel hc, hu, r⟩
theorem lk1 (p : Str) (us : List Value) (h : us.length = [p].length) (j : Nat) (x : Str) (u : Value) (h1 : [p][j]? = some x) (h2 : us[j]? = some u) : ([p].zip us).reverse.lookup x = some u := by
 obtain ⟨a, r, rfl, l1⟩ := Bt h
 cases Ud.mp l1
 cases j with
 | zero => cases h1; cases h2; show (match p == p with | true => some u | false => none) = some u; rw [beq_self_eq_true]
 | succ j => cases h1
theorem KN {K : RU} {fd : FuncData} {p : Str} (h : ∀ a : Value, bindArgs fd ⟨[a], []⟩ = pure [(p, a)]) : C5 K fd [p] [] := .all fun us l0 => by
 obtain ⟨a1, r1, rfl, l1⟩ := Bt l0
 cases Ud.mp l1
 exact h a1
def BW (Pt : Addr) (H H' : Hp) : Prop := ∀ b o, b ≠ Pt → H b = some o → H' b = some o
theorem BW.trans {Pt : Addr} {H H' H'' : Hp} (a : BW Pt H H') (b : BW Pt H' H'') : BW Pt H H'' := fun c o n e => b c o n (a c o n e)
theorem Af.b {Pt : Addr} {H H' : Hp} (a : Af H H') : BW Pt H H' := fun b o _ e => a b o e
theorem CN.same {Pt : Addr} {q : Str} {H H' : Hp} (h : CN Pt q H) (m : Af H H') : CN Pt q H' := by
 obtain ⟨ps, e, t, c⟩ := h
 refine ⟨ps, m _ _ e, t, fun pos cv z => ?_⟩
 obtain ⟨c', e', z'⟩ := c pos cv z
 exact ⟨c', e', m _ _ z'⟩
section
variable {K : RU} {Pt : Addr} {q : Str} {H H' : Hp}
theorem SqT.but {r : Addr} {xs : List V} (h : SqT K H r xs) (c : CN Pt q H) (m : BW Pt H H') : SqT K H' r xs := by
 obtain ⟨ps, e, _⟩ := c
 have ne : ∀ {b : Addr} {o : HO}, H b = some o → (∀ p, o ≠ .tbl p) → b ≠ Pt := fun z n y => by rw [y, e] at z; exact n _ (RL.inj z).symm
 rcases h with (h | ⟨o, h⟩) | h
 ·exact .inl (.inl (m _ _ (ne h fun p z => by cases z) h))
 ·exact .inl (.inr ⟨o, m _ _ (ne h fun p z => by cases z) h⟩)
 ·exact .inr h
theorem AB.but {x : V} {y : Rat} (h : AB K H x y) (c : CN Pt q H) (m : BW Pt H H') : AB K H' x y := let ⟨r, e, h⟩ := h; ⟨r, e, h.but c m⟩
theorem Crv.but {r : Addr} {qs : List Rat} (h : Crv K H r qs) (c : CN Pt q H) (m : BW Pt H H') : Crv K H' r qs := let ⟨xs, a, b⟩ := h; ⟨xs, a.but c m, Paired.mapP b fun _ _ z => z.but c m⟩
end
end L2
namespace L2
open PySem PySem.Spec PyProof.Rows
theorem Nl {K : RU} {as : List Addr} {b : Addr} (h : as = K.map (·.1)) (n : as.contains b = false) : K.lookup b = none := by
 subst h
 refine List.lookup_eq_none_iff.mpr fun p hp => ?_
 have z : b ∉ K.map (·.1) := fun hm => by rw [List.contains_iff_mem.mpr hm] at n; cases n
 rw [bne_iff_ne]
 exact fun e => z (by rw [e]; exact Uh (f := (·.1)) hp)
theorem KW {K : RU} {f Pt : Addr} (h : EE K f Pt = true) : ∃ c, Uj K c Pt = true := by
 unfold EE at h
 split at h
 ·split at h
  ·exact ⟨_, h⟩
  ·cases h
 ·cases h
end L2
namespace L2
open PySem PySem.Spec PyProof.Rows
section
variable {P : Program} {w : World} {K : RU} {mg : Str → Option Value} {base : Heap} {N : List Str} {qual : Str} {scope : Scope} {f : Addr} {cd : Value} {cl : List (Str × Addr)} {A : Around} {outer : List Env} {s : Shared} {H : Hp} {E : XK}
end
end L2
namespace L2
open PySem PySem.Spec PyProof.Rows
section
variable {X : Cx}
end
end L2
namespace L2
open PySem PySem.Spec PyProof.Rows
structure Q9 (P : Program) (w : World) (K : RU) (mg : Str → Option Value) (base : Heap) (k : Nat) (H : Hp) (f C : Addr) : Prop where
 ex : ∃ fd sp, AH P w K mg base (CX1 P w) k f fd [] sp ∧ C5 K fd [] [] ∧ H f = some (EX f fd) ∧ ∀ (Q : VK) (E : XK), (∀ H', Af H H' → E (.ref C) none H') → sp [] H Q E
end L2
namespace Dt
def skip (i a : Nat) : Nat := if a < i then a else a + 1
def sg (i : Nat) : Int := if i % 2 = 0 then 1 else -1
def sumN (f : Nat → Int) : Nat → Int
 | 0 => 0
 | n + 1 => sumN f n + f n
def det : Nat → (Nat → Nat → Int) → Nat → Int
 | 0, M, j => M 0 j
 | n + 1, M, j => sumN (fun i => sg i * (M i 0 * det n (fun a b => M (skip i a) (b + 1)) j)) (n + 2)
def put (M : Nat → Nat → Int) (p : Nat) (u : Nat → Int) : Nat → Nat → Int := fun a b => if a = p then u b else M a b
def low (i p : Nat) : Nat := if p < i then p else p - 1
def sh (i : Nat) (v : Nat → Int) : Nat → Int := fun b => if b < i then 0 else v (b - i)
def syl (p : Nat) (g f : Nat → Int) : Nat → Nat → Int := fun a => if a < p then sh a g else sh (a - p) f
def sub (m n k : Nat) (f g : Nat → Int) (j : Nat) : Int := det (m - k + (n - k) - 1) (syl (m - k) g f) j
end Dt
namespace Dt
structure Srs (S : Nat → Nat → Int) (m n : Nat) (f g : Nat → Int) (lead held : Int) : Prop where
 le : n ≤ m
 g0 : g 0 ≠ 0
 l0 : lead ≠ 0
 h0 : held ≠ 0
 one : n < m ∨ (lead = 1 ∧ held = 1)
 is : ∀ k, k ≤ n → ∃ s : Int, (s = 1 ∨ s = -1) ∧ ∀ j, lead ^ (n - k) * held ^ (m - k - 1) * S k j = s * sub m n k f g j
section
variable {S : Nat → Nat → Int} {m n : Nat} {f g r : Nat → Int} {e : Nat → Int} {lead held : Int}
end
end Dt
namespace L2
open Dt
def tf (l : List Int) : Nat → Int := fun b => if b < l.length then l.getD (l.length - 1 - b) 0 else 0
structure LR (S : Nat → Nat → Int) (fs gs : List Int) (lead held : Int) : Prop where
 fp : 1 ≤ fs.length
 srs : 1 ≤ gs.length → Srs S (fs.length - 1) (gs.length - 1) (tf fs) (tf gs) lead held
end L2
namespace L2
def JR (d p : List Rat) : Prop := ∃ q : List Rat, ∀ x, Cv.ev p x = Cv.ev q x * Cv.ev d x
def Com (A B F G : List Rat) : Prop := ∀ d, (JR d A ∧ JR d B) ↔ (JR d F ∧ JR d G)
abbrev cst (l : List Int) : List Rat := l.map fun t : Int => (t : Rat)
structure Part (A B p : List Rat) : Prop where
 good : Cu p
 mono : p[p.length - 1]? = some 1
 is : ∀ d, (JR d A ∧ JR d B) ↔ JR d p
end L2
namespace L2
open Dt
def NA (l : List Int) : Prop := ∀ t, l[l.length - 1]? = some t → t ≠ 0
def PD (l : List Int) : Prop := ∃ D : Nat → Int, D 0 ≠ 0 ∧ (∀ j, Bd 45100 (D j)) ∧ ∀ j, tf l j * D 0 = D j * tf l 0
structure LRI (S : Nat → Nat → Int) (fs gs fs' gs' : List Int) (lead held : Int) (B d0 : Nat) : Prop where
 lr : LR S fs' gs' lead held
 le : gs'.length ≤ fs'.length
 l8 : fs'.length ≤ 8
 t1 : NA fs'
 t2 : NA gs'
 com : Com (cst fs) (cst gs) (cst fs') (cst gs')
 bf : ∀ t ∈ fs', Bd B t
 bg : ∀ t ∈ gs', Bd B t
 bl : Bd (B + 1) lead
 bh : Bd (B * d0 + 1) held
 d8 : d0 + fs'.length ≤ 8
 bb : B + 1 ≤ 3 ^ (9 - fs'.length) * 3001
 b3 : fs'.length = gs'.length → B ≤ 3000
 pd : PD fs'
section
variable {S : Nat → Nat → Int} {fs gs fs' gs' : List Int} {lead held : Int} {B d0 : Nat}
end
end L2
namespace L2
open Dt
structure LRJ (S : Nat → Nat → Int) (fs gs fs' gs' : List Int) (lead held : Int) (X : Nat) : Prop where
 lr : LR S fs' gs' lead held
 le : gs'.length ≤ fs'.length
 l10 : fs'.length ≤ 10
 t1 : NA fs'
 t2 : NA gs'
 com : Com (cst fs) (cst gs) (cst fs') (cst gs')
 bf : ∀ t ∈ fs', Bd X t
 bg : ∀ t ∈ gs', Bd X t
 bl : Bd X lead
 bh : Bd X held
section
variable {S : Nat → Nat → Int} {fs gs fs' gs' : List Int} {lead held : Int} {X : Nat}
end
end L2
namespace L2
theorem Iu : ∀ os : List Rat, (prL os).getD os.length 0 = 1
 | [] => rfl
 | o :: os => by
   have ih := Iu os
   show (Bq ((prL os).map (· * -o)) (0 :: Bq ((prL os).map (· * 1)) (0 :: []))).getD (os.length + 1) 0 = 1
   rw [Cq, BG]
   have e1 : (prL os).getD (os.length + 1) 0 = 0 := by
    rw [Tq, TM (by rw [CV]; lia)]; rfl
   show _ + (Bq ((prL os).map (· * 1)) (0 :: [])).getD os.length 0 = 1
   rw [Cq, BG, e1, ih]
   have e : ([0] : List Rat).getD os.length 0 = 0 := by match os.length with | 0 => rfl | k + 1 => rfl
   rw [e]; grind
end L2
namespace L2
def Cop (A B : List Rat) : Prop := ∃ u v, ∀ x, Cv.ev u x * Cv.ev A x + Cv.ev v x * Cv.ev B x = 1
def pw (d : List Rat) : Nat → List Rat
 | 0 => [1]
 | n + 1 => Ds (pw d n) d
end L2
namespace L2
structure Kn (f l g : List Rat) : Prop where
 gg : Cu g
 mono : g[g.length - 1]? = some 1
 fe : ∀ x, Cv.ev f x = Cv.ev l x * Cv.ev g x
 un : ∃ u, (∀ x, Cv.ev (dL f) x = Cv.ev g x * Cv.ev u x) ∧ Cop l u
end L2
namespace L2
open PySem PySem.Spec PyProof.Rows
section
variable {X : Cx} {e : Expr} {es : List Expr} {te : TE} {t : TA} {pos : Pos}
@[irreducible] def PEk (X : Cx) (e : Expr) (te : TE) : Prop := PE X e te
@[irreducible] def PAk (X : Cx) (es : List Expr) (t : TA) : Prop := PA X es t
theorem pek (h : PE X e te) : PEk X e te := by unfold PEk; exact h
end
end L2
namespace L2
theorem BR : ∀ (qs : List Rat) {l : List Rat}, qs.Nodup → l.length ≤ qs.length → (∀ q ∈ qs, Cv.ev l q = 0) → ∀ x, Cv.ev l x = 0
 | [], l, _, hl, _, x => by
   have : l = [] := Th (Nat.le_zero.mp hl)
   rw [this]; rfl
 | c :: r, l, hn, hl, h, x => by
   rw [Sg] at hn
   have h0 := h c (RY ..)
   have e : ∀ x, Cv.ev l x = (x - c) * Cv.ev (quo c l) x := fun x => by rw [LB c x l, h0, Rat.zero_add]
   have hl' : l.length ≤ r.length + 1 := hl
   have ih := BR r (l := quo c l) hn.2 (by rw [Fw]; lia) fun q hq => by
    have hq0 := h q (RZ _ hq)
    rw [e q] at hq0
    rcases Ti.mp hq0 with z | z
    ·exact absurd (show q = c by grind) fun z => hn.1 (z ▸ hq)
    ·exact z
   rw [e x, ih x, Uq]
theorem DR : ∀ (l : List Rat) (a : Nat), (∀ j, a ≤ j → l.getD j 0 = 0) → ∀ x, Cv.ev (l.take a) x = Cv.ev l x
 | [], a, _, x => by rw [List.take_nil]
 | q :: r, 0, h, x => by
   show (0 : Rat) = q + x * Cv.ev r x
   have h0 : q = 0 := h 0 (S9 _)
   have ih := DR r 0 (fun j _ => h (j + 1) (Sb _)) x
   rw [TY] at ih
   have ih : (0 : Rat) = Cv.ev r x := ih
   rw [h0, ← ih, Uq, Rat.add_zero]
 | q :: r, a + 1, h, x => by
   show q + x * Cv.ev (r.take a) x = q + x * Cv.ev r x
   rw [DR r a (fun j hj => h (j + 1) (Nat.succ_le_succ hj)) x]
theorem Fz {N D : List Rat} {a b k : Nat} (hN : ∀ j, a ≤ j → N.getD j 0 = 0) (hD : ∀ j, b ≤ j → D.getD j 0 = 0) (h : a = 0 ∨ b = 0 ∨ a + b ≤ k + 1) : ∃ l : List Rat, l.length ≤ k ∧ ∀ x, Cv.ev l x = Cv.ev N x * Cv.ev D x := by
 have eN := DR N a hN
 have eD := DR D b hD
 by_cases z : (N.take a).length = 0 ∨ (D.take b).length = 0
 ·refine ⟨[], Sb _, fun x => ?_⟩
  show (0 : Rat) = _
  rcases z with z | z
  ·rw [← eN, Th z]; show _ = 0 * _; rw [Ur]
  ·rw [← eD, Th z]; show _ = _ * 0; rw [Uq]
 ·have h1 : (N.take a).length ≤ a := by rw [Sj]; lia
  have h2 : (D.take b).length ≤ b := by rw [Sj]; lia
  refine ⟨Ds (N.take a) (D.take b), ?_, fun x => by rw [Ee, eN, eD]⟩
  rw [Dr _ (by lia) _ (by lia)]
  lia
def D6 (w v r : Int) (N D : List Rat) : Prop := (∀ j : Nat, r < 2 * ((j : Int) + 1 - w) → N.getD j 0 = 0) ∧ (∀ j : Nat, r < 2 * ((j : Int) + 1 - v) + 1 → D.getD j 0 = 0)
def CC (w v r : Int) (N D : List Rat) : Prop := (∃ j : Nat, 2 * ((j : Int) + 1 - w) = r ∧ N.getD j 0 ≠ 0) ∨ (∃ j : Nat, 2 * ((j : Int) + 1 - v) + 1 = r ∧ D.getD j 0 ≠ 0)
theorem Gx {w v r1 r2 : Int} {N D : List Rat} {n k : Nat} (hN : ∀ j : Nat, r1 < 2 * ((j : Int) + 1 - w) → N.getD j 0 = 0) (hD : ∀ j : Nat, r2 < 2 * ((j : Int) + 1 - v) + 1 → D.getD j 0 = 0) (hw : w + v = n + 1) (hr : r1 + r2 ≤ 2 * (k : Int) - 2 * n + 2) : ∃ l : List Rat, l.length ≤ k ∧ ∀ x, Cv.ev l x = Cv.ev N x * Cv.ev D x := by
 refine Fz (a := (r1 / 2 + w).toNat) (b := ((r2 - 1) / 2 + v).toNat) (fun j hj => hN j ?_) (fun j hj => hD j ?_) ?_
 ·lia
 ·lia
 ·lia
theorem Ml {w v r1 r2 : Int} {N1 D1 N2 D2 qs : List Rat} {n : Nat} (h1 : D6 w v r1 N1 D1) (h2 : D6 w v r2 N2 D2) (hw : w + v = n + 1) (hr : r1 + r2 ≤ 2 * (qs.length : Int) - 2 * n + 2) (hn : qs.Nodup) (h : ∀ q ∈ qs, Cv.ev N1 q * Cv.ev D2 q = Cv.ev N2 q * Cv.ev D1 q) (x : Rat) : Cv.ev N1 x * Cv.ev D2 x = Cv.ev N2 x * Cv.ev D1 x := by
 obtain ⟨l1, hl1, e1⟩ := Gx (k := qs.length) h1.1 h2.2 hw hr
 obtain ⟨l2, hl2, e2⟩ := Gx (k := qs.length) h2.1 h1.2 hw (by lia)
 have e : ∀ x, Cv.ev (Bq l1 (l2.map (· * (-1)))) x = Cv.ev N1 x * Cv.ev D2 x - Cv.ev N2 x * Cv.ev D1 x := fun x => by
  rw [BC, Cv.ev_scale, e1, e2]; grind
 have := BR qs (l := Bq l1 (l2.map (· * (-1)))) hn (by rw [Bc, Su]; lia) (fun q hq => by rw [e, h q hq]; grind) x
 rw [e] at this
 grind
theorem GF {l : List Rat} {a j : Nat} (h : j < a) : (l.take a).getD j 0 = l.getD j 0 := by
 rw [Tq, Tq, Us, if_pos h]
theorem JS {l : List Rat} {j : Nat} (h : l.getD j 0 ≠ 0) : j < l.length := by
 rcases Ut j l.length with z | z
 ·exact z
 ·exact absurd (by rw [Tq, TM z]; rfl) h
theorem K4 {N1 D2 N2 D1 : List Rat} {j i a b : Nat} (hj : N1.getD j 0 ≠ 0) (hi : D2.getD i 0 ≠ 0) (h1 : ∀ t, j < t → N1.getD t 0 = 0) (h2 : ∀ t, i < t → D2.getD t 0 = 0) (ha : ∀ t, a ≤ t → N2.getD t 0 = 0) (hb : ∀ t, b ≤ t → D1.getD t 0 = 0) (hab : a = 0 ∨ b = 0 ∨ a + b ≤ j + i + 1) : ¬ ∀ x, Cv.ev N1 x * Cv.ev D2 x = Cv.ev N2 x * Cv.ev D1 x := fun h => by
 obtain ⟨l, hl, el⟩ := Fz (k := j + i) ha hb hab
 have lj := JS hj
 have li := JS hi
 have n1 : (N1.take (j + 1)).length = j + 1 := by rw [Sj]; lia
 have n2 : (D2.take (i + 1)).length = i + 1 := by rw [Sj]; lia
 have g : ∀ {q : List Rat} {t : Nat}, t < q.length → q[t]? = some (q.getD t 0) := fun {q t} ht => by rw [Tq, Tx ht]; rfl
 have m1 := GA (D2.take (i + 1)) (D2.getD i 0) (by rw [n2, Uu, g (by lia), GF (by lia)]) (N1.take (j + 1)) (N1.getD j 0) (by rw [n1, Uu, g (by lia), GF (by lia)])
 have e := J3 (l := Ds (N1.take (j + 1)) (D2.take (i + 1))) (m := l) (fun k => by rw [el, ← h, Ee, DR N1 (j + 1) fun t ht => h1 t (by lia), DR D2 (i + 1) fun t ht => h2 t (by lia)]) (j + i)
 have e2 : l.getD (j + i) 0 = 0 := by rw [Tq, TM hl]; rfl
 rw [n1, n2, show j + 1 + (i + 1) - 2 = j + i by lia] at m1
 rw [e2, Tq, m1] at e
 rcases Ti.mp (show D2.getD i 0 * N1.getD j 0 = 0 from e) with z | z
 ·exact hi z
 ·exact hj z
theorem Mm {w v r1 r2 : Int} {N1 D1 N2 D2 : List Rat} (h1 : D6 w v r1 N1 D1) (h2 : D6 w v r2 N2 D2) (t1 : CC w v r1 N1 D1) (t2 : CC w v r2 N2 D2) (hp : (r1 + r2) % 2 = 1) : ¬ ∀ x, Cv.ev N1 x * Cv.ev D2 x = Cv.ev N2 x * Cv.ev D1 x := by
 rcases t1 with ⟨j, ej, hj⟩ | ⟨j, ej, hj⟩
 ·rcases t2 with ⟨i, ei, hi⟩ | ⟨i, ei, hi⟩
  ·lia
  ·exact K4 (a := (r2 / 2 + w).toNat) (b := ((r1 - 1) / 2 + v).toNat) hj hi (fun t ht => h1.1 t (by lia)) (fun t ht => h2.2 t (by lia)) (fun t ht => h2.1 t (by lia)) (fun t ht => h1.2 t (by lia)) (by lia)
 ·rcases t2 with ⟨i, ei, hi⟩ | ⟨i, ei, hi⟩
  ·exact fun h => K4 (a := (r1 / 2 + w).toNat) (b := ((r2 - 1) / 2 + v).toNat) hi hj (fun t ht => h2.1 t (by lia)) (fun t ht => h1.2 t (by lia)) (fun t ht => h1.1 t (by lia)) (fun t ht => h2.2 t (by lia)) (by lia) fun x => (h x).symm
  ·lia
structure D7 (w v : Int) (n : Nat) (ps : List (Rat × Rat)) (r1 r2 : Int) (N1 D1 N2 D2 : List Rat) : Prop where
 le1 : D6 w v r1 N1 D1
 top1 : CC w v r1 N1 D1
 le2 : D6 w v r2 N2 D2
 top2 : CC w v r2 N2 D2
 lt : r1 < r2
 sum : r1 + r2 = 2 * (ps.length : Int) - 2 * n + 3
 on1 : ∀ q ∈ ps, Cv.ev N1 q.1 = q.2 * Cv.ev D1 q.1
 on2 : ∀ q ∈ ps, Cv.ev N2 q.1 = q.2 * Cv.ev D2 q.1
section
variable {w v : Int} {n : Nat} {ps : List (Rat × Rat)} {r1 r2 : Int} {N1 D1 N2 D2 : List Rat}
theorem D7.ne (I : D7 w v n ps r1 r2 N1 D1 N2 D2) : ¬ ∀ x, Cv.ev N1 x * Cv.ev D2 x = Cv.ev N2 x * Cv.ev D1 x := Mm I.le1 I.le2 I.top1 I.top2 (by have := I.sum; lia)
theorem D7.some (I : D7 w v n ps r1 r2 N1 D1 N2 D2) (hw : w + v = n + 1) {x y : Rat} (hn : ((ps ++ [(x, y)]).map Prod.fst).Nodup) : ¬ (Cv.ev N1 x = y * Cv.ev D1 x ∧ Cv.ev N2 x = y * Cv.ev D2 x) := fun ⟨h1, h2⟩ => by
 refine I.ne fun t => Ml (qs := (ps ++ [(x, y)]).map Prod.fst) I.le1 I.le2 hw ?_ hn (fun q hq => ?_) t
 ·have := I.sum
  rw [Su, Ss, SK]
  lia
 ·obtain ⟨p, hp, rfl⟩ := TR.mp hq
  rcases S2.mp hp with z | z
  ·rw [I.on1 p z, I.on2 p z]; grind
  ·rw [Tw.mp z]
   show Cv.ev N1 x * Cv.ev D2 x = Cv.ev N2 x * Cv.ev D1 x
   rw [h1, h2]; grind
end
theorem HJ : ∀ {l m : List Rat}, (∀ j, l.getD j 0 = m.getD j 0) → ∀ x, Cv.ev l x = Cv.ev m x
 | [], m, h, x => by
   show (0 : Rat) = _
   rw [Cv.ev_none]
   intro q hq
   obtain ⟨j, hj, rfl⟩ := List.getElem_of_mem hq
   have := h j
   rw [Tq, Tq, Tx hj] at this
   exact this.symm
 | a :: l, [], h, x => by
   show _ = (0 : Rat)
   rw [Cv.ev_none]
   intro q hq
   obtain ⟨j, hj, rfl⟩ := List.getElem_of_mem hq
   have := h j
   rw [Tq, Tq, Tx hj] at this
   exact this
 | a :: l, b :: m, h, x => by
   show a + x * Cv.ev l x = b + x * Cv.ev m x
   rw [show a = b from h 0, HJ (l := l) (m := m) (fun j => h (j + 1)) x]
def Shf (c d : Rat) (L L' : List Rat) : Prop := ∀ j : Nat, L'.getD j 0 = d * (if j = 0 then 0 else L.getD (j - 1) 0) - c * L.getD j 0
theorem Shf.ev {c d : Rat} {L L' : List Rat} (h : Shf c d L L') (x : Rat) : Cv.ev L' x = (d * x - c) * Cv.ev L x := by
 have e : Cv.ev L' x = Cv.ev (Bq ((0 :: L).map (· * d)) (L.map (· * (-c)))) x := HJ (fun j => by
  rw [h j, Cq, BG, BG]
  cases j with
  | zero => show d * (if 0 = 0 then 0 else _) - c * _ = 0 * d + _; rw [if_pos rfl]; grind
  | succ j => show d * (if j + 1 = 0 then 0 else L.getD (j + 1 - 1) 0) - c * _ = L.getD j 0 * d + _; rw [if_neg (by lia), Uu]; grind) x
 rw [e, BC, Cv.ev_scale, Cv.ev_scale]
 show (0 + x * Cv.ev L x) * d + _ = _
 grind
def Mix (m a b : Rat) (A B L' : List Rat) : Prop := ∀ j : Nat, m * L'.getD j 0 = a * B.getD j 0 - b * A.getD j 0
theorem Mix.ev {m a b : Rat} {A B L' : List Rat} (h : Mix m a b A B L') (x : Rat) : m * Cv.ev L' x = a * Cv.ev B x - b * Cv.ev A x := by
 have e : Cv.ev (L'.map (· * m)) x = Cv.ev (Bq (B.map (· * a)) (A.map (· * (-b)))) x := HJ (fun j => by
  rw [BG, Cq, BG, BG]
  have := h j
  grind) x
 rw [BC, Cv.ev_scale, Cv.ev_scale, Cv.ev_scale] at e
 grind
theorem D6.shift {w v r : Int} {c d : Rat} {N D N' D' : List Rat} (h : D6 w v r N D) (hN : Shf c d N N') (hD : Shf c d D D') : D6 w v (r + 2) N' D' := by
 refine ⟨fun j hj => ?_, fun j hj => ?_⟩
 ·rw [hN j, h.1 j (by lia)]
  by_cases z : j = 0
  ·rw [if_pos z]; grind
  ·rw [if_neg z, h.1 (j - 1) (by lia)]; grind
 ·rw [hD j, h.2 j (by lia)]
  by_cases z : j = 0
  ·rw [if_pos z]; grind
  ·rw [if_neg z, h.2 (j - 1) (by lia)]; grind
theorem CC.shift {w v r : Int} {c d : Rat} {N D N' D' : List Rat} (h : CC w v r N D) (hle : D6 w v r N D) (hd : d ≠ 0) (hN : Shf c d N N') (hD : Shf c d D D') : CC w v (r + 2) N' D' := by
 have key : ∀ {y : Rat}, y ≠ 0 → d * y - c * 0 ≠ 0 := fun {y} hy e => by
  have : d * y = 0 := by grind
  rcases Ti.mp this with z | z
  ·exact hd z
  ·exact hy z
 rcases h with ⟨j, e, hj⟩ | ⟨j, e, hj⟩
 ·refine .inl ⟨j + 1, by lia, ?_⟩
  rw [hN (j + 1), if_neg (by lia), Uu, hle.1 (j + 1) (by lia)]
  exact key hj
 ·refine .inr ⟨j + 1, by lia, ?_⟩
  rw [hD (j + 1), if_neg (by lia), Uu, hle.2 (j + 1) (by lia)]
  exact key hj
theorem Mix.zero {m a b : Rat} {A B L' : List Rat} (h : Mix m a b A B L') (hm : m ≠ 0) {j : Nat} (hA : A.getD j 0 = 0) (hB : B.getD j 0 = 0) : L'.getD j 0 = 0 := by
 have := h j
 rw [hA, hB] at this
 rcases Ti.mp (show m * L'.getD j 0 = 0 by grind) with z | z
 ·exact absurd z hm
 ·exact z
theorem D6.mix {w v r1 r2 : Int} {m a b : Rat} {N1 D1 N2 D2 N' D' : List Rat} (h1 : D6 w v r1 N1 D1) (h2 : D6 w v r2 N2 D2) (hlt : r1 < r2) (hm : m ≠ 0) (hN : Mix m a b N1 N2 N') (hD : Mix m a b D1 D2 D') : D6 w v r2 N' D' :=
 ⟨fun j hj => hN.zero hm (h1.1 j (by lia)) (h2.1 j hj), fun j hj => hD.zero hm (h1.2 j (by lia)) (h2.2 j hj)⟩
theorem CC.mix {w v r1 r2 : Int} {m a b : Rat} {N1 D1 N2 D2 N' D' : List Rat} (t2 : CC w v r2 N2 D2) (h1 : D6 w v r1 N1 D1) (hlt : r1 < r2) (ha : a ≠ 0) (hN : Mix m a b N1 N2 N') (hD : Mix m a b D1 D2 D') : CC w v r2 N' D' := by
 have key : ∀ {y z : Rat}, y ≠ 0 → m * z = a * y - b * 0 → z ≠ 0 := fun {y z} hy e hz => by
  have : a * y = 0 := by rw [hz] at e; grind
  rcases Ti.mp this with q | q
  ·exact ha q
  ·exact hy q
 rcases t2 with ⟨j, e, hj⟩ | ⟨j, e, hj⟩
 ·have := hN j
  rw [h1.1 j (by lia)] at this
  exact .inl ⟨j, e, key hj this⟩
 ·have := hD j
  rw [h1.2 j (by lia)] at this
  exact .inr ⟨j, e, key hj this⟩
structure PUn (w v : Int) (n : Nat) (ps : List (Rat × Rat)) (r1 r2 : Int) (N1 D1 N2 D2 : List Rat) : Prop where
 le1 : D6 w v r1 N1 D1
 top1 : CC w v r1 N1 D1
 le2 : D6 w v r2 N2 D2
 top2 : CC w v r2 N2 D2
 sum : r1 + r2 = 2 * (ps.length : Int) - 2 * n + 3
 on1 : ∀ q ∈ ps, Cv.ev N1 q.1 = q.2 * Cv.ev D1 q.1
 on2 : ∀ q ∈ ps, Cv.ev N2 q.1 = q.2 * Cv.ev D2 q.1
section
variable {w v : Int} {n : Nat} {ps : List (Rat × Rat)} {r1 r2 : Int} {N1 D1 N2 D2 N1' D1' N2' D2' : List Rat} {x y : Rat}
theorem PUn.inv (h : PUn w v n ps r1 r2 N1 D1 N2 D2) (hlt : r1 < r2) : D7 w v n ps r1 r2 N1 D1 N2 D2 := ⟨h.le1, h.top1, h.le2, h.top2, hlt, h.sum, h.on1, h.on2⟩
theorem PUn.turn (h : PUn w v n ps r1 r2 N1 D1 N2 D2) (hlt : ¬ r1 < r2) : D7 w v n ps r2 r1 N2 D2 N1 D1 := ⟨h.le2, h.top2, h.le1, h.top1, by have := h.sum; lia, by have := h.sum; lia, h.on2, h.on1⟩
theorem Fb {N D : List Rat} (h : ∀ q ∈ ps, Cv.ev N q.1 = q.2 * Cv.ev D q.1) (hx : Cv.ev N x = y * Cv.ev D x) : ∀ q ∈ ps ++ [(x, y)], Cv.ev N q.1 = q.2 * Cv.ev D q.1 := fun q hq => by
 rcases S2.mp hq with z | z
 ·exact h q z
 ·rw [Tw.mp z]; exact hx
theorem FH {c d : Rat} {N D N' D' : List Rat} (h : ∀ q ∈ ps, Cv.ev N q.1 = q.2 * Cv.ev D q.1) (hN : Shf c d N N') (hD : Shf c d D D') (hx : d * x = c) : ∀ q ∈ ps ++ [(x, y)], Cv.ev N' q.1 = q.2 * Cv.ev D' q.1 := Fb (fun q hq => by rw [hN.ev, hD.ev, h q hq]; grind) (by rw [hN.ev, hD.ev, hx]; grind)
theorem D7.stepA {c d : Rat} (I : D7 w v n ps r1 r2 N1 D1 N2 D2) (hd : d ≠ 0) (hx : d * x = c) (h0 : Cv.ev N1 x = y * Cv.ev D1 x) (hN : Shf c d N2 N2') (hD : Shf c d D2 D2') : PUn w v n (ps ++ [(x, y)]) r1 (r2 + 2) N1 D1 N2' D2' :=
 ⟨I.le1, I.top1, I.le2.shift hN hD, I.top2.shift I.le2 hd hN hD, by have := I.sum; rw [Ss, SK]; lia, Fb I.on1 h0, FH I.on2 hN hD hx⟩
theorem D7.stepB {c d : Rat} (I : D7 w v n ps r1 r2 N1 D1 N2 D2) (hd : d ≠ 0) (hx : d * x = c) (h0 : Cv.ev N2 x = y * Cv.ev D2 x) (hN : Shf c d N1 N1') (hD : Shf c d D1 D1') : PUn w v n (ps ++ [(x, y)]) (r1 + 2) r2 N1' D1' N2 D2 :=
 ⟨I.le1.shift hN hD, I.top1.shift I.le1 hd hN hD, I.le2, I.top2, by have := I.sum; rw [Ss, SK]; lia, FH I.on1 hN hD hx, Fb I.on2 h0⟩
theorem D7.stepC {c d m a b s : Rat} (I : D7 w v n ps r1 r2 N1 D1 N2 D2) (hd : d ≠ 0) (hx : d * x = c) (ha : a ≠ 0) (hm : m ≠ 0) (ea : a = s * (Cv.ev N1 x - y * Cv.ev D1 x)) (eb : b = s * (Cv.ev N2 x - y * Cv.ev D2 x)) (hN1 : Shf c d N1 N1') (hD1 : Shf c d D1 D1') (hN2 : Mix m a b N1 N2 N2') (hD2 : Mix m a b D1 D2 D2') : PUn w v n (ps ++ [(x, y)]) (r1 + 2) r2 N1' D1' N2' D2' := by
 refine ⟨I.le1.shift hN1 hD1, I.top1.shift I.le1 hd hN1 hD1, D6.mix I.le1 I.le2 I.lt hm hN2 hD2, CC.mix I.top2 I.le1 I.lt ha hN2 hD2, by have := I.sum; rw [Ss, SK]; lia, FH I.on1 hN1 hD1 hx, ?_⟩
 have can : ∀ {p q : Rat}, m * p = m * q → p = q := fun {p q} h => by
  rcases Ti.mp (show m * (p - q) = 0 by grind) with z | z
  ·exact absurd z hm
  ·grind
 refine Fb (fun q hq => can ?_) (can ?_)
 ·have e1 := hN2.ev q.1
  have e2 := hD2.ev q.1
  rw [I.on1 q hq, I.on2 q hq] at e1
  rw [e1, show m * (q.2 * Cv.ev D2' q.1) = q.2 * (m * Cv.ev D2' q.1) by grind, e2]
  grind
 ·have e1 := hN2.ev x
  have e2 := hD2.ev x
  rw [e1, show m * (y * Cv.ev D2' x) = y * (m * Cv.ev D2' x) by grind, e2, ea, eb]
  grind
theorem D7.fin (I : D7 w v n ps r1 r2 N1 D1 N2 D2) (hl : ps.length = n) : r1 ≤ 1 := by
 have := I.sum
 have := I.lt
 lia
theorem D7.below (I : D7 w v n ps r1 r2 N1 D1 N2 D2) (hl : ps.length = n) (hwn : w ≤ n) (hn : (ps.map Prod.fst).Nodup) : Cv.strip D1 ≠ [] := fun z => by
 have hr := I.fin hl
 have zD : ∀ x, Cv.ev D1 x = 0 := fun x => by rw [← Cv.ev_strip, z]; rfl
 have eN := DR N1 n fun j hj => I.le1.1 j (by lia)
 have zN : ∀ x, Cv.ev N1 x = 0 := fun x => by
  rw [← eN]
  refine BR (ps.map Prod.fst) hn (by rw [Su, Sj]; lia) (fun q hq => ?_) x
  obtain ⟨p, hp, rfl⟩ := TR.mp hq
  rw [eN, I.on1 p hp, zD, Uq]
 exact I.ne fun x => by rw [zD x, zN x, Uq, Ur]
end
end L2
namespace L2
section
variable {w v : Int} {n : Nat} {ps : List (Rat × Rat)} {r1 r2 : Int} {N1 D1 N2 D2 : List Rat}
end
end L2
namespace L2
open PySem PySem.Spec PyProof.Rows
theorem EH {α β : Type} {F : α → β → Prop} {l' m' : List β} (h : l'.Perm m') : ∀ {l : List α}, Paired F l l' → ∃ m, m.Perm l ∧ Paired F m m' := by
 induction h with
 | nil => exact fun {l} p => ⟨l, List.Perm.refl _, p⟩
 | cons x _ ih =>
   intro l p
   cases p with
   | @cons a _ as _ h t =>
     obtain ⟨m, hm, pm⟩ := ih t
     exact ⟨a :: m, hm.cons a, .cons h pm⟩
 | swap x y l =>
   intro k p
   cases p with
   | @cons a _ as _ h t =>
     cases t with
     | @cons b _ bs _ h2 t2 => exact ⟨b :: a :: bs, List.Perm.swap .., .cons h2 (.cons h t2)⟩
 | trans _ _ i1 i2 =>
   intro l p
   obtain ⟨m, hm, pm⟩ := i1 p
   obtain ⟨m2, hm2, pm2⟩ := i2 pm
   exact ⟨m2, hm2.trans hm, pm2⟩
section
variable {prog : Program} {w : World} {A : Around} {E : Value → Shared → Prop} {s : Shared} {a kS : Addr} {vs : List Value} {kz : List Int} {keys : Array Value} {e e1 : Nat} {P : PySem.Fin → Shared → Prop}
set_option maxHeartbeats 4000000 in
theorem Ik {st : SortSt} (nk : s.heap.get? kS = some (seqObj "list" keys e)) (na : s.heap.get? a = some (seqObj "list" #[] e1)) (hka : kS ≠ a)
 (hk : IntsAre keys.toList kz) (hlen : kz.length = vs.length) (h64 : vs.length < 64) (hp : (arrOf st).Perm (keys.zip vs.toArray)) (hs : SortedTo (arrOf st) (arrOf st).size) (hfl : failedOf st = none)
 (h : ∀ h' out c, (∀ b o, b ≠ kS → b ≠ a → s.heap.get? b = some o → h'.get? b = some o) → h'.get? a = some (seqObj "list" out c) → KskOut false kz vs out.toList → P (.done (.ret .none)) { s with heap := h' }) :
 wpAny (model prog w) A (ksk_tail a false e1 (.ref kS) st) P E s := by
 have hsz : keys.size = vs.length := by
  have h1 := hk.length
  rw [S6] at h1
  lia
 have hsz2 : (arrOf st).size = vs.length := by rw [hp.size_eq, Array.size_zip, hsz, SE, Nat.min_self]
 have hout : ((arrOf st).map (·.2)).size = vs.length := by rw [Array.size_map]; exact hsz2
 have s1 := Heap.SameBut.update s.heap kS (Obj.mapSeq fun _ => (#[] : Array Value))
 have na1 : (s.heap.update kS (Obj.mapSeq fun _ => (#[] : Array Value))).get? a = some (seqObj "list" #[] e1) := (s1.2 a hka.symm).trans na
 have s2 := Heap.SameBut.update (s.heap.update kS (Obj.mapSeq fun _ => (#[] : Array Value))) a (Obj.mapSeq fun _ => (arrOf st).map (·.2))
 obtain ⟨c2, hc2⟩ : ∃ c2, ((s.heap.update kS (Obj.mapSeq fun _ => (#[] : Array Value))).update a (Obj.mapSeq fun _ => (arrOf st).map (·.2))).get? a = some (seqObj "list" ((arrOf st).map (·.2)) c2) := ⟨_, get?_update_seq na1 fun _ => (arrOf st).map (·.2)⟩
 unfold ksk_tail
 try dsimp only
 refine wpAny_bind (listUpdate_at nk rfl ?_ (by rw [hsz, sizeLine_eq]; lia) (Sb _))
 refine wpAny_bind (wpAny_letGo ?_)
 refine wpAny_bind (seqEpoch_at na1 rfl ?_)
 refine wpAny_bind (listUpdate_at na1 rfl ?_ (Sb _) (RV (Nat.le_of_eq hout) (by rw [sizeLine_eq]; lia)))
 rw [hfl]
 simp only [bne_self_eq_false, Bool.false_eq_true, if_false]
 exact wpAny_pure (h _ _ c2 (fun b o h1 h2 q => (s2.2 b h2).trans ((s1.2 b h1).trans q)) hc2 (ksk_out (b := false) hk hp hs))
set_option maxHeartbeats 4000000 in
theorem MR (nk : s.heap.get? kS = some (seqObj "list" keys e)) (na : s.heap.get? a = some (seqObj "list" #[] e1)) (hka : kS ≠ a)
 (hk : IntsAre keys.toList kz) (hlen : kz.length = vs.length) (h64 : vs.length < 64)
 (h : ∀ h' out c, (∀ b o, b ≠ kS → b ≠ a → s.heap.get? b = some o → h'.get? b = some o) → h'.get? a = some (seqObj "list" out c) → KskOut false kz vs out.toList → P (.done (.ret .none)) { s with heap := h' }) :
 wpAny (model prog w) A (ksk_end a false vs.toArray e1 (.ref kS) keys) P E s := by
 have hsz : keys.size = vs.length := by
  have h1 := hk.length
  rw [S6] at h1
  lia
 have hzs : (keys.zip vs.toArray).size = vs.length := by rw [Array.size_zip, hsz, SE, Nat.min_self]
 unfold ksk_end
 try dsimp only
 simp only [Bool.false_eq_true, if_false]
 by_cases h2 : vs.toArray.size < 2
 ·rw [if_pos h2, if_pos h2]
  refine wpAny_bind (wpAny_pure ?_)
  rw [StateT.run_pure]
  refine wpAny_bind (wpAny_pure ?_)
  try dsimp only
  refine Ik (st := SortSt.mk' general' (keys.zip vs.toArray) #[] 7 none) nk na hka hk hlen h64 (Array.Perm.refl _) ?_ rfl h
  intro i j hij hj
  have hj2 : j < (keys.zip vs.toArray).size := hj
  rw [hzs] at hj2
  rw [SE] at h2
  have : i = j := by lia
  subst this
  exact Int.le_refl _
 ·rw [if_neg h2, if_neg h2]
  rw [SE] at h2
  rw [ksk_kind hk (by rw [hsz]; lia)]
  refine wpAny_bind (wpAny_pure ?_)
  refine wpAny_bind (wpAny_mono (wpS_sortRuns (a₀ := keys.zip vs.toArray) (st := SortSt.mk' oneType' (keys.zip vs.toArray) #[] 7 none)
   (Q := fun _ st' => (arrOf st').Perm (keys.zip vs.toArray) ∧ failedOf st' = none ∧ SortedTo (arrOf st') (keys.zip vs.toArray).size)
   (ksk_intKeys hk) ⟨Array.Perm.refl _, rfl, rfl, rfl⟩ (by rw [hzs]; lia) (by rw [hzs]; exact h64) fun st' a1 a2 a3 => ⟨a1, a2, a3⟩) ?_ fun _ _ e => e)
  rintro ⟨⟨⟩, st'⟩ s' ⟨rfl, hp, hf, hs⟩
  try dsimp only
  exact Ik nk na hka hk hlen h64 hp (by rw [hp.size_eq]; exact hs) hf h
end
section
variable {X : Cx} {pins : List (Addr × Obj)} {σ : St} {H : Hp} {A : Around} {E : Value → Shared → Prop} {a kS : Addr} {vs : List Value} {kz : List Int} {e1 : Nat} {P : PySem.Fin → Shared → Prop} {f : Value}
set_option maxHeartbeats 4000000 in
theorem Ln {s : Shared} (fa : Dx X pins H a) (fk : Dx X pins H kS) (hka : kS ≠ a) (I : Inv X (pins ++ [(a, seqObj "list" #[] e1), (kS, seqObj "list" #[] 0)]) σ H s) (hlen : kz.length = vs.length) (h64 : vs.length < 64)
 (turn : ∀ (i : Nat) (v : Value) (k : Int), vs[i]? = some v → kz[i]? = some k → ∀ (pins' : List (Addr × Obj)) (s' : Shared), Inv X pins' σ H s' → wpAny (model X.prog X.w) A (call f [v]) (fun u s'' => (∃ t, u = .int k t) ∧ Inv X pins' σ H s'') (fun _ _ => False) s')
 (h : ∀ s' out c, Inv X pins σ H s' → s'.heap.get? a = some (seqObj "list" out c) → KskOut false kz vs out.toList → P (.done (.ret .none)) s') :
 wpAny (model X.prog X.w) A (ksk_rest a f false vs.toArray e1 (.ref kS)) P E s := by
 unfold ksk_rest
 refine wpAny_bind (wpAny_rule ?_)
 first
  | rw [List.forIn_toArray]
  | (rw [← U6]; simp only [List.toList_toArray])
  | rw [← U6]
 have unp : ∀ {kA : Array Value} {e : Nat} {s' : Shared}, Inv X (pins ++ [(a, seqObj "list" #[] e1), (kS, seqObj "list" kA e)]) σ H s' → Inv X pins σ H s' ∧ s'.heap.get? a = some (seqObj "list" #[] e1) ∧ s'.heap.get? kS = some (seqObj "list" kA e) := fun {kA e s'} J =>
  ⟨J.pins_of fun p hp => J.pin p (Sa _ (S3 _ hp)), (J.pin (a, seqObj "list" #[] e1) (Sa _ (Sa _ (.head _)))).1, (J.pin (kS, seqObj "list" kA e) (Sa _ (Sa _ (.tail _ (.head _))))).1⟩
 refine wpAny_bind (ksk_fold (fun i s' => ∃ kA e, Inv X (pins ++ [(a, seqObj "list" #[] e1), (kS, seqObj "list" kA e)]) σ H s' ∧ IntsAre kA.toList (kz.take i)) vs 0 s ⟨#[], 0, I, by simpa using IntsAre.nil⟩ ?step ?done)
 case step =>
  rintro j x s' hx ⟨kA, e, I', hk⟩
  simp only [U4] at hk ⊢
  have hj : j < vs.length := (S4.mp hx).1
  obtain ⟨k, hkj⟩ : ∃ k, kz[j]? = some k := ⟨_, Tx (by lia)⟩
  have hz : kA.size ≤ vs.length := by
   have h1 := hk.length
   rw [S6, Sj] at h1
   lia
  refine wpAny_bind (wpAny_attempt (wpAny_mono (turn j x k hx hkj _ s' I') (fun v s'' he => ?_) fun _ _ hF => hF.elim))
  obtain ⟨⟨t2, rfl⟩, I2⟩ := he
  obtain ⟨I3, pa, pk⟩ := unp I2
  try dsimp only
  have s1 := Heap.SameBut.update s''.heap kS (Obj.mapSeq (·.push (.int k t2)))
  obtain ⟨c2, hc2⟩ : ∃ c2, (s''.heap.update kS (Obj.mapSeq (·.push (.int k t2)))).get? kS = some (seqObj "list" (kA.push (.int k t2)) c2) := ⟨_, get?_update_seq pk (·.push (.int k t2))⟩
  have ek : kz.take (j + 1) = kz.take j ++ [k] := by rw [Tf, hkj]; simp
  have ea : (kA.push (Value.int k t2)).toList = kA.toList ++ [Value.int k t2] := by simp
  refine wpAny_bind (listUpdate_at pk rfl ?_ (by rw [sizeLine_eq]; lia) (RV (Nat.le_of_eq (Uc ..)) (by rw [sizeLine_eq]; lia)))
  refine wpAny_pure ⟨rfl, kA.push (.int k t2), c2, ?_, by rw [ea, ek]; exact ksk_snoc hk⟩
  have I4 : Inv X pins σ H { s'' with heap := s''.heap.update kS (Obj.mapSeq (·.push (.int k t2))), toks := s''.toks } := I3.turned (it := kS) (fun b o hb q => (s1.2 b hb).trans q) fk.1 fk.2.1 fk.2.2.2.1 fk.2.2.2.2.1 fk.2.2.2.2.2
  refine I4.pins_of fun p hp => ?_
  rcases S2.mp hp with z | z
  ·exact I4.pin p (Sa _ z)
  ·rcases S1.mp z with rfl | z
   ·exact ⟨(s1.2 a hka.symm).trans pa, fa.1, fa.2.1, fa.2.2.1, fun v z => by cases z⟩
   ·rw [Tw.mp z]
    exact ⟨hc2, fk.1, fk.2.1, fk.2.2.1, fun v z => by cases z⟩
 case done =>
  rintro s' ⟨kA, e, I', hk⟩
  have hk' : IntsAre kA.toList kz := by
   have e3 : kz.take (0 + vs.length) = kz := TX (by lia)
   rw [e3] at hk
   exact hk
  obtain ⟨I3, pa, pk⟩ := unp I'
  try dsimp only
  refine wpAny_bind (listItems_at pk rfl ?_)
  refine MR pk pa hka hk' hlen h64 fun h' out c keep hget ko => h _ out c ?_ hget ko
  exact I3.turnedL (t' := s'.toks) (ch := [kS, a]) (fun b o hb q => keep b o (fun z => hb (by rw [z]; simp)) (fun z => hb (by rw [z]; simp)) q) fun b hb => by
   rcases S1.mp hb with rfl | hb
   ·exact fk
   ·rw [Tw.mp hb]; exact fa
end
theorem Jw {xs : List V} {us : List Value} (r : AA xs us) : ∀ kz : List Int, Paired (fun (p : Int × V) (q : Int × Value) => p.1 = q.1 ∧ AI p.2 q.2) (kz.zip xs) (kz.zip us) := by
 induction r with
 | nil => intro kz; rw [List.zip_nil_right, List.zip_nil_right]; exact .nil
 | cons h _ ih =>
   intro kz
   cases kz with
   | nil => exact .nil
   | cons k kz => exact .cons ⟨rfl, h⟩ (ih kz)
theorem Jy {zs : List (Int × V)} {ps : List (Int × Value)} (h : Paired (fun (p : Int × V) (q : Int × Value) => p.1 = q.1 ∧ AI p.2 q.2) zs ps) : zs.map Prod.fst = ps.map Prod.fst := by
 induction h with
 | nil => rfl
 | cons h _ ih => rw [SO, SO, ih, h.1]
theorem Jx {zs : List (Int × V)} {ps : List (Int × Value)} (h : Paired (fun (p : Int × V) (q : Int × Value) => p.1 = q.1 ∧ AI p.2 q.2) zs ps) : AA (zs.map Prod.snd) (ps.map Prod.snd) := by
 induction h with
 | nil => exact .nil
 | cons h _ ih => exact .cons h.2 ih
theorem Inv.own {X : Cx} {pins : List (Addr × Obj)} {σ : St} {H : Hp} {s : Shared} {D : Addr} {o : HO} (J : Inv X pins σ H s) (fp : Dx X pins H D) (new : BX X.prog X.w (upd H D o) s.heap D o) : Inv X pins σ (upd H D o) s := by
 have nD : ∀ {b : Addr} {u : HO}, H b = some u → b ≠ D := fun {b u} e z => by rw [z, fp.1] at e; cases e
 refine J.step (g' := s.gens) (d' := s.drawn) (t' := s.toks) (h' := s.heap) (ch := [D]) (fun b hb => ?_) (fun b o _ _ _ e _ => e) (fun b o _ _ _ e _ => ⟨o.slots, e⟩) (fun b o hc e n => by rw [Am (fun z => hc (by simp [z]))]; exact n)
  (fun b o _ e => ⟨o, e⟩) (fun b xs e => by rw [Am (nD e)]; exact e) (fun b o u e => by rw [Am (nD e)]; exact e) (fun b ps e => ⟨#[], by rw [Am (nD e), e]; simp⟩) (fun m hm => hm) (fun b u e => ?_) J.bare
 ·rw [Tw.mp hb]
  exact ⟨fp.2.2.2.1, fp.2.1, fp.2.2.2.2.1, fp.2.2.2.2.2⟩
 ·by_cases z : b = D
  ·subst z
   rw [Aa] at e
   cases e
   exact new
  ·rw [Am z] at e
   exact (J.hok b u e).stay (fun _ _ _ q => q) (fun c q => by rw [Am (nD q)]; exact q) fun c xs q => by rw [Am (nD q)]; exact q
section
variable {X : Cx} {pins : List (Addr × Obj)} {σ : St} {H : Hp} {E : Value → Shared → Prop} {kz : List Int} {f : Addr} {s : Shared} {l : Addr} {xs : List V} {Q : VK}
set_option maxHeartbeats 4000000 in
theorem Jk (I : Inv X pins σ H s) (hl : SqL X.K H l xs) (hlen : kz.length = xs.length) (h64 : xs.length < 64)
 (turn : ∀ (i : Nat) (x : V) (k : Int) (v : Value), xs[i]? = some x → kz[i]? = some k → AI x v → ∀ (pins' : List (Addr × Obj)) (s' : Shared), Inv X pins' σ H s' → wpAny (model X.prog X.w) X.A.in1.in1 (call (.ref f) [v]) (fun u s'' => (∃ t, u = .int k t) ∧ Inv X pins' σ H s'') (fun _ _ => False) s')
 (q : ∀ p ys, H p = none → (∃ zs : List (Int × V), zs.Perm (kz.zip xs) ∧ ys = zs.map Prod.snd ∧ zs.Pairwise fun p q => p.1 ≤ q.1) → Q (.ref p) (upd H p (.lst ys))) :
 wpAny (model X.prog X.w) X.A (call (.builtin "sorted") [.ref l] [(Str.ofString "key", .ref f)]) (EP X pins σ Q) E s := by
 obtain ⟨vs, r, ht, hz⟩ := I.list hl
 have hil : vs.length = xs.length := r.length.symm
 refine call_function_entry_kw kind_sorted plain_sorted entry_sorted (ksk_s1 _ _) ?_
 unfold Builtin.«sorted»
 refine wpAny_bind (m := checkCount "sorted" 1 1 _) (wpAny_pure ?_)
 refine wpAny_bind (collect_list ht.isList ?_ (by rw [sizeLine_eq]; lia))
 refine wpAny_bind (wpAny_newList ?_ (by rw [sizeLine_eq]; lia))
 have hsz : ((s.heap.push (seqObj "list" #[] 0)).update s.heap.objs.size (Obj.mapSeq (· ++ vs.toArray))).objs.size = s.heap.objs.size + 1 := by
  rw [Heap.size_update, size_push']
 have hoL : (((s.heap.push (seqObj "list" #[] 0)).update s.heap.objs.size (Obj.mapSeq (· ++ vs.toArray))).push (seqObj "list" vs.toArray 0)).get? (s.heap.objs.size + 1) = some (seqObj "list" vs.toArray 0) := by
  rw [← hsz]; exact Heap.get?_push_size _ rfl
 have keep : ∀ b o, s.heap.get? b = some o → (((s.heap.push (seqObj "list" #[] 0)).update s.heap.objs.size (Obj.mapSeq (· ++ vs.toArray))).push (seqObj "list" vs.toArray 0)).get? b = some o := fun b o q => by
  have hlt : b < s.heap.objs.size := Heap.lt_size q
  rw [Heap.get?_push_ne _ _ _ (by rw [hsz]; exact RP (Tv hlt)), Heap.get?_update_ne _ _ _ _ (RP hlt), Heap.get?_push_ne _ _ _ (RP hlt)]
  exact q
 show wpAny _ _ _ _ _ { s with heap := ((s.heap.push (seqObj "list" #[] 0)).update s.heap.objs.size (Obj.mapSeq (· ++ vs.toArray))).push (seqObj "list" vs.toArray 0) }
 rw [hsz]
 have I1 : Inv X pins σ H { s with heap := ((s.heap.push (seqObj "list" #[] 0)).update s.heap.objs.size (Obj.mapSeq (· ++ vs.toArray))).push (seqObj "list" vs.toArray 0), toks := s.toks } := I.kept keep
 have hDn : H (s.heap.objs.size + 1) = none := I.hok.fresh (Tu _)
 have fa : Dx X pins H (s.heap.objs.size + 1) := I.fpOk (Tu _) hDn
 refine wpAny_bind (wpAny_holding (wpAny_call_entry_kw slot_list_sort ⟨_, hoL, rfl⟩ entry_list_sort ?body (ksk_l1 _ _)))
 case body =>
  show wpAny (model X.prog X.w) X.A.in1.in1 (Builtin.«list.sort» ⟨[.ref (s.heap.objs.size + 1)], [(Str.ofString "key", .ref f)]⟩) _ _ _
  rw [ksk_t1]
  generalize ((s.heap.push (seqObj "list" #[] 0)).update s.heap.objs.size (Obj.mapSeq (· ++ vs.toArray))).push (seqObj "list" vs.toArray 0) = h2 at hoL I1 ⊢
  have s1 := Heap.SameBut.update h2 (s.heap.objs.size + 1) (Obj.mapSeq fun _ => (#[] : Array Value))
  obtain ⟨e1, ho1⟩ : ∃ e1, (h2.update (s.heap.objs.size + 1) (Obj.mapSeq fun _ => (#[] : Array Value))).get? (s.heap.objs.size + 1) = some (seqObj "list" #[] e1) := ⟨_, get?_update_seq hoL fun _ => #[]⟩
  unfold ksk_tree
  refine wpAny_bind (listItems_at hoL rfl ?_)
  refine wpAny_bind (listUpdate_at hoL rfl ?_ (by rw [SE, sizeLine_eq]; lia) (Sb _))
  refine wpAny_bind (seqEpoch_at ho1 rfl ?_)
  refine wpAny_bind (wpAny_newTuple ?_ (by show vs.length ≤ _; rw [sizeLine_eq]; lia))
  refine wpAny_bind (wpAny_newList ?_ (Sb _))
  refine wpAny_holding ?_
  have I2 := I1.turned (it := s.heap.objs.size + 1) (t' := s.toks) (h' := h2.update (s.heap.objs.size + 1) (Obj.mapSeq fun _ => (#[] : Array Value))) (fun b o hb q => (s1.2 b hb).trans q) fa.1 fa.2.1 fa.2.2.2.1 fa.2.2.2.2.1 fa.2.2.2.2.2
  have I2 : Inv X pins σ H { s with heap := h2.update (s.heap.objs.size + 1) (Obj.mapSeq fun _ => (#[] : Array Value)), toks := s.toks } := I2
  generalize h2.update (s.heap.objs.size + 1) (Obj.mapSeq fun _ => (#[] : Array Value)) = h3 at ho1 I2 ⊢
  have I3 : Inv X pins σ H { s with heap := h3.push (seqObj "tuple" vs.toArray 0), toks := s.toks } := I2.kept fun b o q => Heap.get?_push_of_some _ q
  have ho3 : (h3.push (seqObj "tuple" vs.toArray 0)).get? (s.heap.objs.size + 1) = some (seqObj "list" #[] e1) := Heap.get?_push_of_some _ ho1
  show wpAny _ _ _ _ _ { s with heap := (h3.push (seqObj "tuple" vs.toArray 0)).push (seqObj "list" #[] 0) }
  generalize h3.push (seqObj "tuple" vs.toArray 0) = h4 at I3 ho3 ⊢
  have hkn : H h4.objs.size = none := I3.hok.fresh (S9 _)
  have fk : Dx X pins H h4.objs.size := I3.fpOk (S9 _) hkn
  have hka : h4.objs.size ≠ s.heap.objs.size + 1 := S7 (Heap.lt_size ho3)
  have I4 : Inv X pins σ H { s with heap := h4.push (seqObj "list" #[] 0), toks := s.toks } := I3.kept fun b o q => Heap.get?_push_of_some _ q
  refine Ln (a := s.heap.objs.size + 1) (kS := h4.objs.size) (e1 := e1) (kz := kz) (vs := vs) fa fk hka (I4.pins_of fun p hp => ?_) (by lia) (by lia) (fun i v k hv hk pins' s' I' => ?_) fun s' out c J hget ko => ⟨_, rfl, ?_⟩
  ·rcases S2.mp hp with z | z
   ·exact I4.pin p (Sa _ z)
   ·rcases S1.mp z with rfl | z
    ·exact ⟨Heap.get?_push_of_some _ ho3, fa.1, fa.2.1, fa.2.2.1, fun v z => by cases z⟩
    ·rw [Tw.mp z]
     exact ⟨Heap.get?_push_size _ rfl, fk.1, fk.2.1, fk.2.2.1, fun v z => by cases z⟩
  ·have hi : i < xs.length := by have := (S4.mp hv).1; lia
   have hx : xs[i]? = some xs[i] := Tx hi
   obtain ⟨u, hu, ru⟩ := r.get hx
   rw [hv] at hu
   cases hu
   exact turn i _ k v hx hk ru pins' s' I'
  ·refine wpAny_pure ⟨_, rfl, ?_⟩
   obtain ⟨ps, hperm, hout, hsorted⟩ := ko
   obtain ⟨zs, hz1, hz2⟩ := EH hperm.symm (Jw r kz)
   have hvy := Jx hz2
   rw [← hout] at hvy
   have hyl : (zs.map Prod.snd).length ≤ sizeLine := by
    rw [Su, hz1.length_eq, Uv, sizeLine_eq]; lia
   have hpw : zs.Pairwise fun p q => p.1 ≤ q.1 := by
    have h1 : (zs.map Prod.fst).Pairwise (· ≤ ·) := by
     rw [Jy hz2]
     exact Uw.mpr (hsorted.imp fun h => by simpa using h)
    exact Uw.mp h1
   refine ⟨.ref (s.heap.objs.size + 1), upd H (s.heap.objs.size + 1) (.lst (zs.map Prod.snd)), J.own fa ⟨hyl, out.toList, c, hvy, ?_⟩, rfl, q _ _ hDn ⟨zs, hz1, rfl, hpw⟩⟩
   rw [hget]
end
end L2
namespace L2
open PySem PySem.Spec PyProof.Rows
theorem Oo {cs : List Addr} {H : Hp} : onC cs H (offC cs H) = H := by
 funext b
 by_cases h : b ∈ cs
 ·rw [NM h]
 ·rw [Dl h, BJ h]
theorem Nd {cs : List Addr} {os : Addr → Obj} {H : Hp} (hn : ∀ c ∈ cs, H c = none) : offC cs (DL cs os H) = H := by
 funext b
 by_cases h : b ∈ cs
 ·rw [Ez h, hn b h]
 ·rw [BJ h, Bz h]
theorem OD {P : Program} {w : World} {K : RU} {mg : Str → Option Value} {base : Heap} {k : Nat} {f c' Pt : Addr} {q : Str} {params : Arguments} {body : Expr} {scope : Scope} {cl : List (Str × Addr)} {pm ctv : Value} {env : Env} {N ps fr : List Str} {σ : St} {os : Addr → Obj} {H1 H2 : Hp} {ws : List V} {Ok : List V → V → Prop}
 (LN : MF H1 H2 Pt q f c' (Ui "<lambda>" q params body scope cl pm (.ref c') ctv)) (C : HZ env cl) (hfree : ∀ x ∈ scope.names, x.2 = .free → ∃ c, (x.1, c) ∈ cl) (hcn : ∀ c ∈ cl.map (·.2), H2 c = none) (hci : Lc N σ env.scope cl os)
 (S : NR scope ps) (hlk : ∀ us : List Value, us.length = ps.length → ∀ (j : Nat) (x : Str) (u : Value), ps[j]? = some x → us[j]? = some u → (ps.zip us).reverse.lookup x = some u)
 (cap : Cap env.scope scope N σ fr ws)
 (hbody : ∀ (A : Around) (outer : List Env) (s : Shared) (E : XK) (vs : List V) (r : V) (H' : Hp) (Q : VK), BZ k (A.deeper (Ug q scope s.heap.objs.size f (.ref c') cl)) → vs.length = ps.length → Ok vs r → Af H2 H' → Q r H' →
  ∃ t, PE (Ki CX0 P w K mg base (ps ++ fr) q scope f (.ref c') cl A outer s H' E) body t ∧ t (vs.map some ++ ws.map some) H' Q) :
 AH P w K mg base CX0 (k + 1) f (Ui "<lambda>" q params body scope cl pm (.ref c') ctv) ps (fun vs H Q _ => vs.length = ps.length ∧ Af (DL (cl.map (·.2)) os H2) H ∧ ∃ r, Ok vs r ∧ Q r H) := by
 have old : Af H2 (DL (cl.map (·.2)) os H2) := Af.trk hcn
 refine OC (N := ps ++ fr) (fun vs H Q E h => h.1) hlk fun A outer s H vs Q E hr h => ?_
 obtain ⟨hl, hm, r, ho, hq⟩ := h
 have hmo := old.trans hm
 have L := M0 S C hfree hci cap hl hm
 have sOff : Af H2 (offC (cl.map (·.2)) H) := Af.untrk hm hcn
 obtain ⟨t, h1, h2⟩ := hbody A outer s E vs r (offC (cl.map (·.2)) H) (fun v H' => (∀ c ∈ cl.map (·.2), H' c = none) → Q v (onC (cl.map (·.2)) H H')) hr hl ho sOff fun _ => by rw [Oo]; exact hq
 exact ⟨hmo _ _ LN.lam, hmo _ _ LN.cod, _, L, t, h1, h2, fun e s' z => z.elim⟩
abbrev Cx.deep (X : Cx) (A : Around) : Cx := { X with A := A }
theorem Inv.deep {X : Cx} {pins : List (Addr × Obj)} {σ : St} {H : Hp} {s : Shared} {A : Around} (I : Inv X pins σ H s) (h1 : A.handled = X.A.handled) (h2 : A.frames = X.A.frames) : Inv (X.deep A) pins σ H s :=
 ⟨⟨I.ok.mod, I.ok.kind, I.ok.glob, I.ok.blt, I.ok.above, I.ok.inj, I.ok.has, I.ok.cab, fun z => by rw [show (X.deep A).A.handled = A.handled from rfl, h1]; exact I.ok.hd z, by rw [show (X.deep A).A.frames = A.frames from rfl, h2]; exact I.ok.frames, I.ok.stk, I.ok.exf, I.ok.bs, I.ok.bsz, I.ok.noex, I.ok.exfs, I.ok.funs, I.ok.frf⟩, I.os, I.bare, I.base, I.loc, I.cell, I.free, I.freeC, I.pin, I.hok, I.len⟩
theorem Inv.undeep {X : Cx} {pins : List (Addr × Obj)} {σ : St} {H : Hp} {s : Shared} {A : Around} (I : Inv (X.deep A) pins σ H s) (h1 : A.handled = X.A.handled) (h2 : A.frames = X.A.frames) : Inv X pins σ H s :=
 ⟨⟨I.ok.mod, I.ok.kind, I.ok.glob, I.ok.blt, I.ok.above, I.ok.inj, I.ok.has, I.ok.cab, fun z => by rw [← h1]; exact I.ok.hd z, by rw [← h2]; exact I.ok.frames, I.ok.stk, I.ok.exf, I.ok.bs, I.ok.bsz, I.ok.noex, I.ok.exfs, I.ok.funs, I.ok.frf⟩, I.os, I.bare, I.base, I.loc, I.cell, I.free, I.freeC, I.pin, I.hok, I.len⟩
theorem MX {X : Cx} {pins : List (Addr × Obj)} {σ : St} {H : Hp} {s : Shared} {A : Around} {k : Nat} {f : Addr} {fd : FuncData} {ps : List Str} {us : List Value} {vs : List V} {cl : List (Str × Addr)} {kk : Int} (hA1 : A.handled = X.A.handled) (hA2 : A.frames = X.A.frames) (hr : BZ k A) (hb : C5 X.K fd ps []) (hfn : ∀ y, X.fn y = true) (I : Inv X pins σ H s) (r : AA vs us) (C : HZ X.env cl)
 (h : ∀ os, (∀ c ∈ cl.map (·.2), H c = none) → Lc X.N σ X.env.scope cl os → ∃ sp, AH X.prog X.w X.K X.mg X.base CX0 k f fd ps sp ∧ ∀ Q : VK, Q (.int kk) (DL (cl.map (·.2)) os H) → sp vs (DL (cl.map (·.2)) os H) Q (fun _ _ _ => False)) :
 wpAny (model X.prog X.w) A (call (.ref f) us) (fun u s' => (∃ t, u = .int kk t) ∧ Inv X pins σ H s') (fun _ _ => False) s := by
 have F : AH X.prog X.w X.K X.mg X.base CX0 k f fd ps (fun vs H Q E => ∃ sp, AH X.prog X.w X.K X.mg X.base CX0 k f fd ps sp ∧ sp vs H Q E) :=
  ⟨fun vs H Q E ⟨sp, F, h⟩ => F.len vs H Q E h, fun A outer s H args us vs Q E hr he hb hv ⟨sp, F, h⟩ => F.run A outer s H args us vs Q E hr he hb hv h⟩
 have J : Inv ((X.nox).deep A) pins σ H s := (I.wish _).deep hA1 hA2
 refine wpAny_mono (MY (X := (X.nox).deep A) (CX := CX0) (E := fun _ _ _ => False) (Q := fun v H' => v = .int kk ∧ H' = H) F hr hb hfn (fun e H' s' _ z => z.elim) J r C fun os hn hi => ?_) (fun u s' ⟨v, H', I', rv, ev, eH⟩ => ?_) fun _ _ z => z
 ·obtain ⟨sp, F1, q⟩ := h os hn hi
  exact ⟨sp, F1, q _ ⟨fun c hc => Jh hc, rfl, Nd hn⟩⟩
 ·subst ev
  subst eH
  obtain ⟨t, rfl⟩ := rv
  exact ⟨⟨t, rfl⟩, (I'.undeep hA1 hA2).unwish⟩
theorem DF {M : Model} {A : Around} {E : Value → Shared → Prop} {s : Shared} {pos : Pos} {id : String} {first : List Value} {args : List (Bool × Sem Value)} {keywords : List (Option Str × Sem Value)} {Q : Value → Shared → Prop} (hplain : (args.any (·.1) || keywords.any (·.1.isNone)) = false)
 (h : wpAny M A (evalArgs (.builtin id) true args keywords) (fun a s₁ => wpAny M A (call (.builtin id) (first ++ a.pos) a.kw) Q E s₁) E s) :
 wpAny M A (callWith pos (.builtin id) first args keywords) Q E s := by
 unfold callWith
 refine wpAny_bind (wpAny_holding (wpAny_mono h (fun a s₁ h₁ => wpAny_bind (wpAny_standAt ?_)) fun _ _ x => x))
 simp only [hplain]
 refine wpAny_bind (wpAny_pure ?_)
 exact wpAny_bind (wpAny_mono h₁ (fun r s₂ hr => wpAny_bind (wpAny_holding (wpAny_point (wpAny_pure hr)))) fun _ _ x => x)
def OY (env : Env) (N : List Str) (P : Program) (w : World) (K : RU) (mg : Str → Option Value) (base : Heap) (k : Nat) (te tk : TE) : TE := fun σ H Q => te σ H fun x H1 => ∃ l, x = .ref l ∧ tk σ H1 fun y H2 => ∃ (f : Addr) (fd : FuncData) (ps : List Str) (cl : List (Str × Addr)) (xs : List V) (kz : List Int), y = .ref f ∧ SqL K H2 l xs ∧ kz.length = xs.length ∧ xs.length < 64 ∧ C5 K fd ps [] ∧ HZ env cl ∧
 (∀ os, (∀ c ∈ cl.map (·.2), H2 c = none) → Lc N σ env.scope cl os → ∃ sp, AH P w K mg base CX0 k f fd ps sp ∧ ∀ (i : Nat) (x : V) (kk : Int), xs[i]? = some x → kz[i]? = some kk → ∀ Q' : VK, Q' (.int kk) (DL (cl.map (·.2)) os H2) → sp [x] (DL (cl.map (·.2)) os H2) Q' (fun _ _ _ => False)) ∧
 ∀ (p : Addr) (ys : List V), H2 p = none → (∃ zs : List (Int × V), zs.Perm (kz.zip xs) ∧ ys = zs.map Prod.snd ∧ zs.Pairwise fun p q => p.1 ≤ q.1) → Q (.ref p) (upd H2 p (.lst ys))
theorem LH (K : RU) {X : Cx} {e kx : Expr} {te tk : TE} {k m : Nat} {p pos kp : Pos} (hr : BZ m X.A) (hfn : ∀ y, X.fn y = true) (hg : Gl X "sorted") (hm : X.mg "sorted" = none) (he : PE X e te) (hk : PE X kx tk) (hkm : k + 2 ≤ m := by decide) (hs : starEach [e] X.env = [(false, eval e X.env)] := by rfl) (e0 : X.K = K := by rfl) :
 PE X (.Call (.Name "sorted" p) [e] [⟨some "key", kx, kp⟩] pos) (OY X.env X.N X.prog X.w K X.mg X.base k te tk) := by
 subst e0
 intro pins s σ H Q I h
 refine wpAny_Call_Name_kw (CZ I hg hm (show bootBuiltins "sorted" = some (.builtin "sorted") by with_unfolding_all rfl) ?_ (by decide) (by decide))
 rw [hs]
 show wpAny _ _ (callWith pos (.builtin "sorted") [] [(false, eval e X.env)] [(some "key", do let v ← eval kx X.env; standAt pos; pure v)]) _ _ s
 refine DF rfl (evalArgs_kw rfl ?_)
 refine Calls.spliced_cons (thn (he pins s σ H _ I h) fun u s1 ⟨x, H1, I1, r1, q1⟩ => Calls.spliced_nil ?_)
 obtain ⟨l, rfl, q1⟩ := q1
 cases r1
 show wpAny _ _ (evalAll [do let v ← eval kx X.env; standAt pos; pure v]) _ _ s1
 refine wpAny_evalAll_cons (wpAny_bind (thn (hk pins s1 σ H1 _ I1 q1) fun u s2 ⟨y, H2, I2, r2, q2⟩ => wpAny_bind (wpAny_standAt (wpAny_pure (wpAny_evalAll_nil ?_)))))
 obtain ⟨f, fd, ps, cl, xs, kz, rfl, hl, hlen, h64, hb, C, hF, q⟩ := q2
 cases r2
 show wpAny _ _ (call (.builtin "sorted") [.ref l] [(Str.ofString "key", .ref f)]) _ _ s2
 exact Jk I2 hl hlen h64 (fun i x kk v hx hkk rv pins' s' I' => MX rfl rfl (hr.mono hkm).in1.in1 hb hfn I' (.cons rv .nil) C fun os hn hi => let ⟨sp, F, qq⟩ := hF os hn hi; ⟨sp, F, fun Q' hq => qq i x kk hx hkk Q' hq⟩) q
end L2
namespace L2
open PySem PySem.Spec PyProof.Rows
abbrev DS (h : Heap) (z TI TO a : Addr) (f : Bool) : Prop :=
 h.get? z = some { cls := .type "zip", dict := none, data := .fields #[rawInt a, .bool f, .bool false, .ref TI, .ref TO], slots := #[] }
section
variable {prog : Program} {w : World} {A : Around} {E : Value → Shared → Prop} {s : Shared}
theorem MI {a : Addr} {o : Obj} {Q : Option Obj → Shared → Prop} (ho : s.heap.get? a = some o) (h : Q (some o) s) : wpAny (model prog w) A (loadIfAlive a) Q E s := by
 have h' : Q (s.heap.get? a) s := by rw [ho]; exact h
 exact fun _ _ _ => h'
theorem Ld {z TI TO a : Addr} {f : Bool} {oa : Obj} {Q : Bool → Shared → Prop} (hz : DS s.heap z TI TO a f) (ha : s.heap.get? a = some oa)
 (hQ : ∀ h', DS h' z TI TO a true → Heap.SameBut z s.heap h' → Q false { s with heap := h' }) : wpAny (model prog w) A (Builtin.SmallTypes.ownedTupleIsFree (.ref z)) Q E s := by
 unfold Builtin.SmallTypes.ownedTupleIsFree
 refine wpAny_bind (wpAny_field hz rfl (x := rawInt a) rfl ?_)
 show wpAny _ _ (loadIfAlive ((a : Int).toNat) >>= _) _ _ _
 rw [Sy]
 refine wpAny_bind (MI ha ?_)
 simp only [Option.isNone_some, Bool.false_eq_true, if_false]
 refine wpAny_bind (wpAny_field hz rfl (x := .bool f) rfl ?_)
 cases f with
 | true =>
   rw [if_neg (show ¬ ((Value.bool true != Value.bool true) = true) from Bool.false_ne_true)]
   exact wpAny_pure (hQ _ hz (Heap.SameBut.refl _ _))
 | false =>
   rw [if_pos (show (Value.bool false != Value.bool true) = true from rfl)]
   refine wpAny_bind (wpAny_setField_rec hz (by simp) fun h₃ he₃ hs₃ => ?_)
   exact wpAny_pure (hQ h₃ he₃ hs₃)
theorem GP {z TI TO a i1 i2 l1 l2 : Addr} {f : Bool} {oa : Obj} {k1 k2 : Nat} {xs ys : Array Value} {x y : Value} {Q : Value → Shared → Prop} (D : ZipApart z TI TO i1 i2 l1 l2)
 (hz : DS s.heap z TI TO a f) (ha : s.heap.get? a = some oa) (hTI : IsPair s.heap TI (.ref i1) (.ref i2))
 (h1 : s.heap.IsListIter i1 l1 k1) (h2 : s.heap.IsListIter i2 l2 k2) (hl1 : s.heap.IsList l1 xs) (hl2 : s.heap.IsList l2 ys) (hx : xs[k1]? = some x) (hy : ys[k2]? = some y)
 (hQ : ∀ h', DS h' z TI TO a true → h'.IsListIter i1 l1 (k1 + 1) → h'.IsListIter i2 l2 (k2 + 1) → IsPair h' s.heap.objs.size x y → h'.objs.size = s.heap.objs.size + 1 →
  (∀ c o, c ≠ z → c ≠ i1 → c ≠ i2 → s.heap.get? c = some o → h'.get? c = some o) → Q (.ref s.heap.objs.size) { s with heap := h' }) :
 wpAny (model prog w) A (Builtin.«zip.__next__» ⟨[.ref z], []⟩) (fun fin s' => ∃ v, fin = .done (.ret v) ∧ Q v s') E s := by
 show wpAny _ _ (field (.ref z) 2 >>= _) _ _ _
 refine wpAny_bind (wpAny_field hz rfl (x := .bool false) rfl ?_)
 show wpAny _ _ (field (.ref z) 3 >>= _) _ _ _
 refine wpAny_bind (wpAny_field hz rfl (x := .ref TI) rfl ?_)
 refine wpAny_bind (wpAny_seqItems hTI rfl ?_)
 show wpAny _ _ (Builtin.SmallTypes.ownedTupleIsFree (.ref z) >>= _) _ _ _
 refine wpAny_bind (Ld hz ha fun h₁ hz₁ hs₁ => ?_)
 simp only [Bool.false_eq_true, if_false]
 refine wpAny_bind ?_
 simp only [← U6, Tj, List.forIn_nil]
 refine wpAny_bind (wpAny_bind (wpAny_holding ?_))
 show wpAny _ _ (Builtin.SmallTypes.nextOf (.ref i1) >>= _) _ _ _
 refine wpAny_bind (wpAny_nextOf_list_item (h1.extBut hs₁.extBut D.i1z) (hl1.extBut hs₁.extBut D.l1z) hx fun h₂ h1₂ hs₂ => wpAny_pure ?_)
 refine wpAny_pure ?_
 refine wpAny_bind (wpAny_bind (wpAny_holding ?_))
 show wpAny _ _ (Builtin.SmallTypes.nextOf (.ref i2) >>= _) _ _ _
 refine wpAny_bind (wpAny_nextOf_list_item ((h2.extBut hs₁.extBut D.i2z).extBut hs₂.extBut D.i12.symm)
  ((hl2.extBut hs₁.extBut D.l2z).extBut hs₂.extBut D.l2i1) hy fun h₃ h2₃ hs₃ => wpAny_pure ?_)
 refine wpAny_pure (wpAny_pure ?_)
 show wpAny _ _ (newTuple [x, y] >>= _) _ _ _
 refine wpAny_bind (wpAny_newTuple ?_)
 have hsz : h₃.objs.size = s.heap.objs.size := by rw [hs₃.1, hs₂.1, hs₁.1]
 have hz₃ : DS h₃ z TI TO a true := hs₃.extBut _ _ D.i2z.symm (hs₂.extBut _ _ D.i1z.symm hz₁)
 have hk₃ : ∀ c o, c ≠ z → c ≠ i1 → c ≠ i2 → s.heap.get? c = some o → h₃.get? c = some o := fun c o c1 c3 c4 e => hs₃.extBut _ _ c4 (hs₂.extBut _ _ c3 (hs₁.extBut _ _ c1 e))
 have h1₃ : h₃.IsListIter i1 l1 (k1 + 1) := h1₂.extBut hs₃.extBut D.i12
 refine wpAny_pure ⟨_, rfl, ?_⟩
 show Q (.ref h₃.objs.size) _
 have hT : IsPair (h₃.push { cls := .type "tuple", data := .seq #[x, y] }) h₃.objs.size x y := Heap.get?_push_size _ rfl
 rw [hsz] at hT ⊢
 exact hQ _ (Heap.get?_push_of_some _ hz₃) (h1₃.at fun o e => Heap.get?_push_of_some _ e) (h2₃.at fun o e => Heap.get?_push_of_some _ e) hT (by rw [Heap.size_push, hsz]) fun c o c1 c2 c3 e => Heap.get?_push_of_some _ (hk₃ c o c1 c2 c3 e)
theorem Ib {z TI TO a i1 i2 l1 l2 : Addr} {f : Bool} {oa : Obj} {k1 : Nat} {xs : Array Value} {Q : Fin → Shared → Prop} (hh : A.handled = none) (D : ZipApart z TI TO i1 i2 l1 l2)
 (hz : DS s.heap z TI TO a f) (ha : s.heap.get? a = some oa) (hTI : IsPair s.heap TI (.ref i1) (.ref i2))
 (h1 : s.heap.IsListIter i1 l1 k1) (hl1 : s.heap.IsList l1 xs) (hx : xs[k1]? = none)
 (hE : ∀ h' e, (∀ c o, c ≠ z → c ≠ i1 → s.heap.get? c = some o → h'.get? c = some o) → (∃ o, h'.get? e = some o ∧ o.cls = .type "StopIteration") → E (.ref e) { s with heap := h' }) :
 wpAny (model prog w) A (Builtin.«zip.__next__» ⟨[.ref z], []⟩) Q E s := by
 show wpAny _ _ (field (.ref z) 2 >>= _) _ _ _
 refine wpAny_bind (wpAny_field hz rfl (x := .bool false) rfl ?_)
 show wpAny _ _ (field (.ref z) 3 >>= _) _ _ _
 refine wpAny_bind (wpAny_field hz rfl (x := .ref TI) rfl ?_)
 refine wpAny_bind (wpAny_seqItems hTI rfl ?_)
 show wpAny _ _ (Builtin.SmallTypes.ownedTupleIsFree (.ref z) >>= _) _ _ _
 refine wpAny_bind (Ld hz ha fun h₁ hz₁ hs₁ => ?_)
 simp only [Bool.false_eq_true, if_false]
 refine wpAny_bind ?_
 simp only [← U6, Tj, List.forIn_nil]
 refine wpAny_bind (wpAny_bind (wpAny_holding ?_))
 show wpAny _ _ (Builtin.SmallTypes.nextOf (.ref i1) >>= _) _ _ _
 refine wpAny_bind (wpAny_nextOf_list_end hh (h1.extBut hs₁.extBut D.i1z) (hl1.extBut hs₁.extBut D.l1z) hx fun h₂ e hs₂ he => ?_)
 exact hE h₂ e (fun c o c1 c3 x => hs₂ _ _ c3 (hs₁.extBut _ _ c1 x)) he
def ZSt (h : Heap) (z TI TO S : Addr) : Prop := (IsZip h z TI TO .none ∧ ∃ a b, IsPair h TO a b) ∨ ∃ a f oa, DS h z TI TO a f ∧ h.get? a = some oa ∧ S < a
theorem NU {z TI TO S i1 i2 l1 l2 : Addr} {k1 k2 : Nat} {xs ys : Array Value} {x y : Value} {Q : Option Value → Shared → Prop} (D : ZipApart z TI TO i1 i2 l1 l2)
 (hz : ZSt s.heap z TI TO S) (hS : S < s.heap.objs.size) (hlt : z < S ∧ TO < S ∧ i1 < S ∧ i2 < S) (hTI : IsPair s.heap TI (.ref i1) (.ref i2))
 (h1 : s.heap.IsListIter i1 l1 k1) (h2 : s.heap.IsListIter i2 l2 k2) (hl1 : s.heap.IsList l1 xs) (hl2 : s.heap.IsList l2 ys) (hx : xs[k1]? = some x) (hy : ys[k2]? = some y)
 (hQ : ∀ h', ZSt h' z TI TO S → h'.IsListIter i1 l1 (k1 + 1) → h'.IsListIter i2 l2 (k2 + 1) → IsPair h' s.heap.objs.size x y → h'.objs.size = s.heap.objs.size + 1 →
  (∀ c o, c ≠ z → c ≠ TO → c ≠ i1 → c ≠ i2 → s.heap.get? c = some o → h'.get? c = some o) → Q (some (.ref s.heap.objs.size)) { s with heap := h' }) :
 wpAny (model prog w) A (pyNext (.ref z)) Q E s := by
 rcases hz with ⟨hz, a, b, hTO⟩ | ⟨a, f, oa, hz, ha, hSa⟩
 ·refine wpAny_pyNext_zip_item D hz hTI hTO h1 h2 hl1 hl2 hx hy fun h' a1 a2 a3 a4 a5 a6 a7 => ?_
  exact hQ h' (.inr ⟨_, false, _, a1, a5, hS⟩) a3 a4 a5 a6 a7
 ·have hT : s.TypeIs (.ref z) "zip" := ⟨_, hz, rfl⟩
  unfold pyNext
  exact wpAny_bind (wpAny_attempt (wpAny_callSpecial?_slot (name := Str.ofString "__next__") hT F.slot_zip_next
   (wpAny_call_entry F.slot_zip_next hT F.entry_zip_next
    (GP D hz ha hTI h1 h2 hl1 hl2 hx hy fun h' a1 a3 a4 a5 a6 a7 => wpAny_pure (hQ h' (.inr ⟨a, true, oa, a1, a7 a oa (S7 (SR hlt.1 hSa)) (S7 (SR hlt.2.2.1 hSa)) (S7 (SR hlt.2.2.2 hSa)) ha, hSa⟩) a3 a4 a5 a6 fun c o c1 _ c3 c4 e => a7 c o c1 c3 c4 e)) (F.args_zip_next_1 _))))
theorem NV {z TI TO S i1 i2 l1 l2 : Addr} {k1 k2 : Nat} {xs ys : Array Value} {Q : Option Value → Shared → Prop} (hh : A.handled = none) (D : ZipApart z TI TO i1 i2 l1 l2)
 (hz : ZSt s.heap z TI TO S) (hTI : IsPair s.heap TI (.ref i1) (.ref i2))
 (h1 : s.heap.IsListIter i1 l1 k1) (h2 : s.heap.IsListIter i2 l2 k2) (hl1 : s.heap.IsList l1 xs) (hl2 : s.heap.IsList l2 ys) (hx : xs[k1]? = none)
 (hQ : ∀ h', (∀ c o, c ≠ z → c ≠ TO → c ≠ i1 → c ≠ i2 → s.heap.get? c = some o → h'.get? c = some o) → Q none { s with heap := h' }) : wpAny (model prog w) A (pyNext (.ref z)) Q E s := by
 rcases hz with ⟨hz, a, b, hTO⟩ | ⟨a, f, oa, hz, ha, hSa⟩
 ·exact wpAny_pyNext_zip_end hh D hz hTI hTO h1 h2 hl1 hl2 (.inl hx) hQ
 ·have hT : s.TypeIs (.ref z) "zip" := ⟨_, hz, rfl⟩
  unfold pyNext
  refine wpAny_bind (wpAny_attempt (wpAny_callSpecial?_slot (name := Str.ofString "__next__") hT F.slot_zip_next
   (wpAny_call_entry F.slot_zip_next hT F.entry_zip_next (Ib hh D hz ha hTI h1 hl1 hx fun h' e hk he => ?_) (F.args_zip_next_1 _))))
  obtain ⟨o, ho, hc⟩ := he
  refine wpAny_bind (wpAny_isInstance (T := "StopIteration") (b := true) ⟨o, ho, hc⟩ isSubtype_stop ?_)
  exact wpAny_pure (hQ _ fun c o c1 _ c3 _ e => hk c o c1 c3 e)
theorem ZSt.keep {h h' : Heap} {z TI TO S : Addr} (x : ZSt h z TI TO S) (hk : ∀ b o, b ≠ S → h.get? b = some o → h'.get? b = some o) (h1 : z ≠ S) (h2 : TO ≠ S) : ZSt h' z TI TO S := by
 rcases x with ⟨hz, a, b, hTO⟩ | ⟨a, f, oa, hz, ha, hSa⟩
 ·exact .inl ⟨hk _ _ h1 hz, a, b, hk _ _ h2 hTO⟩
 ·exact .inr ⟨a, f, oa, hk _ _ h1 hz, hk _ _ (S7 hSa) ha, hSa⟩
structure ZG (xs ys : Array Value) (S : Addr) (h : Heap) (as : List Addr) : Prop where
 rise : as.Pairwise (· < ·)
 above : ∀ a ∈ as, S < a
 pairs : ∀ (j : Nat) (a : Addr), as[j]? = some a → ∃ x y, xs[j]? = some x ∧ ys[j]? = some y ∧ IsPair h a x y
theorem ZG.there {xs ys : Array Value} {S : Addr} {h : Heap} {as : List Addr} (g : ZG xs ys S h as) {a : Addr} (ha : a ∈ as) : a < h.objs.size := by
 obtain ⟨j, hj⟩ := List.mem_iff_getElem?.mp ha
 obtain ⟨_, _, _, _, e⟩ := g.pairs j a hj
 exact Heap.lt_size e
end
section
variable {prog : Program} {w : World} {A : Around} {s : Shared} {R : Result → Shared → Prop} {xs ys : Array Value} {S z TI TO i1 i2 l1 l2 lo : Addr}
structure Mz (z TI TO i1 i2 l1 l2 lo S : Addr) : Prop where
 ap : ZipApart z TI TO i1 i2 l1 l2
 z1 : lo ≤ z
 TO1 : lo ≤ TO
 i11 : lo ≤ i1
 i21 : lo ≤ i2
 z2 : z < S
 TI2 : TI < S
 TO2 : TO < S
 i12 : i1 < S
 i22 : i2 < S
 l1 : l1 < S
 l2 : l2 < S
 lS : lo ≤ S
theorem NT (hh : A.handled = none) (D : Mz z TI TO i1 i2 l1 l2 lo S) (hxy : xs.size = ys.size) (hn : xs.size ≤ sizeLine) (res : Value) {h₁ : Heap}
 (hR : ∀ h' tk acc c as, (∀ b o, b < lo → h₁.get? b = some o → h'.get? b = some o) → h'.get? S = some { cls := .type "list", dict := none, data := .seq acc c, slots := #[] } → as.length = xs.size → ZG xs ys S h' as →
  acc.toList = as.map Value.ref → R (.ok (.ret res)) { s with heap := h', toks := tk }) :
 ∀ (k i : Nat) (h : Heap) (tk c : Nat) (acc : Array Value) (as : List Addr), xs.size - i = k → i ≤ xs.size → ZSt h z TI TO S → IsPair h TI (.ref i1) (.ref i2) → h.IsListIter i1 l1 i → h.IsListIter i2 l2 i → h.IsList l1 xs → h.IsList l2 ys → (∀ b o, b < lo → h₁.get? b = some o → h.get? b = some o) →
   h.get? S = some { cls := .type "list", dict := none, data := .seq acc c, slots := #[] } → acc.toList = as.map Value.ref → as.length = i → ZG xs ys S h as → S < h.objs.size →
   codeAny (model prog w) A (.builtin "list.extend.loop" ⟨[.ref S, .ref z, res], []⟩) R { s with heap := h, toks := tk } := by
 have below : ∀ b, b < lo → b ≠ z ∧ b ≠ TO ∧ b ≠ i1 ∧ b ≠ i2 ∧ b ≠ S := fun b hb => ⟨RP (RN hb D.z1), RP (RN hb D.TO1), RP (RN hb D.i11), RP (RN hb D.i21), RP (RN hb D.lS)⟩
 have past : ∀ b, S < b → b ≠ z ∧ b ≠ TO ∧ b ≠ i1 ∧ b ≠ i2 := fun b hb => ⟨S7 (SR D.z2 hb), S7 (SR D.TO2 hb), S7 (SR D.i12 hb), S7 (SR D.i22 hb)⟩
 have apart := D.ap
 intro k
 induction k with
 | zero =>
   intro i h tk c acc as hk hi hst hTI h1 h2 hl1 hl2 hkeep hS hacc hal hG hSs
   refine codeAny_builtin PySem.F.entry_extend_loop ?_
   rw [Around.under_plainId PySem.F.plain_extend_loop _]
   show wpAny _ A.in1 (pyNext (.ref z) >>= _) _ _ _
   refine wpAny_bind (NV (s := { s with heap := h, toks := tk }) (A := A.in1) hh apart hst hTI h1 h2 hl1 hl2 (U0 (by lia)) fun h' he => ?_)
   refine wpAny_pure (hR h' tk acc c as (fun b o hb e => he b o (below b hb).1 (below b hb).2.1 (below b hb).2.2.1 (below b hb).2.2.2.1 (hkeep b o hb e)) (he S _ (S7 D.z2) (S7 D.TO2) (S7 D.i12) (S7 D.i22) hS) (by lia) ⟨hG.rise, hG.above, fun j a hj => ?_⟩ hacc)
   obtain ⟨x, y, e1, e2, e3⟩ := hG.pairs j a hj
   have p := past a (hG.above a (Sr hj))
   exact ⟨x, y, e1, e2, he a _ p.1 p.2.1 p.2.2.1 p.2.2.2 e3⟩
 | succ k ih =>
   intro i h tk c acc as hk hi hst hTI h1 h2 hl1 hl2 hkeep hS hacc hal hG hSs
   have hlt : i < xs.size := by lia
   have hx : xs[i]? = some xs[i] := U7 hlt
   have hy : ys[i]? = some (ys[i]'(by lia)) := U7 (by lia)
   generalize xs[i] = x at hx
   generalize ys[i]'(by lia) = y at hy
   have hsz : acc.size = i := by rw [← S6, hacc, Su, hal]
   refine codeAny_builtin PySem.F.entry_extend_loop ?_
   rw [Around.under_plainId PySem.F.plain_extend_loop _]
   show wpAny _ A.in1 (pyNext (.ref z) >>= _) _ _ _
   refine wpAny_bind (NU (s := { s with heap := h, toks := tk }) (S := S) apart hst hSs ⟨D.z2, D.TO2, D.i12, D.i22⟩ hTI h1 h2 hl1 hl2 hx hy fun h' hst' h1' h2' ht hz hkp => ?_)
   dsimp only at ht hz hkp ⊢
   have hS' := hkp S _ (S7 D.z2) (S7 D.TO2) (S7 D.i12) (S7 D.i22) hS
   have up : ∀ b o, b ≠ S → h'.get? b = some o → (h'.update S (Obj.mapSeq (·.push (Value.ref h.objs.size)))).get? b = some o := fun b o hb e => (Heap.get?_update_other _ _ (Ne.symm hb)).trans e
   show wpAny _ A.in1 (updateSeq S (·.push (Value.ref h.objs.size)) >>= _) _ _ _
   refine wpAny_bind ?_
   refine wpAny_updateSeq hS' rfl (wpAny_pure ⟨plainId_quiet PySem.F.plain_extend_loop _, ih (i + 1) _ tk _ (acc.push (Value.ref h.objs.size)) (as ++ [h.objs.size]) (by lia) hlt (hst'.keep up (RP D.z2) (RP D.TO2))
    (up _ _ (RP D.TI2) (hkp _ _ apart.TIz apart.TITO apart.TIi1 apart.TIi2 hTI)) (h1'.at fun o e => up _ o (RP D.i12) e) (h2'.at fun o e => up _ o (RP D.i22) e)
    (hl1.at fun o e => up _ o (RP D.l1) (hkp _ o apart.l1z apart.l1TO apart.l1i1 apart.l1i2 e)) (hl2.at fun o e => up _ o (RP D.l2) (hkp _ o apart.l2z apart.l2TO apart.l2i1 apart.l2i2 e))
    (fun b o hb e => up b o (below b hb).2.2.2.2 (hkp b o (below b hb).1 (below b hb).2.1 (below b hb).2.2.1 (below b hb).2.2.2.1 (hkeep b o hb e))) (Heap.get?_update_self _ hS' rfl) (by rw [Array.toList_push, hacc, Tg]; rfl) (by rw [Ss, hal]; rfl) ⟨?_, ?_, ?_⟩ ?_⟩) (by rw [hsz]; lia) (by show (acc.push (Value.ref h.objs.size)).size ≤ sizeLine + 1; rw [Uc, hsz]; lia)
   ·refine Ux.mpr ⟨hG.rise, Uy _ _, fun a ha b hb => ?_⟩
    rw [Tw.mp hb]
    exact hG.there ha
   ·intro a ha
    rcases S2.mp ha with ha | ha
    ·exact hG.above a ha
    ·rw [Tw.mp ha]; exact hSs
   ·intro j b hj
    rcases Nat.lt_trichotomy j as.length with q1 | q1 | q1
    ·rw [Sm q1] at hj
     obtain ⟨x', y', e1, e2, e3⟩ := hG.pairs j b hj
     have hb := hG.above b (Sr hj)
     have p := past b hb
     exact ⟨x', y', e1, e2, up b _ (S7 hb) (hkp b _ p.1 p.2.1 p.2.2.1 p.2.2.2 e3)⟩
    ·subst q1
     have hb : h.objs.size = b := by simpa using hj
     subst hb
     exact ⟨x, y, by rw [hal]; exact hx, by rw [hal]; exact hy, up _ _ (S7 hSs) ht⟩
    ·have hnone : (as ++ [h.objs.size])[j]? = none := TM (by rw [Ss, SK]; lia)
     rw [hnone] at hj; cases hj
   ·have e : (h'.update S (Obj.mapSeq (·.push (Value.ref h.objs.size)))).get? h.objs.size = _ := up _ _ (S7 hSs) ht
    exact SR hSs (Heap.lt_size e)
theorem Je : typeLookup (.type "zip") "__len__" = pure none := by rw [typeLookup_type, builtinLookup_eq_fast]; kernel_rfl
theorem Ia : typeLookup (.type "zip") "__length_hint__" = pure none := by rw [typeLookup_type, builtinLookup_eq_fast]; kernel_rfl
structure ZGo (h : Heap) (xs ys : Array Value) (z TI TO i1 i2 l1 l2 : Addr) : Prop where
 zip : IsZip h z TI TO .none
 own : ∃ a b, IsPair h TO a b
 its : IsPair h TI (.ref i1) (.ref i2)
 it1 : h.IsListIter i1 l1 0
 it2 : h.IsListIter i2 l2 0
 ls1 : h.IsList l1 xs
 ls2 : h.IsList l2 ys
theorem ZGo.keep {h h' : Heap} (g : ZGo h xs ys z TI TO i1 i2 l1 l2) (D : Mz z TI TO i1 i2 l1 l2 lo S) (hk : ∀ b o, b ≠ S → h.get? b = some o → h'.get? b = some o) : ZGo h' xs ys z TI TO i1 i2 l1 l2 :=
 ⟨hk _ _ (RP D.z2) g.zip, let ⟨a, b, e⟩ := g.own; ⟨a, b, hk _ _ (RP D.TO2) e⟩, hk _ _ (RP D.TI2) g.its, g.it1.at fun o e => hk _ o (RP D.i12) e, g.it2.at fun o e => hk _ o (RP D.i22) e, g.ls1.at fun o e => hk _ o (RP D.l1) e, g.ls2.at fun o e => hk _ o (RP D.l2) e⟩
theorem Le (hh : A.handled = none) (D : Mz z TI TO i1 i2 l1 l2 lo S) (g : ZGo s.heap xs ys z TI TO i1 i2 l1 l2) (hxy : xs.size = ys.size) (hn : xs.size ≤ sizeLine) (res : Value) (c₀ : Nat) (hS : s.heap.get? S = some { cls := .type "list", data := .seq #[] c₀ })
 (hR : ∀ h' tk acc c as, (∀ b o, b < lo → s.heap.get? b = some o → h'.get? b = some o) → h'.get? S = some { cls := .type "list", dict := none, data := .seq acc c, slots := #[] } → as.length = xs.size → ZG xs ys S h' as →
  acc.toList = as.map Value.ref → R (.ok (.ret res)) { s with heap := h', toks := tk }) :
 wpAny (model prog w) A.in1 (Builtin.List.listExtendWith (.ref S) (.ref z) res)
  (fun fin s' => match fin with | .done f => R (.ok f) s' | .again c' => c'.quiet = true ∧ codeAny (model prog w) A c' R s') (fun e s' => R (.error e) s') s := by
 have hT : s.TypeIs (.ref z) "zip" := ⟨_, g.zip, rfl⟩
 have hSz : S ≠ z := S7 D.z2
 unfold Builtin.List.listExtendWith
 refine wpAny_bind (wpAny_typeOf hT ?_)
 have h1 : Builtin.List.listSameRef (.ref S) (.ref z) = false := by simp [Builtin.List.listSameRef, hSz]
 have h2 : (Value.type "zip" == Value.type "list") = false := by decide
 have h3 : (Value.type "zip" == Value.type "tuple") = false := by decide
 simp only [h1, h2, h3, Bool.or_false, Bool.false_eq_true, if_false]
 refine wpAny_bind (wpAny_pyIter_zip g.zip ?_)
 refine wpAny_bind (wpAny_holding ?_)
 unfold Builtin.List.listLengthHint
 refine wpAny_bind (wpAny_specialOf hT Je ?_)
 show wpAny _ A.in1 (specialOf (Value.ref z) (Str.ofString "__length_hint__") >>= _) _ _ _
 refine wpAny_bind (wpAny_specialOf hT Ia ?_)
 refine wpAny_pure ?_
 show wpAny _ A.in1 (rule "list.extend.makes-room" >>= fun _ => Builtin.List.listTouch (.ref S) >>= fun _ =>
  again (.builtin "list.extend.loop" ⟨[.ref S, .ref z, res], []⟩)) _ _ _
 refine wpAny_bind (wpAny_rule ?_)
 refine wpAny_bind ?_
 show wpAny _ A.in1 (updateSeq S (·.push .none) >>= fun _ => updateSeq S (·.pop)) _ _ _
 refine wpAny_bind (wpAny_updateSeq hS rfl ?_)
 have hS₂ := Heap.get?_update_self (Obj.mapSeq (·.push Value.none)) hS rfl
 refine wpAny_updateSeq (hz := by seq_fits) hS₂ rfl ?_
 have hS₃ := Heap.get?_update_self (Obj.mapSeq (·.pop)) hS₂ rfl
 have oth : ∀ b o, b ≠ S → s.heap.get? b = some o → ((s.heap.update S (Obj.mapSeq (·.push Value.none))).update S (Obj.mapSeq (·.pop))).get? b = some o :=
  fun b o hb e => (Heap.get?_update_other _ _ (Ne.symm hb)).trans ((Heap.get?_update_other _ _ (Ne.symm hb)).trans e)
 have g' := g.keep D oth
 have below : ∀ b, b < lo → b ≠ S := fun b hb => RP (RN hb D.lS)
 refine wpAny_pure ⟨plainId_quiet F.plain_extend_loop _, NT (s := s) hh D hxy hn res (h₁ := (s.heap.update S (Obj.mapSeq (·.push Value.none))).update S (Obj.mapSeq (·.pop))) (fun h' tk acc c as hk hS' hal hG hacc => hR h' tk acc c as (fun b o hb e => hk b o hb (oth b o (below b hb) e)) hS' hal hG hacc) xs.size 0 _ s.toks _ _ [] rfl (Sb _)
  (.inl ⟨g'.zip, g'.own⟩) g'.its g'.it1 g'.it2 g'.ls1 g'.ls2 (fun b o _ e => e) hS₃ rfl rfl ⟨.nil, (fun _ h => nomatch h), fun j a e => by simp at e⟩ (Heap.lt_size hS₃)⟩
end
end L2
namespace L2
open PySem PySem.Spec PyProof.Rows
section
variable {prog : Program} {w : World} {A : Around} {E : Value → Shared → Prop} {s : Shared} {xs ys : Array Value} {z TI TO i1 i2 l1 l2 lo : Addr}
theorem Gp {Q : Value → Shared → Prop} (hh : A.handled = none) (D : Mz z TI TO i1 i2 l1 l2 lo s.heap.objs.size) (g : ZGo s.heap xs ys z TI TO i1 i2 l1 l2) (hxy : xs.size = ys.size) (hn : xs.size ≤ sizeLine)
 (hQ : ∀ h' tk acc c as, (∀ b o, b < lo → s.heap.get? b = some o → h'.get? b = some o) → h'.get? s.heap.objs.size = some { cls := .type "list", dict := none, data := .seq acc c, slots := #[] } → as.length = xs.size → ZG xs ys s.heap.objs.size h' as →
  acc.toList = as.map Value.ref → Q (.ref s.heap.objs.size) { s with heap := h', toks := tk }) :
 wpAny (model prog w) A (call (.type "list") [.ref z]) Q E s := by
 refine callType_codes (Q₁ := fun obj s₁ => obj = .ref s.heap.objs.size ∧ s₁ = { s with heap := s.heap.push { cls := .type "list", data := .seq #[] } }) F.called_list (F.typeCall_list_1 _) F.entry_list_init
  (code_list_new _ ⟨rfl, rfl⟩) fun obj s₁ h₁ => ?_
 obtain ⟨rfl, rfl⟩ := h₁
 have hS : (s.heap.push { cls := .type "list", data := .seq #[] }).get? s.heap.objs.size = some { cls := .type "list", data := .seq #[] } := Heap.get?_push_size _ rfl
 refine ⟨⟨_, hS, rfl⟩, F.args_list_init_2 _ _, ?_⟩
 show wpAny _ A.in1.in1 (do let old ← Builtin.List.listItems (.ref s.heap.objs.size); Builtin.List.listUpdate (.ref s.heap.objs.size) (fun _ => #[]); letGo old.toList.reverse; Builtin.List.listExtendWith (.ref s.heap.objs.size) (.ref z) .none) _ _ _
 refine wpAny_bind ?_
 unfold Builtin.List.listItems
 refine wpAny_bind (wpAny_seqItems hS rfl (wpAny_pure ?_))
 show wpAny _ A.in1.in1 (updateSeq s.heap.objs.size (fun _ => #[]) >>= fun _ => letGo (#[] : Array Value).toList.reverse >>= fun _ => Builtin.List.listExtendWith (.ref s.heap.objs.size) (.ref z) .none) _ _ _
 refine wpAny_bind (wpAny_updateSeq hS rfl ?_)
 have hS₂ := Heap.get?_update_self (Obj.mapSeq (fun _ => (#[] : Array Value))) hS rfl
 have oth : ∀ b o, b ≠ s.heap.objs.size → s.heap.get? b = some o → ((s.heap.push { cls := .type "list", data := .seq #[] }).update s.heap.objs.size (Obj.mapSeq (fun _ => (#[] : Array Value)))).get? b = some o :=
  fun b o hb e => (Heap.get?_update_other _ _ (Ne.symm hb)).trans (Heap.get?_push_of_some _ e)
 refine wpAny_bind (wpAny_letGo ?_)
 refine Le (A := A.in1) hh D (g.keep D oth) hxy hn .none _ hS₂ fun h' tk acc c as hk hS' hal hG hacc => ?_
 exact ⟨rfl, hQ h' tk acc c as (fun b o hb e => hk b o hb (oth b o (RP (RN hb D.lS)) e)) hS' hal hG hacc⟩
end
theorem DB {α β : Type} {F : α → β → Prop} : ∀ {l₁ : List α} {l₂ : List β}, l₁.length = l₂.length → (∀ (j : Nat) a b, l₁[j]? = some a → l₂[j]? = some b → F a b) → Paired F l₁ l₂
 | [], [], _, _ => .nil
 | a :: r, b :: t, hl, h => .cons (h 0 a b rfl rfl) (DB (Nat.succ.inj hl) fun j x y e1 e2 => h (j + 1) x y (by simpa using e1) (by simpa using e2))
section
variable {X : Cx}
theorem Inv.tracked {pins : List (Addr × Obj)} {σ : St} {H : Hp} {s : Shared} {a : Addr} {o : HO} (I : Inv X pins σ H s) (f : Dx X pins H a) (new : BX X.prog X.w (upd H a o) s.heap a o) : Inv X pins σ (upd H a o) s := by
 have ne : ∀ b u, H b = some u → b ≠ a := fun b u e z => by rw [z, f.1] at e; cases e
 have ho := HOk.track I.hok f.1 new
 obtain ⟨hp, gg, dd, tk, os⟩ := s
 refine I.step (H' := upd H a o) (h' := hp) (g' := gg) (t' := tk) (d' := dd) (ch := [a]) ?_ ?_ ?_ ?_ ?_ ?_ ?_ ?_ ?_ ho I.bare
 ·intro b hb
  have e : b = a := by simpa using hb
  subst e
  exact ⟨f.2.2.2.1, f.2.1, f.2.2.2.2.1, f.2.2.2.2.2⟩
 ·intro b u _ _ _ e _; exact e
 ·intro b u _ _ _ e _; exact ⟨u.slots, e⟩
 ·intro b u hb _ n
  rw [Am (fun z => hb (by simp [z]))]; exact n
 ·intro b u _ e; exact ⟨u, e⟩
 ·intro b us e
  rw [Am (ne b _ e)]; exact e
 ·intro b u v e
  rw [Am (ne b _ e)]; exact e
 ·intro b ps e
  exact ⟨#[], by rw [Am (ne b _ e), e]; simp⟩
 ·intro m hm; exact hm
abbrev Nz (H : Hp) (v : V) (p : V × V) : Prop := ∃ t, v = .ref t ∧ H t = some (.tup [p.1, p.2])
theorem Ku {pins : List (Addr × Obj)} {σ : St} {H0 : Hp} {s0 s : Shared} (I0 : Inv X pins σ H0 s0) : ∀ (as : List Addr) (ps : List (V × V)) (H : Hp), Inv X pins σ H s → (∀ a ∈ as, s0.heap.objs.size ≤ a ∧ H a = none) → as.Nodup →
 Paired (fun a (p : V × V) => ∃ u v, AI p.1 u ∧ AI p.2 v ∧ IsPair s.heap a u v) as ps → ∃ H', Inv X pins σ H' s ∧ Af H H' ∧ (∀ b, b ∉ as → H' b = H b) ∧ Paired (Nz H') (as.map V.ref) ps := by
 intro as
 induction as with
 | nil =>
   intro ps H I hn hd hp
   cases hp
   exact ⟨H, I, Af.refl _, fun _ _ => rfl, .nil⟩
 | cons a as ih =>
   intro ps H I hn hd hp
   obtain ⟨p, ps', rfl, ⟨u, v, ru, rv, hp⟩, t⟩ : ∃ p ps', ps = p :: ps' ∧ (∃ u v, AI p.1 u ∧ AI p.2 v ∧ IsPair s.heap a u v) ∧ Paired (fun a (p : V × V) => ∃ u v, AI p.1 u ∧ AI p.2 v ∧ IsPair s.heap a u v) as ps' := by
    cases hp with
    | cons h t => exact ⟨_, _, rfl, h, t⟩
   have ha := hn a RY
   have hd' := Sg.mp hd
   have new : BX X.prog X.w (upd H a (.tup [p.1, p.2])) s.heap a (.tup [p.1, p.2]) := ⟨by show 2 ≤ sizeLine; decide, [u, v], .cons ru (.cons rv .nil), ⟨_, hp, rfl, 0, rfl⟩⟩
   have I1 : Inv X pins σ (upd H a (.tup [p.1, p.2])) s := Inv.tracked I (I0.fpOk ha.1 ha.2) new
   obtain ⟨H', I', s', k', q'⟩ := ih ps' _ I1 (fun b hb => ⟨(hn b (RZ _ hb)).1, by rw [Am (fun z : b = a => hd'.1 (z ▸ hb))]; exact (hn b (RZ _ hb)).2⟩) hd'.2 t
   refine ⟨H', I', (Af.new ha.2).trans s', fun b hb => ?_, .cons ⟨a, rfl, s' _ _ Aa⟩ q'⟩
   have hb' : b ≠ a ∧ b ∉ as := by simpa using hb
   rw [k' b hb'.2, Am hb'.1]
def Px (s s1 : Shared) (xs ys : Array Value) (l1 l2 : Addr) (u : Value) : Prop :=
 ∃ h', u = .ref (s.heap.objs.size + 4) ∧ s1 = { s with heap := h' } ∧ ZGo h' xs ys (s.heap.objs.size + 4) (s.heap.objs.size + 2) (s.heap.objs.size + 3) s.heap.objs.size (s.heap.objs.size + 1) l1 l2 ∧
   Mz (s.heap.objs.size + 4) (s.heap.objs.size + 2) (s.heap.objs.size + 3) s.heap.objs.size (s.heap.objs.size + 1) l1 l2 s.heap.objs.size h'.objs.size ∧ ∀ c o, s.heap.get? c = some o → h'.get? c = some o
theorem NS {P : Program} {w : World} {A : Around} {E : Value → Shared → Prop} {s : Shared} {l1 l2 : Addr} {xs ys : Array Value} {Q : Value → Shared → Prop} (hl1 : s.heap.IsList l1 xs) (hl2 : s.heap.IsList l2 ys) (h : ∀ u s1, Px s s1 xs ys l1 l2 u → Q u s1) :
 wpAny (model P w) A (call (.type "zip") [.ref l1, .ref l2]) Q E s := by
 have la : l1 < s.heap.objs.size := by obtain ⟨_, e, _⟩ := hl1; exact Heap.lt_size e
 have lb : l2 < s.heap.objs.size := by obtain ⟨_, e, _⟩ := hl2; exact Heap.lt_size e
 refine call_zip_2 hl1 hl2 fun h' hz hTI hTO hi1 hi2 hsz hk => h _ _ ⟨h', rfl, rfl, ⟨hz, ⟨_, _, hTO⟩, hTI, hi1, hi2, hl1.at fun o e => hk _ o e, hl2.at fun o e => hk _ o e⟩, ?_, hk⟩
 rw [hsz]
 have p : ∀ a b : Nat, a ≤ b → s.heap.objs.size + a ≤ s.heap.objs.size + b := fun a b h => Nat.add_le_add_left h _
 exact ⟨zipApart_new la lb, U1 _ _, U1 _ _, S9 _, U1 _ _, p 5 5 (S9 _), p 3 5 (by decide), p 4 5 (by decide), p 1 5 (by decide), p 2 5 (by decide), RN la (U1 _ _), RN lb (U1 _ _), U1 _ _⟩
theorem MH {pins : List (Addr × Obj)} {σ : St} {H : Hp} {s s' : Shared} {xs ys : List V} {its1 its2 : List Value} {S : Addr} {as : List Addr} (I : Inv X pins σ H s) (hk : ∀ b o, s.heap.get? b = some o → s'.heap.get? b = some o) (hos : ∃ h' tk, s' = { s with heap := h', toks := tk }) (hS : s.heap.objs.size ≤ S)
 (r1 : AA xs its1) (r2 : AA ys its2) (hal : as.length = xs.length) (hxy : xs.length = ys.length) (hG : ZG its1.toArray its2.toArray S s'.heap as) : ∃ H', Inv X pins σ H' s' ∧ Af H H' ∧ (∀ b, b ∉ as → H' b = H b) ∧ Paired (Nz H') (as.map V.ref) (xs.zip ys) := by
 obtain ⟨h', tk, rfl⟩ := hos
 have I' : Inv X pins σ H { s with heap := h', toks := tk } := I.kept (t' := tk) hk
 refine Ku I as (xs.zip ys) H I' (fun a ha => ?_) (hG.rise.imp fun h => RP h) ?_
 ·have hle := RV hS (RW (hG.above a ha))
  exact ⟨hle, I.hok.fresh hle⟩
 ·refine DB (by rw [Uv]; lia) fun j a p hj hp => ?_
  obtain ⟨x, y, e1, e2, e3⟩ := hG.pairs j a hj
  obtain ⟨hjx, hjy⟩ := Uz.mp hp
  obtain ⟨u1, q1, q2⟩ := r1.get hjx
  obtain ⟨u2, q3, q4⟩ := r2.get hjy
  rw [List.getElem?_toArray] at e1 e2
  rw [e1] at q1; cases q1
  rw [e2] at q3; cases q3
  exact ⟨x, y, q2, q4, e3⟩
def tLZ (K : RU) (ta : TA) : TE := fun σ H Q => ta σ H fun vs H1 => ∃ a b xs ys, vs = [.ref a, .ref b] ∧ SqL K H1 a xs ∧ SqL K H1 b ys ∧ xs.length = ys.length ∧
 ∀ l us H', Af H1 H' → H1 l = none → H' l = some (.lst us) → Paired (Nz H') us (xs.zip ys) → Q (.ref l) H'
theorem Jv (K : RU) (hcalm : X.calm = true) {e1 e2 : Expr} {ta : TA} {p p2 pos pos2 : Pos} (hgl : Gl X "list") (hml : X.mg "list" = none) (hg : Gl X "zip") (hm : X.mg "zip" = none) (ha : PA X [e1, e2] ta)
 (hs : starEach [e1, e2] X.env = [(false, eval e1 X.env), (false, eval e2 X.env)] := by rfl) (hs2 : starEach [e2] X.env = [(false, eval e2 X.env)] := by rfl)
 (hs0 : starEach [.Call (.Name "zip" p) [e1, e2] [] pos] X.env = [(false, eval (.Call (.Name "zip" p) [e1, e2] [] pos) X.env)] := by rfl) (e : X.K = K := by rfl) :
 PE X (.Call (.Name "list" p2) [.Call (.Name "zip" p) [e1, e2] [] pos] [] pos2) (tLZ K ta) := by
 subst e
 intro pins s σ H Q I h
 refine Call_ (CZ I hgl hml Nw (PyProof.Rows.callWith_type1 ?_ hs0 rfl))
 rw [hs0]
 refine Calls.spliced_cons (Q := _) ?_
 refine Call_ (CZ I hg hm Mq (PyProof.Rows.callWith_type1 (thn (ha pos pins s σ H _ I h) fun us s1 ⟨vs, H1, I1, r1, q1⟩ => ?_) (by rw [hs, hs2]) (by rw [hs2]; rfl)))
 obtain ⟨a, b, xs, ys, e, hq1, hq2, hxy, q⟩ := q1
 subst e
 obtain ⟨u, u', rfl, ra, rb⟩ := NF r1
 cases ra
 cases rb
 obtain ⟨its1, rv1, p1, z1⟩ := I1.list hq1
 obtain ⟨its2, rv2, p2, _⟩ := I1.list hq2
 have n1 := rv1.length
 have n2 := rv2.length
 refine NS p1.isList p2.isList fun u s2 hM => ?_
 obtain ⟨h', rfl, rfl, g, D, hk⟩ := hM
 refine Calls.spliced_nil ?_
 refine Gp (s := { s1 with heap := h' }) (I1.ok.hd hcalm) D g (by simp; lia) (by simp; lia) fun h2 tk acc c as hk2 hS hal hG hacc => ?_
 have hkk : ∀ b o, s1.heap.get? b = some o → h2.get? b = some o := fun b o e => hk2 b o (Heap.lt_size e) (hk b o e)
 obtain ⟨H', I', sm, ko, hp⟩ := MH (s' := { s1 with heap := h2, toks := tk }) I1 hkk ⟨h2, tk, rfl⟩ D.lS rv1 rv2 (by rw [hal]; simp; lia) hxy hG
 have hno : H1 h'.objs.size = none := I1.hok.fresh D.lS
 have hna : h'.objs.size ∉ as := fun z => RO _ (hG.above _ z)
 have hno' : H' h'.objs.size = none := by rw [ko _ hna]; exact hno
 have hvs : AA (as.map V.ref) (as.map Value.ref) := DB (by simp) fun j v u hv hu => by
  rw [Sn] at hv hu
  cases z : as[j]? with
  | none => rw [z] at hv; cases hv
  | some t => rw [z] at hv hu; cases hv; cases hu; exact rfl
 have new : BX X.prog X.w (upd H' h'.objs.size (.lst (as.map V.ref))) h2 h'.objs.size (.lst (as.map V.ref)) := ⟨by rw [Su, hal]; simp; lia, as.map Value.ref, c, hvs, by rw [← hacc]; exact hS⟩
 exact ⟨.ref h'.objs.size, _, Inv.tracked I' (I1.fpOk D.lS hno') new, rfl, q _ _ _ (sm.trans (Af.new hno')) hno Aa (Paired.mapP hp fun v p ⟨t, e, z⟩ => ⟨t, e, by rw [Am (Au z hno')]; exact z⟩)⟩
end
end L2
namespace Pf
set_option maxHeartbeats 4000000
open PySem L2
def top (i : Nat) : Stmt := PySem.Challenge.pw_onecurve_k51_whole_none_misses_fewer.main.body.getD i (.Pass ⟨0, 0, 0, 0⟩)
theorem JK {a1 : Type} {p : a1 → Prop} {G : Prop} (h : ∃ x1, p x1) (f : ∀ x1, p x1 → G) : G := Exists.elim h f
theorem Ct {a1 a2 : Type} {p : a1 → a2 → Prop} {G : Prop} (h : ∃ x1 x2, p x1 x2) (f : ∀ x1 x2, p x1 x2 → G) : G := Exists.elim h fun x1 h => JK h (f x1)
theorem CK {a1 a2 a3 : Type} {p : a1 → a2 → a3 → Prop} {G : Prop} (h : ∃ x1 x2 x3, p x1 x2 x3) (f : ∀ x1 x2 x3, p x1 x2 x3 → G) : G := Exists.elim h fun x1 h => Ct h (f x1)
theorem HI {a1 a2 a3 a4 : Type} {p : a1 → a2 → a3 → a4 → Prop} {G : Prop} (h : ∃ x1 x2 x3 x4, p x1 x2 x3 x4) (f : ∀ x1 x2 x3 x4, p x1 x2 x3 x4 → G) : G := Exists.elim h fun x1 h => CK h (f x1)
theorem Q4 {a1 a2 a3 a4 a5 : Type} {p : a1 → a2 → a3 → a4 → a5 → Prop} {G : Prop} (h : ∃ x1 x2 x3 x4 x5, p x1 x2 x3 x4 x5) (f : ∀ x1 x2 x3 x4 x5, p x1 x2 x3 x4 x5 → G) : G := Exists.elim h fun x1 h => HI h (f x1)
theorem OO {a1 a2 a3 a4 a5 a6 : Type} {p : a1 → a2 → a3 → a4 → a5 → a6 → Prop} {G : Prop} (h : ∃ x1 x2 x3 x4 x5 x6, p x1 x2 x3 x4 x5 x6) (f : ∀ x1 x2 x3 x4 x5 x6, p x1 x2 x3 x4 x5 x6 → G) : G := Exists.elim h fun x1 h => Q4 h (f x1)
theorem Q3 {a1 a2 a3 a4 a5 a6 a7 : Type} {p : a1 → a2 → a3 → a4 → a5 → a6 → a7 → Prop} {G : Prop} (h : ∃ x1 x2 x3 x4 x5 x6 x7, p x1 x2 x3 x4 x5 x6 x7) (f : ∀ x1 x2 x3 x4 x5 x6 x7, p x1 x2 x3 x4 x5 x6 x7 → G) : G := Exists.elim h fun x1 h => OO h (f x1)
theorem Q0 {a1 a2 a3 a4 a5 a6 a7 a8 : Type} {p : a1 → a2 → a3 → a4 → a5 → a6 → a7 → a8 → Prop} {G : Prop} (h : ∃ x1 x2 x3 x4 x5 x6 x7 x8, p x1 x2 x3 x4 x5 x6 x7 x8) (f : ∀ x1 x2 x3 x4 x5 x6 x7 x8, p x1 x2 x3 x4 x5 x6 x7 x8 → G) : G := Exists.elim h fun x1 h => Q3 h (f x1)
theorem Nu {a1 a2 a3 a4 a5 a6 a7 a8 a9 : Type} {p : a1 → a2 → a3 → a4 → a5 → a6 → a7 → a8 → a9 → Prop} {G : Prop} (h : ∃ x1 x2 x3 x4 x5 x6 x7 x8 x9, p x1 x2 x3 x4 x5 x6 x7 x8 x9) (f : ∀ x1 x2 x3 x4 x5 x6 x7 x8 x9, p x1 x2 x3 x4 x5 x6 x7 x8 x9 → G) : G := Exists.elim h fun x1 h => Q0 h (f x1)
theorem Br {A1 A2 G : Prop} (h : A1 ∧ A2) (f : A1 → A2 → G) : G := f h.1 h.2
theorem CL {A1 A2 A3 G : Prop} (h : A1 ∧ A2 ∧ A3) (f : A1 → A2 → A3 → G) : G := Br h.2 (f h.1)
theorem Dw {A1 A2 A3 A4 G : Prop} (h : A1 ∧ A2 ∧ A3 ∧ A4) (f : A1 → A2 → A3 → A4 → G) : G := CL h.2 (f h.1)
theorem D5 {A1 A2 A3 A4 A5 G : Prop} (h : A1 ∧ A2 ∧ A3 ∧ A4 ∧ A5) (f : A1 → A2 → A3 → A4 → A5 → G) : G := Dw h.2 (f h.1)
theorem Mx {A1 A2 A3 A4 A5 A6 G : Prop} (h : A1 ∧ A2 ∧ A3 ∧ A4 ∧ A5 ∧ A6) (f : A1 → A2 → A3 → A4 → A5 → A6 → G) : G := D5 h.2 (f h.1)
theorem Mw {A1 A2 A3 A4 A5 A6 A7 G : Prop} (h : A1 ∧ A2 ∧ A3 ∧ A4 ∧ A5 ∧ A6 ∧ A7) (f : A1 → A2 → A3 → A4 → A5 → A6 → A7 → G) : G := Mx h.2 (f h.1)
theorem Pw {A1 A2 A3 A4 A5 A6 A7 A8 G : Prop} (h : A1 ∧ A2 ∧ A3 ∧ A4 ∧ A5 ∧ A6 ∧ A7 ∧ A8) (f : A1 → A2 → A3 → A4 → A5 → A6 → A7 → A8 → G) : G := Mw h.2 (f h.1)
theorem Q7 {A1 A2 A3 A4 A5 A6 A7 A8 A9 G : Prop} (h : A1 ∧ A2 ∧ A3 ∧ A4 ∧ A5 ∧ A6 ∧ A7 ∧ A8 ∧ A9) (f : A1 → A2 → A3 → A4 → A5 → A6 → A7 → A8 → A9 → G) : G := Pw h.2 (f h.1)
theorem NQ {A1 A2 A3 A4 A5 A6 A7 A8 A9 A10 G : Prop} (h : A1 ∧ A2 ∧ A3 ∧ A4 ∧ A5 ∧ A6 ∧ A7 ∧ A8 ∧ A9 ∧ A10) (f : A1 → A2 → A3 → A4 → A5 → A6 → A7 → A8 → A9 → A10 → G) : G := Q7 h.2 (f h.1)
def BM (B : Int) (q : Rat) : Int := q.num * B.fdiv q.den
theorem Gq {B : Int} {q : Rat} (h : (q.den : Int) ∣ B) : ((BM B q : Int) : Rat) = q * (B : Rat) := by
 obtain ⟨k, rfl⟩ := h
 have e : (((q.den : Int) * k).fdiv (q.den : Int)) = k := SV _ (Nm.den_ne q)
 unfold BM
 rw [e, T5, T5, Nm.num_mul q]
 grind
theorem MK {B : Int} {qs : List Rat} (h : ∀ q ∈ qs, (q.den : Int) ∣ B) (x : Rat) : Cv.ev ((qs.map (BM B)).map fun t : Int => (t : Rat)) x = Cv.ev qs x * (B : Rat) := by
 rw [← Cv.ev_scale, List.map_map]
 congr 1
 exact UA fun q hq => Gq (h q hq)
inductive Io (K : RU) (vs : List V) (H : Hp) (Q : VK) (E_3 : XK) : Prop
 | mk (b : Bool) (r : Addr) (xs : List V) (qs : List Rat) (n : Nat) (h1 : vs = [.ref r]) (h2 : Sq b K H r xs) (h3 : Ap K H xs qs) (h4 : (∀ q ∈ qs, Bd n (q.den : Int))) (h5 : n * (qs.length + 2) ≤ 60000000) (h6 : ∀ B : Int, 0 < B → (∀ q ∈ qs, (q.den : Int) ∣ B) → Bd (n * qs.length + 1) B → Q (.int B) H) : Io K vs H Q E_3
inductive GS (K : RU) (vs : List V) (H : Hp) (Q : VK) (E_3 : XK) : Prop
 | mk (b : Bool) (r : Addr) (xs : List V) (qs : List Rat) (B : Int) (m n : Nat) (h1 : vs = [.ref r, .int B]) (h2 : Sq b K H r xs) (h3 : Ap K H xs qs) (h4 : Bd m B) (h5 : (∀ q ∈ qs, Bd n q.num)) (h6 : m + n ≤ 134217728) (h7 : qs.length ≤ 1000) (h8 : ∀ p, H p = none → Q (.ref p) (upd H p (.lst ((qs.map (BM B)).map V.int)))) : GS K vs H Q E_3
inductive Eo (K : RU) (vs : List V) (H : Hp) (Q : VK) (E_3 : XK) : Prop
 | mk (r : Addr) (xs : List V) (qs : List Rat) (h1 : vs = [.ref r]) (h2 : SqL K H r xs) (h3 : Ap K H xs qs) (h4 : qs.length ≤ 1000) (h5 : ∀ p H', Af H H' → Crv K H' p (Cv.strip qs) → Q (.ref p) H') : Eo K vs H Q E_3
inductive MS (K : RU) (vs : List V) (H : Hp) (Q : VK) (E_3 : XK) : Prop
 | mk (l rx : Addr) (ts : List Int) (x : Rat) (m n : Nat) (h1 : vs = [.ref l, .ref rx]) (h2 : SqL K H l (ts.map V.int)) (h3 : AB K H (.ref rx) x) (h4 : (∀ t ∈ ts, Bd m t)) (h5 : RB n x) (h6 : m + (n + 1) * (ts.length + 4) ≤ 100000000) (h7 : ∀ (h s : Int) (p : Addr), s = (x.den : Int) ^ ts.length → s ≠ 0 → (h : Rat) = Cv.evI ts x * (s : Rat) → Bd (m + (n + 1) * (ts.length + 2)) h → Bd (n * ts.length + 1) s → H p = none → Q (.ref p) (upd H p (.tup [.int h, .int s]))) : MS K vs H Q E_3
theorem LX {b d : Int} (hb : 0 < b) (hd : 0 < d) : 0 < b * d.fdiv (SS b d : Int) ∧ b ∣ b * d.fdiv (SS b d : Int) ∧ d ∣ b * d.fdiv (SS b d : Int) := by
 have g0 : (0 : Int) < (SS b d : Int) := by have := Nm.gcd_pos (a := b) (b := d) (by lia); lia
 obtain ⟨k, hk⟩ : (SS b d : Int) ∣ d := T1 ..
 obtain ⟨j, hj⟩ : (SS b d : Int) ∣ b := SX ..
 generalize (SS b d : Int) = g at *
 subst hk
 subst hj
 have e : (g * k).fdiv g = k := SV _ (by lia)
 rw [e]
 have hk0 : 0 < k := by
  rcases Int.lt_trichotomy k 0 with z | z | z
  ·have : g * k < 0 := Int.mul_neg_of_pos_of_neg g0 z
   lia
  ·rw [z, UB] at hd; lia
  ·exact z
 exact ⟨Int.mul_pos hb hk0, ⟨k, rfl⟩, ⟨j, by grind⟩⟩
inductive Jn (K : RU) (vs : List V) (H : Hp) (Q : VK) (E_3 : XK) : Prop
 | mk (f g : Addr) (fs gs : List Int) (m n : Nat) (h1 : vs = [.ref f, .ref g]) (h2 : SqL K H f (fs.map V.int)) (h3 : SqL K H g (gs.map V.int)) (h4 : 1 ≤ gs.length) (h5 : fs.length ≤ 1000) (h6 : gs.length ≤ 1000) (h7 : (∀ t ∈ fs, Bd m t)) (h8 : (∀ t ∈ gs, Bd n t)) (h9 : m + n ≤ 60000000) (h10 : ∀ (p : Addr) (H' : Hp) (ps : List Int), Af H H' → H p = none → H' p = some (.lst (ps.map V.int)) → ps.length = fs.length + gs.length - 1 → (∀ x, Cv.evI ps x = Cv.evI fs x * Cv.evI gs x) → (∀ t ∈ ps, Bd (m + n + 20) t) → Q (.ref p) H') : Jn K vs H Q E_3
inductive Cy (K : RU) (vs : List V) (H : Hp) (Q : VK) (E_3 : XK) : Prop
 | mk (l : Addr) (ts : List Int) (b : Int) (h1 : vs = [.ref l, .int b]) (h2 : SqL K H l (ts.map V.int)) (h3 : b ≠ 0) (h4 : ts.length ≤ 1000) (h5 : ∀ p H', Af H H' → Crv K H' p (Cv.strip (ts.map fun t => SW t b)) → Q (.ref p) H') : Cy K vs H Q E_3
inductive Hb (K : RU) (n : Nat) (vs : List V) (H : Hp) (Q : VK) (E_3 : XK) : Prop
 | mk (a : Addr) (most : Int) (h1 : vs = [.ref a, .int most]) (h2 : Pen H a) (h3 : 0 ≤ most) (h4 : most ≤ 100) (h5 : ∀ (qs : List Rat) (r : Addr) (H' : Hp), Mv a H H' → Pen H' a → Crv K H' r qs → Cu qs → (qs.length : Int) ≤ most → (∀ q ∈ qs, RB n q) → Q (.ref r) H') : Hb K n vs H Q E_3
def Bk : List Rat → List Rat → Rat → Rat
 | k :: ks, s :: ss, x => s + (x - k) * Bk ks ss x
 | _, _, _ => 0
inductive DA (K : RU) (vs : List V) (H : Hp) (Q : VK) (E_3 : XK) : Prop
 | mk (rk rst : Addr) (xs ys : List V) (ks ss : List Rat) (n : Nat) (h1 : vs = [.ref rk, .ref rst]) (h2 : SqL K H rk xs) (h3 : Ap K H xs ks) (h4 : SqL K H rst ys) (h5 : Ap K H ys ss) (h6 : ks.length = ss.length) (h7 : ks.length ≤ 12) (h8 : (∀ q ∈ ks, RB n q)) (h9 : (∀ q ∈ ss, RB n q)) (h10 : n ≤ 2048000) (h11 : ∀ p H' cs, Af H H' → Crv K H' p cs → cs.length ≤ ks.length → Cu cs → (∀ q ∈ cs, RB (2 * (n * ks.length) + 21 * ks.length + 2 * n + 30) q) → (∀ x, Cv.ev cs x = Bk ks ss x) → Q (.ref p) H') : DA K vs H Q E_3
theorem Mg (c x : Rat) : Cv.evI [-c.num, (c.den : Int)] x = (x - c) * ((c.den : Int) : Rat) := by
 show ((-c.num : Int) : Rat) + x * (((c.den : Int) : Rat) + x * 0) = _
 rw [Rat.intCast_neg, Nm.num_mul c]
 grind
theorem K2 (p q : Rat) (hq : q ≠ 0) : SW (p.num * q.den) (p.den * q.num) = p / q := by
 have hn : q.num ≠ 0 := fun z => hq (Rat.num_eq_zero.mp z)
 apply Nm.div_eq (T4 (Nm.den_ne p) hn)
 rw [T5, T5, Nm.num_mul p, Nm.num_mul q]
 have e : p / q * q = p := T3 hq
 have h : p / q * (((p.den : Int) : Rat) * (q * ((q.den : Int) : Rat))) = (p / q * q) * (((p.den : Int) : Rat) * ((q.den : Int) : Rat)) := by grind
 rw [h, e]
 grind
inductive Jp (K : RU) (vs : List V) (H : Hp) (Q : VK) (E_3 : XK) : Prop
 | mk (x y : V) (p q : Rat) (m n : Nat) (h1 : vs = [x, y]) (h2 : AB K H x p) (h3 : AB K H y q) (h4 : q ≠ 0) (h5 : RB m p) (h6 : RB n q) (h7 : m + n ≤ 100000000) (h8 : ∀ r, H r = none → Q (.ref r) (upd H r (nT (p / q)))) : Jp K vs H Q E_3
theorem RB.over {m n : Nat} {p q : Rat} (h1 : RB m p) (h2 : RB n q) (hq : q ≠ 0) : RB (m + n) (p / q) := by
 have hn : q.num ≠ 0 := fun z => hq (Rat.num_eq_zero.mp z)
 rw [← K2 p q hq]
 exact ⟨Bd.num (h1.1.mul h2.2), Bd.den (T4 (Nm.den_ne p) hn) (h1.2.mul h2.1)⟩
theorem Dk {α β : Type} {F : α → β → Prop} : ∀ {l₁ : List α} {l₂ : List β} (i : Nat), Paired F l₁ l₂ → Paired F (l₁.drop i) (l₂.drop i)
 | _, _, i, .nil => by rw [List.drop_nil, List.drop_nil]; exact .nil
 | _, _, 0, .cons h t => .cons h t
 | _, _, i + 1, .cons _ t => Dk i t
def BL (ps : List Rat) : List FY := (RQ (ps.length - 1)).map fun k : Nat => (⟨ps.getD 0 0, (k : Int), ps.getD (k + 1) 0⟩ : FY)
def AX (pss : List (List Rat)) : List FY := (pss.map BL).flatten
theorem Bg (ps : List Rat) : (BL ps).length = ps.length - 1 := by unfold BL; rw [Su, U5]
theorem Kv (pss : List (List Rat)) (ps : List Rat) : AX (pss ++ [ps]) = AX pss ++ BL ps := by
 unfold AX
 rw [Tg, List.flatten_append]
 simp
theorem C0 : ∀ pss : List (List Rat), (∀ ps ∈ pss, ps.length ≤ 3) → (AX pss).length ≤ 2 * pss.length
 | [], _ => S9 _
 | p :: r, h => by
   have ih := C0 r fun ps hp => h ps (RZ _ hp)
   have hp := h p RY
   have e : AX (p :: r) = BL p ++ AX r := rfl
   rw [e, Ss, Bg, Td]
   lia
def P23 (pss : List (List Rat)) : Prop := ∀ ps ∈ pss, ps.length = 2 ∨ ps.length = 3
theorem P23.take {pss : List (List Rat)} (h : P23 pss) (i : Nat) : ∀ ps ∈ pss.take i, ps.length ≤ 3 := fun ps hp => by
 have := h ps (UC hp); lia
theorem AN {l : List Rat} {i : Nat} (h : i < l.length) : l[i]? = some (l.getD i 0) := by rw [Tq, Tx h]; rfl
def cnt (x : Rat) : List Rat → Nat
 | [] => 0
 | y :: r => (if x ≤ y then 1 else 0) + cnt x r
theorem Mo (x : Rat) : ∀ l, cnt x l ≤ l.length
 | [] => S9 _
 | y :: r => by
   have := Mo x r
   show (if x ≤ y then 1 else 0) + cnt x r ≤ r.length + 1
   split <;> lia
theorem Lw (x : Rat) : x ≤ x + 1 := by grind
theorem O5 (x : Rat) : ¬ x + 1 ≤ x := by grind
theorem J4 (x : Rat) : ∀ l, cnt (x + 1) l ≤ cnt x l
 | [] => S9 _
 | y :: r => by
   have := J4 x r
   show (if x + 1 ≤ y then 1 else 0) + cnt (x + 1) r ≤ (if x ≤ y then 1 else 0) + cnt x r
   by_cases h : x + 1 ≤ y
   ·rw [if_pos h, if_pos (UD (Lw x) h)]; lia
   ·rw [if_neg h]; lia
theorem JO {x : Rat} : ∀ {l}, x ∈ l → cnt (x + 1) l < cnt x l
 | y :: r, h => by
   show (if x + 1 ≤ y then 1 else 0) + cnt (x + 1) r < (if x ≤ y then 1 else 0) + cnt x r
   rcases S1.mp h with z | z
   ·subst z
    have := J4 x r
    rw [if_neg (O5 x), if_pos Rat.le_refl]; lia
   ·have := JO z
    by_cases h : x + 1 ≤ y
    ·rw [if_pos h, if_pos (UD (Lw x) h)]; lia
    ·rw [if_neg h]; lia
theorem O4 {j : Nat} (h : j ≤ 100) : RB 7 ((j : Nat) : Rat) := ⟨by rw [Rat.num_natCast]; unfold Bd; lia, by rw [Rat.den_natCast]; unfold Bd; decide⟩
inductive Em (K : RU) (n : Nat) (vs : List V) (H : Hp) (Q : VK) (E_3 : XK) : Prop
 | mk (a : Addr) (m : Int) (h1 : vs = [.ref a, .int m]) (h2 : Pen H a) (h3 : 0 ≤ m) (h4 : m ≤ 100) (h5 : ∀ (l : Addr) (H' : Hp) (zs : List V) (qs : List Rat), Mv a H H' → Pen H' a → H l = none → H' l = some (.lst zs) → AE H' zs qs → (qs.length : Int) = m → qs.Nodup → (∀ q ∈ qs, RB (n + 8) q) → Q (.ref l) H') : Em K n vs H Q E_3
inductive GU (K : RU) (vs : List V) (H : Hp) (Q : VK) (E_3 : XK) : Prop
 | mk (r : Addr) (xs : List V) (pss : List (List Rat)) (h1 : vs = [.ref r]) (h2 : SqT K H r xs) (h3 : Cg K H xs pss) (h4 : P23 pss) (h5 : pss.length ≤ 100) (h6 : ∀ (p : Addr) (H' : Hp) (ys : List V), Af H H' → H p = none → H' p = some (.lst ys) → FZ K H' ys (AX pss) → Q (.ref p) H') : GU K vs H Q E_3
inductive DV (K : RU) (vs : List V) (H : Hp) (Q : VK) (E_3 : XK) : Prop
 | mk (r : Addr) (xs : List V) (pss : List (List Rat)) (h1 : vs = [.ref r]) (h2 : SqT K H r xs) (h3 : Cg K H xs pss) (h4 : P23 pss) (h5 : pss.length ≤ 100) (h6 : ∀ (p : Addr) (H' : Hp) (ys : List V), Af H H' → H p = none → H' p = some (.lst ys) → AE H' ys ((AX pss).map FY.x) → Q (.ref p) H') : DV K vs H Q E_3
def P2 (pss : List (List Rat)) : Prop := ∀ ps ∈ pss, ps.length = 2
theorem P2.p23 {pss : List (List Rat)} (h : P2 pss) : P23 pss := fun ps hp => .inl (h ps hp)
inductive Ek (K : RU) (vs : List V) (H : Hp) (Q : VK) (E_3 : XK) : Prop
 | mk (r : Addr) (xs : List V) (pss : List (List Rat)) (h1 : vs = [.ref r]) (h2 : SqT K H r xs) (h3 : Cg K H xs pss) (h4 : P2 pss) (h5 : pss.length ≤ 100) (h6 : ∀ (d : Addr) (H' : Hp), Af H H' → Q (.ref d) H') : Ek K vs H Q E_3
def CF (pss : List (List Rat)) : List Rat := (pss.map fun ps => Si (ps.length - 1) (ps.getD 1 0)).flatten
theorem Kx (pss : List (List Rat)) (ps : List Rat) : CF (pss ++ [ps]) = CF pss ++ Si (ps.length - 1) (ps.getD 1 0) := by
 unfold CF
 rw [Tg, List.flatten_append]
 simp
theorem Dg : ∀ pss, (CF pss).length = (AX pss).length
 | [] => rfl
 | p :: r => by
   have e : AX (p :: r) = BL p ++ AX r := rfl
   have e2 : CF (p :: r) = Si (p.length - 1) (p.getD 1 0) ++ CF r := rfl
   rw [e, e2, Ss, Ss, Sv, Bg, Dg r]
inductive Jl (K : RU) (vs : List V) (H : Hp) (Q : VK) (E_3 : XK) : Prop
 | mk (r : Addr) (xs : List V) (pss : List (List Rat)) (h1 : vs = [.ref r]) (h2 : SqT K H r xs) (h3 : Cg K H xs pss) (h4 : P23 pss) (h5 : pss.length ≤ 100) (h6 : ∀ (p : Addr) (H' : Hp) (ys : List V), Af H H' → H p = none → H' p = some (.lst ys) → Ap K H' ys (CF pss) → Q (.ref p) H') : Jl K vs H Q E_3
def kn (pss : List (List Rat)) : List Rat := (AX pss).map FY.x
theorem Bw (pss : List (List Rat)) : (kn pss).length = (AX pss).length := Su _
def MV (pss : List (List Rat)) (x : Rat) : Rat :=
 match pss.find? (fun ps => decide (ps.length = 3) && decide (ps.getD 0 0 = x)) with
 | some ps => ps.getD 2 0
 | none => 0
def CI (A kn : List Rat) (sl : Rat → Rat) (k : Nat) : List Rat :=
 (RQ (kn.length - k)).map fun j => if kn.getD (j + k) 0 = kn.getD j 0 then sl (kn.getD j 0) else (A.getD (j + 1) 0 - A.getD j 0) / (kn.getD (j + k) 0 - kn.getD j 0)
theorem CW (A kn : List Rat) (sl : Rat → Rat) (k : Nat) : (CI A kn sl k).length = kn.length - k := by unfold CI; rw [Su, U5]
theorem FL {A kn : List Rat} {sl : Rat → Rat} {k j : Nat} (h : j < kn.length - k) : (CI A kn sl k).getD j 0 = if kn.getD (j + k) 0 = kn.getD j 0 then sl (kn.getD j 0) else (A.getD (j + 1) 0 - A.getD j 0) / (kn.getD (j + k) 0 - kn.getD j 0) := by
 unfold CI
 rw [Tq, Sn, U9 h]; rfl
theorem Bu {l : List Rat} {i : Nat} (h : i < l.length) : l.getD i 0 ∈ l := Sr (AN h)
theorem LQ {A kn : List Rat} {sl : Rat → Rat} {k m n : Nat} (hA : ∀ q ∈ A, RB m q) (hk : ∀ q ∈ kn, RB n q) (hs : ∀ x, RB (2 * m + 2 * n + 2) (sl x)) (h1 : 1 ≤ k) (hl : A.length + k = kn.length + 1) : ∀ q ∈ CI A kn sl k, RB (2 * m + 2 * n + 2) q := fun q hq => by
 unfold CI at hq
 obtain ⟨j, hj, rfl⟩ := TR.mp hq
 have hj := RT.mp hj
 split
 ·exact hs _
 ·next hne =>
  have a1 := hA _ (Bu (l := A) (i := j + 1) (by lia))
  have a0 := hA _ (Bu (l := A) (i := j) (by lia))
  have k1 := hk _ (Bu (l := kn) (i := j + k) (by lia))
  have k0 := hk _ (Bu (l := kn) (i := j) (by lia))
  exact (RB.over (a1.minus a0) (k1.minus k0) (fun z => hne (by grind))).mono (by lia)
def tab (pss : List (List Rat)) : Nat → List Rat
 | 0 => CF pss
 | k + 1 => CI (tab pss k) (kn pss) (MV pss) (k + 1)
theorem CO (pss : List (List Rat)) : ∀ k, k ≤ (AX pss).length → (tab pss k).length = (AX pss).length - k
 | 0, _ => Dg pss
 | k + 1, _ => by rw [tab, CW, Bw]
def bnd (h n : Nat) : Nat → Nat
 | 0 => h
 | k + 1 => 2 * bnd h n k + 2 * n + 2
theorem Mt (h n : Nat) : ∀ k, bnd h n k + (2 * n + 2) = 2 ^ k * (h + 2 * n + 2)
 | 0 => by show h + (2 * n + 2) = 1 * _; lia
 | k + 1 => by
   have := Mt h n k
   rw [TF, SN (2 ^ k) 2, Nat.mul_assoc, ← this]
   show 2 * bnd h n k + 2 * n + 2 + _ = _
   lia
theorem HV {h n k m c : Nat} (hn : h + 2 * n + 2 ≤ c) (hk : k ≤ m) : bnd h n k ≤ 2 ^ m * c := by
 have h1 := Mt h n k
 have h2 : 2 ^ k ≤ 2 ^ m := TC (by decide) hk
 have h3 : 2 ^ k * (h + 2 * n + 2) ≤ 2 ^ m * c := UE h2 hn
 lia
theorem JP (h n : Nat) : ∀ k, h ≤ bnd h n k
 | 0 => S9 _
 | k + 1 => by have := JP h n k; show h ≤ 2 * bnd h n k + 2 * n + 2; lia
theorem Mr (h n k : Nat) : bnd h n k ≤ bnd h n (k + 1) := by show _ ≤ 2 * bnd h n k + 2 * n + 2; lia
theorem Ms (h n : Nat) {j k : Nat} (hjk : j ≤ k) : bnd h n j ≤ bnd h n k := by
 induction hjk with
 | refl => exact S9 _
 | step _ ih => exact RV ih (Mr h n _)
theorem MM {ps : List Rat} : ∀ t ∈ BL ps, t.x = ps.getD 0 0 := fun t ht => by
 unfold BL at ht
 obtain ⟨k, _, rfl⟩ := TR.mp ht
 rfl
theorem HE (p : List Rat) (r : List (List Rat)) : kn (p :: r) = Si (p.length - 1) (p.getD 0 0) ++ kn r := by
 have e : AX (p :: r) = BL p ++ AX r := rfl
 unfold kn
 rw [e, Tg]
 congr 1
 refine List.eq_replicate_iff.mpr ⟨by rw [Su, Bg], fun x hx => ?_⟩
 obtain ⟨t, ht, rfl⟩ := TR.mp hx
 exact MM t ht
theorem JH : ∀ {pss : List (List Rat)} {x : Rat}, x ∈ kn pss → ∃ ps ∈ pss, ps.getD 0 0 = x
 | p :: r, x, h => by
   rw [HE] at h
   rcases S2.mp h with z | z
   ·exact ⟨p, RY, (UG.mp z).2.symm⟩
   ·obtain ⟨ps, h1, h2⟩ := JH z
    exact ⟨ps, RZ _ h1, h2⟩
theorem M3 {pss : List (List Rat)} {n : Nat} (hbk : ∀ ps ∈ pss, RB n (ps.getD 0 0)) : ∀ x ∈ kn pss, RB n x := fun x hx => by
 obtain ⟨ps, h1, rfl⟩ := JH hx
 exact hbk ps h1
theorem MZ {pss : List (List Rat)} {n : Nat} (h23 : P23 pss) (hb : ∀ ps ∈ pss, ∀ q ∈ ps, RB n q) : ∀ x ∈ CF pss, RB n x := fun x hx => by
 unfold CF at hx
 obtain ⟨l, hl, hx⟩ := List.mem_flatten.mp hx
 obtain ⟨ps, h1, rfl⟩ := TR.mp hl
 rw [(UG.mp hx).2]
 exact hb ps h1 _ (Bu (by have := h23 ps h1; lia))
theorem MU {pss : List (List Rat)} {n : Nat} (h1 : 1 ≤ n) (hb : ∀ ps ∈ pss, ∀ q ∈ ps, RB n q) (x : Rat) : RB n (MV pss x) := by
 unfold MV
 split
 ·next ps h =>
  have h2 := List.mem_of_find?_eq_some h
  have h3 := List.find?_some h
  rw [Bool.and_eq_true, decide_eq_true_eq, decide_eq_true_eq] at h3
  exact hb ps h2 _ (Bu (by lia))
 ·exact RB.zero h1
theorem Ji {pss : List (List Rat)} {h n : Nat} (h23 : P23 pss) (hn : 1 ≤ h) (hb : ∀ ps ∈ pss, ∀ q ∈ ps, RB h q) (hbk : ∀ ps ∈ pss, RB n (ps.getD 0 0)) : ∀ k, k ≤ (AX pss).length → ∀ q ∈ tab pss k, RB (bnd h n k) q
 | 0, _ => MZ h23 hb
 | k + 1, hk => by
   rw [tab]
   exact LQ (Ji h23 hn hb hbk k (by lia)) (M3 hbk) (fun x => (MU hn hb x).mono (RV (JP h n k) (by lia))) (by lia) (by rw [CO _ _ (by lia), Bw]; lia)
theorem FQ : ∀ {pss : List (List Rat)}, P23 pss → (pss.map fun ps => ps.getD 0 0).Nodup → ∀ {j k : Nat}, 1 ≤ k → j + k < (AX pss).length → (kn pss).getD (j + k) 0 = (kn pss).getD j 0 →
 k = 1 ∧ ∃ ps ∈ pss, ps.length = 3 ∧ ps.getD 0 0 = (kn pss).getD j 0 ∧ ((AX pss).map FY.n).getD (j + 1) 0 = ps.getD 2 0 ∧ (CF pss).getD (j + 1) 0 = (CF pss).getD j 0
 | p :: r, h23, hnd, j, k, h1, hjk, he => by
   rw [SO, Sg] at hnd
   have hout : ∀ i, i < (kn r).length → (kn r).getD i 0 ≠ p.getD 0 0 := fun i hi e => by
    obtain ⟨ps, h1, h2⟩ := JH (Bu hi)
    exact hnd.1 (e ▸ h2 ▸ Uh (f := fun ps : List Rat => ps.getD 0 0) h1)
   have et : AX (p :: r) = BL p ++ AX r := rfl
   have er : CF (p :: r) = Si (p.length - 1) (p.getD 1 0) ++ CF r := rfl
   have ih := @FQ r (fun ps h => h23 ps (RZ _ h)) hnd.2
   have hkl := Bw r
   rw [HE] at he ⊢
   rw [et, Ss, Bg] at hjk
   rcases h23 p RY with hp | hp
   ·have e1 : Si (p.length - 1) (p.getD 0 0) = [p.getD 0 0] := by rw [hp]; rfl
    have e2 : BL p = [⟨p.getD 0 0, 0, p.getD 1 0⟩] := by unfold BL; rw [hp]; rfl
    have e3 : Si (p.length - 1) (p.getD 1 0) = [p.getD 1 0] := by rw [hp]; rfl
    rw [e1] at he ⊢
    rw [et, er, e2, e3]
    match j with
    | 0 =>
      obtain ⟨k', rfl⟩ : ∃ k', k = k' + 1 := ⟨k - 1, by lia⟩
      rw [U4] at he
      exact absurd he (hout k' (by lia))
    | j' + 1 =>
      rw [show j' + 1 + k = (j' + k) + 1 by lia] at he
      obtain ⟨z1, ps, z2, z3, z4, z5, z6⟩ := ih (j := j') (k := k) h1 (by lia) he
      exact ⟨z1, ps, RZ _ z2, z3, z4, z5, z6⟩
   ·have e1 : Si (p.length - 1) (p.getD 0 0) = [p.getD 0 0, p.getD 0 0] := by rw [hp]; rfl
    have e2 : BL p = [⟨p.getD 0 0, 0, p.getD 1 0⟩, ⟨p.getD 0 0, 1, p.getD 2 0⟩] := by unfold BL; rw [hp]; rfl
    have e3 : Si (p.length - 1) (p.getD 1 0) = [p.getD 1 0, p.getD 1 0] := by rw [hp]; rfl
    rw [e1] at he ⊢
    rw [et, er, e2, e3]
    match j with
    | 0 =>
      match k, h1 with
      | 1, _ => exact ⟨rfl, p, RY, hp, rfl, rfl, rfl⟩
      | k' + 2, _ =>
        rw [U4] at he
        exact absurd he (hout k' (by lia))
    | 1 =>
      obtain ⟨k', rfl⟩ : ∃ k', k = k' + 1 := ⟨k - 1, by lia⟩
      rw [show 1 + (k' + 1) = k' + 2 by lia] at he
      exact absurd he (hout k' (by lia))
    | j' + 2 =>
      rw [show j' + 2 + k = (j' + k) + 2 by lia] at he
      obtain ⟨z1, ps, z2, z3, z4, z5, z6⟩ := ih (j := j') (k := k) h1 (by lia) he
      exact ⟨z1, ps, RZ _ z2, z3, z4, z5, z6⟩
def FR (K : RU) (H : Hp) (p : Addr) (H' : Hp) (x : V) (rs : List Rat) : Prop := ∃ a zs, x = .ref a ∧ a ≠ p ∧ H a = none ∧ H' a = some (.lst zs) ∧ Ap K H' zs rs
theorem FR.same {K : RU} {H H1 H2 : Hp} {p : Addr} {x : V} {rs : List Rat} (h : FR K H p H1 x rs) (e : Af H1 H2) : FR K H p H2 x rs := let ⟨a, zs, h1, h2, h3, h4, h5⟩ := h; ⟨a, zs, h1, h2, h3, e _ _ h4, Ap.same h5 e⟩
theorem FR.put {K : RU} {H H1 : Hp} {p : Addr} {x : V} {rs : List Rat} {ys : List V} {o : HO} (h : FR K H p H1 x rs) (e : H1 p = some (.lst ys)) : FR K H p (upd H1 p o) x rs := let ⟨a, zs, h1, h2, h3, h4, h5⟩ := h; ⟨a, zs, h1, h2, h3, by rw [Am h2]; exact h4, Ap.put h5 e⟩
theorem JG {α : Type} (f : Nat → α) (i : Nat) : ((RQ (i + 1)).map f)[i]? = some (f i) := by
 rw [Sn, U9 (by lia)]; rfl
inductive GW (K : RU) (vs : List V) (H : Hp) (Q : VK) (E_3 : XK) : Prop
 | mk (r : Addr) (xs : List V) (pss : List (List Rat)) (hh n : Nat) (h1 : vs = [.ref r]) (h2 : SqT K H r xs) (h3 : Cg K H xs pss) (h4 : P2 pss) (h5 : pss.length ≤ 100) (h6 : (pss.map fun ps => ps.getD 0 0).Nodup) (h7 : (AX pss).length ≤ 8) (h8 : (∀ ps ∈ pss, ∀ q ∈ ps, RB hh q)) (h9 : (∀ ps ∈ pss, RB n (ps.getD 0 0))) (h10 : 1 ≤ hh) (h11 : hh + 9 * n + 2 ≤ 8000) (h12 : ∀ (p : Addr) (H' : Hp) (ys : List V), Af H H' → H p = none → H' p = some (.lst ys) → Paired (FR K H p H') ys ((RQ (AX pss).length).map (tab pss)) → Q (.ref p) H') : GW K vs H Q E_3
def BH (pss : List (List Rat)) : List Rat := (RQ (AX pss).length).map fun k => (tab pss k).getD 0 0
theorem D8 (pss : List (List Rat)) : (BH pss).length = (AX pss).length := by unfold BH; rw [Su, U5]
inductive GX (K : RU) (vs : List V) (H : Hp) (Q : VK) (E_3 : XK) : Prop
 | mk (r : Addr) (xs : List V) (pss : List (List Rat)) (hh n : Nat) (h1 : vs = [.ref r]) (h2 : SqT K H r xs) (h3 : Cg K H xs pss) (h4 : P2 pss) (h5 : pss.length ≤ 100) (h6 : (pss.map fun ps => ps.getD 0 0).Nodup) (h7 : (AX pss).length ≤ 8) (h8 : (∀ ps ∈ pss, ∀ q ∈ ps, RB hh q)) (h9 : (∀ ps ∈ pss, RB n (ps.getD 0 0))) (h10 : 1 ≤ hh) (h11 : hh + 9 * n + 2 ≤ 8000) (h12 : ∀ (p : Addr) (H' : Hp) (zs : List V), Af H H' → H p = none → H' p = some (.lst zs) → Ap K H' zs (BH pss) → Q (.ref p) H') : GX K vs H Q E_3
theorem Lm {pss : List (List Rat)} {hh n : Nat} (h23 : P23 pss) (hb : ∀ ps ∈ pss, ∀ q ∈ ps, RB hh q) (hbk : ∀ ps ∈ pss, RB n (ps.getD 0 0)) (h1 : 1 ≤ hh) (h12 : (AX pss).length ≤ 8) : ∀ q ∈ BH pss, RB (bnd hh n 7) q := fun q hq => by
 unfold BH at hq
 obtain ⟨k, hk, rfl⟩ := TR.mp hq
 have hk := RT.mp hk
 have hl := CO pss k (by lia)
 exact (Ji h23 h1 hb hbk k (by lia) _ (Bu (by lia))).mono (Ms hh n (by lia))
inductive GV (K : RU) (vs : List V) (H : Hp) (Q : VK) (E_3 : XK) : Prop
 | mk (r : Addr) (xs : List V) (pss : List (List Rat)) (hh n : Nat) (h1 : vs = [.ref r]) (h2 : SqT K H r xs) (h3 : Cg K H xs pss) (h4 : P2 pss) (h5 : pss.length ≤ 100) (h6 : (pss.map fun ps => ps.getD 0 0).Nodup) (h7 : (AX pss).length ≤ 8) (h8 : (∀ ps ∈ pss, ∀ q ∈ ps, RB hh q)) (h9 : (∀ ps ∈ pss, RB n (ps.getD 0 0))) (h10 : 1 ≤ hh) (h11 : hh + 9 * n + 2 ≤ 8000) (h12 : ∀ (p : Addr) (H' : Hp) (cs : List Rat), Af H H' → Crv K H' p cs → cs.length ≤ (AX pss).length → Cu cs → (∀ q ∈ cs, RB (26 * bnd hh n 7 + 300) q) → (∀ x, Cv.ev cs x = Bk (kn pss) (BH pss) x) → Q (.ref p) H') : GV K vs H Q E_3
inductive DM (K : RU) (vs : List V) (H : Hp) (Q : VK) (E_3 : XK) : Prop
 | mk (ra rk d : Addr) (as ks : List V) (A kn : List Rat) (sl : Rat → Rat) (k m n : Nat) (h1 : vs = [.ref ra, .ref rk, .ref d, .int (k : Int)]) (h2 : SqL K H ra as) (h3 : Ap K H as A) (h4 : SqL K H rk ks) (h5 : AE H ks kn) (h6 : (∀ j, j + k < kn.length → kn.getD (j + k) 0 ≠ kn.getD j 0)) (h7 : 1 ≤ k) (h8 : k ≤ kn.length) (h9 : A.length + k = kn.length + 1) (h10 : kn.length ≤ 100) (h11 : (∀ q ∈ A, RB m q)) (h12 : (∀ q ∈ kn, RB n q)) (h13 : m ≤ 2000000) (h14 : n ≤ 1000) (h15 : ∀ (p : Addr) (H' : Hp) (zs : List V), Af H H' → H p = none → H' p = some (.lst zs) → Ap K H' zs (CI A kn sl k) → Q (.ref p) H') : DM K vs H Q E_3
theorem EI (X k s : Rat) : ∀ (ks ss : List Rat), ks.length = ss.length → Bk (ks ++ [k]) (ss ++ [s]) X = Bk ks ss X + s * L2.prV X ks
 | [], [], _ => by show s + (X - k) * 0 = 0 + s * 1; grind
 | a :: ks, b :: ss, h => by
   have ih := EI X k s ks ss (by simpa using h)
   show b + (X - a) * Bk (ks ++ [k]) (ss ++ [s]) X = (b + (X - a) * Bk ks ss X) + s * ((X - a) * L2.prV X ks)
   rw [ih]; grind
theorem FN (T : Nat → Nat → Rat) (x : Nat → Rat) (X : Rat) : ∀ n, Bk ((RQ n).map x) ((RQ n).map fun k => T k 0) X = Cv.ev (L2.nwT T x 0 n) X
 | 0 => rfl
 | n + 1 => by
   rw [TQ, Tg, Tg, L2.EA, ← FN T x X n]
   show Bk (_ ++ [x n]) (_ ++ [T n 0]) X = _
   rw [EI _ _ _ _ _ (by rw [Su, Su])]
   unfold L2.prF
   have e : (RQ n).map x = (RQ n).map fun i => x (0 + i) := UA fun i _ => by rw [U4]
   rw [e]
theorem JF (l : List Rat) : l = (RQ l.length).map fun i => l.getD i 0 := by
 refine Tr fun i => ?_
 rw [Sn]
 by_cases h : i < l.length
 ·rw [U9 h]; exact AN h
 ·rw [TM (by lia), TM (by rw [U5]; lia)]; rfl
def tT (pss : List (List Rat)) (k j : Nat) : Rat := (tab pss k).getD j 0
def xT (pss : List (List Rat)) (j : Nat) : Rat := (kn pss).getD j 0
theorem ML (pss : List (List Rat)) (X : Rat) : Bk (kn pss) (BH pss) X = Cv.ev (L2.nwT (tT pss) (xT pss) 0 (AX pss).length) X := by
 rw [← FN]
 have e := JF (kn pss)
 rw [Bw] at e
 show Bk (kn pss) _ X = Bk ((RQ (AX pss).length).map fun i => (kn pss).getD i 0) _ X
 rw [← e]; rfl
theorem NW {pss : List (List Rat)} (h23 : P23 pss) (hnd : (pss.map fun ps => ps.getD 0 0).Nodup) : L2.MB (tT pss) (xT pss) (AX pss).length := fun k j hj => by
 unfold tT xT
 rw [tab, FL (by rw [Bw]; lia), show j + (k + 1) = j + k + 1 by lia]
 by_cases he : (kn pss).getD (j + k + 1) 0 = (kn pss).getD j 0
 ·rw [if_pos he, he]
  obtain ⟨hk, ps, _, _, _, _, hr⟩ := FQ h23 hnd (j := j) (k := k + 1) (by lia) (by lia) he
  have hk0 : k = 0 := by lia
  subst hk0
  show _ = (CF pss).getD (j + 1) 0 - (CF pss).getD j 0
  rw [hr]; grind
 ·rw [if_neg he]
  have hd : (kn pss).getD (j + k + 1) 0 - (kn pss).getD j 0 ≠ 0 := fun z => he (by grind)
  exact T3 hd
theorem LC : ∀ {pss : List (List Rat)} {ps : List Rat}, P23 pss → ps ∈ pss → ∃ i, i < (AX pss).length ∧ (kn pss).getD i 0 = ps.getD 0 0 ∧ (CF pss).getD i 0 = ps.getD 1 0 ∧ (ps.length = 3 → i + 1 < (AX pss).length ∧ (kn pss).getD (i + 1) 0 = ps.getD 0 0)
 | p :: r, ps, h23, hm => by
   have et : AX (p :: r) = BL p ++ AX r := rfl
   have er : CF (p :: r) = Si (p.length - 1) (p.getD 1 0) ++ CF r := rfl
   have hp := h23 p RY
   rw [et, er, HE, Ss, Bg]
   rcases S1.mp hm with z | z
   ·subst z
    rcases hp with hp | hp
    ·rw [hp]; exact ⟨0, by lia, rfl, rfl, fun z => by lia⟩
    ·rw [hp]; exact ⟨0, by lia, rfl, rfl, fun _ => ⟨by lia, rfl⟩⟩
   ·obtain ⟨i, h1, h2, h3, h4⟩ := LC (pss := r) (fun q hq => h23 q (RZ _ hq)) z
    rcases hp with hp | hp
    ·rw [hp]; exact ⟨i + 1, by lia, h2, h3, fun z => ⟨by have := (h4 z).1; lia, (h4 z).2⟩⟩
    ·rw [hp]; exact ⟨i + 2, by lia, h2, h3, fun z => ⟨by have := (h4 z).1; lia, (h4 z).2⟩⟩
theorem Fi {pss : List (List Rat)} (h2 : P2 pss) (hnd : (pss.map fun ps => ps.getD 0 0).Nodup) {cs : List Rat} (h : ∀ X, Cv.ev cs X = Bk (kn pss) (BH pss) X) : ∀ ps ∈ pss, Cv.ev cs (ps.getD 0 0) = ps.getD 1 0 := fun ps hm => by
 have hT := NW h2.p23 hnd
 obtain ⟨i, h1, e2, e3, h4⟩ := LC h2.p23 hm
 have e := L2.LO hT (AX pss).length 0 i (by lia) h1
 rw [U4] at e
 rw [h, ML, ← e2, ← e3]; exact e
theorem GR : ∀ {pss : List (List Rat)}, P2 pss → (AX pss).length = pss.length
 | [], _ => rfl
 | p :: r, h => by
   have ih := GR (pss := r) fun ps hp => h ps (RZ _ hp)
   have et : AX (p :: r) = BL p ++ AX r := rfl
   rw [et, Ss, Bg, h p RY, ih, Td]
   lia
theorem FG {pss : List (List Rat)} (h2 : P2 pss) (hnd : (pss.map fun ps => ps.getD 0 0).Nodup) {c d : List Rat} (hc : c.length ≤ (AX pss).length) (hd : d.length ≤ (AX pss).length) (oc : ∀ ps ∈ pss, Cv.ev c (ps.getD 0 0) = ps.getD 1 0) (od : ∀ ps ∈ pss, Cv.ev d (ps.getD 0 0) = ps.getD 1 0) (X : Rat) : Cv.ev c X = Cv.ev d X := by
 rw [GR h2] at hc hd
 have := L2.BR (pss.map fun ps => ps.getD 0 0) (l := L2.Bq c (d.map (· * -1))) hnd (by rw [L2.Bc, Su, Su]; lia) (fun q hq => by
  obtain ⟨ps, hp, rfl⟩ := TR.mp hq
  rw [L2.BC, Cv.ev_scale, oc ps hp, od ps hp]; grind) X
 rw [L2.BC, Cv.ev_scale] at this
 grind
inductive JU (K : RU) (vs : List V) (H : Hp) (Q : VK) (E_3 : XK) : Prop
 | mk (b : Bool) (r rx : Addr) (xs : List V) (qs : List Rat) (x : Rat) (c n : Nat) (h1 : vs = [.ref r, .ref rx]) (h2 : Sq b K H r xs) (h3 : Ap K H xs qs) (h4 : AB K H (.ref rx) x) (h5 : (∀ q ∈ qs, RB c q)) (h6 : RB n x) (h7 : (c + n * qs.length + 4) * (qs.length + 2) ≤ 90000000) (h8 : ∀ p H', Af H H' → H' p = some (nT (Cv.ev qs x)) → RB ((c + n * qs.length + 4) * (qs.length + 1)) (Cv.ev qs x) → Q (.ref p) H') : JU K vs H Q E_3
def ic (ts : List Int) : List Rat := ts.map fun t : Int => (t : Rat)
theorem B0 (ts : List Int) (j : Nat) : (ic ts).getD j 0 = ((ts.getD j 0 : Int) : Rat) := by
 unfold ic
 rw [Tq, Tq, Sn]
 cases ts[j]? with
 | none => rfl
 | some t => rfl
inductive Jr (K : RU) (vs : List V) (H : Hp) (Q : VK) (E_3 : XK) : Prop
 | mk (l rx ry : Addr) (ts : List Int) (x y : Rat) (R m nx ny : Nat) (h1 : vs = [.ref l, .ref rx, .ref ry]) (h2 : SqL K H l (ts.map V.int)) (h3 : ts.length = 2 * R) (h4 : AB K H (.ref rx) x) (h5 : AB K H (.ref ry) y) (h6 : (∀ t ∈ ts, Bd m t)) (h7 : RB nx x) (h8 : RB ny y) (h9 : m + (nx + 1) * (R + 4) + ny ≤ 100000000) (h10 : ∀ (L : Int) (H' : Hp), Af H H' → (L : Rat) = (((y.den : Int) * (x.den : Int) ^ R : Int) : Rat) * (Cv.evI (ts.take R) x - y * Cv.evI (ts.drop R) x) → Bd (m + (nx + 1) * (R + 2) + ny + 1) L → Q (.int L) H') : Jr K vs H Q E_3
def shI (c d : Int) (ts : List Int) : List Int := (RQ ts.length).map fun k => d * (if k = 0 then 0 else ts.getD (k - 1) 0) - c * ts.getD k 0
inductive GY (K : RU) (vs : List V) (H : Hp) (Q : VK) (E_3 : XK) : Prop
 | mk (l rx : Addr) (ts : List Int) (x : Rat) (m n : Nat) (h1 : vs = [.ref l, .ref rx]) (h2 : SqL K H l (ts.map V.int)) (h3 : AB K H (.ref rx) x) (h4 : 1 ≤ ts.length) (h5 : ts.length ≤ 100) (h6 : ts.getD (ts.length - 1) 0 = 0) (h7 : (∀ t ∈ ts, Bd m t)) (h8 : RB n x) (h9 : m + n ≤ 100000000) (h10 : ∀ (p : Addr) (H' : Hp), Af H H' → H' p = some (.lst ((shI x.num x.den ts).map V.int)) → (∀ t ∈ shI x.num x.den ts, Bd (m + n + 1) t) → Q (.ref p) H') : GY K vs H Q E_3
inductive Lp (K : RU) (vs : List V) (H : Hp) (Q : VK) (E_3 : XK) : Prop
 | mk (l : Addr) (ts : List Int) (m : Nat) (h1 : vs = [.ref l]) (h2 : SqL K H l (ts.map V.int)) (h3 : (∃ t ∈ ts, t ≠ 0)) (h4 : ts.length ≤ 100) (h5 : (∀ t ∈ ts, Bd m t)) (h6 : ∀ (p : Addr) (H' : Hp) (g : Int) (us : List Int), Af H H' → H' p = some (.lst (us.map V.int)) → g ≠ 0 → us.length = ts.length → (∀ j, g * us.getD j 0 = ts.getD j 0) → (∀ t ∈ us, Bd m t) → Q (.ref p) H') : Lp K vs H Q E_3
theorem GH {ts : List Int} {j : Nat} (h : j < ts.length) : ts.getD j 0 ∈ ts := by
 rw [Tq, Tx h]; exact Tz h
theorem CB {ts : List Int} {m : Nat} (h : ∀ t ∈ ts, Bd m t) (j : Nat) : Bd m (ts.getD j 0) := by
 rcases Ut j ts.length with z | z
 ·exact h _ (GH z)
 ·rw [Tq, TM z]
  show Bd m 0
  unfold Bd
  exact Nat.pow_pos (by decide)
theorem OA {K : RU} {a b : Addr} {js : List Nat} {xs ys : List V} {te : TE} {σ : St} {H : Hp} {Fin : List V → Hp → Prop} (Pv : Nat → List V → Hp → Prop) (h0 : Pv 0 [] H)
 (hl : ∀ i zs H, i ≤ min xs.length ys.length → Pv i zs H → SqL K H a xs ∧ SqL K H b ys ∧ zs.length = i) (hz : min xs.length ys.length ≤ sizeLine)
 (hs : ∀ i x y T zs H, xs[i]? = some x → ys[i]? = some y → H T = none → Pv i zs H → te (((cS 2 js σ).set 0 (some x)).set 1 (some y)) (upd H T (.tup [x, y])) fun y H4 => Pv (i + 1) (zs ++ [y]) H4) (fin : ∀ zs H', Pv (min xs.length ys.length) zs H' → Fin zs H') :
 ∃ (n' : Nat) (W : Nat → List V → Hp → Prop), W 0 [] H ∧ LcW (Itz K a b xs ys) n' 2 js σ (KS K 2 (FU (Cr 0) (FU (Cr 1) Nr))) Lk te Fin W := by
 refine ⟨min xs.length ys.length, Pv, h0, ⟨?_, ?_, ?_⟩⟩
 ·intro i zs H' hi p
  obtain ⟨h1, h2, h3⟩ := hl i zs H' (RW hi) p
  exact ⟨⟨h1, h2, hi⟩, by lia⟩
 ·rintro i zs H' x H1 hi p ⟨T, x1, y1, hx, hy, hT, rfl, rfl⟩
  exact ⟨T, _, rfl, SqT.of Aa, rfl, x1, _, rfl, y1, _, rfl, rfl, hs i x1 y1 T zs H' hx hy hT p⟩
 ·intro zs H' p
  obtain ⟨h1, h2, h3⟩ := hl _ zs H' (S9 _) p
  exact ⟨⟨h1, h2, S9 _⟩, by lia, fin zs H' p⟩
def Rpr (K : RU) (H : Hp) (v : V) (r : Int) (ts : List Int) : Prop := ∃ p l, v = .ref p ∧ SqT K H p [.int r, .ref l] ∧ SqL K H l (ts.map V.int)
theorem Rpr.same {K : RU} {H H' : Hp} {v : V} {r : Int} {ts : List Int} (h : Rpr K H v r ts) (e : Af H H') : Rpr K H' v r ts := let ⟨p, l, z, h1, h2⟩ := h; ⟨p, l, z, h1.same e, Af.seq e h2⟩
structure PSt (w v : Int) (n R : Nat) (ps : List (Rat × Rat)) (A S : Nat) (r1 : Int) (ts1 : List Int) (r2 : Int) (ts2 : List Int) : Prop where
 inv : D7 w v n ps r1 r2 (ic (ts1.take R)) (ic (ts1.drop R)) (ic (ts2.take R)) (ic (ts2.drop R))
 l1 : ts1.length = 2 * R
 l2 : ts2.length = 2 * R
 z1 : ∀ j, ps.length + 1 ≤ j → j < R → ts1.getD j 0 = 0 ∧ ts1.getD (R + j) 0 = 0
 z2 : ∀ j, ps.length + 1 ≤ j → j < R → ts2.getD j 0 = 0 ∧ ts2.getD (R + j) 0 = 0
 bd : ∃ a1 a2, (∀ t ∈ ts1, Bd a1 t) ∧ (∀ t ∈ ts2, Bd a2 t) ∧ a1 ≤ A ∧ a2 ≤ A ∧ a1 + a2 ≤ S
inductive Js (K : RU) (vs : List V) (H : Hp) (Q : VK) (E_3 : XK) : Prop
 | mk (b rx ry : Addr) (v1 v2 : V) (r1 r2 : Int) (ts1 ts2 : List Int) (w v : Int) (n R : Nat) (ps : List (Rat × Rat)) (A S C nx ny : Nat) (x y : Rat) (h1 : vs = [.ref b, .ref rx, .ref ry]) (h2 : SqT K H b [v1, v2]) (h3 : Rpr K H v1 r1 ts1) (h4 : Rpr K H v2 r2 ts2) (h5 : PSt w v n R ps A S r1 ts1 r2 ts2) (h6 : R = n + 1) (h7 : w + v = n + 1) (h8 : AB K H (.ref rx) x) (h9 : AB K H (.ref ry) y) (h10 : RB nx x) (h11 : RB ny y) (h12 : ((ps ++ [(x, y)]).map Prod.fst).Nodup) (h13 : ps.length < n) (h14 : n ≤ 12) (h15 : (nx + 1) * (R + 2) + ny + 2 ≤ C) (h16 : A + 3 * C ≤ 50000000) (h17 : S + 3 * C ≤ 50000000) (h18 : ∀ (b' : Addr) (H' : Hp) (v1' v2' : V) (r1' r2' : Int) (us1 us2 : List Int), Af H H' → SqT K H' b' [v1', v2'] → Rpr K H' v1' r1' us1 → Rpr K H' v2' r2' us2 → PSt w v n R (ps ++ [(x, y)]) (S + C) (A + S + 2 * C) r1' us1 r2' us2 → Q (.ref b') H') : Js K vs H Q E_3
theorem DW (c d : Int) (ts : List Int) (k : Nat) : (shI c d ts).getD k 0 = if k < ts.length then d * (if k = 0 then 0 else ts.getD (k - 1) 0) - c * ts.getD k 0 else 0 := by
 unfold shI
 rw [Tq, Sn]
 by_cases h : k < ts.length
 ·rw [if_pos h, U9 h]; rfl
 ·rw [if_neg h, TM (by rw [U5]; lia)]; rfl
theorem DN (c d : Int) (ts : List Int) : (shI c d ts).length = ts.length := by unfold shI; rw [Su, U5]
theorem Bl (ts : List Int) (R j : Nat) : (ts.take R).getD j 0 = if j < R then ts.getD j 0 else 0 := by
 rw [Tq, Us, Tq]
 split <;> rfl
theorem Bo (ts : List Int) (R j : Nat) : (ts.drop R).getD j 0 = ts.getD (R + j) 0 := by
 rw [Tq, Ts, Tq]
theorem CJ {ts : List Int} {j : Nat} (h : ts.length ≤ j) : ts.getD j 0 = 0 := by rw [Tq, TM h]; rfl
theorem Fp {c d : Int} {ts : List Int} {R : Nat} (hl : ts.length = 2 * R) (hR : 1 ≤ R) (h1 : ts.getD (R - 1) 0 = 0) : Shf (c : Rat) (d : Rat) (ic (ts.take R)) (ic ((shI c d ts).take R)) := fun j => by
 rw [B0, B0, B0, Bl, Bl, Bl, DW]
 by_cases h : j < R
 ·rw [if_pos h, if_pos (by lia), if_pos h]
  by_cases z : j = 0
  ·rw [if_pos z, if_pos z, T6, T5, T5]; rfl
  ·rw [if_neg z, if_neg z, if_pos (by lia), T6, T5, T5]
 ·rw [if_neg h, if_neg h, if_neg (by lia)]
  by_cases z : j - 1 < R
  ·rw [if_pos z, show j - 1 = R - 1 by lia, h1]
   show (0 : Rat) = (d : Rat) * 0 - (c : Rat) * 0
   grind
  ·rw [if_neg z]
   show (0 : Rat) = (d : Rat) * 0 - (c : Rat) * 0
   grind
theorem Fq {c d : Int} {ts : List Int} {R : Nat} (hl : ts.length = 2 * R) (hR : 1 ≤ R) (h1 : ts.getD (R - 1) 0 = 0) (h2 : ts.getD (R + (R - 1)) 0 = 0) : Shf (c : Rat) (d : Rat) (ic (ts.drop R)) (ic ((shI c d ts).drop R)) := fun j => by
 rw [B0, B0, B0, Bo, Bo, Bo, DW]
 by_cases h : R + j < ts.length
 ·rw [if_pos h, if_neg (by lia)]
  by_cases z : j = 0
  ·subst z
   rw [if_pos rfl, T7, h1, T6, T5, T5]; rfl
  ·rw [if_neg z, show R + j - 1 = R + (j - 1) by lia, T6, T5, T5]
 ·rw [if_neg h, if_neg (by lia), CJ (show ts.length ≤ R + j by lia)]
  by_cases z : j - 1 = R - 1
  ·rw [z, h2]
   show (0 : Rat) = (d : Rat) * 0 - (c : Rat) * 0
   grind
  ·rw [CJ (show ts.length ≤ R + (j - 1) by lia)]
   show (0 : Rat) = (d : Rat) * 0 - (c : Rat) * 0
   grind
theorem Fs {c d : Int} {ts : List Int} {R k : Nat} (z : ∀ j, k + 1 ≤ j → j < R → ts.getD j 0 = 0 ∧ ts.getD (R + j) 0 = 0) : ∀ j, k + 1 + 1 ≤ j → j < R → (shI c d ts).getD j 0 = 0 ∧ (shI c d ts).getD (R + j) 0 = 0 := fun j h1 h2 => by
 have a := z j (by lia) h2
 have b := z (j - 1) (by lia) (by lia)
 constructor
 ·rw [DW]
  by_cases hh : j < ts.length
  ·rw [if_pos hh, if_neg (by lia), a.1, b.1, UB, UB]; rfl
  ·rw [if_neg hh]
 ·rw [DW]
  by_cases hh : R + j < ts.length
  ·rw [if_pos hh, if_neg (by lia), a.2, show R + j - 1 = R + (j - 1) by lia, b.2, UB, UB]; rfl
  ·rw [if_neg hh]
theorem IM {g a b : Int} {t1 t2 us : List Int} (R : Nat) (h : ∀ j, g * us.getD j 0 = a * t2.getD j 0 - b * t1.getD j 0) : Mix (g : Rat) (a : Rat) (b : Rat) (ic (t1.take R)) (ic (t2.take R)) (ic (us.take R)) := fun j => by
 rw [B0, B0, B0, Bl, Bl, Bl]
 split
 ·rw [← T5, h j, T6, T5, T5]
 ·show (g : Rat) * 0 = (a : Rat) * 0 - (b : Rat) * 0
  grind
theorem IP {g a b : Int} {t1 t2 us : List Int} (R : Nat) (h : ∀ j, g * us.getD j 0 = a * t2.getD j 0 - b * t1.getD j 0) : Mix (g : Rat) (a : Rat) (b : Rat) (ic (t1.drop R)) (ic (t2.drop R)) (ic (us.drop R)) := fun j => by
 rw [B0, B0, B0, Bo, Bo, Bo, ← T5, h (R + j), T6, T5, T5]
theorem IK {g a b : Int} {t1 t2 us : List Int} {j : Nat} (hg : g ≠ 0) (h : ∀ j, g * us.getD j 0 = a * t2.getD j 0 - b * t1.getD j 0) (z1 : t1.getD j 0 = 0) (z2 : t2.getD j 0 = 0) : us.getD j 0 = 0 := by
 have := h j
 rw [z1, z2, UB, UB] at this
 rcases Int.mul_eq_zero.mp (show g * us.getD j 0 = 0 from this) with z | z
 ·exact absurd z hg
 ·exact z
theorem Ea {L : Int} {s a : Rat} (hs : s ≠ 0) (h : (L : Rat) = s * a) : L = 0 ↔ a = 0 := by
 constructor
 ·intro z
  rw [z] at h
  rcases Ti.mp (show s * a = 0 from h.symm) with q | q
  ·exact absurd q hs
  ·exact q
 ·intro z
  rw [z, Uq] at h
  exact Rat.intCast_inj.mp (h.trans UH.symm)
theorem MQ {a b : Rat} (h : a - b = 0) : a = b := by grind
theorem IW {L : Int} (h : L ≠ 0) : (L : Rat) ≠ 0 := fun z => h (Rat.intCast_inj.mp (z.trans UH.symm))
def gAS (C : Nat) : Nat → Nat × Nat
 | 0 => (1, 2)
 | k + 1 => ((gAS C k).2 + C, (gAS C k).1 + (gAS C k).2 + 2 * C)
theorem HH (C : Nat) : ∀ k, (gAS C k).1 ≤ (gAS C k).2
 | 0 => by show 1 ≤ 2; decide
 | k + 1 => by show (gAS C k).2 + C ≤ (gAS C k).1 + (gAS C k).2 + 2 * C; lia
theorem Du (C : Nat) {i : Nat} : ∀ {n}, i ≤ n → (gAS C i).2 ≤ (gAS C n).2
 | 0, h => by rw [Nat.le_zero.mp h]; exact S9 _
 | n + 1, h => by
   rcases Ut i (n + 1) with z | z
   ·have := Du C (i := i) (n := n) (by lia)
    show _ ≤ (gAS C n).1 + (gAS C n).2 + 2 * C
    lia
   ·rw [show i = n + 1 by lia]; exact S9 _
theorem N3 : ∀ k : Nat, (Si k [V.int 0]).flatten = (Si k (0 : Int)).map V.int
 | 0 => rfl
 | k + 1 => by rw [SH, SI, N3 k, SH]; rfl
theorem M9 (ts : List Int) : (ts.map fun t => SW t 1) = ic ts := by
 unfold ic
 refine UA fun t _ => ?_
 have e := Rat.num_divInt_den ((t : Int) : Rat)
 rw [UI, UJ] at e
 exact e
def D0 (R : Nat) : List Int := 1 :: Si (2 * R - 1) 0
def BA (R : Nat) : List Int := Si R 0 ++ [1] ++ Si (R - 1) 0
theorem Md (k j : Nat) : (Si k (0 : Int)).getD j 0 = 0 := by
 rw [Tq, Sl]
 split <;> rfl
theorem Cs (R j : Nat) : (D0 R).getD j 0 = if j = 0 then 1 else 0 := by
 cases j with
 | zero => rfl
 | succ j => rw [if_neg (by lia)]; exact Md _ j
theorem C9 (R j : Nat) : (BA R).getD j 0 = if j = R then 1 else 0 := by
 unfold BA
 rw [SJ, Tq]
 rcases Ut j R with z | z
 ·rw [Sm (by rw [Sv]; exact z), if_neg (by lia), Sl, if_pos z]; rfl
 ·rw [Sk (by rw [Sv]; exact z), Sv]
  by_cases e : j = R
  ·rw [if_pos e, show j - R = 0 by lia]; rfl
  ·rw [if_neg e]
   obtain ⟨k, hk⟩ : ∃ k, j - R = k + 1 := ⟨j - R - 1, by lia⟩
   rw [hk, List.singleton_append, Te, Sl]
   split <;> rfl
theorem PV {W n : Nat} (hW : 1 ≤ W) (hWn : W ≤ n) : PUn (W : Int) ((n : Int) + 1 - W) n [] (2 * (1 - (W : Int))) (2 * (1 - ((n : Int) + 1 - W)) + 1) (ic ((D0 (n + 1)).take (n + 1))) (ic ((D0 (n + 1)).drop (n + 1))) (ic ((BA (n + 1)).take (n + 1))) (ic ((BA (n + 1)).drop (n + 1))) := by
 refine ⟨⟨fun j hj => ?_, fun j hj => ?_⟩, .inl ⟨0, by lia, ?_⟩, ⟨fun j hj => ?_, fun j hj => ?_⟩, .inr ⟨0, by lia, ?_⟩, by rw [TN]; lia, (fun _ h => nomatch h), fun _ h => nomatch h⟩
 ·rw [B0, Bl, Cs, if_neg (show ¬ j = 0 by lia)]
  split <;> rfl
 ·rw [B0, Bo, Cs, if_neg (by lia)]; rfl
 ·rw [B0, Bl, Cs, if_pos (by lia), if_pos rfl]; decide
 ·rw [B0, Bl, C9]
  split
  ·rw [if_neg (by lia)]; rfl
  ·rfl
 ·rw [B0, Bo, C9, if_neg (by lia)]; rfl
 ·rw [B0, Bo, C9, if_pos (by lia)]; decide
theorem IZ (R : Nat) : ∀ t ∈ D0 R, Bd 1 t := fun t ht => by
 rcases S1.mp ht with z | z
 ·rw [z]; unfold Bd; decide
 ·rw [UK z]; unfold Bd; decide
theorem Gv (R : Nat) : ∀ t ∈ BA R, Bd 1 t := fun t ht => by
 rcases S2.mp ht with z | z
 ·rcases S2.mp z with z | z
  ·rw [UK z]; unfold Bd; decide
  ·rw [Tw.mp z]; unfold Bd; decide
 ·rw [UK z]; unfold Bd; decide
theorem Ec (n : Nat) : (D0 (n + 1)).length = 2 * (n + 1) := by unfold D0; rw [Td, Sv]; lia
theorem DG (n : Nat) : (BA (n + 1)).length = 2 * (n + 1) := by unfold BA; rw [Ss, Ss, Sv, Sv, SK]; lia
theorem FW (n : Nat) : ∀ j, 0 + 1 ≤ j → j < n + 1 → (D0 (n + 1)).getD j 0 = 0 ∧ (D0 (n + 1)).getD (n + 1 + j) 0 = 0 := fun j h _ => ⟨by rw [Cs, if_neg (by lia)], by rw [Cs, if_neg (by lia)]⟩
theorem EG (n : Nat) : ∀ j, 0 + 1 ≤ j → j < n + 1 → (BA (n + 1)).getD j 0 = 0 ∧ (BA (n + 1)).getD (n + 1 + j) 0 = 0 := fun j h _ => ⟨by rw [C9, if_neg (by lia)], by rw [C9, if_neg (by lia)]⟩
inductive Jo (K : RU) (vs : List V) (H : Hp) (Q : VK) (E_3 : XK) : Prop
 | mk (lp lh : Addr) (zs ys : List V) (qs hs : List Rat) (W n nx ny C : Nat) (h1 : vs = [.ref lp, .ref lh, .int (W : Int)]) (h2 : SqL K H lp zs) (h3 : Ap K H zs qs) (h4 : SqL K H lh ys) (h5 : Ap K H ys hs) (h6 : qs.length = n) (h7 : hs.length = n) (h8 : 1 ≤ n) (h9 : n ≤ 12) (h10 : qs.Nodup) (h11 : 1 ≤ W) (h12 : W ≤ n) (h13 : (∀ c ∈ qs, RB nx c)) (h14 : (∀ c ∈ hs, RB ny c)) (h15 : (nx + 1) * (n + 3) + ny + 2 ≤ C) (h16 : (gAS C n).2 + 3 * C ≤ 50000000) (h17 : ∀ (t pN pD : Addr) (H' : Hp) (r1 r2 : Int) (N D N2 D2 : List Rat), Af H H' → SqT K H' t [.ref pN, .ref pD] → Crv K H' pN (Cv.strip N) → Crv K H' pD (Cv.strip D) → (∀ c ∈ N, Bd ((gAS C n).2 + 1) c.num ∧ Bd 1 (c.den : Int)) → (∀ c ∈ D, Bd ((gAS C n).2 + 1) c.num ∧ Bd 1 (c.den : Int)) → D7 (W : Int) ((n : Int) + 1 - W) n (qs.zip hs) r1 r2 N D N2 D2 → Q (.ref t) H') : Jo K vs H Q E_3
theorem K9 {ts : List Int} {m k : Nat} (h : ∀ t ∈ ts, Bd m t) (hk : m ≤ k) : ∀ c ∈ ic ts, Bd k c.num ∧ Bd 1 (c.den : Int) := fun c hc => by
 obtain ⟨t, ht, rfl⟩ := TR.mp hc
 exact ⟨by rw [UI]; exact (h t ht).mono hk, by rw [UJ]; unfold Bd; decide⟩
def Fv : Str := "rising.<locals>.<lambda>"
def EC (B : Int) (q : Rat) : Int := q.num * B.fdiv (q.den : Int)
theorem K7 {B : Int} {q : Rat} (hd : (q.den : Int) ∣ B) : ((EC B q : Int) : Rat) = q * (B : Rat) := by
 unfold EC
 have hp : (0 : Int) ≤ (q.den : Int) := by lia
 rw [UL _ hp, T5, Nm.num_mul q]
 have e : (q.den : Int) * (B / (q.den : Int)) = B := Int.mul_ediv_cancel' hd
 have e2 : ((q.den : Int) : Rat) * ((B / (q.den : Int) : Int) : Rat) = (B : Rat) := by rw [← T5, e]
 grind
theorem Nn {B : Int} (hB : 0 < B) {p q : Rat} (hp : (p.den : Int) ∣ B) (hq : (q.den : Int) ∣ B) (h : EC B p ≤ EC B q) : p ≤ q := by
 have h' : ((EC B p : Int) : Rat) ≤ ((EC B q : Int) : Rat) := Rat.intCast_le_intCast.mpr h
 rw [K7 hp, K7 hq] at h'
 have hB' : (0 : Rat) < (B : Rat) := by
  have := Rat.intCast_lt_intCast.mpr hB
  rw [UH] at this
  exact this
 by_cases z : p ≤ q
 ·exact z
 ·exfalso
  have z' : q < p := Rat.not_le.mp z
  have := Rat.mul_lt_mul_of_pos_right z' hB'
  grind
theorem Lr {K : RU} {Pt : Addr} {q : Str} {H H' : Hp} {r : Addr} {xs : List V} (h : SqL K H r xs) (c : CN Pt q H) (m : BW Pt H H') : SqL K H' r xs := by
 obtain ⟨ps, e, _⟩ := c
 have ne : ∀ {b : Addr} {o : HO}, H b = some o → (∀ p, o ≠ .tbl p) → b ≠ Pt := fun z n y => by rw [y, e] at z; exact n _ (RL.inj z).symm
 rcases h with (h | ⟨o, h⟩) | h
 ·exact .inl (.inl (m _ _ (ne h fun p z => by cases z) h))
 ·exact .inl (.inr ⟨o, m _ _ (ne h fun p z => by cases z) h⟩)
 ·exact .inr h
theorem Iw {α β : Type} {F : α → β → Prop} {l : List α} {l' : List β} (h : Paired F l l') : Paired (fun b a => F a b) l' l := by
 induction h with
 | nil => exact .nil
 | cons h _ ih => exact .cons h ih
theorem Me {Pt : Addr} {q : Str} {H H' : Hp} {p : Addr} (c : CN Pt q H') (m : BW Pt H H') (h : H' p = none) : H p = none := by
 cases e : H p with
 | none => rfl
 | some o =>
   exfalso
   by_cases z : p = Pt
   ·obtain ⟨ps, e2, _⟩ := c
    rw [z, e2] at h; cases h
   ·rw [m p o z e] at h; cases h
theorem Lu {K : RU} {H : Hp} {B : Int} {xs : List V} {qs : List Rat} (h : Ap K H xs qs) : Paired (fun (z : Int × V) (c : Rat) => z.1 = EC B c ∧ AB K H z.2 c) ((qs.map (EC B)).zip xs) qs := by
 induction h with
 | nil => exact .nil
 | cons h _ ih => exact .cons ⟨rfl, h⟩ ih
theorem Ky {K : RU} {H : Hp} {B : Int} {zs : List (Int × V)} {rs : List Rat} (h : Paired (fun (c : Rat) (z : Int × V) => z.1 = EC B c ∧ AB K H z.2 c) rs zs) : rs.map (EC B) = zs.map Prod.fst ∧ Ap K H (zs.map Prod.snd) rs := by
 induction h with
 | nil => exact ⟨rfl, .nil⟩
 | cons h _ ih => exact ⟨by rw [SO, SO, ih.1, h.1], .cons h.2 ih.2⟩
inductive Jm (K : RU) (Pt : Addr) (vs : List V) (H : Hp) (Q : VK) (E_3 : XK) : Prop
 | mk (l : Addr) (xs : List V) (qs : List Rat) (n : Nat) (h1 : vs = [.ref l]) (h2 : SqL K H l xs) (h3 : Ap K H xs qs) (h4 : (∀ q ∈ qs, RB n q)) (h5 : n ≤ 1000000) (h6 : qs.length ≤ 20) (h7 : CN Pt Fv H) (h8 : ∀ (p : Addr) (H' : Hp) (ys : List V) (rs : List Rat), BW Pt H H' → CN Pt Fv H' → H p = none → H' p = some (.lst ys) → Ap K H' ys rs → rs.Perm qs → rs.Pairwise (· ≤ ·) → Q (.ref p) H') : Jm K Pt vs H Q E_3
inductive Dz (K : RU) (vs : List V) (H : Hp) (Q : VK) (E_3 : XK) : Prop
 | mk (r rx : Addr) (qs : List Rat) (x : Rat) (g d m : Nat) (h1 : vs = [.ref r, .ref rx]) (h2 : Crv K H r qs) (h3 : AB K H (.ref rx) x) (h4 : (∀ q ∈ qs, Bd g q.num ∧ Bd d (q.den : Int))) (h5 : RB m x) (h6 : g + d * (qs.length + 2) + (m + 1) * (qs.length + 4) ≤ 50000000) (h7 : qs.length ≤ 1000) (h8 : ∀ p H', Af H H' → H' p = some (nT (Cv.ev qs x)) → RB (g + d * (qs.length + 2) + (m + 1) * (qs.length + 4)) (Cv.ev qs x) → Q (.ref p) H') : Dz K vs H Q E_3
inductive Fl (K : RU) (vs : List V) (H : Hp) (Q : VK) (E_3 : XK) : Prop
 | mk (l : Addr) (ys : List V) (qs : List Rat) (h1 : vs = [.ref l]) (h2 : SqL K H l ys) (h3 : AE H ys qs) (h4 : qs.Nodup) (h5 : qs.length ≤ 17) (h6 : ∀ H', Af H H' → Q (.bl true) H') : Fl K vs H Q E_3
inductive EY (K : RU) (vs : List V) (H : Hp) (Q : VK) (E_3 : XK) : Prop
 | mk (l : Addr) (few : Int) (ys : List V) (qs : List Rat) (h1 : vs = [.ref l, .int few]) (h2 : SqL K H l ys) (h3 : AE H ys qs) (h4 : qs.Nodup) (h5 : qs.length ≤ 12) (h6 : few ≤ qs.length) (h7 : ∀ H', Af H H' → Q .non H') : EY K vs H Q E_3
section
variable {X : Cx}
inductive JV (x : V) (vs : List V) (H : Hp) (Q : VK) : Prop
 | mk (l : _) (xs : _) (i : _) (k : _) (y : _) (h1 : x = .ref l) (h2 : vs = [.int i, y]) (h3 : i = ((k : Nat) : Int)) (h4 : H l = some (.lst xs)) (h5 : k ≤ xs.length) (h6 : xs.length ≤ 1000) (h7 : Q .non (upd H l (.lst (xs.take k ++ y :: xs.drop k)))) : JV x vs H Q
theorem M7 {i : Int} {k : Nat} (e : i = (k : Int)) (h : k ≤ 1000) : ¬ (!Builtin.List.listFitsIndex i) = true := by
 have e : Builtin.List.listFitsIndex i = true := by
  unfold Builtin.List.listFitsIndex
  rw [decide_eq_true (by lia), decide_eq_true (by lia)]; rfl
 rw [e]; decide
theorem OL (l : List Value) (i : Int) (k : Nat) (hi : i = (k : Int)) (hk : k ≤ l.length) (y : Value) : (fun xs : Array Value => have k := if i < 0 then (i + (xs.size : Int)).toNat else min i.toNat xs.size; (xs.extract 0 k).push y ++ xs.extract k) l.toArray = (l.take k ++ y :: l.drop k).toArray := by
 have e : (if i < 0 then (i + (l.toArray.size : Int)).toNat else min i.toNat l.toArray.size) = k := by
  rw [if_neg (by lia), SE, hi, Sy, Sz hk]
 show (l.toArray.extract 0 _).push y ++ l.toArray.extract _ = _
 rw [e]
 apply Array.toList_inj.mp
 simp
 exact TX (by simp)
theorem KI : MtM X "list.insert" JV := by
 intro pins s σ H x vs v us Q I rx rv h
 obtain ⟨l, xs, i, k, y, rfl, rfl, hi, hH, hk, hz, q⟩ := h
 cases rx
 obtain ⟨u, v', rfl, ru, rv'⟩ := rv.two
 obtain ⟨t, rfl⟩ := ru
 obtain ⟨z, its, n, r, hl, e⟩ := I.lstM hH
 have hk1 : k ≤ 1000 := by lia
 have hsz : its.toArray.size ≤ sizeLine := by rw [SE, ← hl]; exact z
 have M := AutoSeq1.list_insert_list_int_val_1 l its.toArray n i t v' (M7 hi hk1) hsz
 refine call_meets F.slot_list_insert ⟨_, e, rfl⟩ F.entry_list_insert (F.args_list_insert_3 _ _ _) M ⟨e, ?_⟩
 refine ⟨.non, _, I.lset (its' := its.take k ++ v' :: its.drop k) hH e (OL its i k hi (by lia) v') ((r.take k).append (.cons rv' (r.drop k))) ?_, rfl, q⟩
 have hs : 1000 < sizeLine := AF (S9 _)
 rw [Ss, Td, Sj, SD]
 lia
end
inductive Fm (K : RU) (Pt : Addr) (vs : List V) (H : Hp) (Q : VK) (E_3 : XK) : Prop
 | mk (a : Addr) (ns : List Int) (h1 : vs = [.ref a]) (h2 : SqL K H a (ns.map V.int)) (h3 : ns.length ≤ 63) (h4 : H Pt = some (.tbl #[])) (h5 : ∀ H', Q (.bl true) H') : Fm K Pt vs H Q E_3
theorem NG {Pt p : Addr} {ps : Array Value} {H H' : Hp} (e : H Pt = some (.tbl ps)) (pn : Pen H p) (m : Mv p H H') : H' Pt = some (.tbl ps) := m _ _ (pn.ne e fun _ _ _ z => by cases z) e
theorem OQ {Pt : Addr} {q : Str} {H : Hp} (e : H Pt = some (.tbl #[])) : CN Pt q H := ⟨#[], e, trivial, fun pos cv z => by cases z⟩
theorem Gz {Pt : Addr} {q : Str} {H H' : Hp} {xs : List V} {qs : List Rat} (h : AE H xs qs) (c : CN Pt q H) (m : BW Pt H H') : AE H' xs qs := Paired.mapP h fun _ _ ⟨r, e, z⟩ => ⟨r, e, m _ _ (fun y => by
 obtain ⟨ps, e2, _⟩ := c
 rw [y, e2] at z; cases z) z⟩
theorem Oy (k : Int) : nT ((k : Int) : Rat) = .tup [.int k, .int 1] := by
 unfold nT
 rw [UI, UJ]
 rfl
theorem J0 {U qs : List Rat} (gU : Cu U) (hU : U ≠ []) (hn : qs.Nodup) : (qs.filter fun x => decide (Cv.ev U x = 0)).length + 1 ≤ U.length := by
 rcases Ut (qs.filter fun x => decide (Cv.ev U x = 0)).length U.length with z | z
 ·exact z
 ·exfalso
  have := BR (qs.filter fun x => decide (Cv.ev U x = 0)) (l := U) (hn.filter _) z fun q hq => by simpa using (RS.mp hq).2
  exact hU (Eb gU (.inl rfl) fun x => this x)
theorem Ed (f : Rat → Bool) : ∀ qs : List Rat, (qs.filter f).length + (qs.filter fun x => !f x).length = qs.length
 | [] => rfl
 | q :: r => by
   have ih := Ed f r
   cases h : f q with
   | true => rw [UM h, UN (by rw [h]; decide), Td, Td]; lia
   | false => rw [UN (by rw [h]; decide), UM (by rw [h]; rfl), Td, Td]; lia
theorem DE {Pt l : Addr} {q : Str} {H H' : Hp} {zs : List V} (e : H l = some (.lst zs)) (c : CN Pt q H) (m : BW Pt H H') : H' l = some (.lst zs) := by
 obtain ⟨ps, e2, _⟩ := c
 exact m _ _ (fun y => by rw [y, e2] at e; cases e) e
theorem Mc (os : List Rat) : Cu (prL os) := by
 right
 refine ⟨1, ?_, by decide⟩
 have hl := CV os
 have := Iu os
 rw [Tq, Tx (by lia)] at this
 rw [show (prL os).length - 1 = os.length by lia, Tx (by lia)]
 exact congrArg some this
theorem Ij {L : List Rat} {a : Nat} (h : ∀ j, a ≤ j → L.getD j 0 = 0) : (Cv.strip L).length ≤ a := by
 rcases Ut a (Cv.strip L).length with z | z
 ·exfalso
  have hne : Cv.strip L ≠ [] := fun e => by rw [e] at z; cases z
  have hl := Cv.strip_last L hne
  have hc := J3 (l := Cv.strip L) (m := L) (fun k => Cv.ev_strip _ L) ((Cv.strip L).length - 1)
  rw [h _ (by lia), Tq, Tx (by lia)] at hc
  exact hl (by rw [Tx (by lia)]; exact congrArg some hc)
 ·exact z
inductive Fo (K : RU) (vs : List V) (H : Hp) (Q : VK) (E_3 : XK) : Prop
 | mk (lp lh : Addr) (zs ys : List V) (qs : List Rat) (h1 : vs = [.ref lp, .ref lh]) (h2 : SqL K H lp zs) (h3 : AE H zs qs) (h4 : qs.Nodup) (h5 : 1 ≤ qs.length) (h6 : qs.length ≤ 12) (h7 : SqL K H lh ys) (h8 : ys.length = zs.length) (h9 : ∀ H', Af H H' → Q .non H') : Fo K vs H Q E_3
theorem MG {n : Nat} {qs hs : List Rat} (hql : qs.length = n) (hhl : hs.length = n) {i : Nat} (h : i < n) : (qs[i]'(by lia), hs[i]'(by lia)) ∈ qs.zip hs := by
 have : (qs.zip hs)[i]'(by rw [Uv]; lia) = (qs[i]'(by lia), hs[i]'(by lia)) := List.getElem_zip ..
 rw [← this]; exact Tz _
theorem FX (x : Rat) : ∀ rs : List Rat, rs.Pairwise (· ≤ ·) → (∀ y ∈ rs.take (rs.filter fun y => decide (y < x)).length, y < x) ∧ ∀ y ∈ rs.drop (rs.filter fun y => decide (y < x)).length, x ≤ y
 | [], _ => ⟨(fun _ h => nomatch h), (fun _ h => nomatch h)⟩
 | a :: r, h => by
   have hp := List.pairwise_cons.mp h
   by_cases z : a < x
   ·have ih := FX x r hp.2
    rw [UM (p := fun y => decide (y < x)) (by exact decide_eq_true z), Td, List.take_succ_cons, List.drop_succ_cons]
    refine ⟨fun y hy => ?_, ih.2⟩
    rcases S1.mp hy with w | w
    ·rw [w]; exact z
    ·exact ih.1 y w
   ·have hx : x ≤ a := Rat.not_lt.mp z
    have e : (a :: r).filter (fun y => decide (y < x)) = [] := by
     rw [UO]
     intro y hy w
     have hay : a ≤ y := by
      rcases S1.mp hy with v | v
      ·rw [v]; exact Rat.le_refl
      ·exact hp.1 y v
     exact Rat.not_lt.mpr (UD hx hay) (of_decide_eq_true w)
    rw [e]
    refine ⟨(fun _ h => nomatch h), fun y hy => ?_⟩
    rcases S1.mp hy with v | v
    ·rw [v]; exact hx
    ·exact UD hx (hp.1 y v)
theorem JJ {x : Rat} {rs : List Rat} {k : Nat} (h : rs.Pairwise (· ≤ ·)) (hk : k = (rs.filter fun y => decide (y < x)).length) : (rs.take k ++ x :: rs.drop k).Pairwise (· ≤ ·) := by
 subst hk
 obtain ⟨c1, c2⟩ := FX x rs h
 refine Ux.mpr ⟨h.take, List.pairwise_cons.mpr ⟨c2, h.drop⟩, fun a ha b hb => ?_⟩
 have h1 := c1 a ha
 rcases S1.mp hb with z | z
 ·rw [z]; exact Rat.le_of_lt h1
 ·exact UD (Rat.le_of_lt h1) (c2 b z)
theorem M6 {x : Rat} {rs : List Rat} {k : Nat} : (rs.take k ++ x :: rs.drop k).Perm (x :: rs) := by
 have := List.perm_middle (a := x) (l₁ := rs.take k) (l₂ := rs.drop k)
 rwa [List.take_append_drop] at this
theorem N0 {l m : List Rat} (h1 : l.Pairwise (· ≤ ·)) (h2 : m.Pairwise (· ≤ ·)) (h : l.Perm m) : l = m := List.Perm.eq_of_pairwise (fun _ _ _ _ a b => Rat.le_antisymm a b) h1 h2 h
theorem LP {x y : Rat} : decide ((y - x).num < 0) = decide (y < x) := by
 by_cases z : y < x
 ·rw [decide_eq_true z, decide_eq_true]
  rcases Int.lt_or_le (y - x).num 0 with w | w
  ·exact w
  ·have h := Rat.num_nonneg.mp w
   exfalso
   have h2 := (Rat.lt_iff_sub_pos _ _).mp z
   have : (0 : Rat) < 0 := by
    have e : x - y = -(y - x) := by grind
    grind
   exact absurd this (Rat.lt_irrefl)
 ·rw [decide_eq_false z, decide_eq_false]
  intro w
  have h := Rat.not_lt.mp z
  have : 0 ≤ y - x := by grind
  have := Rat.num_nonneg.mpr this
  lia
theorem N5 {K : RU} {H : Hp} {us zs ys : List V} {qs hs : List Rat} (hp : Paired (Nz H) us (zs.zip ys)) (hz : AE H zs qs) (hy : Ap K H ys hs) : Cg K H us ((qs.zip hs).map fun p => [p.1, p.2]) := by
 have l1 := hp.length
 have l2 := hz.length
 have l3 := hy.length
 refine DB (by rw [l1, Su, Uv, Uv, l2, l3]) fun j v ps hv hps => ?_
 obtain ⟨pr, hpr, tt, rfl, ht⟩ := Paired.get hp hv
 obtain ⟨hz1, hy1⟩ := Uz.mp hpr
 obtain ⟨x, hx, rx, er, hrx⟩ := Paired.get hz hz1
 obtain ⟨y, hy2, hny⟩ := Paired.get hy hy1
 rw [Sn, (Uz (z := (x, y))).mpr ⟨hx, hy2⟩] at hps
 cases hps
 exact ⟨tt, _, rx, rfl, SqT.of ht, .cons ⟨rx, er, SqT.of hrx⟩ (.cons hny .nil), by rw [er]; rfl, hrx⟩
theorem JT : ∀ l : List (Rat × Rat), (AX (l.map fun p => [p.1, p.2])).length = l.length
 | [] => rfl
 | a :: r => by
   have := JT r
   show ((BL [a.1, a.2]) ++ AX (r.map fun p => [p.1, p.2])).length = r.length + 1
   rw [Ss, this]
   show 1 + r.length = _
   lia
theorem atV {xs : List V} {i : Nat} {x : V} {k : Int} (h : xs[i]? = some x) (e : k = (i : Int)) : atI xs k = some x := by subst e; exact AW h
def bad (c : List Rat) (p : Rat × Rat) : Bool := !decide (Cv.ev c p.1 = p.2)
def AV (qs hs c : List Rat) : List Rat := ((qs.zip hs).filter (bad c)).map Prod.fst
theorem Kl (c : List Rat) (v : Rat) : ∀ (qs hs : List Rat) (s : Nat), ((qs.zip (hs.set s v)).filter (bad c)).length ≤ ((qs.zip hs).filter (bad c)).length + 1
 | [], _, _ => Sb _
 | q :: qs, [], s => by rw [List.set_nil]; exact Tu _
 | q :: qs, h :: hs, 0 => by
   show (((q, v) :: qs.zip hs).filter (bad c)).length ≤ (((q, h) :: qs.zip hs).filter (bad c)).length + 1
   rw [UP, UP]
   split <;> split <;> (try simp only [Td]) <;> lia
 | q :: qs, h :: hs, s + 1 => by
   have ih := Kl c v qs hs s
   show (((q, h) :: qs.zip (hs.set s v)).filter (bad c)).length ≤ (((q, h) :: qs.zip hs).filter (bad c)).length + 1
   rw [UP, UP]
   split <;> (try simp only [Td]) <;> lia
theorem J7 (c : List Rat) : ∀ qs : List Rat, (qs.zip (qs.map fun x => Cv.ev c x)).filter (bad c) = []
 | [] => rfl
 | q :: qs => by
   have ih := J7 c qs
   show ((q, Cv.ev c q) :: qs.zip (qs.map fun x => Cv.ev c x)).filter (bad c) = []
   rw [UN (by unfold bad; rw [decide_eq_true rfl]; decide)]
   exact ih
theorem FO {qs hs c : List Rat} : (AV qs hs c).length = ((qs.zip hs).filter (bad c)).length := by unfold AV; rw [Su]
theorem LF {x : Rat} {S : List Rat} (h : x ∈ S) : prV x S = 0 := by
 induction S with
 | nil => cases h
 | cons a r ih =>
   show (x - a) * prV x r = 0
   rcases S1.mp h with z | z
   ·rw [z, Rat.sub_self, Ur]
   ·rw [ih z, Uq]
inductive El (K : RU) (vs : List V) (H : Hp) (Q : VK) (E_3 : XK) : Prop
 | mk (a l c : Addr) (k : Nat) (zs : List V) (qs cs : List Rat) (mc nx : Nat) (h1 : vs = [.ref a, .ref l, .ref c, .int (k : Int)]) (h2 : Pen H a) (h3 : l ≠ a) (h4 : H l = some (.lst zs)) (h5 : Ap K H zs qs) (h6 : Crv K H c cs) (h7 : 1 ≤ qs.length) (h8 : qs.length ≤ 12) (h9 : cs.length ≤ 12) (h10 : (∀ q ∈ qs, RB nx q)) (h11 : (∀ q ∈ cs, RB mc q)) (h12 : mc ≤ 100000) (h13 : nx ≤ 100) (h14 : k ≤ 12) (h15 : ∀ (lh : Addr) (H' : Hp) (ys : List V) (hs : List Rat), Mv a H H' → Pen H' a → H lh = none → lh ≠ a → H' lh = some (.lst ys) → Ap K H' ys hs → hs.length = qs.length → ((qs.zip hs).filter (bad cs)).length ≤ k → (∀ y ∈ hs, RB ((mc + nx * cs.length + 4) * (cs.length + 2) + 9 * k) y) → Q (.ref lh) H') : El K vs H Q E_3
inductive GZ (K : RU) (vs : List V) (H : Hp) (Q : VK) (E_3 : XK) : Prop
 | mk (l lh c : Addr) (zs ys : List V) (qs hs cs : List Rat) (mc nx : Nat) (h1 : vs = [.ref l, .ref lh, .ref c]) (h2 : SqL K H l zs) (h3 : Ap K H zs qs) (h4 : SqL K H lh ys) (h5 : Ap K H ys hs) (h6 : Crv K H c cs) (h7 : hs.length = qs.length) (h8 : qs.length ≤ 12) (h9 : cs.length ≤ 12) (h10 : (∀ q ∈ qs, RB nx q)) (h11 : (∀ q ∈ cs, RB mc q)) (h12 : (mc + nx * cs.length + 4) * (cs.length + 2) ≤ 90000000) (h13 : nx ≤ 100) (h14 : ∀ p us rs H', Af H H' → H p = none → H' p = some (.lst us) → Ap K H' us rs → rs.Perm (AV qs hs cs) → rs.Pairwise (· ≤ ·) → Q (.ref p) H') : GZ K vs H Q E_3
theorem OB {K : RU} {a : Addr} {js : List Nat} {xs : List V} {tc : TT} {te : TE} {σ : St} {H : Hp} {Fin : List V → Hp → Prop} (Pv : Nat → List V → Hp → Prop) (h0 : Pv 0 [] H)
 (hl : ∀ i zs H, i ≤ xs.length → Pv i zs H → SqL K H a xs ∧ zs.length ≤ i) (hz : xs.length ≤ sizeLine)
 (hs : ∀ i v zs H, xs[i]? = some v → Pv i zs H → ∃ t x y, v = .ref t ∧ SqT K H t [x, y] ∧ tc (((cS 2 js σ).set 0 (some x)).set 1 (some y)) H fun b H3 => if b = true then te (((cS 2 js σ).set 0 (some x)).set 1 (some y)) H3 fun y H4 => Pv (i + 1) (zs ++ [y]) H4 else Pv (i + 1) zs H3) (fin : ∀ zs H', Pv xs.length zs H' → Fin zs H') :
 ∃ (n' : Nat) (W : Nat → List V → Hp → Prop), W 0 [] H ∧ LcW (Itl K a) n' 2 js σ (KS K 2 (FU (Cr 0) (FU (Cr 1) Nr))) tc te Fin W := by
 refine ⟨xs.length, Pv, h0, ⟨?_, ?_, ?_⟩⟩
 ·intro i zs H' hi p
  obtain ⟨h1, h2⟩ := hl i zs H' (RW hi) p
  exact ⟨⟨xs, xs[i], h1, by simp [hi]⟩, by lia⟩
 ·rintro i zs H' x H1 hi p ⟨rfl, y⟩
  have hx := y xs (hl i zs _ (RW hi) p).1
  obtain ⟨t, u, v, rfl, hsq, h⟩ := hs i x zs _ hx p
  exact ⟨t, _, rfl, hsq, rfl, _, _, rfl, _, _, rfl, rfl, h⟩
 ·intro zs H' p
  obtain ⟨h1, h2⟩ := hl _ zs H' (S9 _) p
  exact ⟨⟨xs, h1, S9 _⟩, by lia, fin zs H' p⟩
def r13 : Rat := ⟨1, 3, by decide, by decide⟩
theorem Ox : nT r13 = .tup [.int 1, .int 3] := rfl
theorem O3 : RB 8 r13 := ⟨by unfold Bd; decide, by unfold Bd; decide⟩
theorem GB {qs hs c : List Rat} {i : Nat} {x y : Rat} (hl : hs.length = qs.length) (hx : qs[i]? = some x) (hy : hs[i]? = some y) : AV (qs.take (i + 1)) (hs.take (i + 1)) c = AV (qs.take i) (hs.take i) c ++ if Cv.ev c x = y then [] else [x] := by
 unfold AV
 rw [Tf, Tf, hx, hy, List.zip_append (by rw [Sj, Sj]; lia), UQ, Tg]
 congr 1
 show (([(x, y)] : List (Rat × Rat)).filter (bad c)).map Prod.fst = _
 by_cases z : Cv.ev c x = y
 ·rw [if_pos z, UN (by unfold bad; rw [decide_eq_true z]; decide)]; rfl
 ·rw [if_neg z, UM (by unfold bad; rw [decide_eq_false z]; rfl)]; rfl
theorem IT {qs hs c : List Rat} {x : Rat} (h : x ∈ AV qs hs c) : x ∈ qs := by
 unfold AV at h
 obtain ⟨pr, hpr, rfl⟩ := TR.mp h
 exact (Sh (show (pr.1, pr.2) ∈ qs.zip hs from (RS.mp hpr).1)).1
theorem M5 {n : Nat} {k : Int} (h : Bd n k) (h1 : 1 ≤ n) : RB n ((k : Int) : Rat) := ⟨by rw [UI]; exact h, by rw [UJ]; exact (show Bd 1 1 by unfold Bd; decide).mono h1⟩
structure Cs7 (K : RU) (p l rc : Addr) (zs : List V) (qs cs : List Rat) (G : Hp) : Prop where
 pen : Pen G p
 lp : l ≠ p
 el : G l = some (.lst zs)
 nz : AE G zs qs
 cc : Crv K G rc cs
theorem Q5 {K : RU} {H : Hp} {a b a1 b1 l1 l2 : Addr} {w : Str} {us vs : List V} {os ls : List Rat} {Q : VK} {neg : Bool} (hw : PyData.strOk w = true) (h1 : SqT K H a [.str w, .ref a1, .ref l1]) (c1 : Crv K H a1 os) (s1 : SqL K H l1 us) (n1 : Ap K H us ls) (h2 : SqT K H b [.str w, .ref b1, .ref l2]) (d1 : Crv K H b1 os) (s2 : SqL K H l2 vs) (n2 : Ap K H vs ls)
 (h : Q (.bl (if neg then !true else true)) H) : EN K neg (.ref a) (.ref b) H Q := by
 have rd : ∀ {p1 p3 : Addr} {us : List V}, Crv K H p1 os → SqL K H p3 us → Ap K H us ls → ∀ (i : Nat) (x : V) (d : PyData), [V.str w, V.ref p1, V.ref p3][i]? = some x → ([.str w, .tuple (os.map nD), .list (ls.map nD)] : List PyData)[i]? = some d → Rds K H x d := by
  rintro p1 p3 us ⟨xs, s, n⟩ s3 n3 i x d e1 e2
  match i with
  | 0 => simp at e1 e2; subst e1; subst e2; exact .str w
  | 1 => simp at e1 e2; subst e1; subst e2; exact n.rdsT s
  | 2 => simp at e1 e2; subst e1; subst e2; exact n3.rdsL s3
  | i + 3 => simp at e1
 have sh : SeqAt.shaped (.tuple [.str w, .tuple (os.map nD), .list (ls.map nD)]) = true := by
  show ((PyData.strOk w && (PyData.canLayAll0 (os.map nD) && (PyData.canLayAll0 (ls.map nD) && true))) && decide (max 0 (max (PyData.depthAll (os.map nD) + 1) (max (PyData.depthAll (ls.map nD) + 1) 0)) + 1 ≤ 64)) = true
  have h1 := Co os
  have h3 := Co ls
  rw [hw, DC, DC, decide_eq_true (by lia)]; rfl
 refine HK ⟨_, _, .tup h1 rfl (rd c1 s1 n1), .tup h2 rfl (rd d1 s2 n2), sh, sh, ?_⟩
 have e : PyData.eqv (.tuple [.str w, .tuple (os.map nD), .list (ls.map nD)]) (.tuple [.str w, .tuple (os.map nD), .list (ls.map nD)]) = true := by
  show (PyData.eqv (.str w) (.str w) && (PyData.eqvAll (os.map nD) (os.map nD) && (PyData.eqvAll (ls.map nD) (ls.map nD) && true))) = true
  rw [DD, DD, decide_eq_true rfl, decide_eq_true rfl]
  show ((w == w) && true) = true
  rw [beq_self_eq_true]; rfl
 rw [e]; exact h
structure Lp7 (K : RU) (Pt l1 l2 lg lh td lm rc : Addr) (zs ys us : List V) (qs hs rs : List Rat) (G : Hp) : Prop where
 eh : G lh = some (.lst ys)
 ny : Ap K G ys hs
 td : SqT K G td [.str "one", .ref rc, .ref lm]
 em : G lm = some (.lst us)
 nm : Ap K G us rs
 eg : G lg = some (.lst [.ref l1, .ref l2])
 e1 : G l1 = some (.lst zs)
 e2 : G l2 = some (.lst ys)
 ct : CN Pt Fv G
inductive Fn (K : RU) (Pt : Addr) (vs : List V) (H : Hp) (Q : VK) (E_3 : XK) : Prop
 | mk (lp lh : Addr) (zs ys : List V) (qs hs : List Rat) (W e n nx ny mc C : Nat) (h1 : vs = [.ref lp, .ref lh, .int (W : Int), .int (e : Int)]) (h2 : SqL K H lp zs) (h3 : AE H zs qs) (h4 : SqL K H lh ys) (h5 : Ap K H ys hs) (h6 : qs.length = n) (h7 : hs.length = n) (h8 : n ≤ 12) (h9 : qs.Nodup) (h10 : 1 ≤ W) (h11 : W ≤ 8) (h12 : 2 * e + W ≤ n) (h13 : (∀ x ∈ qs, RB nx x)) (h14 : (∀ y ∈ hs, RB ny y)) (h15 : 1 ≤ nx) (h16 : nx ≤ 40) (h17 : nx ≤ ny) (h18 : ny ≤ 7000) (h19 : (nx + 1) * (n + 3) + ny + 2 ≤ C) (h20 : (gAS C n).2 + 3 * C ≤ 2000000) (h21 : CN Pt Fv H) (h22 : 26 * (128 * (ny + 2 * nx + 2)) + 300 ≤ mc) (h23 : mc * (W + 4) ≤ 49000000) (h24 : (∀ (t pc lw : Addr) (H' : Hp) (us : List V) (rs c : List Rat), BW Pt H H' → CN Pt Fv H' → SqT K H' t [.str "one", .ref pc, .ref lw] → Crv K H' pc c → Cu c → c.length ≤ W → (∀ x ∈ c, RB mc x) → H lw = none → H' lw = some (.lst us) → Ap K H' us rs → rs.Perm (AV qs hs c) → rs.Pairwise (· ≤ ·) → (AV qs hs c).length ≤ e → Q (.ref t) H')) (h25 : (∀ (t pD pN : Addr) (H' : Hp) (N D c : List Rat), BW Pt H H' → CN Pt Fv H' → SqT K H' t [.str "none", .ref pD, .ref pN] → Crv K H' pD D → Crv K H' pN N → Cu D → Cu N → D ≠ [] → D.length ≤ e + 1 → N.length ≤ e + W → (∀ x ∈ D, Bd ((gAS C (2 * e + W)).2 + 1) x.num ∧ Bd 1 (x.den : Int)) → (∀ x ∈ N, Bd ((gAS C (2 * e + W)).2 + 1) x.num ∧ Bd 1 (x.den : Int)) → (∀ i (h : i < 2 * e + W) (h1 : i < qs.length) (h2 : i < hs.length), Cv.ev N qs[i] = hs[i] * Cv.ev D qs[i]) → e < (AV qs hs c).length → (∀ f : List Rat, f.length ≤ W → (∀ x, Cv.ev N x = Cv.ev f x * Cv.ev D x) → ∀ x, Cv.ev f x = Cv.ev c x) → Q (.ref t) H')) : Fn K Pt vs H Q E_3
theorem JD {qs hs c d : List Rat} (h : ∀ x, Cv.ev c x = Cv.ev d x) : AV qs hs c = AV qs hs d := by
 unfold AV
 congr 2
 funext p
 unfold bad
 rw [h]
structure S8 (K : RU) (Pt p l : Addr) (zs : List V) (qs : List Rat) (G : Hp) : Prop where
 pen : Pen G p
 lp : l ≠ p
 el : G l = some (.lst zs)
 nz : AE G zs qs
 tb : G Pt = some (.tbl #[])
theorem S8.mv {K : RU} {Pt p l : Addr} {zs : List V} {qs : List Rat} {G G' : Hp} (h : S8 K Pt p l zs qs G) (m : Mv p G G') (pn : Pen G' p) : S8 K Pt p l zs qs G' := ⟨pn, h.lp, m _ _ h.lp h.el, AE.mv h.nz h.pen m, NG h.tb h.pen m⟩
theorem S8.same {K : RU} {Pt p l : Addr} {zs : List V} {qs : List Rat} {G G' : Hp} (h : S8 K Pt p l zs qs G) (s : Af G G') : S8 K Pt p l zs qs G' := ⟨h.pen.sm s, h.lp, s _ _ h.el, AE.same h.nz s, s _ _ h.tb⟩
structure H8s (K : RU) (p lh : Addr) (ys : List V) (hs : List Rat) (n ny : Nat) (G : Hp) : Prop where
 hp : lh ≠ p
 eh : G lh = some (.lst ys)
 nh : Ap K G ys hs
 len : hs.length = n
 rb : ∀ y ∈ hs, RB ny y
theorem H8s.mv {K : RU} {p lh : Addr} {ys : List V} {hs : List Rat} {n ny : Nat} {G G' : Hp} (h : H8s K p lh ys hs n ny G) (pn : Pen G p) (m : Mv p G G') : H8s K p lh ys hs n ny G' := ⟨h.hp, m _ _ h.hp h.eh, Ap.mv h.nh pn m, h.len, h.rb⟩
theorem H8s.same {K : RU} {p lh : Addr} {ys : List V} {hs : List Rat} {n ny : Nat} {G G' : Hp} (h : H8s K p lh ys hs n ny G) (s : Af G G') : H8s K p lh ys hs n ny G' := ⟨h.hp, s _ _ h.eh, Ap.same h.nh s, h.len, h.rb⟩
theorem Er {s BY : TS} {D : CM} {σ : St} {H : Hp} (Pv : St → Hp → Prop) (h : ∀ nx : St → Hp → Prop, (∀ σ' H', Pv σ' H' → nx σ' H') → s { D with nx := nx } σ H) (k : ∀ σ' H', Pv σ' H' → BY D σ' H') : MN s BY D σ H := h _ k
def chs (s : Nat) : Nat → List (List Nat)
 | 0 => [[]]
 | k + 1 => chs s k ++ ((chs s k).filter fun ks => decide (ks.length < s)).map (· ++ [k])
theorem HQ (s : Nat) : ∀ k, (chs s k).length ≤ 2 ^ k
 | 0 => S9 _
 | k + 1 => by
   have := HQ s k
   show (chs s k ++ ((chs s k).filter fun ks => decide (ks.length < s)).map (· ++ [k])).length ≤ 2 ^ (k + 1)
   rw [Ss, Su, TF]
   have h2 := UR (fun ks : List Nat => decide (ks.length < s)) (chs s k)
   lia
theorem HP (s : Nat) : ∀ k, ∀ ks ∈ chs s k, ks.Pairwise (· < ·) ∧ (∀ i ∈ ks, i < k)
 | 0, ks, h => by rw [Tw.mp h]; exact ⟨.nil, (fun _ h => nomatch h)⟩
 | k + 1, ks, h => by
   rcases S2.mp h with z | z
   ·obtain ⟨a, b⟩ := HP s k ks z
    exact ⟨a, fun i hi => Tv (b i hi)⟩
   ·obtain ⟨js, hj, rfl⟩ := TR.mp z
    obtain ⟨hm, hl⟩ := RS.mp hj
    obtain ⟨a, b⟩ := HP s k js hm
    refine ⟨Ux.mpr ⟨a, Uy _ _, fun x hx y hy => by rw [Tw.mp hy]; exact b x hx⟩, fun i hi => ?_⟩
    rcases S2.mp hi with w | w
    ·exact Tv (b i w)
    ·rw [Tw.mp w]; exact Tt _
theorem HR (s : Nat) : ∀ k (ks : List Nat), ks.Pairwise (· < ·) → (∀ i ∈ ks, i < k) → ks.length ≤ s → ks ∈ chs s k
 | 0, ks, _, h, _ => by
   have : ks = [] := US.mpr fun i hi => absurd (h i hi) (Nat.not_lt_zero _)
   rw [this]; exact Tw.mpr rfl
 | k + 1, ks, hp, h, hl => by
   by_cases hk : k ∈ ks
   ·rcases List.eq_nil_or_concat ks with z | ⟨js, j, z⟩
    ·rw [z] at hk; cases hk
    ·rw [List.concat_eq_append] at z
     subst z
     have hp' := Ux.mp hp
     have hj : j = k := by
      rcases S2.mp hk with w | w
      ·have h1 := hp'.2.2 k w j (Tw.mpr rfl)
       have h2 := h j (Sa _ (Tw.mpr rfl))
       lia
      ·exact (Tw.mp w).symm
     subst hj
     rw [Ss, SK] at hl
     exact Sa _ (TR.mpr ⟨js, RS.mpr ⟨HR s j js hp'.1 (fun i hi => hp'.2.2 i hi j (Tw.mpr rfl)) (by lia), decide_eq_true (by lia)⟩, rfl⟩)
   ·exact S3 _ (HR s k ks hp (fun i hi => by have := h i hi; have : i ≠ k := fun z => hk (z ▸ hi); lia) hl)
def kV' (ks : List Nat) : List V := ks.map fun k : Nat => V.int (k : Int)
def IL (H : Hp) (v : V) (ks : List Nat) : Prop := ∃ a, v = .ref a ∧ H a = some (.lst (kV' ks))
theorem IL.same {H H' : Hp} {v : V} {ks : List Nat} (h : IL H v ks) (s : Af H H') : IL H' v ks := let ⟨a, e, z⟩ := h; ⟨a, e, s _ _ z⟩
theorem JI (ks : List Nat) : (kV' ks).length = ks.length := by unfold kV'; rw [Su]
inductive Ep (K : RU) (vs : List V) (H : Hp) (Q : VK) (E_3 : XK) : Prop
 | mk (n s : Nat) (h1 : vs = [.int (n : Int), .int (s : Int)]) (h2 : n ≤ 6) (h3 : s ≤ 6) (h4 : ∀ l us H', Af H H' → H l = none → H' l = some (.lst us) → Paired (IL H') us ((chs s n).filter fun ks => decide (ks.length = s)) → us.length ≤ 64 → Q (.ref l) H') : Ep K vs H Q E_3
theorem Kq {n : Nat} {qs hs : List Rat} (hql : qs.length = n) (hhl : hs.length = n) : qs.zip hs = (RQ n).map fun i => (qs.getD i 0, hs.getD i 0) := by
 refine List.ext_getElem (by rw [Uv, Su, U5]; lia) fun i h1 h2 => ?_
 rw [Uv] at h1
 rw [List.getElem_zip, List.getElem_map, List.getElem_range, Tq, Tq, Tx (by lia), Tx (by lia)]; rfl
theorem ED {α : Type} (f : α → Bool) : ∀ l : List α, (l.filter f).length + (l.filter fun x => !f x).length = l.length
 | [] => rfl
 | q :: r => by
   have ih := ED f r
   cases h : f q with
   | true => rw [UM h, UN (by rw [h]; decide), Td, Td]; lia
   | false => rw [UN (by rw [h]; decide), UM (by rw [h]; rfl), Td, Td]; lia
theorem IY {α : Type} (f g : α → Bool) : ∀ l : List α, l.length ≤ (l.filter fun x => f x && g x).length + (l.filter fun x => !f x).length + (l.filter fun x => !g x).length
 | [] => Sb _
 | q :: r => by
   have ih := IY f g r
   cases h : f q <;> cases k : g q <;> simp only [UP, h, k, Bool.and_true, Bool.and_false, Bool.not_true, Bool.not_false, if_true, Bool.false_eq_true, if_false, Td] <;> lia
def onI (qs hs f : List Rat) (i : Nat) : Bool := decide (Cv.ev f (qs.getD i 0) = hs.getD i 0)
theorem C7 {n : Nat} {qs hs f : List Rat} (hql : qs.length = n) (hhl : hs.length = n) : (AV qs hs f).length = ((RQ n).filter fun i => !onI qs hs f i).length := by
 rw [FO, Kq hql hhl, List.filter_map, Su]
 rfl
theorem HB {n : Nat} {qs : List Rat} (hql : qs.length = n) (hnd : qs.Nodup) {ks : List Nat} (hp : ks.Pairwise (· < ·)) (hk : ∀ i ∈ ks, i < n) : (ks.map fun i => qs.getD i 0).Nodup := by
 refine Uw.mpr (hp.imp_of_mem fun {a b} ha hb hab e => ?_)
 have h1 := hk a ha
 have h2 := hk b hb
 rw [Tq, Tq, Tx (by lia), Tx (by lia)] at e
 exact (List.pairwise_iff_getElem.mp hnd) a b (by lia) (by lia) hab e
theorem Hi (f : Nat → Bool) (n : Nat) : ((RQ n).filter f).Pairwise (· < ·) ∧ ∀ i ∈ (RQ n).filter f, i < n := ⟨List.pairwise_lt_range.filter _, fun i hi => RT.mp (RS.mp hi).1⟩
theorem Nb {n e W : Nat} {qs hs f : List Rat} (hql : qs.length = n) (hhl : hs.length = n) (hm : (AV qs hs f).length ≤ e) (he : e + W ≤ n) : ∃ ks : List Nat, ks.Pairwise (· < ·) ∧ (∀ i ∈ ks, i < n) ∧ ks.length = W ∧ ∀ i ∈ ks, Cv.ev f (qs.getD i 0) = hs.getD i 0 := by
 have h1 := ED (onI qs hs f) (RQ n)
 rw [← C7 hql hhl, U5] at h1
 obtain ⟨r1, r2⟩ := Hi (onI qs hs f) n
 refine ⟨((RQ n).filter (onI qs hs f)).take W, r1.take, fun i hi => r2 i (UC hi), by rw [Sj]; lia, fun i hi => ?_⟩
 exact of_decide_eq_true (RS.mp (UC hi)).2
theorem LS {n e W : Nat} {qs hs f g : List Rat} (hql : qs.length = n) (hhl : hs.length = n) (hnd : qs.Nodup) (hf : f.length ≤ W) (hg : g.length ≤ W) (mf : (AV qs hs f).length ≤ e) (mg : (AV qs hs g).length ≤ e) (he : 2 * e + W ≤ n) : ∀ x, Cv.ev f x = Cv.ev g x := fun x => by
 have h1 := IY (onI qs hs f) (onI qs hs g) (RQ n)
 rw [← C7 hql hhl, ← C7 hql hhl, U5] at h1
 obtain ⟨r1, r2⟩ := Hi (fun i => onI qs hs f i && onI qs hs g i) n
 have := BR (((RQ n).filter fun i => onI qs hs f i && onI qs hs g i).map fun i => qs.getD i 0) (l := Bq f (g.map (· * -1))) (HB hql hnd r1 r2) (by rw [Bc, Su, Su]; lia) (fun y hy => by
  obtain ⟨i, hi, rfl⟩ := TR.mp hy
  have hb := (RS.mp hi).2
  rw [Bool.and_eq_true] at hb
  have e1 : Cv.ev f (qs.getD i 0) = hs.getD i 0 := of_decide_eq_true hb.1
  have e2 : Cv.ev g (qs.getD i 0) = hs.getD i 0 := of_decide_eq_true hb.2
  rw [BC, Cv.ev_scale, e1, e2]; grind) x
 rw [BC, Cv.ev_scale] at this
 grind
theorem Ng {n e W : Nat} {qs hs f N D : List Rat} (hql : qs.length = n) (hhl : hs.length = n) (hnd : qs.Nodup) (hf : f.length ≤ W) (hW : 1 ≤ W) (mf : (AV qs hs f).length ≤ e) (he : 2 * e + W ≤ n) (lN : N.length ≤ e + W) (lD : D.length ≤ e + 1)
 (on : ∀ i (h : i < 2 * e + W) (h1 : i < qs.length) (h2 : i < hs.length), Cv.ev N qs[i] = hs[i] * Cv.ev D qs[i]) : ∀ x, Cv.ev N x = Cv.ev f x * Cv.ev D x := fun x => by
 obtain ⟨M, hM, eM⟩ : ∃ M : List Rat, M.length ≤ e + W ∧ ∀ x, Cv.ev M x = Cv.ev f x * Cv.ev D x := by
  by_cases z : f = []
  ·exact ⟨[], Sb _, fun x => by rw [z]; show (0 : Rat) = 0 * _; rw [Ur]⟩
  ·by_cases y : D = []
   ·exact ⟨[], Sb _, fun x => by rw [y]; show (0 : Rat) = _ * 0; rw [Uq]⟩
   ·have lz := Tc.mpr z
    have ly := Tc.mpr y
    exact ⟨Ds f D, by rw [Dr _ (by lia) _ (by lia)]; lia, fun x => by rw [Ee]⟩
 have h1 := ED (onI qs hs f) (RQ (2 * e + W))
 have h2 : ((RQ (2 * e + W)).filter fun i => !onI qs hs f i).length ≤ (AV qs hs f).length := by
  rw [C7 hql hhl]
  have hsub : List.Sublist (RQ (2 * e + W)) (RQ n) := by
   have : RQ n = RQ (2 * e + W) ++ (RQ (n - (2 * e + W))).map (2 * e + W + ·) := by rw [← List.range_add]; congr 1; lia
   rw [this]; exact List.sublist_append_left _ _
  exact (hsub.filter _).length_le
 rw [U5] at h1
 obtain ⟨r1, r2⟩ := Hi (onI qs hs f) (2 * e + W)
 have := BR (((RQ (2 * e + W)).filter (onI qs hs f)).map fun i => qs.getD i 0) (l := Bq N (M.map (· * -1))) (HB hql hnd r1 fun i hi => RN (r2 i hi) he) (by rw [Bc, Su, Su]; lia) (fun y hy => by
  obtain ⟨i, hi, rfl⟩ := TR.mp hy
  have hi2 := r2 i hi
  have e1 : Cv.ev f (qs.getD i 0) = hs.getD i 0 := of_decide_eq_true (RS.mp hi).2
  have e2 := on i hi2 (by lia) (by lia)
  have q1 : qs.getD i 0 = qs[i]'(by lia) := by rw [Tq, Tx (by lia)]; rfl
  have q2 : hs.getD i 0 = hs[i]'(by lia) := by rw [Tq, Tx (by lia)]; rfl
  rw [q1, q2] at e1
  rw [BC, Cv.ev_scale, eM, q1, e1, e2]; grind) x
 rw [BC, Cv.ev_scale, eM] at this
 grind
theorem Kp (c : List Rat) : ∀ css : List (List Rat), ((css.map tpD).any fun y => PyData.eqv y (tpD c)) = decide (c ∈ css)
 | [] => by simp
 | d :: r => by
   have e : PyData.eqv (tpD d) (tpD c) = decide (d = c) := DD d c
   rw [SO, SG, e, Kp c r, Bool.eq_iff_iff]
   simp only [Bool.or_eq_true, decide_eq_true_eq, S1]
   constructor
   ·rintro (h | h)
    ·exact .inl h.symm
    ·exact .inr h
   ·rintro (h | h)
    ·exact .inl h.symm
    ·exact .inr h
theorem inC {K : RU} {H : Hp} {x : V} {a : Addr} {xs : List V} {c : List Rat} {css : List (List Rat)} {Q : VK} {neg : Bool} (h1 : PtV K H x c) (s2 : SqL K H a xs) (n2 : Pts K H xs css) (h : Q (.bl (if neg then !decide (c ∈ css) else decide (c ∈ css))) H) : Ir K neg x (.ref a) H Q :=
 M8 ⟨a, _, _, rfl, .lst s2 (by rw [n2.length, Su]) n2.rds, h1.rds, Fg _, by
  show (PyData.canLayAll0 (c.map nD) && decide (PyData.depthAll (c.map nD) + 1 ≤ 64)) = true
  rw [DC, Bool.true_and]
  exact decide_eq_true (by have := Co c; lia), by rw [Kp]; exact h⟩
inductive Jq (K : RU) (vs : List V) (H : Hp) (Q : VK) (E_3 : XK) : Prop
 | mk (l lh : Addr) (zs ys : List V) (qs hs : List Rat) (W e n nx ny mc : Nat) (h1 : vs = [.ref l, .ref lh, .int (W : Int), .int (e : Int)]) (h2 : SqL K H l zs) (h3 : AE H zs qs) (h4 : SqL K H lh ys) (h5 : Ap K H ys hs) (h6 : qs.length = n) (h7 : hs.length = n) (h8 : n ≤ 6) (h9 : qs.Nodup) (h10 : 1 ≤ W) (h11 : W ≤ 3) (h12 : e + W ≤ n) (h13 : (∀ x ∈ qs, RB nx x)) (h14 : (∀ y ∈ hs, RB ny y)) (h15 : 1 ≤ nx) (h16 : nx ≤ 40) (h17 : nx ≤ ny) (h18 : ny ≤ 1000) (h19 : 26 * (128 * (ny + 2 * nx + 2)) + 300 ≤ mc) (h20 : mc ≤ 4000000) (h21 : ∀ (lf : Addr) (us : List V) (css : List (List Rat)) (H' : Hp), Af H H' → H' lf = some (.lst us) → Pts K H' us css → css.Nodup → (∀ c ∈ css, Cu c ∧ c.length ≤ W ∧ (∀ x ∈ c, RB mc x) ∧ (AV qs hs c).length ≤ e) → (∀ f, Cu f → f.length ≤ W → (AV qs hs f).length ≤ e → f ∈ css) → Q (.ref lf) H') : Jq K vs H Q E_3
def D3 (qs os : List Rat) (st : Nat) : List Rat := Si st 0 ++ (qs.drop st).map fun x => Cv.ev os x
inductive Ha (K : RU) (vs : List V) (H : Hp) (Q : VK) (E_3 : XK) : Prop
 | mk (l : Addr) (ys : List V) (qs : List Rat) (wd : Nat) (h1 : vs = [.ref l, .int (wd : Int)]) (h2 : SqL K H l ys) (h3 : AE H ys qs) (h4 : qs.Nodup) (h5 : qs.length ≤ 12) (h6 : 1 ≤ wd) (h7 : wd < qs.length) (h8 : (∀ q ∈ qs, RB 24 q)) (h9 : ∀ (t hl one oth : Addr) (H' : Hp) (hv : List V) (os : List Rat), Af H H' → SqT K H' t [.ref hl, .ref one, .ref oth] → H hl = none → H' hl = some (.lst hv) → Ap K H' hv (D3 qs os (qs.length - ((qs.length - wd) / 2 + 1))) → SqT K H' one [] → Crv K H' oth os → Cu os → os.length ≤ wd → (∀ q ∈ os, RB 1000 q) → (∀ X, Cv.ev os X = L2.prV X (qs.take (wd - 1))) → Q (.ref t) H') : Ha K vs H Q E_3
theorem Dp (X : Rat) (rk rs : List Rat) : ∀ os : List Rat, Bk (os ++ rk) (Si os.length 0 ++ rs) X = L2.prV X os * Bk rk rs X
 | [] => by show Bk rk rs X = 1 * Bk rk rs X; grind
 | o :: os => by
   show 0 + (X - o) * Bk (os ++ rk) (Si os.length 0 ++ rs) X = (X - o) * L2.prV X os * Bk rk rs X
   rw [Dp X rk rs os]; grind
theorem EL {qs os : List Rat} {st : Nat} (h : st ≤ qs.length) : (D3 qs os st).length = qs.length := by
 unfold D3; rw [Ss, Sv, Su, SD]; lia
theorem HM {qs os : List Rat} {st k : Nat} (h : k < st) : (D3 qs os st).getD k 0 = 0 := by
 unfold D3
 rw [Tq, Sm (by rw [Sv]; exact h), Sl, if_pos h]; rfl
theorem Kh {qs os : List Rat} {st k : Nat} (h : st ≤ k) (hk : k < qs.length) : (D3 qs os st).getD k 0 = Cv.ev os (qs.getD k 0) := by
 unfold D3
 rw [Tq, Sk (by rw [Sv]; exact h), Sv, Sn, Ts, show st + (k - st) = k by lia, AN hk]; rfl
theorem Lv {m : Nat} {x : Rat} (hx : RB m x) : ∀ (l : List Rat), (∀ y ∈ l, RB m y) → RB ((2 * m + 1) * l.length + 1) (prV x l)
 | [], _ => by show RB 1 1; exact RB.one (by decide)
 | a :: r, h => by
   have ih := Lv hx r fun y hy => h y (RZ _ hy)
   have h1 := hx.minus (h a RY)
   show RB _ ((x - a) * prV x r)
   refine (h1.times ih).mono ?_
   rw [Td, UT]; lia
theorem JM {n W mn : Nat} {qs os : List Rat} (hql : qs.length = n) (hW1 : 1 ≤ W) (hWn : W < n) (hmn : mn = (n - W) / 2 + 1) (hev : ∀ X, Cv.ev os X = L2.prV X (qs.take (W - 1))) :
 (AV qs (D3 qs os (n - mn)) []).length ≤ mn ∧ (AV qs (D3 qs os (n - mn)) os).length ≤ mn := by
 have hdl : (D3 qs os (n - mn)).length = n := by rw [EL (by lia), hql]
 have cnt : ∀ (f : Nat → Bool) (a b : Nat), a ≤ b → b ≤ n → (∀ i, i < n → f i = true → a ≤ i ∧ i < b) → ((RQ n).filter f).length ≤ b - a := fun f a b hab hbn h => by
  have e : RQ n = (RQ a ++ (RQ (b - a)).map (a + ·)) ++ (RQ (n - b)).map (b + ·) := by
   rw [← List.range_add, show a + (b - a) = b by lia, ← List.range_add]
   congr 1; lia
  rw [e, UQ, UQ, Ss, Ss]
  have z1 : (RQ a).filter f = [] := UO.mpr fun i hi hf => by
   have := RT.mp hi
   have := h i (by lia) hf
   lia
  have z3 : ((RQ (n - b)).map (b + ·)).filter f = [] := UO.mpr fun i hi hf => by
   obtain ⟨j, hj, rfl⟩ := TR.mp hi
   have := RT.mp hj
   have := h (b + j) (by lia) hf
   lia
  rw [z1, z3, TN]
  have := UR f ((RQ (b - a)).map (a + ·))
  rw [Su, U5] at this
  lia
 constructor
 ·rw [C7 hql hdl]
  refine RV (cnt _ (n - mn) n (by lia) (S9 _) fun i hi hf => ⟨?_, hi⟩) (by lia)
  rcases Ut i (n - mn) with z | z
  ·exfalso
   have : onI qs (D3 qs os (n - mn)) [] i = true := decide_eq_true (by rw [HM z]; rfl)
   rw [this] at hf; cases hf
  ·exact z
 ·rw [C7 hql hdl]
  by_cases hc : W - 1 ≤ n - mn
  ·refine RV (cnt _ (W - 1) (n - mn) hc (by lia) fun i hi hf => ⟨?_, ?_⟩) (by lia)
   ·rcases Ut i (W - 1) with z | z
    ·exfalso
     have hm : qs.getD i 0 ∈ qs.take (W - 1) := by
      rw [Tq, Tx (by lia)]
      exact List.mem_take_iff_getElem.mpr ⟨i, by lia, rfl⟩
     have e0 : Cv.ev os (qs.getD i 0) = 0 := by rw [hev]; exact LF hm
     have : onI qs (D3 qs os (n - mn)) os i = true := decide_eq_true (by rw [HM (by lia)]; exact e0)
     rw [this] at hf; cases hf
    ·exact z
   ·rcases Ut i (n - mn) with z | z
    ·exact z
    ·exfalso
     have : onI qs (D3 qs os (n - mn)) os i = true := decide_eq_true (by rw [Kh z (by lia)])
     rw [this] at hf; cases hf
  ·refine RV (cnt _ 0 0 (S9 _) (by lia) fun i hi hf => ?_) (by lia)
   exfalso
   have e0 : onI qs (D3 qs os (n - mn)) os i = true := by
    refine decide_eq_true ?_
    rcases Ut i (n - mn) with z | z
    ·rw [HM z, hev]
     have hm : qs.getD i 0 ∈ qs.take (W - 1) := by
      rw [Tq, Tx (by lia)]
      exact List.mem_take_iff_getElem.mpr ⟨i, by lia, rfl⟩
     exact LF hm
    ·rw [Kh z (by lia)]
   rw [e0] at hf; cases hf
theorem Nv {qs os : List Rat} {st m B : Nat} (h0 : 1 ≤ B) (h : ∀ x ∈ qs, RB B (Cv.ev os x)) : ∀ y ∈ D3 qs os st, RB B y := fun y hy => by
 unfold D3 at hy
 rcases S2.mp hy with z | z
 ·rw [UK z]; exact RB.zero h0
 ·obtain ⟨x, hx, rfl⟩ := TR.mp z
  exact h x (UU hx)
section
variable {P : Program} {w : World} {K : RU} {mg : Str → Option Value} {base : Heap}
theorem Cz : Ar ["_law_script", "_law_k", "_law_cell"] ["_law_script", "_law_k"] (Ae (top 45)) := ⟨rfl, rfl, rfl, by decide +kernel, rfl, by decide +kernel, by decide +kernel⟩
theorem IF {f : Addr} {fd : FuncData} (F : Fun K "_law_pen" "_law_pen" (top 45) f fd) (Qc : mg "len" = none) (hT : P.given.tree = none) :
 AH P w K mg base CX0 33 f fd ["_law_script", "_law_k"] (Lq K) := by
 refine F.ok Cz (fun vs H Q E h => ?_) (fun cdv A outer s H vs Q E hr h => ?_)
 ·obtain ⟨_, _, _, rfl, _⟩ := h; rfl
 refine ⟨_, (Ab (K := K) (Ai (i := 2) Cz.nd rfl (Or.inl rfl) (Ah AG (Ah Aw Ad (pv 1)) Ad))
  (Ab (K := K) (AQ (K := K) (As E4 (pv 1) (Aq (Bx K) rfl Qc AD (A0 (pv 0) Ac)) (Ay _)) (Ag (Ai (i := 2) Cz.nd rfl (Or.inl rfl) (Aj (ixL K) (pv 0) (pv 1) (fun u v => rfl)))) (Ag (AQ (K := K) (As DI (Aq (Bx K) rfl Qc AD (A0 (pv 0) Ac)) Ad (Ay _)) (Ag (Ai (i := 2) Cz.nd rfl (Or.inl rfl) (Ah AG (Aj (ixL K) (pv 0) (Ah Cf (pv 1) (Aq (Bx K) rfl Qc AD (A0 (pv 0) Ac))) (fun u v => rfl)) (Ah Aw Ad (pv 1))))) AK (by rfl) (by rfl))) (by rfl) (by rfl))
  (Ab (K := K) (AQ (K := K) (As NL (pv 2) (Ah LL Ad Ad) (Ay _)) (Ag (Ax (AS (A0 (Ah AU (pv 2) (Ah LL Ad Ad)) (A0 (Ah Cf (pv 2) Ad) (A0 Ad Ac)))))) AK (by rfl) (by rfl))
  (Ag (Ax (AS (A0 Ad (A0 (Ah AG (Ah Cf (pv 2) Ad) (Ah Aw Ad (pv 1))) (A0 Ad Ac)))))) (by rfl)) (by rfl)) (by rfl)), ?_⟩
 obtain ⟨a, ns, k, rfl, hS, h63, h0, h62, q⟩ := h
 have hl : (ns.map V.int).length = ns.length := Su _
 have P3 : 3 ≤ sizeLine := by decide
 have C1 : OW 10 18 := by unfold OW; decide
 refine ⟨_, rfl, _, _, rfl, rfl, .inl ⟨by decide, by decide⟩, _, _, rfl, rfl, ?_⟩
 refine ⟨_, rfl, _, rfl, a, _, rfl, .inl hS, _, _, rfl, rfl, _, rfl, ?_⟩
 rw [hl]
 have hk1 : k < (ns.length : Int) → ∃ v : Int, atI (ns.map V.int) k = some (.int v) := fun c => Km h0 c
 have hk2 : 0 < (ns.length : Int) → ∃ v : Int, atI (ns.map V.int) (k % (ns.length : Int)) = some (.int v) := fun c => Km (U2 _ (by lia)) (U3 _ c)
 refine Gk (fun c => ?_) (fun c => ?_)
 ·obtain ⟨v, hv⟩ := (hk1 (of_decide_eq_true c))
  refine ⟨_, rfl, _, rfl, a, _, _, _, rfl, rfl, hS, hv, ?_⟩
  refine ⟨_, rfl, _, _, rfl, rfl, C1, _, _, rfl, rfl, _, rfl, ?_⟩
  refine Gk (fun c => ?_) (fun c => ?_)
  ·exact ⟨_, rfl, _, _, rfl, rfl, C1, _, _, rfl, rfl, _, rfl, _, _, rfl, rfl, (by first | decide | (dsimp only; decide)), P3, fun p hp => q p _ _ hp⟩
  ·exact ⟨_, rfl, _, _, rfl, rfl, (by first | decide | (dsimp only; decide)), _, rfl, _, _, rfl, rfl, .inl ⟨by decide, by decide⟩, _, _, rfl, rfl, P3, fun p hp => q p _ _ hp⟩
 ·refine ⟨_, rfl, a, _, rfl, .inl hS, _, _, rfl, rfl, _, rfl, ?_⟩
  rw [hl]
  refine Gk (fun c => ?_) (fun c => ?_)
  ·obtain ⟨v, hv⟩ := (hk2 (of_decide_eq_true c))
   have c' : 0 < (((ns.map V.int).length : Nat) : Int) := by rw [hl]; exact of_decide_eq_true c
   rw [← hl] at hv
   refine ⟨_, rfl, _, rfl, _, rfl, a, _, rfl, .inl hS, _, _, rfl, rfl, c', a, _, _, _, rfl, rfl, hS, hv, _, rfl, _, _, rfl, rfl, .inl ⟨by decide, by decide⟩, _, _, rfl, rfl, ?_⟩
   refine ⟨_, rfl, _, _, rfl, rfl, C1, _, _, rfl, rfl, _, rfl, ?_⟩
   refine Gk (fun c => ?_) (fun c => ?_)
   ·exact ⟨_, rfl, _, _, rfl, rfl, C1, _, _, rfl, rfl, _, rfl, _, _, rfl, rfl, (by first | decide | (dsimp only; decide)), P3, fun p hp => q p _ _ hp⟩
   ·exact ⟨_, rfl, _, _, rfl, rfl, (by first | decide | (dsimp only; decide)), _, rfl, _, _, rfl, rfl, .inl ⟨by decide, by decide⟩, _, _, rfl, rfl, P3, fun p hp => q p _ _ hp⟩
  ·refine ⟨_, rfl, _, _, rfl, rfl, C1, _, _, rfl, rfl, _, rfl, ?_⟩
   refine Gk (fun c => ?_) (fun c => ?_)
   ·exact ⟨_, rfl, _, _, rfl, rfl, C1, _, _, rfl, rfl, _, rfl, _, _, rfl, rfl, (by first | decide | (dsimp only; decide)), P3, fun p hp => q p _ _ hp⟩
   ·exact ⟨_, rfl, _, _, rfl, rfl, (by first | decide | (dsimp only; decide)), _, rfl, _, _, rfl, rfl, .inl ⟨by decide, by decide⟩, _, _, rfl, rfl, P3, fun p hp => q p _ _ hp⟩
theorem BE : Ar ["_law_top", "_law_bottom", "_law_one", "_law_other"] ["_law_top", "_law_bottom"] (Ae (top 47)) := ⟨rfl, rfl, rfl, by decide +kernel, rfl, by decide +kernel, by decide +kernel⟩
theorem FK {f : Addr} {fd : FuncData} (F : Fun K "_law_lowest" "_law_lowest" (top 47) f fd) (Qh : mg "abs" = none) (hT : P.given.tree = none) :
 AH P w K mg base CX0 33 f fd ["_law_top", "_law_bottom"] (D9) := by
 refine F.ok BE (fun vs H Q E h => ?_) (fun cdv A outer s H vs Q E hr h => ?_)
 ·obtain ⟨_, _, rfl, _⟩ := h; rfl
 refine ⟨_, (Ab (K := K) (Ai (i := 2) BE.nd rfl (Or.inl rfl) (Aq Eg rfl Qh HU (A0 (pv 0) Ac)))
  (Ab (K := K) (Ai (i := 3) BE.nd rfl (Or.inl rfl) (Aq Eg rfl Qh HU (A0 (pv 1) Ac)))
  (Ab (K := K) (Di PassesOwn.never (As DI (pv 3) Ad (Ay _)) (Ag (Ob (i := 2) (j := 3) rfl BE.nd rfl rfl (by decide) rfl rfl (A0 (pv 3) (A0 (Ah Cf (pv 2) (pv 3)) Ac)) (by with_unfolding_all rfl))))
  (Ab (K := K) (AQ (K := K) (As E4 (pv 1) Ad (Ay _)) (Ag (Ai (i := 2) BE.nd rfl (Or.inl rfl) (Ah AU Ad (pv 2)))) AK (by rfl) (by rfl))
  (Ag (Ax (AR (A0 (Ah (Bi hr hT) (pv 0) (pv 2)) (A0 (Ah (Bi hr hT) (pv 1) (pv 2)) Ac))))) (by rfl)) (by rfl)) (by rfl)) (by rfl)), ?_⟩
 obtain ⟨a, b, rfl, hb, q⟩ := h
 refine ⟨_, rfl, a, rfl, ?_⟩
 refine ⟨_, rfl, b, rfl, ?_⟩
 refine Ic (L3 H a b fun H a b σ H' => H' = H ∧ ∃ (x y : Int), σ = [some (.int a), some (.int b), some (.int x), some (.int y)] ∧ 0 ≤ x ∧ 0 ≤ y ∧ SS x y = SS a b) (fun σ _ => mu 3 σ)
  ⟨rfl, _, _, rfl, ?_, ?_, ?_⟩ ?_ ?_
 ·rw [Nm.abs_if]; exact UW _
 ·rw [Nm.abs_if]; exact UW _
 ·rw [Nm.abs_if, Nm.abs_if]; rfl
 ·rintro σ H' hR1
  refine Br hR1 fun hq1 hz3 => ?_
  refine Ct hz3 fun x y hz3' => ?_
  clear hz3
  refine Dw hz3' fun hq2 hx hy hg => ?_
  clear hz3'
  obtain rfl := hq1
  obtain rfl := hq2
  try clear hR1
  refine ⟨_, rfl, _, _, rfl, rfl, _, rfl, ?_⟩
  by_cases hy0 : y = 0
  ·subst hy0
   refine IV ?_
   have e : (SS a b : Int) = x := by rw [← hg, Int.gcd_zero]; lia
   subst e
   refine ⟨_, rfl, _, _, rfl, rfl, _, rfl, ?_⟩
   have hd : Nm.msr a b ≠ 0 := Nm.msr_ne hb
   have fin : ∀ p, H' p = none → Q (.ref p) (upd H' p (.tup [.int (a.fdiv (Nm.msr a b)), .int (b.fdiv (Nm.msr a b))])) := fun p hp => by
    rw [Nm.top_msr hb, Nm.bottom_msr hb]; exact q p hp
   by_cases hb0 : b < 0
   ·have hd' : Nm.msr a b = 0 - (SS a b : Int) := by unfold Nm.msr; rw [if_pos hb0]; lia
    rw [hd'] at hd fin
    refine AZ (by rw [decide_eq_true hb0] <;> rfl) ⟨_, rfl, _, _, rfl, rfl, ?_⟩
    exact ⟨_, rfl, _, rfl, _, _, rfl, rfl, hd, _, rfl, _, rfl, _, _, rfl, rfl, hd, (by decide : 2 ≤ sizeLine), fin⟩
   ·have hd' : Nm.msr a b = (SS a b : Int) := by unfold Nm.msr; rw [if_neg hb0]
    rw [hd'] at hd fin
    refine AM (by rw [decide_eq_false hb0] <;> rfl) ?_
    exact ⟨_, rfl, _, rfl, _, _, rfl, rfl, hd, _, rfl, _, rfl, _, _, rfl, rfl, hd, (by decide : 2 ≤ sizeLine), fin⟩
  ·have hyp : 0 < y := by lia
   refine AZ (by rw [decide_eq_true hyp] <;> rfl) ?_
   refine ⟨_, rfl, _, rfl, _, rfl, _, _, rfl, rfl, hyp, _, _, rfl, ⟨rfl, y, x % y, rfl, hy, U2 _ hy0, ?_⟩, ?_⟩
   ·rw [Nm.gcd_turn]; exact hg
   ·show (x % y).toNat < y.toNat
    have := U3 x hyp
    lia
 ·rintro σ H' Q1 Q2 hm hR2
  obtain ⟨v, e, i, j, e1, e2, k, ek, q1⟩ := hR2
  try clear hR2
  exact ⟨v, e, i, j, e1, e2, k, ek, hm _ _ q1⟩
theorem Cm : Ar ["_law_pen_here", "_law_many", "_law_drawn", "_law_number_here"] ["_law_pen_here", "_law_many"] (Ae (top 46)) := ⟨rfl, rfl, rfl, by decide +kernel, rfl, by decide +kernel, by decide +kernel⟩
theorem HA {f : Addr} {fd : FuncData} (F : Fun K "_law_draw" "_law_draw" (top 46) f fd) (hT : P.given.tree = none) :
 AH P w K mg base CX0 33 f fd ["_law_pen_here", "_law_many"] (En) := by
 refine F.ok Cm (fun vs H Q E h => ?_) (fun cdv A outer s H vs Q E hr h => ?_)
 ·obtain ⟨_, _, rfl, _⟩ := h; rfl
 refine ⟨_, (Ab (K := K) (Eu (Ah AG (Aj (ixL K) (pv 0) Ad (fun u v => rfl)) Ad) (FD (pv 0) Ad Dd))
  (Ab (K := K) (AQ (K := K) (As DI (Aj (ixL K) (pv 0) Ad (fun u v => rfl)) Ad (Ay _)) (Ab (K := K) (Ai (i := 2) Cm.nd rfl (Or.inl rfl) (Ah Cf (Aj (ixL K) (pv 0) Ad (fun u v => rfl)) (pv 1)))
  (Ab (K := K) (Eu (Ah (Bi hr hT) (Aj (ixL K) (pv 0) Ad (fun u v => rfl)) (pv 1)) (FD (pv 0) Ad Dd))
  (Ag (Ax (pv 2))) (by rfl)) (by rfl)) AK (by rfl) (by rfl))
  (Ab (K := K) (Ai (i := 3) Cm.nd rfl (Or.inl rfl) (Ah Cf (Ah Aw (Ah AG (Ah AG (Aj (ixL K) (pv 0) Ad (fun u v => rfl)) (Ah Aw Ad (Aj (ixL K) (pv 0) Ad (fun u v => rfl)))) Ad) Ad) Ad))
  (Ab (K := K) (Ai (i := 3) Cm.nd rfl (Or.inl rfl) (Ah Cf (Ah Aw (pv 3) (Ah AG (Ah AG (Ah Cf (pv 3) Ad) (Aj (ixL K) (pv 0) Ad (fun u v => rfl))) Ad)) Ad))
  (Ag (Ax (Ah Cf (Ah (Bi hr hT) (Ah Cf (Ah Aw (pv 3) (Ah AG (Ah Cf (pv 3) Ad) Ad)) Ad) Ad) (pv 1)))) (by rfl)) (by rfl)) (by rfl)) (by rfl)), ?_⟩
 obtain ⟨a, m, rfl, ⟨c0, c1, c2, hp⟩, h1, h2, q0⟩ := h
 have q : ∀ d c0' c2' : Int, 0 ≤ d → d < m → Q (.int d) (upd H a (.lst [.int c0', .int c1, .int c2'])) := fun d _ _ h3 h4 => q0 d _ h3 h4 .put .put
 have hm : m ≠ 0 := by lia
 have q' : ∀ (o : HO) (d c0' c2' : Int), 0 ≤ d → d < m → Q (.int d) (upd (upd H a o) a (.lst [.int c0', .int c1, .int c2'])) := fun o d c0' c2' h3 h4 => by rw [MJ]; exact q d c0' c2' h3 h4
 refine ⟨_, rfl, a, _, _, _, rfl, rfl, SqL.of hp, rfl, _, _, rfl, rfl, _, rfl, a, _, _, _, rfl, rfl, hp, rfl, ?_⟩
 refine ⟨_, rfl, a, _, _, _, rfl, rfl, SqL.of Aa, rfl, _, _, rfl, rfl, _, rfl, ?_⟩
 refine Gk (fun c => ?_) (fun c => ?_)
 ·refine ⟨_, rfl, a, _, _, _, rfl, rfl, SqL.of Aa, rfl, _, rfl, _, _, rfl, rfl, (by lia : 0 < m), ?_⟩
  refine ⟨_, rfl, a, _, _, _, rfl, rfl, SqL.of Aa, rfl, _, rfl, _, _, rfl, rfl, hm, _, rfl, a, _, _, _, rfl, rfl, Aa, rfl, ?_⟩
  refine ⟨_, rfl, ?_⟩
  exact q' _ _ _ _ (U2 _ (by lia)) (U3 _ (by lia))
 ·have cl : ∀ z : Int, 0 < z → (0 : Int) < z := fun _ h => h
  refine ⟨_, rfl, a, _, _, _, rfl, rfl, SqL.of Aa, rfl, _, rfl, a, _, _, _, rfl, rfl, SqL.of Aa, rfl, _, _, rfl, rfl, .inl ⟨by decide, by decide⟩, _, _, rfl, rfl, _, _, rfl, rfl, _, _, rfl, rfl, .inr (.inl ⟨by decide, by decide⟩), _, _, rfl, rfl, (by first | decide | (dsimp only; decide)), ?_⟩
  have n1 := U2 ((c1 + 40503 * (c2 + 1) + 1) * 48271) (show (2147483647 : Int) ≠ 0 by decide)
  have n2 := U3 ((c1 + 40503 * (c2 + 1) + 1) * 48271) (show (0 : Int) < 2147483647 by decide)
  generalize hN : (c1 + 40503 * (c2 + 1) + 1) * 48271 % 2147483647 = N at n1 n2
  refine ⟨_, rfl, _, rfl, _, _, rfl, rfl, (by first | decide | (dsimp only; decide)), _, rfl, a, _, _, _, rfl, rfl, SqL.of Aa, rfl, _, _, rfl, rfl, _, _, rfl, rfl, _, _, rfl, rfl, .inl ?_, _, _, rfl, rfl, (by first | decide | (dsimp only; decide)), ?_⟩
  ·(try rw [hN]); lia
  try rw [hN]
  have n3 := U2 (N * (N % 65521 + (c2 + 1) + 3)) (show (2147483629 : Int) ≠ 0 by decide)
  have n4 := U3 (N * (N % 65521 + (c2 + 1) + 3)) (show (0 : Int) < 2147483629 by decide)
  generalize N * (N % 65521 + (c2 + 1) + 3) % 2147483629 = M at n3 n4
  refine ⟨_, rfl, _, rfl, _, _, rfl, rfl, (by first | decide | (dsimp only; decide)), _, _, rfl, rfl, _, _, rfl, rfl, .inl ⟨by lia, by lia⟩, _, _, rfl, rfl, (by first | decide | (dsimp only; decide)), _, _, rfl, rfl, (by first | decide | (dsimp only; decide)), _, rfl, _, _, rfl, rfl, (by lia : 0 < m), ?_⟩
  exact q _ _ _ (U2 _ (by lia)) (U3 _ (by lia))
theorem Fu : Ar ["_law_pen_here"] ["_law_pen_here"] (Ae (top 51)) := ⟨rfl, rfl, rfl, by decide +kernel, rfl, by decide +kernel, by decide +kernel⟩
theorem FJ {f : Addr} {fd : FuncData} (F : Fun K "_law_number" "_law_number" (top 51) f fd) (Qi : Fd P w K mg base 33 "_law_lowest" ["_law_top", "_law_bottom"] (D9)) (Qe : Fd P w K mg base 33 "_law_draw" ["_law_pen_here", "_law_many"] (En)) (hT : P.given.tree = none) :
 AH P w K mg base CX0 34 f fd ["_law_pen_here"] (Il 8) := by
 refine F.ok Fu (fun vs H Q E h => ?_) (fun cdv A outer s H vs Q E hr h => ?_)
 ·obtain ⟨_, rfl, _⟩ := h; rfl
 refine ⟨_, (Ab (K := K) (AQ (K := K) (As DI (Ao Qe hr rfl (A0 (pv 0) (A0 Ad Ac))) Ad (Ay _)) (Ag (Ax (Ao Qi hr rfl (A0 (Ah AU (Ao Qe hr rfl (A0 (pv 0) (A0 Ad Ac))) Ad) (A0 (Ah AG Ad (Ao Qe hr rfl (A0 (pv 0) (A0 (Aj (ixL K) (AS (A0 Ad (A0 Ad Ac))) (Ao Qe hr rfl (A0 (pv 0) (A0 Ad Ac))) (fun u v => rfl)) Ac)))) Ac))))) AK (by rfl) (by rfl))
  (Ag (Ax (Ao Qi hr rfl (A0 (Ah AU (Ao Qe hr rfl (A0 (pv 0) (A0 Ad Ac))) Ad) (A0 (Ah AG Ad (Ao Qe hr rfl (A0 (pv 0) (A0 Ad Ac)))) Ac))))) (by rfl)), ?_⟩
 obtain ⟨a, rfl, pn, q⟩ := h
 have b8 : ∀ x : Int, -200 < x → x < 200 → Bd 8 x := fun x h1 h2 => by unfold Bd; lia
 refine ⟨_, rfl, a, 6, rfl, pn, by decide, by decide, fun w H1 w0 w1 o1 p1 => ⟨_, _, rfl, rfl, _, rfl, ?_⟩⟩
 refine Gk (fun c => ?_) (fun c => ?_)
 ·refine ⟨_, rfl, a, 19, rfl, p1, by decide, by decide, fun d H2 d0 d1 o2 p2 => ⟨_, _, rfl, rfl, ?_⟩⟩
  refine ⟨_, rfl, (by decide : 2 ≤ sizeLine), fun l hl => ?_⟩
  refine ⟨_, rfl, a, 2, rfl, p2.same hl, by decide, by decide, fun e H3 e0 e1 o3 p3 => ?_⟩
  obtain ⟨v, hv, hm⟩ := (Nx (xs := [1, 4]) (i := e) e0 e1)
  have hv1 : 1 ≤ v ∧ v ≤ 4 := by simp at hm; lia
  have hl3 : H3 l = some (.lst [.int 1, .int 4]) := by
   refine CK p2 fun x0 x1 x2 ex => ?_
   rw [o3 l (Au ex hl).symm]; exact Aa
  refine ⟨l, _, _, _, rfl, rfl, SqL.of hl3, hv, a, v, rfl, p3, by lia, by lia, fun g H4 g0 g1 o4 p4 => ⟨_, _, rfl, rfl, _, _, rfl, by lia, fun r hr => ?_⟩⟩
  exact q _ r _ (o1.mv.trans (o2.mv.trans ((Mv.new hl).trans (o3.mv.trans (o4.mv.trans (Mv.new hr)))))) (p4.same hr) Aa (Bd.num (b8 _ (by lia) (by lia))) (Bd.den (by lia) (b8 _ (by lia) (by lia)))
 ·refine ⟨_, rfl, a, 199, rfl, p1, by decide, by decide, fun d H2 d0 d1 o2 p2 => ⟨_, _, rfl, rfl, ?_⟩⟩
  refine ⟨_, rfl, a, 9, rfl, p2, by decide, by decide, fun e H3 e0 e1 o3 p3 => ⟨_, _, rfl, rfl, _, _, rfl, by lia, fun r hr => ?_⟩⟩
  exact q _ r _ (o1.mv.trans (o2.mv.trans (o3.mv.trans (Mv.new hr)))) (p3.same hr) Aa (Bd.num (b8 _ (by lia) (by lia))) (Bd.den (by lia) (b8 _ (by lia) (by lia)))
theorem Hh : Ar ["_law_a", "_law_b"] ["_law_a", "_law_b"] (Ae (top 48)) := ⟨rfl, rfl, rfl, by decide +kernel, rfl, by decide +kernel, by decide +kernel⟩
theorem Hv {f : Addr} {fd : FuncData} (F : Fun K "_law_plus" "_law_plus" (top 48) f fd) (Qi : Fd P w K mg base 33 "_law_lowest" ["_law_top", "_law_bottom"] (D9)) (hT : P.given.tree = none) :
 AH P w K mg base CX0 34 f fd ["_law_a", "_law_b"] (Dc K (· + ·)) := by
 refine F.ok Hh (fun vs H Q E h => ?_) (fun cdv A outer s H vs Q E hr h => ?_)
 ·obtain ⟨_, _, _, _, _, _, rfl, _⟩ := h; rfl
 refine ⟨_, (Ag (Ax (Ao Qi hr rfl (A0 (Ah AG (Ah Aw (Aj (ixT K) (pv 0) Ad (fun u v => rfl)) (Aj (ixT K) (pv 1) Ad (fun u v => rfl))) (Ah Aw (Aj (ixT K) (pv 1) Ad (fun u v => rfl)) (Aj (ixT K) (pv 0) Ad (fun u v => rfl)))) (A0 (Ah Aw (Aj (ixT K) (pv 0) Ad (fun u v => rfl)) (Aj (ixT K) (pv 1) Ad (fun u v => rfl))) Ac))))), ?_⟩
 obtain ⟨x, y, p, q, m, n, rfl, ⟨r, rfl, hr⟩, ⟨u, rfl, hu⟩, hp, hq, hmn, k⟩ := h
 refine ⟨_, rfl, r, _, _, _, rfl, rfl, hr, rfl, _, rfl, u, _, _, _, rfl, rfl, hu, rfl, _, _, rfl, rfl, Bv.bd hp.1 hq.2, _, rfl, u, _, _, _, rfl, rfl, hu, rfl, _, rfl, r, _, _, _, rfl, rfl, hr, rfl, _, _, rfl, rfl, Bv.bd hq.1 hp.2, _, _, rfl, rfl, ?_⟩
 refine ⟨_, rfl, r, _, _, _, rfl, rfl, hr, rfl, _, rfl, u, _, _, _, rfl, rfl, hu, rfl, _, _, rfl, rfl, Bv.bd hp.2 hq.2, ?_⟩
 refine ⟨_, _, rfl, T4 (Nm.den_ne p) (Nm.den_ne q), fun z hz => ?_⟩
 have e := k z hz
 try dsimp only at e
 rw [← Nm.plus_eq] at e
 exact e
theorem BD : Ar ["_law_pen_here", "_law_many", "_law_found", "_law_k", "_law_x"] ["_law_pen_here", "_law_many"] (Ae (top 54)) := ⟨rfl, rfl, rfl, by decide +kernel, rfl, by decide +kernel, by decide +kernel⟩
theorem FI {f : Addr} {fd : FuncData} (F : Fun K "_law_places" "_law_places" (top 54) f fd) (Qk : Fd P w K mg base 34 "_law_number" ["_law_pen_here"] (Il 8)) (Ql : Fd P w K mg base 34 "_law_plus" ["_law_a", "_law_b"] (Dc K (· + ·))) (Qd : mg "range" = none) (hT : P.given.tree = none) :
 AH P w K mg base CX0 35 f fd ["_law_pen_here", "_law_many"] (Em K 8) := by
 refine F.ok BD (fun vs H Q E h => ?_) (fun cdv A outer s H vs Q E hr h => ?_)
 ·obtain ⟨_, _, rfl, _⟩ := h; rfl
 refine ⟨_, (Ab (K := K) (Ai (i := 2) BD.nd rfl (Or.inl rfl) (AS Ac))
  (Ab (K := K) (Bb (K := K) PassesOwn.never rfl (Bp rfl Qd (A0 (pv 1) Ac)) (Av (i := 3) BD.nd rfl (Or.inl rfl)) (Ab (K := K) (Ai (i := 4) BD.nd rfl (Or.inl rfl) (Ao Qk hr rfl (A0 (pv 0) Ac)))
  (Ab (K := K) (Di PassesOwn.never (As (inD K hr) (pv 4) (pv 2) (by with_unfolding_all rfl)) (Ag (Ai (i := 4) BD.nd rfl (Or.inl rfl) (Ao Ql hr rfl (A0 (pv 4) (A0 (AR (A0 Ad (A0 Ad Ac))) Ac))))))
  (Ag (BQ (Dj K PySem.F.plainAttrs_list PySem.F.slot_list_append PySem.F.type_list_append Cp (pv 2) (A0 (pv 4) Ac)))) (by rfl)) (by rfl)) (by rfl))
  (Ag (Ax (pv 2))) (by rfl)) (by rfl)), ?_⟩
 obtain ⟨a, m, rfl, pn, h0, h100, q⟩ := h
 have P0 : 0 ≤ sizeLine := by decide
 have P2 : 2 ≤ sizeLine := by decide
 refine ⟨P0, fun l hl => ?_⟩
 have la : l ≠ a := pn.ne' hl
 obtain ⟨M, hM⟩ : ∃ M : Nat, (M : Int) = m := ⟨m.toNat, by lia⟩
 subst hM
 refine ⟨_, rfl, (M : Int), rfl, by lia, by lia, ?_⟩
 rw [Sy]
 refine BK (n := M) (L4 a H M l fun a H M l i σ H' => Mv a H H' ∧ Pen H' a ∧ ∃ zs qs z3 z4, σ = [some (.ref a), some (.int (M : Int)), some (.ref l), z3, z4] ∧ H' l = some (.lst zs) ∧ AE H' zs qs ∧ qs.length = i ∧ qs.Nodup ∧ ∀ q ∈ qs, RB (8 + 8) q) ⟨Mv.new hl, pn.same hl, [], [], none, none, rfl, Aa, .nil, rfl, List.nodup_nil, (fun _ h => nomatch h)⟩ ?_ ?_
 ·rintro i σ H' hi hR1
  refine CL hR1 fun mv pn' hz7 => ?_
  refine HI hz7 fun zs qs z3 z4 hz7' => ?_
  clear hz7
  refine Mx hz7' fun hq6 el hz hql hnd hb => ?_
  clear hz7'
  obtain rfl := hq6
  try clear hR1
  refine ⟨_, rfl, a, rfl, pn', fun x0 r H3 m3 p3 hr bn bd => ?_⟩
  have el3 := m3 _ _ la el
  have hz3 := AE.mv hz pn' m3
  have hzl := hz.length
  refine ⟨fun μ σ H4 => Af H3 H4 ∧ ∃ (r : Addr) (x : Rat) (j : Nat), σ = [some (.ref a), some (.int (M : Int)), some (.ref l), some (.int (0 + (i : Int))), some (.ref r)] ∧ H4 r = some (nT x) ∧ x = x0 + (j : Rat) ∧ μ = cnt x qs ∧ j + cnt x qs ≤ qs.length,
   ⟨_, Af.refl _, r, x0, 0, rfl, hr, (by have z : ((0 : Nat) : Rat) = 0 := rfl; rw [z]; grind), rfl, by have := Mo x0 qs; lia⟩, ?_⟩
  rintro μ σ H4 hR2
  refine Br hR2 fun s4 hz10 => ?_
  refine CK hz10 fun r' x j hz10' => ?_
  clear hz10
  refine D5 hz10' fun hq8 hr' hx hq9 hj => ?_
  clear hz10'
  obtain rfl := hq8
  obtain rfl := hq9
  try clear hR2
  have hxb : RB (8 + 8) x := by
   rw [hx]
   exact (RB.plus ⟨bn, bd⟩ (O4 (j := j) (by lia))).mono (by lia)
  refine ⟨_, rfl, _, rfl, ?_⟩
  refine inN (AB.of hr') (SqL.of (s4 _ _ el3)) (AE.same hz3 s4).nums ?_
  refine ⟨_, rfl, ?_⟩
  by_cases hin : x ∈ qs
  ·refine AZ (by rw [decide_eq_true hin] <;> rfl) ⟨_, fun _ _ h => h, ?_⟩
   refine ⟨_, rfl, P2, fun t ht => ⟨_, _, _, _, 8 + 8, 1, rfl, AB.of ((Af.new ht) _ _ hr'), AB.of (Aa (o := nT 1)), hxb, RB.one (by decide), by lia, fun u hu => ?_⟩⟩
   refine ⟨_, JO hin, (s4.trans (Af.new ht)).trans (Af.new hu), u, x + 1, j + 1, rfl, Aa, ?_, rfl, by have := JO hin; lia⟩
   rw [hx, Rat.natCast_add]
   have z : ((1 : Nat) : Rat) = 1 := rfl
   rw [z]; grind
  ·refine AM (by rw [decide_eq_false hin] <;> rfl) ?_
   have el4 := s4 _ _ el3
   refine ⟨_, rfl, .inl ⟨rfl, _, SqL.of el4⟩, _, rfl, l, zs, .ref r', rfl, rfl, el4, RN (show zs.length < 300 by lia) (by decide), ?_⟩
   refine ⟨Mv.put' ((mv.trans m3).trans s4.mv) hl, (p3.sm s4).put' la, zs ++ [.ref r'], qs ++ [x], _, _, rfl, Aa, Paired.snoc (AE.put (AE.same hz3 s4) el4) (Ej.put ⟨_, rfl, hr'⟩ el4), by simp [hql], ?_, fun c hc => ?_⟩
   ·rw [List.nodup_append]
    exact ⟨hnd, by simp, fun b hb c hc => by rw [Tw.mp hc]; exact fun z => hin (z ▸ hb)⟩
   ·rcases S2.mp hc with z | z
    ·exact hb c z
    ·rw [Tw.mp z]; exact hxb
 ·rintro σ H' hR3
  refine CL hR3 fun mv pn' hz12 => ?_
  refine HI hz12 fun zs qs z3 z4 hz12' => ?_
  clear hz12
  refine Mx hz12' fun hq11 el hz hql hnd hb => ?_
  clear hz12'
  obtain rfl := hq11
  try clear hR3
  exact ⟨_, rfl, q l H' zs qs mv pn' hl el hz (by rw [hql]) hnd hb⟩
theorem BO : Ar ["_law_many", "_law_size", "_law_found", "_law_k"] ["_law_many", "_law_size"] (Ae (top 57)) := ⟨rfl, rfl, rfl, by decide +kernel, rfl, by decide +kernel, by decide +kernel⟩
theorem EV {f : Addr} {fd : FuncData} (F : Fun K "_law_choices" "_law_choices" (top 57) f fd) (Qd : mg "range" = none) (Qc : mg "len" = none) (hT : P.given.tree = none) :
 AH P w K mg base CX0 33 f fd ["_law_many", "_law_size"] (Ep K) := by
 refine F.ok BO (fun vs H Q E h => ?_) (fun cdv A outer s H vs Q E hr h => ?_)
 ·obtain ⟨_, _, rfl, _⟩ := h; rfl
 refine ⟨_, (Ab (K := K) (Ai (i := 2) BO.nd rfl (Or.inl rfl) (AS (A0 (AS Ac) Ac)))
  (Ab (K := K) (Bb (K := K) PassesOwn.never rfl (Bp rfl Qd (A0 (pv 0) Ac)) (Av (i := 3) BO.nd rfl (Or.inr rfl)) (Ag (Ai (i := 2) BO.nd rfl (Or.inl rfl) (Ah DP (pv 2) (CG rfl (N := ["_law_some", "_law_size", "_law_k"]) (nt := 1) (js := [1, 3]) (Be.look (NX := ["_law_many", "_law_size", "_law_found", "_law_k"]) (sc := Ae (top 57)) rfl rfl (by decide +kernel)) (piL K (pv 2)) (fun u1 u2 u3 u4 u5 => (Av (i := 0) (show List.Nodup (["_law_some", "_law_size", "_law_k"] : List Str) from by decide +kernel) rfl (Or.inl rfl))) (AL (by decide)) (fun u1 u2 u3 u4 u5 => E2 (As E4 (Aq (Bx K) rfl Qc AD (A0 (pv 0) Ac)) (pv 1) (Ay _))) (fun u1 u2 u3 u4 u5 => (Ah DP (pv 0) (AS (A0 (pv 2) Ac)))))))) (by rfl))
  (Ag (Ax (CG rfl (N := ["_law_some", "_law_size"]) (nt := 1) (js := [1]) (Be.look (NX := ["_law_many", "_law_size", "_law_found", "_law_k"]) (sc := Ae (top 57)) rfl rfl (by decide +kernel)) (piL K (pv 2)) (fun u1 u2 u3 u4 u5 => (Av (i := 0) (show List.Nodup (["_law_some", "_law_size"] : List Str) from by decide +kernel) rfl (Or.inl rfl))) (AL (by decide)) (fun u1 u2 u3 u4 u5 => E2 (As E5 (Aq (Bx K) rfl Qc AD (A0 (pv 0) Ac)) (pv 1) (Ay _))) (fun u1 u2 u3 u4 u5 => (pv 0))))) (by rfl)) (by rfl)), ?_⟩
 obtain ⟨n, s, rfl, hn, hs, q⟩ := h
 have P0 : 0 ≤ sizeLine := by decide
 have P1 : 1 ≤ sizeLine := by decide
 have P300 : 300 ≤ sizeLine := by decide
 refine ⟨P0, fun l0 h0 => ⟨P1, fun l1 h1 => ?_⟩⟩
 have w0 := Af.new (o := .lst []) h0
 have w1 := Af.new (o := .lst [.ref l0]) h1
 refine ⟨_, rfl, _, rfl, by lia, by lia, ?_⟩
 rw [Sy]
 refine BK (n := n) (L3 H n s fun H n s i σ G => Af H G ∧ ∃ f us z3, σ = [some (.int (n : Int)), some (.int (s : Int)), some (.ref f), z3] ∧ G f = some (.lst us) ∧ Paired (IL G) us (chs s i)) ⟨w0.trans w1, l1, [.ref l0], none, rfl, Aa, .cons ⟨l0, rfl, w1 _ _ Aa⟩ .nil⟩ ?_ ?_
 ·rintro i σ G hi hR1
  refine Br hR1 fun sg hz14 => ?_
  refine CK hz14 fun f us z3 hz14' => ?_
  clear hz14
  refine CL hz14' fun hq13 ef hus => ?_
  clear hz14'
  obtain rfl := hq13
  try clear hR1
  have hul : us.length ≤ 64 := by
   rw [hus.length]
   exact RV (HQ s i) (TC (by decide) (show i ≤ 6 by lia))
  refine ⟨_, rfl, ?_⟩
  refine Ce ⟨_, rfl, f, rfl, ⟨_, SqL.of ef⟩, ?_⟩
  refine Fc (xs := us) (L3 G s i fun G s i j ws F => Af G F ∧ ws.length ≤ j ∧ Paired (IL F) ws ((((chs s i).take j).filter fun ks => decide (ks.length < s)).map (· ++ [i]))) ⟨Af.refl _, S9 _, .nil⟩ (fun j ws F _ h => ⟨SqL.of (h.1 _ _ ef), h.2.1⟩) (RW (AF (by lia))) ?_ ?_
  ·rintro j v ws F hv ⟨sf, hwl, hws⟩
   obtain ⟨ks, hks, a, rfl, ea⟩ := (Paired.get hus hv)
   have hkl := JI ks
   have et : (((chs s i).take (j + 1)).filter fun ks => decide (ks.length < s)).map (· ++ [i]) = (((chs s i).take j).filter fun ks => decide (ks.length < s)).map (· ++ [i]) ++ ([ks].filter fun ks => decide (ks.length < s)).map (· ++ [i]) := by rw [Tf, hks, UQ, Tg]; rfl
   refine ⟨_, rfl, a, _, rfl, .inl (SqL.of (sf _ _ ea)), _, rfl, _, _, rfl, rfl, _, rfl, ?_⟩
   by_cases z : ks.length < s
   ·have hkk := (HP s i ks (Sr hks)).1
    refine AZ (decide_eq_true (by lia)) ⟨_, rfl, _, rfl, P1, fun l2 h2 => ?_⟩
    have w2 := Af.new (o := .lst [.int (0 + (i : Int))]) h2
    refine ⟨a, l2, _, _, rfl, rfl, w2 _ _ (sf _ _ ea), Aa, RV (show _ ≤ 300 by rw [SK]; lia) P300, fun l3 h3 => ?_⟩
    have w3 := Af.new (o := .lst (kV' ks ++ [.int (0 + (i : Int))])) h3
    have w23 := w2.trans w3
    refine ⟨sf.trans w23, by rw [Ss, SK]; lia, ?_⟩
    rw [et, UM (p := fun ks : List Nat => decide (ks.length < s)) (by exact decide_eq_true z)]
    refine Paired.snoc (Paired.mapP hws fun _ _ z => z.same w23) ⟨l3, rfl, ?_⟩
    rw [Aa, UX]
    unfold kV'
    rw [Tg]; rfl
   ·refine AM (decide_eq_false (by lia)) ⟨sf, by lia, ?_⟩
    rw [et, UN (p := fun ks : List Nat => decide (ks.length < s)) (by simpa using z), UY, List.map_nil, Sf]
    exact hws
  rintro ws F ⟨sf, hwl, hws⟩ lw hlw
  rw [hus.length, UZ] at hws
  have w4 := Af.new (o := .lst ws) hlw
  have hwl2 := hws.length
  refine ⟨f, lw, us, ws, rfl, rfl, w4 _ _ (sf _ _ ef), Aa, RV (show _ ≤ 300 by lia) P300, fun lf hlf => ?_⟩
  have w5 := Af.new (o := .lst (us ++ ws)) hlf
  have w45 := w4.trans w5
  have sG := sf.trans w45
  exact ⟨sg.trans sG, lf, us ++ ws, _, rfl, Aa, Paired.append (Paired.mapP hus fun _ _ z => z.same sG) (Paired.mapP hws fun _ _ z => z.same w45)⟩
 rintro σ G hR2
 refine Br hR2 fun sg hz18 => ?_
 refine CK hz18 fun f us z3 hz18' => ?_
 clear hz18
 refine CL hz18' fun hq17 ef hus => ?_
 clear hz18'
 obtain rfl := hq17
 try clear hR2
 have hul : us.length ≤ 64 := by
  rw [hus.length]
  exact RV (HQ s n) (TC (by decide) hn)
 refine Ce ⟨_, rfl, f, rfl, ⟨_, SqL.of ef⟩, ?_⟩
 refine Fc (xs := us) (L3 G s n fun G s n j ws F => Af G F ∧ ws.length ≤ j ∧ Paired (IL F) ws (((chs s n).take j).filter fun ks => decide (ks.length = s))) ⟨Af.refl _, S9 _, .nil⟩ (fun j ws F _ h => ⟨SqL.of (h.1 _ _ ef), h.2.1⟩) (RW (AF (by lia))) ?_ ?_
 ·rintro j v ws F hv ⟨sf, hwl, hws⟩
  obtain ⟨ks, hks, a, rfl, ea⟩ := (Paired.get hus hv)
  have hkl := JI ks
  have et : ((chs s n).take (j + 1)).filter (fun ks => decide (ks.length = s)) = ((chs s n).take j).filter (fun ks => decide (ks.length = s)) ++ [ks].filter (fun ks => decide (ks.length = s)) := by rw [Tf, hks, UQ]; rfl
  refine ⟨_, rfl, a, _, rfl, .inl (SqL.of (sf _ _ ea)), _, rfl, rfl, _, rfl, ?_⟩
  by_cases z : ks.length = s
  ·refine AZ (decide_eq_true (by rw [hkl, z])) ⟨_, rfl, sf, by rw [Ss, SK]; lia, ?_⟩
   rw [et, UM (p := fun ks : List Nat => decide (ks.length = s)) (by exact decide_eq_true z)]
   exact Paired.snoc hws ⟨a, rfl, sf _ _ ea⟩
  ·refine AM (decide_eq_false (fun w => z (by have := V.int.inj w; lia))) ⟨sf, by lia, ?_⟩
   rw [et, UN (p := fun ks : List Nat => decide (ks.length = s)) (by simpa using z), UY, Sf]
   exact hws
 rintro ws F ⟨sf, hwl, hws⟩ lw hlw
 rw [hus.length, UZ] at hws
 have w4 := Af.new (o := .lst ws) hlw
 exact q lw ws _ ((sg.trans sf).trans w4) ((sg.trans sf).free hlw) Aa (Paired.mapP hws fun _ _ z => z.same w4) (by lia)
theorem AY : Ar ["one", "other", "great", "small", "rest"] ["one", "other"] (Ae (top 6)) := ⟨rfl, rfl, rfl, by decide +kernel, rfl, by decide +kernel, by decide +kernel⟩
theorem E8 {f : Addr} {fd : FuncData} (F : Fun K "common_measure" "common_measure" (top 6) f fd) (Qh : mg "abs" = none) (hT : P.given.tree = none) :
 AH P w K mg base CX0 33 f fd ["one", "other"] (Im) := by
 refine F.ok AY (fun vs H Q E h => ?_) (fun cdv A outer s H vs Q E hr h => ?_)
 ·obtain ⟨_, _, rfl, _⟩ := h; rfl
 refine ⟨_, (Ab (K := K) (Ai (i := 2) AY.nd rfl (Or.inl rfl) (Aq Eg rfl Qh HU (A0 (pv 0) Ac)))
  (Ab (K := K) (Ai (i := 3) AY.nd rfl (Or.inl rfl) (Aq Eg rfl Qh HU (A0 (pv 1) Ac)))
  (Ab (K := K) (Di PassesOwn.never (As FF (pv 3) Ad (Ay _)) (Ab (K := K) (Ai (i := 4) AY.nd rfl (Or.inl rfl) (Ah Cf (pv 2) (pv 3)))
  (Ab (K := K) (Ai (i := 2) AY.nd rfl (Or.inl rfl) (pv 3))
  (Ag (Ai (i := 3) AY.nd rfl (Or.inl rfl) (pv 4))) (by rfl)) (by rfl)))
  (Ag (Ax (pv 2))) (by rfl)) (by rfl)) (by rfl)), ?_⟩
 obtain ⟨a, b, rfl, q⟩ := h
 refine ⟨_, rfl, a, rfl, ?_⟩
 refine ⟨_, rfl, b, rfl, ?_⟩
 refine Ic (L3 H a b fun H a b σ H' => H' = H ∧ ∃ (x y : Int) (r : Option V), σ = [some (.int a), some (.int b), some (.int x), some (.int y), r] ∧ 0 ≤ x ∧ 0 ≤ y ∧ SS x y = SS a b) (fun σ _ => mu 3 σ)
  ⟨rfl, _, _, none, rfl, ?_, ?_, ?_⟩ ?_ ?_
 ·rw [Nm.abs_if]; exact UW _
 ·rw [Nm.abs_if]; exact UW _
 ·rw [Nm.abs_if, Nm.abs_if]; rfl
 ·rintro σ H' hR1
  refine Br hR1 fun hq21 hz23 => ?_
  refine CK hz23 fun x y r hz23' => ?_
  clear hz23
  refine Dw hz23' fun hq22 hx hy hg => ?_
  clear hz23'
  obtain rfl := hq21
  obtain rfl := hq22
  try clear hR1
  refine ⟨_, rfl, rfl, _, rfl, ?_⟩
  by_cases hy0 : y = 0
  ·subst hy0
   refine AM (by rw [decide_eq_true rfl] <;> rfl) ⟨_, rfl, ?_⟩
   have e : (SS a b : Int) = x := by rw [← hg, Int.gcd_zero]; lia
   rw [e] at q
   exact q
  ·refine AZ (by rw [decide_eq_false (fun z => hy0 (V.int.inj z))] <;> rfl) ?_
   have hyp : 0 < y := by lia
   refine ⟨_, rfl, _, rfl, _, _, rfl, rfl, hyp, ?_⟩
   refine ⟨_, rfl, _, rfl, ⟨rfl, y, x % y, _, rfl, hy, U2 _ hy0, ?_⟩, ?_⟩
   ·rw [Nm.gcd_turn]; exact hg
   ·show (x % y).toNat < y.toNat
    have := U3 x hyp
    lia
 ·rintro σ H' Q1 Q2 hm hR2
  obtain ⟨v, e, s1, k, ek, q1⟩ := hR2
  try clear hR2
  exact ⟨v, e, s1, k, ek, hm _ _ q1⟩
theorem Cj : Ar ["numbers", "bottom", "number"] ["numbers"] (Ae (top 13)) := ⟨rfl, rfl, rfl, by decide +kernel, rfl, by decide +kernel, by decide +kernel⟩
theorem Hs {f : Addr} {fd : FuncData} (F : Fun K "bottom_of" "bottom_of" (top 13) f fd) (Qm : Fd P w K mg base 33 "common_measure" ["one", "other"] (Im)) (hT : P.given.tree = none) :
 AH P w K mg base CX0 34 f fd ["numbers"] (Io K) := by
 refine F.ok Cj (fun vs H Q E h => ?_) (fun cdv A outer s H vs Q E hr h => ?_)
 ·obtain ⟨_, _, _, _, _, rfl, _⟩ := h; rfl
 refine ⟨_, (Ab (K := K) (Ai (i := 1) Cj.nd rfl (Or.inl rfl) Ad)
  (Ab (K := K) (Bb (K := K) PassesOwn.never rfl (piS K (pv 0)) (Av (i := 2) Cj.nd rfl (Or.inl rfl)) (Ag (Ai (i := 1) Cj.nd rfl (Or.inl rfl) (Ah Aw (pv 1) (Ah (Bi hr hT) (Aj (ixT K) (pv 2) Ad (fun u v => rfl)) (Ao Qm hr rfl (A0 (pv 1) (A0 (Aj (ixT K) (pv 2) Ad (fun u v => rfl)) Ac))))))) (by rfl))
  (Ag (Ax (pv 1))) (by rfl)) (by rfl)), ?_⟩
 obtain ⟨b, r, xs, qs, n, rfl, hS, hn, hB, hz, q⟩ := h
 have hl := hn.length
 refine Kc (b := b) (a := r) (xs := xs) rfl (L4 H r qs n fun H r qs n i σ H' => H' = H ∧ ∃ (B : Int) (z : Option V), σ = [some (.ref r), some (.int B), z] ∧ 0 < B ∧ (∀ q ∈ qs.take i, (q.den : Int) ∣ B) ∧ Bd (n * i + 1) B) ⟨rfl, 1, none, rfl, by decide, fun q hq => by simp at hq, by unfold Bd; rw [Nat.mul_zero]; decide⟩ (fun i σ H' _ p => by rw [p.1]; exact hS) ?_ ?_
 ·rintro i x σ H' hx hR1
  refine Br hR1 fun hq25 hz27 => ?_
  refine Ct hz27 fun B z hz27' => ?_
  clear hz27
  refine Dw hz27' fun hq26 hB0 hdv hbd => ?_
  clear hz27'
  obtain rfl := hq25
  obtain rfl := hq26
  try clear hR1
  obtain ⟨c, hc, r', rfl, hr⟩ := (Paired.get hn hx)
  have hi : i < qs.length := (S4.mp hc).1
  have hcm : c ∈ qs := Sr hc
  have hd0 : 0 < (c.den : Int) := by have := c.den_pos; lia
  obtain ⟨l1, l2, l3⟩ := (LX hB0 hd0)
  have g0 : (SS B c.den : Int) ≠ 0 := by have := Nm.gcd_pos (a := B) (b := c.den) (by lia); lia
  have bd2 : Bd n (Int.fdiv c.den (SS B c.den : Int)) := (hB c hcm).fdiv
  have hni : n * i ≤ n * qs.length := V0 n (by lia)
  have hnm : n * (qs.length + 2) = n * qs.length + 2 * n := by rw [UT]; lia
  refine ⟨_, rfl, _, rfl, r', _, _, _, rfl, rfl, hr, rfl, _, rfl, _, rfl, r', _, _, _, rfl, rfl, hr, rfl, _, _, rfl, _, _, rfl, rfl, g0, _, _, rfl, rfl, Bv.bd hbd bd2 (by lia), ?_⟩
  refine ⟨rfl, _, _, rfl, l1, fun q' hq' => ?_, ?_⟩
  ·rw [Tf, hc] at hq'
   rcases S2.mp hq' with z | z
   ·exact Int.dvd_trans (hdv q' z) l2
   ·have : q' = c := by simpa using z
    subst this; exact l3
  ·have := hbd.mul bd2
   rw [UT, V1, show n * i + n + 1 = n * i + 1 + n by lia]
   exact this
 ·rintro σ H' hR2
  refine Br hR2 fun hq30 hz32 => ?_
  refine Ct hz32 fun B z hz32' => ?_
  clear hz32
  refine Dw hz32' fun hq31 hB0 hdv hbd => ?_
  clear hz32'
  obtain rfl := hq30
  obtain rfl := hq31
  try clear hR2
  rw [hl, UZ] at hdv
  rw [hl] at hbd
  exact ⟨_, rfl, q B hB0 hdv hbd⟩
theorem Hf : Ar ["numbers", "bottom"] ["numbers", "bottom"] (Ae (top 14)) := ⟨rfl, rfl, rfl, by decide +kernel, rfl, by decide +kernel, by decide +kernel⟩
theorem Hm {f : Addr} {fd : FuncData} (F : Fun K "tops_over" "tops_over" (top 14) f fd) (hT : P.given.tree = none) :
 AH P w K mg base CX0 33 f fd ["numbers", "bottom"] (GS K) := by
 refine F.ok Hf (fun vs H Q E h => ?_) (fun cdv A outer s H vs Q E hr h => ?_)
 ·obtain ⟨_, _, _, _, _, _, _, rfl, _⟩ := h; rfl
 refine ⟨_, (Ag (Ax (CG rfl (N := ["number", "bottom"]) (nt := 1) (js := [1]) (Be.look (NX := ["numbers", "bottom"]) (sc := Ae (top 14)) rfl rfl (by decide +kernel)) (piS K (pv 0)) (fun u1 u2 u3 u4 u5 => (Av (i := 0) (show List.Nodup (["number", "bottom"] : List Str) from by decide +kernel) rfl (Or.inl rfl))) (AL (by decide)) (fun u1 u2 u3 u4 u5 => BP) (fun u1 u2 u3 u4 u5 => (Ah Aw (Aj (ixT K) (pv 0) Ad (fun u v => rfl)) (Ah (Bi hr hT) (pv 1) (Aj (ixT K) (pv 0) Ad (fun u v => rfl)))))))), ?_⟩
 obtain ⟨b, r, xs, qs, B, m, n, rfl, hS, hn, hbB, hbn, hmn, hz, q⟩ := h
 have hl := hn.length
 refine LY (b := b) (a := r) (xs := xs) rfl (fun i zs H' => H' = H ∧ zs = ((qs.take i).map (BM B)).map V.int) ⟨rfl, rfl⟩ (fun i zs H' hi p => ⟨by rw [p.1]; exact hS, by rw [p.2, Su, Su, Sj]; lia⟩) (by rw [hl]; exact RW (AF hz)) ?_ ?_
 ·rintro i x zs H' hx ⟨rfl, rfl⟩
  obtain ⟨c, hc, r', rfl, hr⟩ := (Paired.get hn hx)
  have hcm : c ∈ qs := Sr hc
  have hd0 : (c.den : Int) ≠ 0 := by have := c.den_pos; lia
  refine ⟨_, rfl, r', _, _, _, rfl, rfl, hr, rfl, _, rfl, _, rfl, r', _, _, _, rfl, rfl, hr, rfl, _, _, rfl, rfl, hd0, _, _, rfl, rfl, Bv.bd (hbn c hcm) (hbB.fdiv (y := c.den)) (by lia), rfl, ?_⟩
  rw [Tf, hc, Tg, Tg]
  rfl
 ·rintro zs H' ⟨rfl, rfl⟩ p hp
  rw [hl, UZ]
  exact q p hp
theorem Df : Ar ["numbers", "width"] ["numbers"] (Ae (top 12)) := ⟨rfl, rfl, rfl, by decide +kernel, rfl, by decide +kernel, by decide +kernel⟩
theorem ID {f : Addr} {fd : FuncData} (F : Fun K "curve_of" "curve_of" (top 12) f fd) (Qc : mg "len" = none) (Qf : mg "tuple" = none) {a_NOUGHT : Addr} (c_NOUGHT : mg "NOUGHT" = some (.ref a_NOUGHT)) (n_NOUGHT : ∀ H : Hp, AB K H (.ref a_NOUGHT) (0)) (hT : P.given.tree = none) :
 AH P w K mg base CX0 33 f fd ["numbers"] (Eo K) := by
 refine F.ok Df (fun vs H Q E h => ?_) (fun cdv A outer s H vs Q E hr h => ?_)
 ·obtain ⟨_, _, _, rfl, _⟩ := h; rfl
 refine ⟨_, (Ab (K := K) (Ai (i := 1) Df.nd rfl (Or.inl rfl) (Aq (Bx K) rfl Qc AD (A0 (pv 0) Ac)))
  (Ab (K := K) (Di PassesOwn.never (PW.pt (Fy (As DI (pv 1) Ad (Ay _)) (E1 (As (eqD K hr.units) (Aj (ixL K) (pv 0) (Ah AU (pv 1) Ad) (fun u v => rfl)) (E3 (v := .ref a_NOUGHT) rfl c_NOUGHT rfl) (Ay _))))) (Ag (Ai (i := 1) Df.nd rfl (Or.inl rfl) (Ah AU (pv 1) Ad))))
  (Ag (Ax (CH (GQ K) rfl Qf Eh (A0 (BF (slL K) (pv 0) C3 (C2 (pv 1))) Ac)))) (by rfl)) (by rfl)), ?_⟩
 obtain ⟨r, xs, qs, rfl, hS, hn, hz, q⟩ := h
 have hl := hn.length
 refine ⟨_, rfl, r, xs, rfl, .inl hS, ?_⟩
 refine ND (L3 H r qs fun H r qs σ H' => H' = H ∧ ∃ (v : Nat), σ = [some (.ref r), some (.int (v : Int))] ∧ v ≤ qs.length ∧ ∀ j q, v ≤ j → qs[j]? = some q → q = 0) (fun σ _ => mu 1 σ) ⟨rfl, qs.length, by rw [← hl]; rfl, S9 _, fun j q hj e => absurd (S4.mp e).1 (by lia)⟩ ?_
 rintro σ H' hR1
 refine Br hR1 fun hq35 hz37 => ?_
 refine JK hz37 fun v hz37' => ?_
 clear hz37
 refine CL hz37' fun hq36 hv hall => ?_
 clear hz37'
 obtain rfl := hq35
 obtain rfl := hq36
 try clear hR1
 have fin : (v = 0 ∨ ∃ q, qs[v - 1]? = some q ∧ q ≠ 0) → ∀ p, H' p = none → ∀ p', upd H' p (.lst (CD xs none (some (v : Int)))) p' = none → Q (.ref p') (upd (upd H' p (.lst (CD xs none (some (v : Int))))) p' (.tup (CD xs none (some (v : Int))))) := fun hc p hp p' hp' => by
  have e : CD xs none (some (v : Int)) = xs.take v := by
   unfold CD
   have e1 : HT.sIx xs.length 0 none = 0 := rfl
   have e2 : HT.sIx xs.length xs.length (some (v : Int)) = min v xs.length := HT.sIx_nat _ _ v
   rw [e1, e2, TU, TV]
   apply Tr
   intro i
   rw [Us, Us]
   split <;> split <;> first | rfl | lia | (rename_i h1 h2; exact (TM (by lia)).symm) | (rename_i h1 h2; exact TM (by lia))
  have sm : Af H' (upd (upd H' p (.lst (CD xs none (some (v : Int))))) p' (.tup (CD xs none (some (v : Int))))) := (Af.new hp).trans (Af.new hp')
  refine q p' _ sm ⟨xs.take v, SqT.of (by rw [e]; exact Aa), ?_⟩
  rw [← Cv.take_strip qs v hall hc]
  exact Paired.take v (Ap.same hn sm)
 refine ⟨_, rfl, _, _, rfl, rfl, _, rfl, ?_⟩
 by_cases hv0 : v = 0
 ·subst hv0
  refine IV (IV ?_)
  exact ⟨_, rfl, _, rfl, _, rfl, r, xs, rfl, hS, fun p hp => ⟨p, _, rfl, .inl ⟨SqL.of Aa, fun p' hp' => fin (.inl rfl) p hp p' hp'⟩⟩⟩
 ·refine AZ (by rw [decide_eq_true (show (0 : Int) < (v : Int) by lia)] <;> rfl) ?_
  have hvi : v - 1 < qs.length := by lia
  have hq : qs[v - 1]? = some qs[v - 1] := Tx hvi
  obtain ⟨x, hx, hxn⟩ := (Paired.get' hn hq)
  have hat : atI xs ((v : Int) - 1) = some x := by
   rw [show (v : Int) - 1 = ((v - 1 : Nat) : Int) by lia]
   exact AW hx
  refine ⟨_, rfl, _, rfl, _, _, rfl, rfl, r, xs, _, x, rfl, rfl, hS, hat, ?_⟩
  refine eqN hxn (n_NOUGHT _) ?_
  refine ⟨_, rfl, ?_⟩
  by_cases hq0 : qs[v - 1] = 0
  ·refine AZ (by rw [decide_eq_true hq0] <;> rfl) (NC ?_)
   refine ⟨_, rfl, _, _, rfl, rfl, ⟨rfl, v - 1, ?_, by lia, fun j q' hj e => ?_⟩, ?_⟩
   ·show [some (V.ref r), some (V.int ((v : Int) - 1))] = [some (V.ref r), some (V.int ((v - 1 : Nat) : Int))]
    rw [show (v : Int) - 1 = ((v - 1 : Nat) : Int) by lia]
   ·by_cases hjv : v ≤ j
    ·exact hall j q' hjv e
    ·have : j = v - 1 := by lia
     subst this
     rw [hq] at e
     cases e
     exact hq0
   ·show ((v : Int) - 1).toNat < (v : Int).toNat
    lia
  ·refine AM (by rw [decide_eq_false hq0] <;> rfl) ?_
   exact ⟨_, rfl, _, rfl, _, rfl, r, xs, rfl, hS, fun p hp => ⟨p, _, rfl, .inl ⟨SqL.of Aa, fun p' hp' => fin (.inr ⟨_, hq, hq0⟩) p hp p' hp'⟩⟩⟩
theorem CS : Ar ["top", "bottom", "measure"] ["top", "bottom"] (Ae (top 7)) := ⟨rfl, rfl, rfl, by decide +kernel, rfl, by decide +kernel, by decide +kernel⟩
theorem Ho {f : Addr} {fd : FuncData} (F : Fun K "number_of" "number_of" (top 7) f fd) (Qm : Fd P w K mg base 33 "common_measure" ["one", "other"] (Im)) (hT : P.given.tree = none) :
 AH P w K mg base CX0 34 f fd ["top", "bottom"] (D9) := by
 refine F.ok CS (fun vs H Q E h => ?_) (fun cdv A outer s H vs Q E hr h => ?_)
 ·obtain ⟨_, _, rfl, _⟩ := h; rfl
 refine ⟨_, (Ab (K := K) (AQ (K := K) (As E5 (pv 1) Ad (Ay _)) (Ag Cd) AK (by rfl) (by rfl))
  (Ab (K := K) (Ai (i := 2) CS.nd rfl (Or.inl rfl) (Ao Qm hr rfl (A0 (pv 0) (A0 (pv 1) Ac))))
  (Ab (K := K) (AQ (K := K) (As E4 (pv 1) Ad (Ay _)) (Ag (Ai (i := 2) CS.nd rfl (Or.inl rfl) (Iv Ff (pv 2)))) AK (by rfl) (by rfl))
  (Ag (Ax (AR (A0 (Ah (Bi hr hT) (pv 0) (pv 2)) (A0 (Ah (Bi hr hT) (pv 1) (pv 2)) Ac))))) (by rfl)) (by rfl)) (by rfl)), ?_⟩
 obtain ⟨a, b, rfl, hb, q⟩ := h
 refine ⟨_, rfl, rfl, _, rfl, ?_⟩
 refine AM (by rw [decide_eq_false (fun z => hb (V.int.inj z))] <;> rfl) ?_
 refine ⟨_, rfl, _, rfl, a, b, rfl, ?_⟩
 refine ⟨_, rfl, _, _, rfl, rfl, _, rfl, ?_⟩
 have hd : Nm.msr a b ≠ 0 := Nm.msr_ne hb
 have fin : ∀ p, H p = none → Q (.ref p) (upd H p (.tup [.int (a.fdiv (Nm.msr a b)), .int (b.fdiv (Nm.msr a b))])) := fun p hp => by
  rw [Nm.top_msr hb, Nm.bottom_msr hb]; exact q p hp
 by_cases hb0 : b < 0
 ·have hd' : Nm.msr a b = -(SS a b : Int) := by unfold Nm.msr; rw [if_pos hb0]
  rw [hd'] at hd fin
  refine AZ (by rw [decide_eq_true hb0] <;> rfl) ⟨_, rfl, _, rfl, ?_⟩
  exact ⟨_, rfl, _, rfl, _, _, rfl, rfl, hd, _, rfl, _, rfl, _, _, rfl, rfl, hd, (by decide : 2 ≤ sizeLine), fin⟩
 ·have hd' : Nm.msr a b = (SS a b : Int) := by unfold Nm.msr; rw [if_neg hb0]
  rw [hd'] at hd fin
  refine AM (by rw [decide_eq_false hb0] <;> rfl) ?_
  exact ⟨_, rfl, _, rfl, _, _, rfl, rfl, hd, _, rfl, _, rfl, _, _, rfl, rfl, hd, (by decide : 2 ≤ sizeLine), fin⟩
theorem Ga : Ar ["tops", "bottom"] ["tops", "bottom"] (Ae (top 15)) := ⟨rfl, rfl, rfl, by decide +kernel, rfl, by decide +kernel, by decide +kernel⟩
theorem Gf {f : Addr} {fd : FuncData} (F : Fun K "curve_over" "curve_over" (top 15) f fd) (QX : Fd P w K mg base 33 "curve_of" ["numbers"] (Eo K)) (Qj : Fd P w K mg base 34 "number_of" ["top", "bottom"] (D9)) (hT : P.given.tree = none) :
 AH P w K mg base CX0 35 f fd ["tops", "bottom"] (Cy K) := by
 refine F.ok Ga (fun vs H Q E h => ?_) (fun cdv A outer s H vs Q E hr h => ?_)
 ·obtain ⟨_, _, _, rfl, _⟩ := h; rfl
 refine ⟨_, (Ag (Ax (Ao QX hr rfl (A0 (CG rfl (N := ["top", "bottom"]) (nt := 1) (js := [1]) (Be.look (NX := ["tops", "bottom"]) (sc := Ae (top 15)) rfl rfl (by decide +kernel)) (piS K (pv 0)) (fun u1 u2 u3 u4 u5 => (Av (i := 0) (show List.Nodup (["top", "bottom"] : List Str) from by decide +kernel) rfl (Or.inl rfl))) (AL (by decide)) (fun u1 u2 u3 u4 u5 => BP) (fun u1 u2 u3 u4 u5 => (Ao Qj hr rfl (A0 (pv 0) (A0 (pv 1) Ac))))) Ac)))), ?_⟩
 obtain ⟨l, ts, b, rfl, hS, hb, hz, q⟩ := h
 have ll : (ts.map V.int).length = ts.length := Su _
 refine LY (b := true) (a := l) (xs := ts.map V.int) rfl (L4 H K ts b fun H K ts b i zs H' => Af H H' ∧ zs.length = i ∧ Ap K H' zs ((ts.take i).map fun t => SW t b)) ⟨Af.refl _, rfl, .nil⟩ (fun i zs H' _ p => ⟨Af.seq p.1 hS, p.2.1⟩) (by rw [ll]; exact RW (AF hz)) ?_ ?_
 ·rintro i x zs H' hx ⟨sm, hl, hn⟩
  rw [Sn] at hx
  cases et : ts[i]? with
  | none => rw [et] at hx; cases hx
  | some t =>
    rw [et] at hx
    cases hx
    refine ⟨_, rfl, _, rfl, t, b, rfl, hb, fun p hp => ⟨sm.trans (Af.new hp), by simp [hl], ?_⟩⟩
    rw [Tf, et, Tg]
    exact Paired.snoc (Ap.same hn (Af.new hp)) (AB.of Aa)
 ·rintro zs H' ⟨sm, hl, hn⟩ p hp
  rw [ll, UZ] at hn
  refine ⟨p, zs, _, rfl, SqL.of Aa, Ap.same hn (Af.new hp), by rw [Su]; exact hz, fun r H2 s2 c => q r H2 ((sm.trans (Af.new hp)).trans s2) c⟩
theorem BI : Ar ["first", "second", "product", "k", "j"] ["first", "second"] (Ae (top 18)) := ⟨rfl, rfl, rfl, by decide +kernel, rfl, by decide +kernel, by decide +kernel⟩
theorem Ew {f : Addr} {fd : FuncData} (F : Fun K "whole_product" "whole_product" (top 18) f fd) (Qd : mg "range" = none) (Qc : mg "len" = none) (hT : P.given.tree = none) :
 AH P w K mg base CX0 33 f fd ["first", "second"] (Jn K) := by
 refine F.ok BI (fun vs H Q E h => ?_) (fun cdv A outer s H vs Q E hr h => ?_)
 ·obtain ⟨_, _, _, _, _, _, rfl, _⟩ := h; rfl
 refine ⟨_, (Ab (K := K) (Ai (i := 2) BI.nd rfl (Or.inl rfl) (Ah DO (AS (A0 Ad Ac)) (Ah AU (Ah AG (Aq (Bx K) rfl Qc AD (A0 (pv 0) Ac)) (Aq (Bx K) rfl Qc AD (A0 (pv 1) Ac))) Ad)))
  (Ab (K := K) (Bb (K := K) PassesOwn.never rfl (Bp rfl Qd (A0 (Aq (Bx K) rfl Qc AD (A0 (pv 0) Ac)) Ac)) (Av (i := 3) BI.nd rfl (Or.inl rfl)) (Ag (Bb (K := K) PassesOwn.never rfl (Bp rfl Qd (A0 (Aq (Bx K) rfl Qc AD (A0 (pv 1) Ac)) Ac)) (Av (i := 4) BI.nd rfl (Or.inl rfl)) (Ag (Eu (Ah AG (Aj (ixL K) (pv 2) (Ah AG (pv 3) (pv 4)) (fun u v => rfl)) (Ah Aw (Aj (ixL K) (pv 0) (pv 3) (fun u v => rfl)) (Aj (ixL K) (pv 1) (pv 4) (fun u v => rfl)))) (FD (pv 2) (Ah AG (pv 3) (pv 4)) Dd))) (by rfl))) (by rfl))
  (Ag (Ax (pv 2))) (by rfl)) (by rfl)), ?_⟩
 obtain ⟨f, g, fs, gs, m, n, rfl, hf, hg, hg1, hf1000, hg1000, hbf, hbg, hmn, q⟩ := h
 have lf : (fs.map V.int).length = fs.length := Su _
 have lg : (gs.map V.int).length = gs.length := Su _
 have P1 : 1 ≤ sizeLine := by decide
 have hfg : fs.length * gs.length ≤ 1000 * 1000 := UE hf1000 hg1000
 refine ⟨P1, fun o ho => ?_⟩
 have hf0 : SqL K (upd H o (.lst [.int 0])) f (fs.map V.int) := Lo hf ho
 have hg0 : SqL K (upd H o (.lst [.int 0])) g (gs.map V.int) := Lo hg ho
 refine ⟨_, rfl, f, _, rfl, .inl hf0, _, rfl, g, _, rfl, .inl hg0, _, _, rfl, rfl, _, _, rfl, rfl, o, _, _, rfl, rfl, Aa, ?_, ?_, ?_, fun p hp => ?_⟩
 ·rw [lf, lg]; lia
 ·rw [lf, lg]; lia
 ·show 1 * (((fs.map V.int).length : Int) + ((gs.map V.int).length : Int) - 1).toNat ≤ sizeLine
  rw [lf, lg, TJ]
  exact RV (KG hf1000 hg1000) (by decide : 2 * 1000 ≤ sizeLine)
 have hpH : H p = none := by
  cases z : H p with
  | none => rfl
  | some u => rw [(Af.new ho) p u z] at hp; cases hp
 have eL : (((fs.map V.int).length : Int) + ((gs.map V.int).length : Int) - 1).toNat = fs.length + gs.length - 1 := by rw [lf, lg]; exact LU hg1
 rw [eL]
 have s0 : Af H (upd (upd H o (.lst [.int 0])) p (.lst (Si (fs.length + gs.length - 1) [V.int 0]).flatten)) := (Af.new ho).trans (Af.new hp)
 have e0 : (Si (fs.length + gs.length - 1) [V.int 0]).flatten = (Si (fs.length + gs.length - 1) (0 : Int)).map V.int := by rw [List.flatten_replicate_singleton, List.map_replicate]
 rw [e0] at s0 ⊢
 refine ⟨_, rfl, f, _, rfl, .inl (Af.seq s0 hf), _, rfl, by rw [lf]; lia, by rw [lf]; lia, ?_⟩
 rw [lf, Sy]
 refine BK (n := fs.length) (L8 H f g p fs gs m n fun H f g p fs gs m n i σ H' => Af H H' ∧ ∃ (ps : List Int) (z3 z4 : Option V), σ = [some (.ref f), some (.ref g), some (.ref p), z3, z4] ∧ H' p = some (.lst (ps.map V.int)) ∧ ps.length = fs.length + gs.length - 1 ∧ (∀ x, Cv.evI ps x = Cv.evI (fs.take i) x * Cv.evI gs x) ∧ ∀ t ∈ ps, Up (i * gs.length) (m + n) t)
  ⟨s0, _, none, none, rfl, Aa, Sv, fun x => ?_, fun t ht => ?_⟩ ?_ ?_
 ·rw [Cv.evI_zeros, TY]
  show (0 : Rat) = 0 * _
  grind
 ·rw [(UG.mp ht).2]; exact Sb _
 ·rintro i σ H' hi hR1
  refine Br hR1 fun sm hz39 => ?_
  refine CK hz39 fun ps z3 z4 hz39' => ?_
  clear hz39
  refine D5 hz39' fun hq38 ep hpl hev hup => ?_
  clear hz39'
  obtain rfl := hq38
  try clear hR1
  have hfi : fs[i]? = some fs[i] := Tx hi
  refine ⟨_, rfl, g, _, rfl, .inl (Af.seq sm hg), _, rfl, by rw [lg]; lia, by rw [lg]; lia, ?_⟩
  rw [lg, Sy]
  refine BK (n := gs.length) (fun j σ H' => Af H H' ∧ ∃ (ps : List Int) (z4 : Option V), σ = [some (.ref f), some (.ref g), some (.ref p), some (.int (0 + (i : Int))), z4] ∧ H' p = some (.lst (ps.map V.int)) ∧ ps.length = fs.length + gs.length - 1 ∧ (∀ x, Cv.evI ps x = Cv.evI (fs.take i) x * Cv.evI gs x + (fs[i] : Rat) * x ^ i * Cv.evI (gs.take j) x) ∧ ∀ t ∈ ps, Up (i * gs.length + j) (m + n) t)
   ⟨sm, ps, z4, rfl, ep, hpl, fun x => ?_, hup⟩ ?_ ?_
  ·rw [hev x, TY]
   show _ = _ + _ * (0 : Rat)
   grind
  ·rintro j σ H2 hj hR2
   refine Br hR2 fun sm2 hz41 => ?_
   refine Ct hz41 fun ps2 z4' hz41' => ?_
   clear hz41
   refine D5 hz41' fun hq40 ep2 hpl2 hev2 hup2 => ?_
   clear hz41'
   obtain rfl := hq40
   try clear hR2
   have hgj : gs[j]? = some gs[j] := Tx hj
   have hij : i + j < ps2.length := Ow hi hj hpl2
   have hpj : ps2[i + j]? = some ps2[i + j] := Tx hij
   have bm : Bv fs[i] gs[j] := Bv.bd (hbf _ (Tz hi)) (hbg _ (Tz hj)) (by lia)
   refine ⟨_, rfl, _, rfl, _, rfl, _, _, rfl, rfl, p, _, _, _, rfl, rfl, SqL.of ep2, Ei hpj (by lia), _, rfl, _, rfl, f, _, _, _, rfl, rfl, Af.seq sm2 hf, Ei hfi (by lia), _, rfl, _, rfl, g, _, _, _, rfl, rfl, Af.seq sm2 hg, Ei hgj (by lia), _, _, rfl, rfl, bm, _, _, rfl, rfl, ?_⟩
   refine ⟨_, rfl, _, rfl, _, rfl, _, _, rfl, rfl, p, _, _, i + j, rfl, rfl, ep2, IU (by rw [Su]; exact hij) (by lia), ?_⟩
   refine ⟨sm2.put hpH, ps2.set (i + j) (ps2[i + j] + fs[i] * gs[j]), _, rfl, ?_, by rw [SF]; exact hpl2, fun x => ?_, fun t ht => ?_⟩
   ·rw [Aa, List.map_set]
   ·rw [Cv.evI_set x ps2 (i + j) _ _ hpj, hev2 x, Cv.evI_take_succ x gs j _ hgj, T5, Nm.pow_add]
    grind
   ·rcases V2 ht with z | z
    ·exact (hup2 t z).mono (by lia)
    ·subst z
     exact (hup2 _ (Tz hij)).add ((hbf _ (Tz hi)).mul (hbg _ (Tz hj)))
  ·rintro σ H2 hR3
   refine Br hR3 fun sm2 hz43 => ?_
   refine Ct hz43 fun ps2 z4' hz43' => ?_
   clear hz43
   refine D5 hz43' fun hq42 ep2 hpl2 hev2 hup2 => ?_
   clear hz43'
   obtain rfl := hq42
   try clear hR3
   refine ⟨sm2, ps2, _, _, rfl, ep2, hpl2, fun x => ?_, fun t ht => ?_⟩
   ·rw [hev2 x, UZ, Cv.evI_take_succ x fs i _ hfi]
    grind
   ·have := hup2 t ht
    rw [TH, TJ]
    exact this
 ·rintro σ H' hR4
  refine Br hR4 fun sm hz45 => ?_
  refine CK hz45 fun ps z3 z4 hz45' => ?_
  clear hz45
  refine D5 hz45' fun hq44 ep hpl hev hup => ?_
  clear hz45'
  obtain rfl := hq44
  try clear hR4
  refine ⟨_, rfl, q p H' ps sm hpH ep hpl (fun x => ?_) (fun t ht => ?_)⟩
  ·rw [hev x, UZ]
  ·exact (hup t ht).bd (k := 20) (by lia)
theorem Bs : Ar ["knots", "steps", "bottom", "step_tops", "tops", "scale", "k"] ["knots", "steps"] (Ae (top 39)) := ⟨rfl, rfl, rfl, by decide +kernel, rfl, by decide +kernel, by decide +kernel⟩
theorem IE {f : Addr} {fd : FuncData} (F : Fun K "by_steps" "by_steps" (top 39) f fd) (Qn : Fd P w K mg base 34 "bottom_of" ["numbers"] (Io K)) (Qu : Fd P w K mg base 33 "tops_over" ["numbers", "bottom"] (GS K)) (Qo : Fd P w K mg base 35 "curve_over" ["tops", "bottom"] (Cy K)) (QY : Fd P w K mg base 33 "whole_product" ["first", "second"] (Jn K)) (Qd : mg "range" = none) (Qc : mg "len" = none) (hT : P.given.tree = none) :
 AH P w K mg base CX0 36 f fd ["knots", "steps"] (DA K) := by
 refine F.ok Bs (fun vs H Q E h => ?_) (fun cdv A outer s H vs Q E hr h => ?_)
 ·obtain ⟨_, _, _, _, _, _, _, rfl, _⟩ := h; rfl
 refine ⟨_, (Ab (K := K) (Ai (i := 2) Bs.nd rfl (Or.inl rfl) (Ao Qn hr rfl (A0 (pv 1) Ac)))
  (Ab (K := K) (Ai (i := 3) Bs.nd rfl (Or.inl rfl) (Ao Qu hr rfl (A0 (pv 1) (A0 (pv 2) Ac))))
  (Ab (K := K) (Ai (i := 4) Bs.nd rfl (Or.inl rfl) (AS Ac))
  (Ab (K := K) (Ai (i := 5) Bs.nd rfl (Or.inl rfl) Ad)
  (Ab (K := K) (Bb (K := K) PassesOwn.never rfl (N6 rfl Qd (A0 (Ah AU (Aq (Bx K) rfl Qc AD (A0 (pv 0) Ac)) Ad) (A0 (Iv Ff Ad) (A0 (Iv Ff Ad) Ac)))) (Av (i := 6) Bs.nd rfl (Or.inl rfl)) (Ab (K := K) (Ai (i := 4) Bs.nd rfl (Or.inl rfl) (Ao QY hr rfl (A0 (pv 4) (A0 (AS (A0 (Iv Ff (Aj (ixT K) (Aj (ixL K) (pv 0) (pv 6) (fun u v => rfl)) Ad (fun u v => rfl))) (A0 (Aj (ixT K) (Aj (ixL K) (pv 0) (pv 6) (fun u v => rfl)) Ad (fun u v => rfl)) Ac))) Ac))))
  (Ab (K := K) (Ai (i := 5) Bs.nd rfl (Or.inl rfl) (Ah Aw (pv 5) (Aj (ixT K) (Aj (ixL K) (pv 0) (pv 6) (fun u v => rfl)) Ad (fun u v => rfl))))
  (Ag (Eu (Ah AG (Aj (ixL K) (pv 4) Ad (fun u v => rfl)) (Ah Aw (Aj (ixL K) (pv 3) (pv 6) (fun u v => rfl)) (pv 5))) (FD (pv 4) Ad Dd))) (by rfl)) (by rfl)) (by rfl))
  (Ag (Ax (Ao Qo hr rfl (A0 (pv 4) (A0 (Ah Aw (pv 2) (pv 5)) Ac))))) (by rfl)) (by rfl)) (by rfl)) (by rfl)) (by rfl)), ?_⟩
 obtain ⟨rk, rst, xs, ys, ks, ss, n, rfl, hk, hnk, hs, hns, hlen, h30, hbk, hbs, hn4, q⟩ := h
 have hlk := hnk.length
 have hls := hns.length
 have P0 : 0 ≤ sizeLine := by decide
 have P2 : 2 ≤ sizeLine := by decide
 have hnq : n * ks.length ≤ 2048000 * 12 := UE hn4 h30
 have hnq' : n * ss.length = n * ks.length := by rw [hlen]
 refine ⟨_, rfl, true, rst, ys, ss, n, rfl, hs, hns, (fun c hc => (hbs c hc).2), by rw [UT]; lia, fun B hB0 hdv hbB => ?_⟩
 refine ⟨_, rfl, _, rfl, true, rst, ys, ss, B, n * ss.length + 1, n, rfl, hs, hns, hbB, (fun c hc => (hbs c hc).1), by lia, by lia, fun st h1 => ?_⟩
 refine ⟨P0, fun tp h2 => ?_⟩
 have s2 : Af H (upd (upd H st (.lst ((ss.map (BM B)).map V.int))) tp (.lst [])) := (Af.new h1).trans (Af.new h2)
 have est : (upd (upd H st (.lst ((ss.map (BM B)).map V.int))) tp (.lst [])) st = some (.lst ((ss.map (BM B)).map V.int)) := (Af.new h2) _ _ Aa
 have etp : (upd (upd H st (.lst ((ss.map (BM B)).map V.int))) tp (.lst [])) tp = some (.lst (([] : List Int).map V.int)) := Aa
 generalize upd (upd H st (.lst ((ss.map (BM B)).map V.int))) tp (.lst []) = H2 at s2 est etp ⊢
 refine ⟨_, rfl, rk, xs, rfl, .inl (Af.seq s2 hk), _, _, rfl, rfl, _, rfl, _, rfl, _, _, rfl, ⟨by lia, by lia, by decide, by decide⟩, ?_⟩
 have eT : ((xs.length : Int) - 1 - -1).toNat = ks.length := Ni hlk
 rw [eT]
 refine Mf (n := ks.length) (L8 H2 rk rst B st ks ss n fun H2 rk rst B st ks ss n i σ H' => Af H2 H' ∧ ∃ (tp : Addr) (ts : List Int) (s : Int) (z : Option V), σ = [some (.ref rk), some (.ref rst), some (.int B), some (.ref st), some (.ref tp), some (.int s), z] ∧ H' tp = some (.lst (ts.map V.int)) ∧ ts.length = i ∧ s ≠ 0 ∧
  (∀ x, Cv.evI ts x = Bk (ks.drop (ks.length - i)) (ss.drop (ks.length - i)) x * ((B : Rat) * (s : Rat))) ∧ (∀ t ∈ ts, Bd (n * ks.length + n * i + 21 * i + 2 * n + 30) t) ∧ Bd (n * i + 1) s)
  ⟨Af.refl _, tp, [], 1, none, rfl, etp, rfl, by decide, fun x => ?_, (fun _ h => nomatch h), ?_⟩ ?_ ?_
 ·rw [TV, TZ (S9 _)]
  show (0 : Rat) = 0 * _
  grind
 ·exact (show Bd 1 1 by unfold Bd; decide).mono (by lia)
 ·rintro i σ H' hi hR1
  refine Br hR1 fun sm hz47 => ?_
  refine HI hz47 fun tp' ts s z hz47' => ?_
  clear hz47
  refine Mw hz47' fun hq46 etp' htl hs0 he hbt hbsc => ?_
  clear hz47'
  obtain rfl := hq46
  try clear hR1
  have hj : ks.length - 1 - i < ks.length := Ov hi
  have hj2 : ks.length - 1 - i < ss.length := by lia
  have hkq : ks[ks.length - 1 - i]? = some ks[ks.length - 1 - i] := Tx hj
  have hsq : ss[ks.length - 1 - i]? = some ss[ks.length - 1 - i] := Tx hj2
  have hcm : ks[ks.length - 1 - i] ∈ ks := Tz hj
  have hsm : ss[ks.length - 1 - i] ∈ ss := Tz hj2
  generalize ks[ks.length - 1 - i] = c at hkq hcm
  generalize ss[ks.length - 1 - i] = d at hsq hsm
  obtain ⟨xk, hxk, rk', rfl, hrk⟩ := (Paired.get' hnk hkq)
  have ei : (xs.length : Int) - 1 - (i : Int) = ((ks.length - 1 - i : Nat) : Int) := LW hlk hi
  have hat : atI xs ((xs.length : Int) - 1 - (i : Int)) = some (.ref rk') := by rw [ei]; exact AW hxk
  have hat2 : atI ((ss.map (BM B)).map V.int) ((xs.length : Int) - 1 - (i : Int)) = some (.int (BM B d)) := Ei (by rw [Sn, hsq]; rfl) ei
  have hni : n * i ≤ n * ks.length := V0 n (by lia)
  have hni1 : n * (i + 1) = n * i + n := by rw [UT, V1]
  have bt : Bd (n * ks.length + n + 1) (BM B d) := ((hbs d hsm).1.mul (hbB.fdiv (y := d.den))).mono (by lia)
  have sH := s2.trans sm
  have hrk1 := hrk.same sH
  refine ⟨_, rfl, _, rfl, _, rfl, rk, xs, _, _, rfl, rfl, Af.seq sH hk, hat, rk', _, _, _, rfl, rfl, hrk1, rfl, _, rfl, _, rfl, _, rfl, rk, xs, _, _, rfl, rfl, Af.seq sH hk, hat, rk', _, _, _, rfl, rfl, hrk1, rfl, P2, fun g hg => ?_⟩
  have sg : Af H' (upd H' g (.lst [.int (-c.num), .int (c.den : Int)])) := Af.new hg
  have eg : (upd H' g (.lst [.int (-c.num), .int (c.den : Int)])) g = some (.lst ([-c.num, (c.den : Int)].map V.int)) := Aa
  generalize upd H' g (.lst [.int (-c.num), .int (c.den : Int)]) = Hg at sg eg ⊢
  have blin : ∀ t ∈ [-c.num, (c.den : Int)], Bd n t := fun t ht => by
   rcases S1.mp ht with z | z
   ·subst z; exact (hbk c hcm).1.neg
   ·rw [Tw.mp z]; exact (hbk c hcm).2
  refine ⟨tp', g, ts, [-c.num, (c.den : Int)], n * ks.length + n * i + 21 * i + 2 * n + 30, n, rfl, SqL.of (sg _ _ etp'), SqL.of eg, (show 1 ≤ 2 by decide), by lia, (show 2 ≤ 1000 by decide), hbt, blin, by lia, fun pr H6 ps s6 hpr epr hpl hpe hpb => ?_⟩
  have hpl' : ps.length = i + 1 := by rw [hpl, htl]; rfl
  have hp0 : 0 < ps.length := by rw [hpl']; exact TL i
  have h0 : ps[0]? = some ps[0] := Tx hp0
  have sg6 := sg.trans s6
  have s06 := sH.trans sg6
  have ms : Bv s (c.den : Int) := Bv.bd hbsc (hbk c hcm).2 (by lia)
  have bs' : Bd (n * (i + 1) + 1) (s * (c.den : Int)) := (hbsc.mul (hbk c hcm).2).mono (by lia)
  refine ⟨_, rfl, _, rfl, _, rfl, rk, xs, _, _, rfl, rfl, Af.seq s06 hk, hat, rk', _, _, _, rfl, rfl, hrk.same s06, rfl, _, _, rfl, rfl, ms, ?_⟩
  refine ⟨_, rfl, pr, _, _, _, rfl, rfl, SqL.of epr, Ei h0 rfl, _, rfl, _, rfl, st, _, _, _, rfl, rfl, SqL.of (sg6 _ _ (sm _ _ est)), hat2, _, rfl, _, _, rfl, rfl, Bv.bd bt bs' (by lia), _, _, rfl, rfl, ?_⟩
  refine ⟨_, rfl, pr, _, _, 0, rfl, rfl, epr, IU (by rw [Su]; lia) rfl, ?_⟩
  have sm2 : Af H2 (upd H6 pr (.lst ((ps.map V.int).set 0 (.int (ps[0] + BM B d * (s * (c.den : Int))))))) := fun bb u zz => by
   have z1 := sg _ _ (sm bb u zz)
   rw [Am (Au z1 hpr)]
   exact s6 bb u z1
  refine ⟨sm2, pr, ps.set 0 (ps[0] + BM B d * (s * (c.den : Int))), s * (c.den : Int), _, rfl, ?_, by rw [SF]; exact hpl', T4 hs0 (Nm.den_ne c), fun x => ?_, fun t ht => ?_, bs'⟩
  ·rw [Aa, List.map_set]
  ·rw [Cv.evI_set x ps 0 _ _ h0, hpe x, Mg, he x, T8, HL rfl hi hkq, HL hlen.symm hi hsq]
   show _ = (d + (x - c) * Bk _ _ x) * _
   rw [T5, T5, Gq (hdv d hsm)]
   grind
  ·rcases V2 ht with zz | zz
   ·exact (hpb t zz).mono (by lia)
   ·subst zz
    have b1 := (hpb _ (Tz hp0)).mono (n := n * ks.length + n * i + 21 * i + 2 * n + 30 + n + 20) (by lia)
    have b2 := (bt.mul bs').mono (n := n * ks.length + n * i + 21 * i + 2 * n + 30 + n + 20) (by lia)
    exact (Bd.add b1 b2).mono (by lia)
 ·rintro σ H' hR2
  refine Br hR2 fun sm hz51 => ?_
  refine HI hz51 fun tp' ts s z hz51' => ?_
  clear hz51
  refine Mw hz51' fun hq50 etp' htl hs0 he hbt hbsc => ?_
  clear hz51'
  obtain rfl := hq50
  try clear hR2
  have hb0 : B * s ≠ 0 := T4 (by lia) hs0
  refine ⟨_, rfl, _, rfl, _, rfl, _, _, rfl, rfl, Bv.bd hbB hbsc (by lia), tp', ts, B * s, rfl, SqL.of etp', hb0, by lia, fun p H6 s6 c6 => ?_⟩
  refine q p H6 _ ((s2.trans sm).trans s6) c6 (by have := Cv.strip_length (ts.map fun t => SW t (B * s)); rw [Su] at this; lia) (C8 _) (fun c hc => ?_) fun x => ?_
  ·have hc' := Cv.strip_mem _ c hc
   obtain ⟨t, ht, rfl⟩ := (TR.mp hc')
   exact RB.div (m := 0) ((hbt t ht).mono (by lia)) ((hbB.mul hbsc).mono (by lia)) hb0
  rw [Cv.ev_strip]
  have h7 := Kd hb0 x ts
  rw [he x, Nat.sub_self, TU, TU, ← T5] at h7
  exact N4 (Nm.cast_ne hb0) h7
theorem CP : Ar ["points", "told", "point", "k"] ["points"] (Ae (top 23)) := ⟨rfl, rfl, rfl, by decide +kernel, rfl, by decide +kernel, by decide +kernel⟩
theorem Jz {f : Addr} {fd : FuncData} (F : Fun K "told_in" "told_in" (top 23) f fd) (Qd : mg "range" = none) (Qc : mg "len" = none) (hT : P.given.tree = none) :
 AH P w K mg base CX0 33 f fd ["points"] (GU K) := by
 refine F.ok CP (fun vs H Q E h => ?_) (fun cdv A outer s H vs Q E hr h => ?_)
 ·obtain ⟨_, _, _, rfl, _⟩ := h; rfl
 refine ⟨_, (Ab (K := K) (Ai (i := 1) CP.nd rfl (Or.inl rfl) (AS Ac))
  (Ab (K := K) (Bb (K := K) PassesOwn.never rfl (piT K (pv 0)) (Av (i := 2) CP.nd rfl (Or.inl rfl)) (Ag (Bb (K := K) PassesOwn.never rfl (Bp rfl Qd (A0 (Ah AU (Aq (Bx K) rfl Qc AD (A0 (pv 2) Ac)) Ad) Ac)) (Av (i := 3) CP.nd rfl (Or.inl rfl)) (Ag (BQ (Dj K PySem.F.plainAttrs_list PySem.F.slot_list_append PySem.F.type_list_append Cp (pv 1) (A0 (AR (A0 (Aj (ixT K) (pv 2) Ad (fun u v => rfl)) (A0 (pv 3) (A0 (Aj (ixT K) (pv 2) (Ah AG (pv 3) Ad) (fun u v => rfl)) Ac)))) Ac)))) (by rfl))) (by rfl))
  (Ag (Ax (pv 1))) (by rfl)) (by rfl)), ?_⟩
 obtain ⟨r, xs, pss, rfl, hS, hp, h23, h100, q⟩ := h
 have P0 : 0 ≤ sizeLine := by decide
 have P3 : 3 ≤ sizeLine := by decide
 have hxl := hp.length
 refine ⟨P0, fun p hp0 => ?_⟩
 refine ⟨_, rfl, r, rfl, ⟨_, SqT.same hS (Af.new hp0)⟩, Fe (xs := xs) (L5 H r p K pss fun H r p K pss i σ H' => Af H H' ∧ ∃ ys z2 z3, σ = [some (.ref r), some (.ref p), z2, z3] ∧ H' p = some (.lst ys) ∧ FZ K H' ys (AX (pss.take i))) ⟨Af.new hp0, [], none, none, rfl, Aa, .nil⟩ (fun i σ H' _ h => hS.same h.1) ?_ ?_⟩
 ·rintro i v σ H' hv hR1
  refine Br hR1 fun sm hz53 => ?_
  refine CK hz53 fun ys z2 z3 hz53' => ?_
  clear hz53
  refine CL hz53' fun hq52 ep hys => ?_
  clear hz53'
  obtain rfl := hq52
  try clear hR1
  obtain ⟨ps, hps, a, zs, pp, rfl, hzs, hzn, hz0, hpp⟩ := (Paired.get hp hv)
  have hpl := h23 ps (Sr hps)
  have hzl := hzn.length
  have hyl : ys.length ≤ 200 := by
   have h1 := C0 (pss.take i) (h23.take i)
   rw [Sj] at h1
   rw [hys.length]; lia
  refine ⟨_, rfl, a, zs, rfl, .inr (hzs.same sm), _, _, rfl, rfl, _, rfl, by lia, by lia, ?_⟩
  rw [show (((zs.length : Nat) : Int) - 1).toNat = ps.length - 1 from Dq hzl]
  refine BK (n := ps.length - 1) (L8 H r p a K pss i ps fun H r p a K pss i ps k σ H2 => Af H H2 ∧ ∃ ys2 z3, σ = [some (.ref r), some (.ref p), some (.ref a), z3] ∧ H2 p = some (.lst ys2) ∧ FZ K H2 ys2 (AX (pss.take i) ++ (BL ps).take k)) ⟨sm, ys, z3, rfl, ep, by rw [TY, Sf]; exact hys⟩ ?_ ?_
  ·rintro k σ H2 hk hR2
   refine Br hR2 fun sm2 hz57 => ?_
   refine Ct hz57 fun ys2 z3' hz57' => ?_
   clear hz57
   refine CL hz57' fun hq56 ep2 hys2 => ?_
   clear hz57'
   obtain rfl := hq56
   try clear hR2
   have g0 := AN (l := ps) (i := 0) (by lia)
   have gk := AN (l := ps) (i := k + 1) (by lia)
   obtain ⟨xk, hxk, hnk⟩ := (Paired.get' hzn gk)
   have ak : atI zs (0 + (k : Int) + 1) = some xk := by rw [show 0 + (k : Int) + 1 = ((k + 1 : Nat) : Int) by lia]; exact AW hxk
   have hyl2 : ys2.length ≤ 204 := by
    have h1 := hys.length
    have h2 := Bg ps
    rw [hys2.length, Ss, Sj]; exact Nk hyl hk hpl h1
   refine ⟨_, rfl, .inl ⟨rfl, _, SqL.of ep2⟩, _, rfl, a, zs, _, .ref pp, rfl, rfl, hzs.same sm2, AW (j := 0) hz0, _, rfl, _, rfl, _, rfl, _, _, rfl, rfl, a, zs, _, xk, rfl, rfl, hzs.same sm2, ak, P3, fun t ht => ?_⟩
   have s3 : Af H2 (upd H2 t (.tup [.ref pp, .int (0 + (k : Int)), xk])) := Af.new ht
   have tp : t ≠ p := (Au ep2 ht).symm
   have hp3 : (upd (upd H2 t (.tup [.ref pp, .int (0 + (k : Int)), xk])) p (.lst (ys2 ++ [.ref t]))) pp = some (nT (ps.getD 0 0)) := by
    have z := s3 _ _ (sm2 _ _ hpp)
    rw [Am (EJ z (s3 _ _ ep2) (fun z => by cases z))]; exact z
   refine ⟨p, ys2, .ref t, rfl, rfl, s3 _ _ ep2, RN (show ys2.length < 300 by lia) (by decide), (sm2.trans s3).put hp0, ys2 ++ [.ref t], _, rfl, Aa, ?_⟩
   have gt : (BL ps)[k]? = some ⟨ps.getD 0 0, (k : Int), ps.getD (k + 1) 0⟩ := by
    unfold BL
    rw [Sn, U9 hk]; rfl
   rw [Tf, gt, ← SJ]
   refine Paired.snoc (FZ.put (FZ.same hys2 s3) (s3 _ _ ep2)) ⟨t, pp, xk, rfl, SqT.of ?_, hp3, ((hnk.same sm2).same s3).put (s3 _ _ ep2)⟩
   rw [Am tp, Aa, UX]
  ·rintro σ H2 hR3
   refine Br hR3 fun sm2 hz59 => ?_
   refine Ct hz59 fun ys2 z3' hz59' => ?_
   clear hz59
   refine CL hz59' fun hq58 ep2 hys2 => ?_
   clear hz59'
   obtain rfl := hq58
   try clear hR3
   refine ⟨sm2, ys2, _, _, rfl, ep2, ?_⟩
   have e : pss.take (i + 1) = pss.take i ++ [ps] := by rw [Tf, hps]; rfl
   rw [e, Kv]
   have et : (BL ps).take (ps.length - 1) = BL ps := TX (by rw [Bg]; exact S9 _)
   rw [et] at hys2
   exact hys2
 ·rintro σ H' hR4
  refine Br hR4 fun sm hz61 => ?_
  refine CK hz61 fun ys z2 z3 hz61' => ?_
  clear hz61
  refine CL hz61' fun hq60 ep hys => ?_
  clear hz61'
  obtain rfl := hq60
  try clear hR4
  rw [hxl, UZ] at hys
  exact ⟨_, rfl, q p H' ys sm hp0 ep hys⟩
theorem Iq : Ar ["points"] ["points"] (Ae (top 24)) := ⟨rfl, rfl, rfl, by decide +kernel, rfl, by decide +kernel, by decide +kernel⟩
theorem IB {f : Addr} {fd : FuncData} (F : Fun K "knots_of" "knots_of" (top 24) f fd) (QZ : Fd P w K mg base 33 "told_in" ["points"] (GU K)) (hT : P.given.tree = none) :
 AH P w K mg base CX0 34 f fd ["points"] (DV K) := by
 refine F.ok Iq (fun vs H Q E h => ?_) (fun cdv A outer s H vs Q E hr h => ?_)
 ·obtain ⟨_, _, _, rfl, _⟩ := h; rfl
 refine ⟨_, (Ag (Ax (CG rfl (N := ["told"]) (nt := 1) (js := []) (Be.look (NX := ["points"]) (sc := Ae (top 24)) rfl rfl (by decide +kernel)) (piL K (Ao QZ hr rfl (A0 (pv 0) Ac))) (fun u1 u2 u3 u4 u5 => (Av (i := 0) (show List.Nodup (["told"] : List Str) from by decide +kernel) rfl (Or.inl rfl))) (AL (by decide)) (fun u1 u2 u3 u4 u5 => BP) (fun u1 u2 u3 u4 u5 => (Aj (ixT K) (pv 0) Ad (fun u v => rfl)))))), ?_⟩
 obtain ⟨r, xs, pss, rfl, hS, hp, h23, h100, q⟩ := h
 refine Ce ⟨_, rfl, r, xs, pss, rfl, hS, hp, h23, h100, fun w Hw ws sw hw ew htw => ⟨w, rfl, ⟨_, SqL.of ew⟩, ?_⟩⟩
 have hwl : ws.length ≤ 200 := by
  have h1 := C0 pss fun ps hp => by have := h23 ps hp; lia
  rw [htw.length]; lia
 refine DQ (xs := ws) (L2 Hw pss fun Hw pss i zs H' => H' = Hw ∧ zs.length = i ∧ AE Hw zs (((AX pss).take i).map FY.x)) ⟨rfl, rfl, .nil⟩ (fun i zs H' _ h => ⟨by rw [h.1]; exact SqL.of ew, h.2.1⟩) (RW (AF (by lia))) ?_ ?_
 ·rintro i v zs H' hv ⟨rfl, hzl, hzn⟩
  obtain ⟨t, ht, a, rx, rn, rfl, ha, hx, _⟩ := (Paired.get htw hv)
  have hx : Ej H' (.ref rx) t.x := ⟨_, rfl, hx⟩
  refine ⟨_, rfl, a, _, _, _, rfl, rfl, ha, rfl, rfl, by simp [hzl], ?_⟩
  rw [Tf, ht, Tg]
  exact Paired.snoc hzn hx
 rintro zs H' ⟨rfl, hzl, hzn⟩ p hp0
 rw [htw.length, UZ] at hzn
 exact q p _ zs (sw.trans (Af.new hp0)) (sw.free hp0) Aa (AE.same hzn (Af.new hp0))
theorem CQ : Ar ["points", "slopes", "point"] ["points"] (Ae (top 35)) := ⟨rfl, rfl, rfl, by decide +kernel, rfl, by decide +kernel, by decide +kernel⟩
theorem Hn {f : Addr} {fd : FuncData} (F : Fun K "slopes_in" "slopes_in" (top 35) f fd) (Qc : mg "len" = none) (hT : P.given.tree = none) :
 AH P w K mg base CX0 33 f fd ["points"] (Ek K) := by
 refine F.ok CQ (fun vs H Q E h => ?_) (fun cdv A outer s H vs Q E hr h => ?_)
 ·obtain ⟨_, _, _, rfl, _⟩ := h; rfl
 refine ⟨_, (Ab (K := K) (Ai (i := 1) CQ.nd rfl (Or.inl rfl) LI)
  (Ab (K := K) (Bb (K := K) PassesOwn.never rfl (piT K (pv 0)) (Av (i := 2) CQ.nd rfl (Or.inl rfl)) (Ag (AQ (K := K) (As E5 (Aq (Bx K) rfl Qc AD (A0 (pv 2) Ac)) Ad (Ay _)) (Ag Cd) AK (by rfl) (by rfl))) (by rfl))
  (Ag (Ax (pv 1))) (by rfl)) (by rfl)), ?_⟩
 obtain ⟨r, xs, pss, rfl, hS, hp, h2, h100, q⟩ := h
 refine fun d hd => ?_
 refine ⟨_, rfl, r, rfl, ⟨_, SqT.same hS (Af.new hd)⟩, Fe (xs := xs) (fun i σ H' => Af H H' ∧ ∃ z2, σ = [some (.ref r), some (.ref d), z2]) ⟨Af.new hd, none, rfl⟩ (fun i σ H' _ h => hS.same h.1) ?_ ?_⟩
 ·rintro i v σ H' hv ⟨sm, z2, rfl⟩
  obtain ⟨ps, hps, a, us, p, rfl, hus, hun, hu0, hp0⟩ := (Paired.get hp hv)
  have hpl := h2 ps (Sr hps)
  have hul := hun.length
  refine ⟨_, rfl, a, us, rfl, .inr (hus.same sm), rfl, _, rfl, ?_⟩
  exact AM (decide_eq_false (show ¬ V.int (us.length : Int) = V.int 3 from fun z => by have := V.int.inj z; lia)) ⟨sm, _, rfl⟩
 ·rintro σ H' ⟨sm, z2, rfl⟩
  exact ⟨_, rfl, q d H' sm⟩
theorem CU : Ar ["points", "row", "point"] ["points"] (Ae (top 34)) := ⟨rfl, rfl, rfl, by decide +kernel, rfl, by decide +kernel, by decide +kernel⟩
theorem Hr {f : Addr} {fd : FuncData} (F : Fun K "first_row" "first_row" (top 34) f fd) (Qc : mg "len" = none) (hT : P.given.tree = none) :
 AH P w K mg base CX0 33 f fd ["points"] (Jl K) := by
 refine F.ok CU (fun vs H Q E h => ?_) (fun cdv A outer s H vs Q E hr h => ?_)
 ·obtain ⟨_, _, _, rfl, _⟩ := h; rfl
 refine ⟨_, (Ab (K := K) (Ai (i := 1) CU.nd rfl (Or.inl rfl) (AS Ac))
  (Ab (K := K) (Bb (K := K) PassesOwn.never rfl (piT K (pv 0)) (Av (i := 2) CU.nd rfl (Or.inl rfl)) (Ag (BQ (Dj K PySem.F.plainAttrs_list PySem.F.slot_list_extend PySem.F.type_list_extend KJ (pv 1) (A0 (Ah DO (AS (A0 (Aj (ixT K) (pv 2) Ad (fun u v => rfl)) Ac)) (Ah AU (Aq (Bx K) rfl Qc AD (A0 (pv 2) Ac)) Ad)) Ac)))) (by rfl))
  (Ag (Ax (pv 1))) (by rfl)) (by rfl)), ?_⟩
 obtain ⟨r, xs, pss, rfl, hS, hp, h23, h100, q⟩ := h
 have P0 : 0 ≤ sizeLine := by decide
 have P1 : 1 ≤ sizeLine := by decide
 have hxl := hp.length
 refine ⟨P0, fun p hp0 => ?_⟩
 refine ⟨_, rfl, r, rfl, ⟨_, SqT.same hS (Af.new hp0)⟩, Fe (xs := xs) (L5 H r p K pss fun H r p K pss i σ H' => Af H H' ∧ ∃ ys z2, σ = [some (.ref r), some (.ref p), z2] ∧ H' p = some (.lst ys) ∧ Ap K H' ys (CF (pss.take i))) ⟨Af.new hp0, [], none, rfl, Aa, .nil⟩ (fun i σ H' _ h => hS.same h.1) ?_ ?_⟩
 ·rintro i v σ H' hv hR1
  refine Br hR1 fun sm hz67 => ?_
  refine Ct hz67 fun ys z2 hz67' => ?_
  clear hz67
  refine CL hz67' fun hq66 ep hys => ?_
  clear hz67'
  obtain rfl := hq66
  try clear hR1
  obtain ⟨ps, hps, a, us, pp, rfl, hus, hun, hu0, hpp⟩ := (Paired.get hp hv)
  have hpl := h23 ps (Sr hps)
  have hul := hun.length
  have e : pss.take (i + 1) = pss.take i ++ [ps] := by rw [Tf, hps]; rfl
  have g1 := AN (l := ps) (i := 1) (by lia)
  obtain ⟨x1, hx1, hn1⟩ := (Paired.get' hun g1)
  have hyl : ys.length ≤ 200 := by
   have h1 := C0 (pss.take i) (h23.take i)
   rw [Sj] at h1
   rw [hys.length, Dg]; lia
  refine ⟨_, rfl, .inl ⟨rfl, _, SqL.of ep⟩, _, rfl, a, us, _, x1, rfl, rfl, hus.same sm, AW (j := 1) hx1, P1, fun l hl => ?_⟩
  have s1 : Af H' (upd H' l (.lst [x1])) := Af.new hl
  refine ⟨_, rfl, a, us, rfl, .inr ((hus.same sm).same s1), _, _, rfl, rfl, l, _, [x1], rfl, rfl, Aa, by lia, by lia, ?_, fun m hm => ?_⟩
  ·have z : (((us.length : Nat) : Int) - 1).toNat ≤ 2 := Nh hul hpl
   exact RV (UE (S9 _) z) (by show 2 ≤ sizeLine; decide)
  have s2 := s1.trans (Af.new (o := .lst (Si (((us.length : Nat) : Int) - 1).toNat [x1]).flatten) hm)
  have en : (((us.length : Nat) : Int) - 1).toNat = ps.length - 1 := Dq hul
  have ep2 := s2 _ _ ep
  refine ⟨p, m, ys, _, rfl, rfl, ep2, Aa, ?_, ?_⟩
  ·rw [K3, en]
   exact RV (show ys.length + (ps.length - 1) * 1 ≤ 300 from Nj hyl hpl) (by decide)
  refine ⟨(sm.trans s2).put hp0, _, _, rfl, Aa, ?_⟩
  rw [e, Kx, en]
  have hr : Ap K (upd (upd H' l (.lst [x1])) m (.lst (Si (((us.length : Nat) : Int) - 1).toNat [x1]).flatten)) (Si (ps.length - 1) [x1]).flatten (Si (ps.length - 1) (ps.getD 1 0)) := DY ((hn1.same sm).same s2) _
  rw [en] at hr ep2 s2
  exact Paired.append (Ap.put (Ap.same hys s2) ep2) (Ap.put hr ep2)
 ·rintro σ H' hR2
  refine Br hR2 fun sm hz71 => ?_
  refine Ct hz71 fun ys z2 hz71' => ?_
  clear hz71
  refine CL hz71' fun hq70 ep hys => ?_
  clear hz71'
  obtain rfl := hq70
  try clear hR2
  rw [hxl, UZ] at hys
  exact ⟨_, rfl, q p H' ys sm hp0 ep hys⟩
theorem MW : Ar ["a", "b"] ["a", "b"] (Ae (top 9)) := ⟨rfl, rfl, rfl, by decide +kernel, rfl, by decide +kernel, by decide +kernel⟩
theorem Nc {f : Addr} {fd : FuncData} (F : Fun K "over" "over" (top 9) f fd) (Qj : Fd P w K mg base 34 "number_of" ["top", "bottom"] (D9)) (hT : P.given.tree = none) :
 AH P w K mg base CX0 35 f fd ["a", "b"] (Jp K) := by
 refine F.ok MW (fun vs H Q E h => ?_) (fun cdv A outer s H vs Q E hr h => ?_)
 ·obtain ⟨_, _, _, _, _, _, rfl, _⟩ := h; rfl
 refine ⟨_, (Ag (Ax (Ao Qj hr rfl (A0 (Ah Aw (Aj (ixT K) (pv 0) Ad (fun u v => rfl)) (Aj (ixT K) (pv 1) Ad (fun u v => rfl))) (A0 (Ah Aw (Aj (ixT K) (pv 0) Ad (fun u v => rfl)) (Aj (ixT K) (pv 1) Ad (fun u v => rfl))) Ac))))), ?_⟩
 obtain ⟨x, y, p, q, m, n, rfl, ⟨r, rfl, hr'⟩, ⟨u, rfl, hu⟩, q0, hp, hq, hmn, k⟩ := h
 have hn : q.num ≠ 0 := fun z => q0 (Rat.num_eq_zero.mp z)
 refine ⟨_, rfl, r, _, _, _, rfl, rfl, hr', rfl, _, rfl, u, _, _, _, rfl, rfl, hu, rfl, _, _, rfl, rfl, Bv.bd hp.1 hq.2, ?_⟩
 refine ⟨_, rfl, r, _, _, _, rfl, rfl, hr', rfl, _, rfl, u, _, _, _, rfl, rfl, hu, rfl, _, _, rfl, rfl, Bv.bd hp.2 hq.1, ?_⟩
 refine ⟨_, _, rfl, T4 (Nm.den_ne p) hn, fun z hz => ?_⟩
 have e := k z hz
 rw [← K2 p q q0] at e
 exact e
theorem Ls : Ar ["a", "b"] ["a", "b"] (Ae (top 8)) := ⟨rfl, rfl, rfl, by decide +kernel, rfl, by decide +kernel, by decide +kernel⟩
theorem LM {f : Addr} {fd : FuncData} (F : Fun K "minus" "minus" (top 8) f fd) (Qj : Fd P w K mg base 34 "number_of" ["top", "bottom"] (D9)) (hT : P.given.tree = none) :
 AH P w K mg base CX0 35 f fd ["a", "b"] (Dc K (· - ·)) := by
 refine F.ok Ls (fun vs H Q E h => ?_) (fun cdv A outer s H vs Q E hr h => ?_)
 ·obtain ⟨_, _, _, _, _, _, rfl, _⟩ := h; rfl
 refine ⟨_, (Ag (Ax (Ao Qj hr rfl (A0 (Ah AU (Ah Aw (Aj (ixT K) (pv 0) Ad (fun u v => rfl)) (Aj (ixT K) (pv 1) Ad (fun u v => rfl))) (Ah Aw (Aj (ixT K) (pv 1) Ad (fun u v => rfl)) (Aj (ixT K) (pv 0) Ad (fun u v => rfl)))) (A0 (Ah Aw (Aj (ixT K) (pv 0) Ad (fun u v => rfl)) (Aj (ixT K) (pv 1) Ad (fun u v => rfl))) Ac))))), ?_⟩
 obtain ⟨x, y, p, q, m, n, rfl, ⟨r, rfl, hr⟩, ⟨u, rfl, hu⟩, hp, hq, hmn, k⟩ := h
 refine ⟨_, rfl, r, _, _, _, rfl, rfl, hr, rfl, _, rfl, u, _, _, _, rfl, rfl, hu, rfl, _, _, rfl, rfl, Bv.bd hp.1 hq.2, _, rfl, u, _, _, _, rfl, rfl, hu, rfl, _, rfl, r, _, _, _, rfl, rfl, hr, rfl, _, _, rfl, rfl, Bv.bd hq.1 hp.2, _, _, rfl, rfl, ?_⟩
 refine ⟨_, rfl, r, _, _, _, rfl, rfl, hr, rfl, _, rfl, u, _, _, _, rfl, rfl, hu, rfl, _, _, rfl, rfl, Bv.bd hp.2 hq.2, ?_⟩
 refine ⟨_, _, rfl, T4 (Nm.den_ne p) (Nm.den_ne q), fun z hz => ?_⟩
 have e := k z hz
 try dsimp only at e
 rw [← Nm.minus_eq] at e
 exact e
theorem De : Ar ["ahead", "knots", "slopes", "k", "row", "j"] ["ahead", "knots", "slopes", "k"] (Ae (top 36)) := ⟨rfl, rfl, rfl, by decide +kernel, rfl, by decide +kernel, by decide +kernel⟩
theorem IA {f : Addr} {fd : FuncData} (F : Fun K "next_row" "next_row" (top 36) f fd) (F_over : Fd P w K mg base 35 "over" ["a", "b"] (Jp K)) (QI : Fd P w K mg base 35 "minus" ["a", "b"] (Dc K (· - ·))) (Qd : mg "range" = none) (Qc : mg "len" = none) (hT : P.given.tree = none) :
 AH P w K mg base CX0 36 f fd ["ahead", "knots", "slopes", "k"] (DM K) := by
 refine F.ok De (fun vs H Q E h => ?_) (fun cdv A outer s H vs Q E hr h => ?_)
 ·obtain ⟨_, _, _, _, _, _, _, _, _, _, _, rfl, _⟩ := h; rfl
 refine ⟨_, (Ab (K := K) (Ai (i := 4) De.nd rfl (Or.inl rfl) (AS Ac))
  (Ab (K := K) (Bb (K := K) PassesOwn.never rfl (Bp rfl Qd (A0 (Ah AU (Aq (Bx K) rfl Qc AD (A0 (pv 1) Ac)) (pv 3)) Ac)) (Av (i := 5) De.nd rfl (Or.inl rfl)) (Ag (AQ (K := K) (As (eqD K hr.units) (Aj (ixL K) (pv 1) (Ah AG (pv 5) (pv 3)) (fun u v => rfl)) (Aj (ixL K) (pv 1) (pv 5) (fun u v => rfl)) (Ay _)) (Ag Cd) (Ag (BQ (Dj K PySem.F.plainAttrs_list PySem.F.slot_list_append PySem.F.type_list_append Cp (pv 4) (A0 (Ao F_over hr rfl (A0 (Ao QI hr rfl (A0 (Aj (ixL K) (pv 0) (Ah AG (pv 5) Ad) (fun u v => rfl)) (A0 (Aj (ixL K) (pv 0) (pv 5) (fun u v => rfl)) Ac))) (A0 (Ao QI hr rfl (A0 (Aj (ixL K) (pv 1) (Ah AG (pv 5) (pv 3)) (fun u v => rfl)) (A0 (Aj (ixL K) (pv 1) (pv 5) (fun u v => rfl)) Ac))) Ac))) Ac)))) (by rfl) (by rfl))) (by rfl))
  (Ag (Ax (pv 4))) (by rfl)) (by rfl)), ?_⟩
 obtain ⟨ra, rk, d, as, ks, A, kn, sl, k, m, n, rfl, hA, hAn, hK, hKn, hsl, h1, hkl, hlen, h100, hbA, hbK, hm, hn, q⟩ := h
 have P0 : 0 ≤ sizeLine := by decide
 have hal := hAn.length
 have hkl' := hKn.length
 refine ⟨P0, fun p hp0 => ?_⟩
 have s0 : Af H (upd H p (.lst [])) := Af.new hp0
 refine ⟨_, rfl, rk, ks, rfl, .inl (Af.seq s0 hK), _, rfl, _, _, rfl, rfl, _, rfl, by lia, by lia, ?_⟩
 rw [show (((ks.length : Nat) : Int) - (k : Int)).toNat = kn.length - k by lia]
 refine BK (n := kn.length - k) (L10 H ra rk d k p K A kn sl fun H ra rk d k p K A kn sl i σ H' => Af H H' ∧ ∃ zs z5, σ = [some (.ref ra), some (.ref rk), some (.ref d), some (.int (k : Int)), some (.ref p), z5] ∧ H' p = some (.lst zs) ∧ zs.length = i ∧ Ap K H' zs ((CI A kn sl k).take i)) ⟨s0, [], none, rfl, Aa, rfl, .nil⟩ ?_ ?_
 ·rintro j σ H' hj hR1
  refine Br hR1 fun sm hz73 => ?_
  refine Ct hz73 fun zs z5 hz73' => ?_
  clear hz73
  refine Dw hz73' fun hq72 ep hzl hzs => ?_
  clear hz73'
  obtain rfl := hq72
  try clear hR1
  have gk := AN (l := kn) (i := j + k) (by lia)
  have g0 := AN (l := kn) (i := j) (by lia)
  have ga := AN (l := A) (i := j + 1) (by lia)
  have gb := AN (l := A) (i := j) (by lia)
  obtain ⟨xk, hxk, ak, rfl, hak⟩ := (Paired.get' hKn gk)
  obtain ⟨x0, hx0, a0, rfl, ha0⟩ := (Paired.get' hKn g0)
  obtain ⟨xa, hxa, hna⟩ := (Paired.get' hAn ga)
  obtain ⟨xb, hxb, hnb⟩ := (Paired.get' hAn gb)
  have ek : atI ks (0 + (j : Int) + (k : Int)) = some (.ref ak) := by rw [show 0 + (j : Int) + (k : Int) = ((j + k : Nat) : Int) by lia]; exact AW hxk
  have e0 : atI ks (0 + (j : Int)) = some (.ref a0) := by rw [show 0 + (j : Int) = ((j : Nat) : Int) by lia]; exact AW hx0
  have ea : atI as (0 + (j : Int) + 1) = some xa := by rw [show 0 + (j : Int) + 1 = ((j + 1 : Nat) : Int) by lia]; exact AW hxa
  have eb : atI as (0 + (j : Int)) = some xb := by rw [show 0 + (j : Int) = ((j : Nat) : Int) by lia]; exact AW hxb
  have hK' := Af.seq sm hK
  have hA' := Af.seq sm hA
  have nk : AB K H' (.ref ak) (kn.getD (j + k) 0) := AB.of (sm _ _ hak)
  have n0 : AB K H' (.ref a0) (kn.getD j 0) := AB.of (sm _ _ ha0)
  have hj2 : j < (CI A kn sl k).length := by rw [CW]; exact hj
  have et : (CI A kn sl k).take (j + 1) = (CI A kn sl k).take j ++ [(CI A kn sl k).getD j 0] := by rw [Tf, AN hj2]; rfl
  have zlt : zs.length < sizeLine := RN (show zs.length < 300 by lia) (by decide)
  refine ⟨_, rfl, _, rfl, _, rfl, _, _, rfl, rfl, rk, ks, _, _, rfl, rfl, hK', ek, _, rfl, _, rfl, rk, ks, _, _, rfl, rfl, hK', e0, ?_⟩
  refine eqN nk n0 ?_
  refine ⟨_, rfl, ?_⟩
  by_cases he : kn.getD (j + k) 0 = kn.getD j 0
  ·exact absurd he (hsl j (by lia))
  ·refine AM (by rw [decide_eq_false he] <;> rfl) ?_
   have ba := hbA _ (Bu (l := A) (i := j + 1) (by lia))
   have bb := hbA _ (Bu (l := A) (i := j) (by lia))
   have bk := hbK _ (Bu (l := kn) (i := j + k) (by lia))
   have b0 := hbK _ (Bu (l := kn) (i := j) (by lia))
   refine ⟨_, rfl, .inl ⟨rfl, _, SqL.of ep⟩, _, rfl, _, rfl, _, _, rfl, rfl, ra, as, _, _, rfl, rfl, hA', ea, _, rfl, _, rfl, ra, as, _, _, rfl, rfl, hA', eb, _, _, _, _, m, m, rfl, hna.same sm, hnb.same sm, ba, bb, by lia, fun t ht => ?_⟩
   have s1 : Af H' (upd H' t (nT (A.getD (j + 1) 0 - A.getD j 0))) := Af.new ht
   refine ⟨_, rfl, _, rfl, _, rfl, _, _, rfl, rfl, rk, ks, _, _, rfl, rfl, Af.seq s1 hK', ek, _, rfl, _, rfl, rk, ks, _, _, rfl, rfl, Af.seq s1 hK', e0, _, _, _, _, n, n, rfl, nk.same s1, n0.same s1, bk, b0, by lia, fun u hu => ?_⟩
   have s2 := s1.trans (Af.new (o := nT (kn.getD (j + k) 0 - kn.getD j 0)) hu)
   refine ⟨_, _, _, _, m + m + 1, n + n + 1, rfl, AB.of ((Af.new hu) _ _ Aa), AB.of Aa, (fun z => he (by grind)), ba.minus bb, bk.minus b0, by lia, fun r hr' => ?_⟩
   have s3 := s2.trans (Af.new (o := nT ((A.getD (j + 1) 0 - A.getD j 0) / (kn.getD (j + k) 0 - kn.getD j 0))) hr')
   have ep3 := s3 _ _ ep
   refine ⟨p, zs, .ref r, rfl, rfl, ep3, zlt, (sm.trans s3).put hp0, _, _, rfl, Aa, by simp [hzl], ?_⟩
   rw [et, FL hj, if_neg he]
   exact Paired.snoc (Ap.put (Ap.same hzs s3) ep3) ((AB.of Aa).put ep3)
 ·rintro σ H' hR2
  refine Br hR2 fun sm hz79 => ?_
  refine Ct hz79 fun zs z5 hz79' => ?_
  clear hz79
  refine Dw hz79' fun hq78 ep hzl hzs => ?_
  clear hz79'
  obtain rfl := hq78
  try clear hR2
  rw [TX (by rw [CW]; exact S9 _)] at hzs
  exact ⟨_, rfl, q p H' zs sm hp0 ep hzs⟩
theorem Ca : Ar ["points", "knots", "slopes", "table", "k"] ["points"] (Ae (top 37)) := ⟨rfl, rfl, rfl, by decide +kernel, rfl, by decide +kernel, by decide +kernel⟩
theorem Iy {f : Addr} {fd : FuncData} (F : Fun K "table_of" "table_of" (top 37) f fd) (Qv : Fd P w K mg base 34 "knots_of" ["points"] (DV K)) (R0 : Fd P w K mg base 33 "slopes_in" ["points"] (Ek K)) (R3 : Fd P w K mg base 33 "first_row" ["points"] (Jl K)) (R4 : Fd P w K mg base 36 "next_row" ["ahead", "knots", "slopes", "k"] (DM K)) (Qd : mg "range" = none) (Qc : mg "len" = none) (hT : P.given.tree = none) :
 AH P w K mg base CX0 37 f fd ["points"] (GW K) := by
 refine F.ok Ca (fun vs H Q E h => ?_) (fun cdv A outer s H vs Q E hr h => ?_)
 ·obtain ⟨_, _, _, _, _, rfl, _⟩ := h; rfl
 refine ⟨_, (Ab (K := K) (Ai (i := 1) Ca.nd rfl (Or.inl rfl) (Ao Qv hr rfl (A0 (pv 0) Ac)))
  (Ab (K := K) (Ai (i := 2) Ca.nd rfl (Or.inl rfl) (Ao R0 hr rfl (A0 (pv 0) Ac)))
  (Ab (K := K) (Ai (i := 3) Ca.nd rfl (Or.inl rfl) (AS Ac))
  (Ab (K := K) (Bb (K := K) PassesOwn.never rfl (Bp rfl Qd (A0 (Aq (Bx K) rfl Qc AD (A0 (pv 1) Ac)) Ac)) (Av (i := 4) Ca.nd rfl (Or.inl rfl)) (Ag (BQ (Dj K PySem.F.plainAttrs_list PySem.F.slot_list_append PySem.F.type_list_append Cp (pv 3) (A0 (FE (As E5 (pv 4) Ad (Ay _)) (Ao R3 hr rfl (A0 (pv 0) Ac)) (Ao R4 hr rfl (A0 (Aj (ixL K) (pv 3) (Ah AU (pv 4) Ad) (fun u v => rfl)) (A0 (pv 1) (A0 (pv 2) (A0 (pv 4) Ac)))))) Ac)))) (by rfl))
  (Ag (Ax (pv 3))) (by rfl)) (by rfl)) (by rfl)) (by rfl)), ?_⟩
 obtain ⟨r, xs, pss, hh, n, rfl, hS, hp, h23, h100, hnd, h12, hb, hbk, hn1, hn40, q⟩ := h
 have P0 : 0 ≤ sizeLine := by decide
 refine ⟨_, rfl, r, xs, pss, rfl, hS, hp, h23.p23, h100, fun w Hw ws sw hw ew hws => ?_⟩
 refine ⟨_, rfl, r, xs, pss, rfl, hS.same sw, Cg.same hp sw, h23, h100, fun d Hd sd => ?_⟩
 refine ⟨P0, fun p hp0 => ?_⟩
 have s0 : Af Hd (upd Hd p (.lst [])) := Af.new hp0
 have sH : Af H Hd := sw.trans sd
 have hpH : H p = none := sH.free hp0
 have hwl : ws.length = (AX pss).length := by rw [hws.length, Su]
 have ewd := sd _ _ ew
 have hwd : AE Hd ws (kn pss) := AE.same hws sd
 refine ⟨_, rfl, w, ws, rfl, .inl (SqL.of (s0 _ _ ewd)), _, rfl, by lia, by lia, ?_⟩
 rw [show ((ws.length : Nat) : Int).toNat = (AX pss).length by lia]
 refine BK (n := (AX pss).length) (L8 Hd r w d p K H pss fun Hd r w d p K H pss i σ H' => Af Hd H' ∧ ∃ ys z, σ = [some (.ref r), some (.ref w), some (.ref d), some (.ref p), z] ∧ H' p = some (.lst ys) ∧ Paired (FR K H p H') ys ((RQ i).map (tab pss))) ⟨s0, [], none, rfl, Aa, .nil⟩ ?_ ?_
 ·rintro i σ H' hi hR1
  refine Br hR1 fun sm hz81 => ?_
  refine Ct hz81 fun ys z hz81' => ?_
  clear hz81
  refine CL hz81' fun hq80 ep hys => ?_
  clear hz81'
  obtain rfl := hq80
  try clear hR1
  have hyl : ys.length = i := by rw [hys.length, Su, U5]
  have sHH := sH.trans sm
  have zlt : ys.length < sizeLine := RN (show ys.length < 300 by lia) (by decide)
  have er : (RQ (i + 1)).map (tab pss) = (RQ i).map (tab pss) ++ [tab pss i] := by rw [TQ, Tg]; rfl
  have fin : ∀ (l : Addr) (H3 : Hp) (zs : List V), Af H' H3 → H' l = none → H3 l = some (.lst zs) → Ap K H3 zs (tab pss i) → Af Hd (upd H3 p (.lst (ys ++ [.ref l]))) ∧ ∃ ys' z, [some (V.ref r), some (.ref w), some (.ref d), some (.ref p), some (.int (0 + (i : Int)))] = [some (.ref r), some (.ref w), some (.ref d), some (.ref p), z] ∧ (upd H3 p (.lst (ys ++ [.ref l]))) p = some (.lst ys') ∧ Paired (FR K H p (upd H3 p (.lst (ys ++ [.ref l])))) ys' ((RQ (i + 1)).map (tab pss)) := fun l H3 zs s3 hl el hn => by
   have ep3 := s3 _ _ ep
   have lp : l ≠ p := (Au ep hl).symm
   refine ⟨(sm.trans s3).put hp0, _, _, rfl, Aa, ?_⟩
   rw [er]
   exact Paired.snoc (Paired.mapP hys fun _ _ z => (z.same s3).put ep3) (FR.put ⟨l, zs, rfl, lp, sHH.free hl, el, hn⟩ ep3)
  refine ⟨_, rfl, .inl ⟨rfl, _, SqL.of ep⟩, _, rfl, rfl, _, rfl, ?_⟩
  match i, hi, fin, hys, hyl with
  | 0, hi, fin, hys, hyl =>
    refine PY ?_
    refine ⟨_, rfl, r, xs, pss, rfl, hS.same sHH, Cg.same hp sHH, h23.p23, h100, fun l H3 zs s3 hl el hn => ?_⟩
    exact ⟨p, ys, .ref l, rfl, rfl, s3 _ _ ep, zlt, fin l H3 zs s3 hl el hn⟩
  | i + 1, hi, fin, hys, hyl =>
    refine AM (by rw [decide_eq_false (show ¬ V.int (0 + ((i + 1 : Nat) : Int)) = V.int 0 from fun z => by have := V.int.inj z; lia)] <;> rfl) ?_
    obtain ⟨xv, hxv, a, zs, rfl, hap, haH, ha, hzs⟩ := (Paired.get' hys (JG (tab pss) i))
    have ea : atI ys (0 + ((i + 1 : Nat) : Int) - 1) = some (.ref a) := by rw [show 0 + ((i + 1 : Nat) : Int) - 1 = ((i : Nat) : Int) by lia]; exact AW hxv
    have hbl := HV (show hh + 2 * n + 2 ≤ 8000 by lia) (show i ≤ 7 by lia)
    refine ⟨_, rfl, _, rfl, _, _, rfl, rfl, p, ys, _, _, rfl, rfl, SqL.of ep, ea, _, rfl, _, rfl, _, rfl, a, w, d, zs, ws, tab pss i, kn pss, MV pss, i + 1, bnd hh n i, n, by rw [UX]; rfl, SqL.of ha, hzs, SqL.of (sm _ _ ewd), AE.same hwd sm, ?_, by lia, by rw [Bw]; lia, by rw [CO _ _ (by lia), Bw]; lia, by rw [Bw]; lia, Ji h23.p23 hn1 hb hbk i (by lia), M3 hbk, by lia, by lia, fun l H3 zs' s3 hl el hn => ?_⟩
    ·intro j hj he
     rw [Bw] at hj
     refine Br (FQ h23.p23 hnd (by lia) hj he) fun _ hz84 => ?_
     refine JK hz84 fun ps hz84' => ?_
     clear hz84
     refine CL hz84' fun h1 h2 _ => ?_
     clear hz84'
     have := h23 ps h1
     lia
    ·exact ⟨p, ys, .ref l, rfl, rfl, s3 _ _ ep, zlt, fin l H3 zs' s3 hl el hn⟩
 ·rintro σ H' hR2
  refine Br hR2 fun sm hz86 => ?_
  refine Ct hz86 fun ys z hz86' => ?_
  clear hz86
  refine CL hz86' fun hq85 ep hys => ?_
  clear hz86'
  obtain rfl := hq85
  try clear hR2
  exact ⟨_, rfl, q p H' ys (sH.trans sm) hpH ep hys⟩
theorem Ip : Ar ["points"] ["points"] (Ae (top 38)) := ⟨rfl, rfl, rfl, by decide +kernel, rfl, by decide +kernel, by decide +kernel⟩
theorem Iz {f : Addr} {fd : FuncData} (F : Fun K "steps_of" "steps_of" (top 38) f fd) (R5 : Fd P w K mg base 37 "table_of" ["points"] (GW K)) (hT : P.given.tree = none) :
 AH P w K mg base CX0 38 f fd ["points"] (GX K) := by
 refine F.ok Ip (fun vs H Q E h => ?_) (fun cdv A outer s H vs Q E hr h => ?_)
 ·obtain ⟨_, _, _, _, _, rfl, _⟩ := h; rfl
 refine ⟨_, (Ag (Ax (CG rfl (N := ["row"]) (nt := 1) (js := []) (Be.look (NX := ["points"]) (sc := Ae (top 38)) rfl rfl (by decide +kernel)) (piL K (Ao R5 hr rfl (A0 (pv 0) Ac))) (fun u1 u2 u3 u4 u5 => (Av (i := 0) (show List.Nodup (["row"] : List Str) from by decide +kernel) rfl (Or.inl rfl))) (AL (by decide)) (fun u1 u2 u3 u4 u5 => BP) (fun u1 u2 u3 u4 u5 => (Aj (ixL K) (pv 0) Ad (fun u v => rfl)))))), ?_⟩
 obtain ⟨r, xs, pss, hh, n, rfl, hS, hp, h23, h100, hnd, h12, hb, hbk, hn1, hn40, q⟩ := h
 refine Ce ⟨_, rfl, r, xs, pss, hh, n, rfl, hS, hp, h23, h100, hnd, h12, hb, hbk, hn1, hn40, fun w Hw ws sw hw ew hws => ⟨w, rfl, ⟨_, SqL.of ew⟩, ?_⟩⟩
 have hwl : ws.length = (AX pss).length := by rw [hws.length, Su, U5]
 refine DQ (xs := ws) (L3 Hw K pss fun Hw K pss i zs H' => H' = Hw ∧ zs.length = i ∧ Ap K Hw zs ((BH pss).take i)) ⟨rfl, rfl, .nil⟩ (fun i zs H' _ h => ⟨by rw [h.1]; exact SqL.of ew, h.2.1⟩) (RW (AF (by lia))) ?_ ?_
 ·rintro i v zs H' hv ⟨rfl, hzl, hzn⟩
  have hi : i < ws.length := (S4.mp hv).1
  obtain ⟨rs, hrs, a, us, rfl, hap, haH, ha, hus⟩ := (Paired.get hws hv)
  have ers : rs = tab pss i := by
   rw [Sn, U9 (by lia)] at hrs
   exact (RL.inj hrs).symm
  subst ers
  have hl := CO pss i (by lia)
  obtain ⟨x0, hx0, hn0⟩ := (Paired.get' hus (AN (l := tab pss i) (i := 0) (by lia)))
  refine ⟨_, rfl, a, us, _, x0, rfl, rfl, SqL.of ha, AW (j := 0) hx0, rfl, by simp [hzl], ?_⟩
  have e : (BH pss).take (i + 1) = (BH pss).take i ++ [(tab pss i).getD 0 0] := by
   rw [Tf]
   congr 1
   unfold BH
   rw [Sn, U9 (by lia)]; rfl
  rw [e]
  exact Paired.snoc hzn hn0
 rintro zs H' ⟨rfl, hzl, hzn⟩ p hp0
 rw [hwl, ← D8, UZ] at hzn
 exact q p _ zs (sw.trans (Af.new hp0)) (sw.free hp0) Aa (Ap.same hzn (Af.new hp0))
theorem Es : Ar ["points"] ["points"] (Ae (top 40)) := ⟨rfl, rfl, rfl, by decide +kernel, rfl, by decide +kernel, by decide +kernel⟩
theorem Ex {f : Addr} {fd : FuncData} (F : Fun K "curve_through" "curve_through" (top 40) f fd) (Qw : Fd P w K mg base 36 "by_steps" ["knots", "steps"] (DA K)) (Qv : Fd P w K mg base 34 "knots_of" ["points"] (DV K)) (R6 : Fd P w K mg base 38 "steps_of" ["points"] (GX K)) (hT : P.given.tree = none) :
 AH P w K mg base CX0 39 f fd ["points"] (GV K) := by
 refine F.ok Es (fun vs H Q E h => ?_) (fun cdv A outer s H vs Q E hr h => ?_)
 ·obtain ⟨_, _, _, _, _, rfl, _⟩ := h; rfl
 refine ⟨_, (Ag (Ax (Ao Qw hr rfl (A0 (Ao Qv hr rfl (A0 (pv 0) Ac)) (A0 (Ao R6 hr rfl (A0 (pv 0) Ac)) Ac))))), ?_⟩
 obtain ⟨r, xs, pss, hh, n, rfl, hS, hp, h23, h100, hnd, h12, hb, hbk, hn1, hn40, q⟩ := h
 refine ⟨_, rfl, r, xs, pss, rfl, hS, hp, h23.p23, h100, fun w Hw ws sw hw ew hws => ?_⟩
 refine ⟨_, rfl, r, xs, pss, hh, n, rfl, hS.same sw, Cg.same hp sw, h23, h100, hnd, h12, hb, hbk, hn1, hn40, fun t Ht zs st ht et hzs => ?_⟩
 have hbl := HV (show hh + 2 * n + 2 ≤ 8000 by lia) (S9 7)
 have hnb : n ≤ bnd hh n 7 := by
  have := JP hh n 6
  show n ≤ 2 * bnd hh n 6 + 2 * n + 2
  lia
 have hkl := Bw pss
 refine ⟨w, t, ws, zs, kn pss, BH pss, bnd hh n 7, rfl, SqL.of (st _ _ ew), (AE.same hws st).nums, SqL.of et, hzs, by rw [D8]; exact hkl, by lia, fun c hc => (M3 hbk c hc).mono hnb, Lm h23.p23 hb hbk hn1 h12, by lia, fun p Hp cs sp' hc hcl hg hcb hev => ?_⟩
 have hm : bnd hh n 7 * (kn pss).length ≤ bnd hh n 7 * 12 := V0 _ (by lia)
 exact q p Hp cs ((sw.trans st).trans sp') hc (by lia) hg (fun c hc => (hcb c hc).mono (by lia)) hev
theorem Gd : Ar ["_law_a", "_law_b"] ["_law_a", "_law_b"] (Ae (top 50)) := ⟨rfl, rfl, rfl, by decide +kernel, rfl, by decide +kernel, by decide +kernel⟩
theorem Gh {f : Addr} {fd : FuncData} (F : Fun K "_law_times" "_law_times" (top 50) f fd) (Qi : Fd P w K mg base 33 "_law_lowest" ["_law_top", "_law_bottom"] (D9)) (hT : P.given.tree = none) :
 AH P w K mg base CX0 34 f fd ["_law_a", "_law_b"] (Dc K (· * ·)) := by
 refine F.ok Gd (fun vs H Q E h => ?_) (fun cdv A outer s H vs Q E hr h => ?_)
 ·obtain ⟨_, _, _, _, _, _, rfl, _⟩ := h; rfl
 refine ⟨_, (Ag (Ax (Ao Qi hr rfl (A0 (Ah Aw (Aj (ixT K) (pv 0) Ad (fun u v => rfl)) (Aj (ixT K) (pv 1) Ad (fun u v => rfl))) (A0 (Ah Aw (Aj (ixT K) (pv 0) Ad (fun u v => rfl)) (Aj (ixT K) (pv 1) Ad (fun u v => rfl))) Ac))))), ?_⟩
 obtain ⟨x, y, p, q, m, n, rfl, ⟨r, rfl, hr⟩, ⟨u, rfl, hu⟩, hp, hq, hmn, k⟩ := h
 refine ⟨_, rfl, r, _, _, _, rfl, rfl, hr, rfl, _, rfl, u, _, _, _, rfl, rfl, hu, rfl, _, _, rfl, rfl, Bv.bd hp.1 hq.1, ?_⟩
 refine ⟨_, rfl, r, _, _, _, rfl, rfl, hr, rfl, _, rfl, u, _, _, _, rfl, rfl, hu, rfl, _, _, rfl, rfl, Bv.bd hp.2 hq.2, ?_⟩
 refine ⟨_, _, rfl, T4 (Nm.den_ne p) (Nm.den_ne q), fun z hz => ?_⟩
 have e := k z hz
 try dsimp only at e
 rw [← Nm.times_eq] at e
 exact e
theorem C6 : Ar ["_law_curve_here", "_law_x", "_law_found", "_law_power", "_law_number_here"] ["_law_curve_here", "_law_x"] (Ae (top 52)) := ⟨rfl, rfl, rfl, by decide +kernel, rfl, by decide +kernel, by decide +kernel⟩
theorem JB {f : Addr} {fd : FuncData} (F : Fun K "_law_at" "_law_at" (top 52) f fd) (Ql : Fd P w K mg base 34 "_law_plus" ["_law_a", "_law_b"] (Dc K (· + ·))) (QJ : Fd P w K mg base 34 "_law_times" ["_law_a", "_law_b"] (Dc K (· * ·))) (hT : P.given.tree = none) :
 AH P w K mg base CX0 35 f fd ["_law_curve_here", "_law_x"] (JU K) := by
 refine F.ok C6 (fun vs H Q E h => ?_) (fun cdv A outer s H vs Q E hr h => ?_)
 ·obtain ⟨_, _, _, _, _, _, _, _, rfl, _⟩ := h; rfl
 refine ⟨_, (Ab (K := K) (Ai (i := 2) C6.nd rfl (Or.inl rfl) (AR (A0 Ad (A0 Ad Ac))))
  (Ab (K := K) (Ai (i := 3) C6.nd rfl (Or.inl rfl) (AR (A0 Ad (A0 Ad Ac))))
  (Ab (K := K) (Bb (K := K) PassesOwn.never rfl (piS K (pv 0)) (Av (i := 4) C6.nd rfl (Or.inl rfl)) (Ab (K := K) (Ai (i := 2) C6.nd rfl (Or.inl rfl) (Ao Ql hr rfl (A0 (pv 2) (A0 (Ao QJ hr rfl (A0 (pv 4) (A0 (pv 3) Ac))) Ac))))
  (Ag (Ai (i := 3) C6.nd rfl (Or.inl rfl) (Ao QJ hr rfl (A0 (pv 3) (A0 (pv 1) Ac))))) (by rfl)) (by rfl))
  (Ag (Ax (pv 2))) (by rfl)) (by rfl)) (by rfl)), ?_⟩
 obtain ⟨b, r, rx, xs, qs, x, c0, n, rfl, hS, hn, hx, hB, hbx, hz, q⟩ := h
 have hl := hn.length
 generalize hM : c0 + n * qs.length + 4 = M at hz q
 have hle : M * 2 ≤ 90000000 := RV (V0 _ (by lia)) hz
 have hz' : (qs.length + 2) * M ≤ 90000000 := by rw [SN]; exact hz
 refine ⟨(by decide : 2 ≤ sizeLine), fun f hf => ?_⟩
 refine ⟨(by decide : 2 ≤ sizeLine), fun g hg => ?_⟩
 have s0 : Af H (upd (upd H f (.tup [.int 0, .int 1])) g (.tup [.int 1, .int 1])) := (Af.new hf).trans (Af.new hg)
 refine Kc (b := b) (a := r) (xs := xs) rfl (L7 H r rx qs x M n fun H r rx qs x M n i σ H' => Af H H' ∧ ∃ (f g : Addr) (z : Option V), σ = [some (.ref r), some (.ref rx), some (.ref f), some (.ref g), z] ∧ H' f = some (nT (Cv.ev (qs.take i) x)) ∧ H' g = some (nT (x ^ i)) ∧ RB ((i + 1) * M) (Cv.ev (qs.take i) x) ∧ RB (n * i + 1) (x ^ i))
  ⟨s0, f, g, none, rfl, (Af.new hg) _ _ Aa, ?_, RB.zero (by lia), ?_⟩ (fun i σ H' _ p => Sq.same hS p.1) ?_ ?_
 ·rw [T8]; exact Aa
 ·rw [T8]; exact RB.one (by lia)
 ·rintro i v σ H' hv hR1
  refine Br hR1 fun sm hz90 => ?_
  refine CK hz90 fun f' g' z hz90' => ?_
  clear hz90
  refine D5 hz90' fun hq89 ef eg bf bg => ?_
  clear hz90'
  obtain rfl := hq89
  try clear hR1
  obtain ⟨c, hc, hcn⟩ := (Paired.get hn hv)
  have hi : i < qs.length := (S4.mp hc).1
  have hcm : c ∈ qs := Sr hc
  have hni : n * i ≤ n * qs.length := V0 n (by lia)
  have hni1 : n * (i + 1) = n * i + n := by rw [UT, V1]
  have hni2 : n * (i + 1) ≤ n * qs.length := V0 n (by lia)
  have him : (i + 1 + 1) * M ≤ (qs.length + 2) * M := Nat.mul_le_mul_right _ (by lia)
  have him2 : (i + 1 + 1) * M = (i + 1) * M + M := by rw [TH, TJ]
  have bt : RB (c0 + (n * i + 1)) (c * x ^ i) := (hB c hcm).times bg
  refine ⟨_, rfl, _, rfl, _, rfl, _, _, _, _, c0, n * i + 1, rfl, hcn.same sm, AB.of eg, hB c hcm, bg, by lia, fun t ht => ?_⟩
  have s1 : Af H' (upd H' t (nT (c * x ^ i))) := Af.new ht
  refine ⟨_, _, _, _, (i + 1) * M, c0 + (n * i + 1), rfl, AB.of (s1 _ _ ef), AB.of Aa, bf, bt, by lia, fun u hu => ?_⟩
  have s2 := s1.trans (Af.new (o := nT (Cv.ev (qs.take i) x + c * x ^ i)) hu)
  refine ⟨_, rfl, _, rfl, _, _, _, _, n * i + 1, n, rfl, AB.of (s2 _ _ eg), (hx.same sm).same s2, bg, hbx, by lia, fun v' hv' => ?_⟩
  have s3 := s2.trans (Af.new (o := nT (x ^ i * x)) hv')
  have e1 : Cv.ev (qs.take (i + 1)) x = Cv.ev (qs.take i) x + c * x ^ i := by
   rw [Tf, hc]
   show Cv.ev (qs.take i ++ [c]) x = _
   rw [Cv.ev_snoc, Sj, Sz (by lia)]
  refine ⟨sm.trans s3, u, v', _, rfl, ?_, ?_, ?_, ?_⟩
  ·rw [e1]; exact (Af.new hv') _ _ Aa
  ·rw [T9]; exact Aa
  ·rw [e1, him2]; exact (bf.plus bt).mono (by lia)
  ·rw [T9, hni1]; exact (bg.times hbx).mono (by lia)
 ·rintro σ H' hR2
  refine Br hR2 fun sm hz92 => ?_
  refine CK hz92 fun f' g' z hz92' => ?_
  clear hz92
  refine D5 hz92' fun hq91 ef eg bf bg => ?_
  clear hz92'
  obtain rfl := hq91
  try clear hR2
  rw [hl, UZ] at ef bf
  exact ⟨_, rfl, q _ _ sm ef (by rw [SN]; exact bf)⟩
theorem Ge : Ar ["_law_a", "_law_b"] ["_law_a", "_law_b"] (Ae (top 49)) := ⟨rfl, rfl, rfl, by decide +kernel, rfl, by decide +kernel, by decide +kernel⟩
theorem Gi {f : Addr} {fd : FuncData} (F : Fun K "_law_minus" "_law_minus" (top 49) f fd) (Qi : Fd P w K mg base 33 "_law_lowest" ["_law_top", "_law_bottom"] (D9)) (hT : P.given.tree = none) :
 AH P w K mg base CX0 34 f fd ["_law_a", "_law_b"] (Dc K (· - ·)) := by
 refine F.ok Ge (fun vs H Q E h => ?_) (fun cdv A outer s H vs Q E hr h => ?_)
 ·obtain ⟨_, _, _, _, _, _, rfl, _⟩ := h; rfl
 refine ⟨_, (Ag (Ax (Ao Qi hr rfl (A0 (Ah AU (Ah Aw (Aj (ixT K) (pv 0) Ad (fun u v => rfl)) (Aj (ixT K) (pv 1) Ad (fun u v => rfl))) (Ah Aw (Aj (ixT K) (pv 1) Ad (fun u v => rfl)) (Aj (ixT K) (pv 0) Ad (fun u v => rfl)))) (A0 (Ah Aw (Aj (ixT K) (pv 0) Ad (fun u v => rfl)) (Aj (ixT K) (pv 1) Ad (fun u v => rfl))) Ac))))), ?_⟩
 obtain ⟨x, y, p, q, m, n, rfl, ⟨r, rfl, hr⟩, ⟨u, rfl, hu⟩, hp, hq, hmn, k⟩ := h
 refine ⟨_, rfl, r, _, _, _, rfl, rfl, hr, rfl, _, rfl, u, _, _, _, rfl, rfl, hu, rfl, _, _, rfl, rfl, Bv.bd hp.1 hq.2, _, rfl, u, _, _, _, rfl, rfl, hu, rfl, _, rfl, r, _, _, _, rfl, rfl, hr, rfl, _, _, rfl, rfl, Bv.bd hq.1 hp.2, _, _, rfl, rfl, ?_⟩
 refine ⟨_, rfl, r, _, _, _, rfl, rfl, hr, rfl, _, rfl, u, _, _, _, rfl, rfl, hu, rfl, _, _, rfl, rfl, Bv.bd hp.2 hq.2, ?_⟩
 refine ⟨_, _, rfl, T4 (Nm.den_ne p) (Nm.den_ne q), fun z hz => ?_⟩
 have e := k z hz
 try dsimp only at e
 rw [← Nm.minus_eq] at e
 exact e
theorem BN : Ar ["_law_places_here", "_law_heights", "_law_curve_here", "_law_found", "_law_k", "_law_at_here"] ["_law_places_here", "_law_heights", "_law_curve_here"] (Ae (top 56)) := ⟨rfl, rfl, rfl, by decide +kernel, rfl, by decide +kernel, by decide +kernel⟩
theorem EU {f : Addr} {fd : FuncData} (F : Fun K "_law_missing" "_law_missing" (top 56) f fd) (Qx : Fd P w K mg base 35 "_law_at" ["_law_curve_here", "_law_x"] (JU K)) (R7 : Fd P w K mg base 34 "_law_minus" ["_law_a", "_law_b"] (Dc K (· - ·))) (Qd : mg "range" = none) (Qc : mg "len" = none) (hT : P.given.tree = none) :
 AH P w K mg base CX0 36 f fd ["_law_places_here", "_law_heights", "_law_curve_here"] (GZ K) := by
 refine F.ok BN (fun vs H Q E h => ?_) (fun cdv A outer s H vs Q E hr h => ?_)
 ·obtain ⟨_, _, _, _, _, _, _, _, _, _, rfl, _⟩ := h; rfl
 refine ⟨_, (Ab (K := K) (Ai (i := 3) BN.nd rfl (Or.inl rfl) (AS Ac))
  (Ab (K := K) (Bb (K := K) PassesOwn.never rfl (Bp rfl Qd (A0 (Aq (Bx K) rfl Qc AD (A0 (pv 0) Ac)) Ac)) (Av (i := 4) BN.nd rfl (Or.inr rfl)) (Ag (AQ (K := K) (As (neD K hr.units) (Ao Qx hr rfl (A0 (pv 2) (A0 (Aj (ixL K) (pv 0) (pv 4) (fun u v => rfl)) Ac))) (Aj (ixL K) (pv 1) (pv 4) (fun u v => rfl)) (Ay _)) (Ab (K := K) (Ai (i := 5) BN.nd rfl (Or.inl rfl) (Aq (Bx K) rfl Qc AD (A0 (CG rfl (N := ["_law_x", "_law_places_here", "_law_k"]) (nt := 1) (js := [0, 4]) (Be.look (NX := ["_law_places_here", "_law_heights", "_law_curve_here", "_law_found", "_law_k", "_law_at_here"]) (sc := Ae (top 56)) rfl rfl (by decide +kernel)) (piL K (pv 3)) (fun u1 u2 u3 u4 u5 => (Av (i := 0) (show List.Nodup (["_law_x", "_law_places_here", "_law_k"] : List Str) from by decide +kernel) rfl (Or.inl rfl))) (AL (by decide)) (fun u1 u2 u3 u4 u5 => E2 (As E4 (Aj (ixT K) (Ao R7 hr rfl (A0 (pv 0) (A0 (Aj (ixL K) (pv 1) (pv 2) (fun u v => rfl)) Ac))) Ad (fun u v => rfl)) Ad (Ay _))) (fun u1 u2 u3 u4 u5 => (pv 0))) Ac)))
  (Ag (BQ (Dj K PySem.F.plainAttrs_list PySem.F.slot_list_insert PySem.F.type_list_insert KI (pv 3) (A0 (pv 5) (A0 (Aj (ixL K) (pv 0) (pv 4) (fun u v => rfl)) Ac))))) (by rfl)) AK (by rfl) (by rfl))) (by rfl))
  (Ag (Ax (pv 3))) (by rfl)) (by rfl)), ?_⟩
 obtain ⟨l, lh, c, zs, ys, qs, hs, cs, mc, nx, rfl, hl, hz, hh, hy, hc, hlen, h12, hc12, bq, bc, hmc, hnx, q⟩ := h
 have P0 : 0 ≤ sizeLine := by decide
 have hzl := hz.length
 have hyl := hy.length
 obtain ⟨xc, hxc, hcn⟩ := (id hc)
 refine ⟨P0, fun f hf => ?_⟩
 have s0 : Af H (upd H f (.lst [])) := Af.new hf
 refine ⟨_, rfl, l, zs, rfl, .inl (Af.seq s0 hl), _, rfl, by lia, by lia, ?_⟩
 rw [Sy, hzl]
 refine BK (n := qs.length) (L9 H l lh c f K qs hs cs fun H l lh c f K qs hs cs i σ G => Af H G ∧ ∃ us rs z4 z5, σ = [some (.ref l), some (.ref lh), some (.ref c), some (.ref f), z4, z5] ∧ G f = some (.lst us) ∧ Ap K G us rs ∧ rs.Perm (AV (qs.take i) (hs.take i) cs) ∧ rs.Pairwise (· ≤ ·)) ⟨s0, [], [], none, none, rfl, Aa, .nil, .nil, .nil⟩ ?_ ?_
 ·rintro i σ G hi hR1
  refine Br hR1 fun sg hz94 => ?_
  refine HI hz94 fun us rs z4 z5 hz94' => ?_
  clear hz94
  refine D5 hz94' fun hq93 ef hus hperm hpw => ?_
  clear hz94'
  obtain rfl := hq93
  try clear hR1
  have hqi : qs[i]? = some qs[i] := Tx hi
  have hhi : hs[i]? = some (hs[i]'(by lia)) := Tx (by lia)
  generalize hx : qs[i] = x at hqi
  generalize hs[i]'(by lia) = y at hhi
  obtain ⟨vp, hvp, nvp⟩ := (Paired.get' hz hqi)
  obtain ⟨vh, hvh, nvh⟩ := (Paired.get' hy hhi)
  obtain ⟨pa, rfl, _⟩ := (id nvp)
  have bx := bq x (Sr hqi)
  have hul := hus.length
  have hmb : ∀ z ∈ rs, RB nx z := fun z hz' => bq z (UC (IT (hperm.mem_iff.mp hz')))
  have hrl : rs.length ≤ 12 := by
   rw [hperm.length_eq, FO]
   refine RV (UR ..) ?_
   rw [Uv, Sj]; lia
  refine ⟨_, rfl, _, rfl, _, rfl, l, zs, _, _, rfl, rfl, Af.seq sg hl, atV hvp (by lia), false, c, pa, xc, cs, x, mc, nx, rfl, hxc.same sg, Ap.same hcn sg, nvp.same sg, bc, bx, hmc, fun p1 G1 s1 e1 _ => ?_⟩
  have sg1 := sg.trans s1
  refine ⟨_, rfl, _, rfl, lh, ys, _, _, rfl, rfl, Af.seq sg1 hh, atV hvh (by lia), ?_⟩
  refine eqN (AB.of e1) (nvh.same sg1) ?_
  refine ⟨_, rfl, ?_⟩
  have ms := GB (c := cs) hlen hqi hhi
  by_cases he : Cv.ev cs x = y
  ·refine AM (by rw [decide_eq_true he]; rfl) ⟨sg1, us, rs, _, _, rfl, s1 _ _ ef, Ap.same hus s1, ?_, hpw⟩
   rw [ms, if_pos he, Sf]; exact hperm
  refine AZ (by rw [decide_eq_false he]; rfl) ?_
  have ef1 := s1 _ _ ef
  refine Ce ⟨_, rfl, f, rfl, ⟨_, SqL.of ef1⟩, ?_⟩
  refine Fc (xs := us) (L3 G1 rs x fun G1 rs x j ws W => Af G1 W ∧ ws.length = ((rs.take j).filter fun y => decide (y < x)).length ∧ ws.length ≤ j) ⟨Af.refl _, rfl, S9 _⟩ (fun j ws W _ h => ⟨SqL.of (h.1 _ _ ef1), h.2.2⟩) (RW (AF (by lia))) ?_ ?_
  ·rintro j u ws W hu ⟨sw, hwl, hwj⟩
   obtain ⟨r, hr, hrn⟩ := (Paired.get hus hu)
   have sgw := sg1.trans sw
   refine ⟨_, rfl, _, rfl, _, rfl, l, zs, _, _, rfl, rfl, Af.seq sgw hl, atV hvp (by lia), _, _, r, x, nx, nx, rfl, hrn.same (s1.trans sw), nvp.same sgw, hmb r (Sr hr), bx, by lia, fun p2 hp2 => ?_⟩
   have n2 := Af.new (o := nT (r - x)) hp2
   have et : ((rs.take (j + 1)).filter fun y => decide (y < x)).length = ((rs.take j).filter fun y => decide (y < x)).length + ([r].filter fun y => decide (y < x)).length := by rw [Tf, hr, UQ, Ss]; rfl
   refine ⟨p2, _, _, _, rfl, rfl, SqT.of (Aa (o := nT (r - x))), rfl, _, _, rfl, rfl, _, rfl, ?_⟩
   have hd := LP (x := x) (y := r)
   by_cases z : r < x
   ·refine AZ (by rw [hd, decide_eq_true z]) ⟨_, rfl, sw.trans n2, ?_, by rw [Ss, SK]; lia⟩
    rw [et, UM (p := fun y => decide (y < x)) (by exact decide_eq_true z), Ss, SK, hwl]; rfl
   ·refine AM (by rw [hd, decide_eq_false z]) ⟨sw.trans n2, ?_, by lia⟩
    rw [et, UN (p := fun y => decide (y < x)) (by simpa using z), hwl]; rfl
  rintro ws W ⟨sw, hwl, hwj⟩ lu hlu
  rw [hul, UZ] at hwl
  have n1 := Af.new (o := .lst ws) hlu
  have sw1 := s1.trans (sw.trans n1)
  refine ⟨lu, ws, rfl, .inl (SqL.of Aa), ?_⟩
  generalize upd W lu (.lst ws) = W1 at sw1 ⊢
  have ef2 := sw1 _ _ ef
  have sg2 := sg.trans sw1
  refine ⟨_, rfl, .inl ⟨rfl, _, SqL.of ef2⟩, _, rfl, _, rfl, _, rfl, l, zs, _, _, rfl, rfl, Af.seq sg2 hl, atV hvp (by lia), f, us, _, ws.length, .ref pa, rfl, rfl, rfl, ef2, by lia, by lia, ?_⟩
  have nz := Ap.put (o := .lst (us.take ws.length ++ V.ref pa :: us.drop ws.length)) (Ap.same hus sw1) ef2
  refine ⟨sg2.put hf, _, rs.take ws.length ++ x :: rs.drop ws.length, _, _, rfl, Aa, Paired.append (Paired.take _ nz) (.cons (AB.put (nvp.same sg2) ef2) (Dk _ nz)), ?_, JJ hpw hwl⟩
  refine M6.trans ?_
  rw [ms, if_neg he]
  exact (List.Perm.cons x hperm).trans (List.perm_append_comm (l₁ := [x]))
 rintro σ G hR2
 refine Br hR2 fun sg hz96 => ?_
 refine HI hz96 fun us rs z4 z5 hz96' => ?_
 clear hz96
 refine D5 hz96' fun hq95 ef hus hperm hpw => ?_
 clear hz96'
 obtain rfl := hq95
 try clear hR2
 rw [UZ, ← hlen, UZ] at hperm
 exact ⟨_, rfl, q f us rs G sg hf ef hus hperm hpw⟩
theorem Ck : Ar ["_law_places_here", "_law_heights", "_law_width", "_law_most", "_law_found", "_law_some", "_law_curve_here"] ["_law_places_here", "_law_heights", "_law_width", "_law_most"] (Ae (top 58)) := ⟨rfl, rfl, rfl, by decide +kernel, rfl, by decide +kernel, by decide +kernel⟩
theorem Hy {f : Addr} {fd : FuncData} (F : Fun K "_law_near" "_law_near" (top 58) f fd) (R8 : Fd P w K mg base 33 "_law_choices" ["_law_many", "_law_size"] (Ep K)) (Qy : Fd P w K mg base 39 "curve_through" ["points"] (GV K)) (Qz : Fd P w K mg base 36 "_law_missing" ["_law_places_here", "_law_heights", "_law_curve_here"] (GZ K)) (Qc : mg "len" = none) (Qf : mg "tuple" = none) (hT : P.given.tree = none) :
 AH P w K mg base CX0 40 f fd ["_law_places_here", "_law_heights", "_law_width", "_law_most"] (Jq K) := by
 refine F.ok Ck (fun vs H Q E h => ?_) (fun cdv A outer s H vs Q E hr h => ?_)
 ·obtain ⟨_, _, _, _, _, _, _, _, _, _, _, _, rfl, _⟩ := h; rfl
 refine ⟨_, (Ab (K := K) (Ai (i := 4) Ck.nd rfl (Or.inl rfl) (AS Ac))
  (Ab (K := K) (Bb (K := K) PassesOwn.never rfl (piL K (Ao R8 hr rfl (A0 (Aq (Bx K) rfl Qc AD (A0 (pv 0) Ac)) (A0 (pv 2) Ac)))) (Av (i := 5) Ck.nd rfl (Or.inl rfl)) (Ab (K := K) (Ai (i := 6) Ck.nd rfl (Or.inl rfl) (Ao Qy hr rfl (A0 (CH (GQ K) rfl Qf Eh (A0 (CG rfl (N := ["_law_k", "_law_places_here", "_law_heights"]) (nt := 1) (js := [0, 1]) (Be.look (NX := ["_law_places_here", "_law_heights", "_law_width", "_law_most", "_law_found", "_law_some", "_law_curve_here"]) (sc := Ae (top 58)) rfl rfl (by decide +kernel)) (piL K (pv 5)) (fun u1 u2 u3 u4 u5 => (Av (i := 0) (show List.Nodup (["_law_k", "_law_places_here", "_law_heights"] : List Str) from by decide +kernel) rfl (Or.inl rfl))) (AL (by decide)) (fun u1 u2 u3 u4 u5 => BP) (fun u1 u2 u3 u4 u5 => (AR (A0 (Aj (ixL K) (pv 1) (pv 0) (fun u v => rfl)) (A0 (Aj (ixL K) (pv 2) (pv 0) (fun u v => rfl)) Ac))))) Ac)) Ac)))
  (Ag (AQ (K := K) (PW.pt (Fy (As (Ou K hr) (pv 6) (pv 4) (by with_unfolding_all rfl)) (E1 (As Pk (Aq (Bx K) rfl Qc AD (A0 (Ao Qz hr rfl (A0 (pv 0) (A0 (pv 1) (A0 (pv 6) Ac)))) Ac)) (pv 3) (Ay _))))) (Ag (BQ (Dj K PySem.F.plainAttrs_list PySem.F.slot_list_append PySem.F.type_list_append Cp (pv 4) (A0 (pv 6) Ac)))) AK (by rfl) (by rfl))) (by rfl)) (by rfl))
  (Ag (Ax (pv 4))) (by rfl)) (by rfl)), ?_⟩
 obtain ⟨l, lh, zs, ys, qs, hs, W, e, n, nx, ny, mc, rfl, hl, hz, hh, hy, hql, hhl, hn6, hnd, hW1, hW3, heW, bq, bh, hnx1, hnx, hxy, hny, hmc, hmc2, q⟩ := h
 have P0 : 0 ≤ sizeLine := by decide
 have P2 : 2 ≤ sizeLine := by decide
 have hzl := hz.length
 have hyl := hy.length
 refine ⟨P0, fun f hf => ?_⟩
 have s0 : Af H (upd H f (.lst [])) := Af.new hf
 have ef0 := Aa (H := H) (a := f) (o := .lst [])
 generalize upd H f (.lst []) = H0 at s0 ef0 ⊢
 refine ⟨_, rfl, l, zs, rfl, .inl (Af.seq s0 hl), ?_⟩
 rw [hzl, hql]
 refine ⟨_, rfl, n, W, rfl, hn6, by lia, fun lc cs0 H1 s1 hlc ec hcs hc64 => ?_⟩
 have s01 := s0.trans s1
 have ef1 := s1 _ _ ef0
 generalize hkk : ((chs W n).filter fun ks => decide (ks.length = W)) = kss at hcs
 have hkl := hcs.length
 have hko : ∀ ks ∈ kss, ks.Pairwise (· < ·) ∧ (∀ i ∈ ks, i < n) ∧ ks.length = W := fun ks hk => by
  rw [← hkk] at hk
  obtain ⟨h1, h2⟩ := (RS.mp hk)
  obtain ⟨a, b⟩ := (HP W n ks h1)
  exact ⟨a, b, of_decide_eq_true h2⟩
 have lcf : lc ≠ f := fun z => by rw [z, ef0] at hlc; cases hlc
 have smv : ∀ {G : Hp}, Mv f H1 G → Af H G := fun {G} m a o e => m a o (fun z => by rw [z, hf] at e; cases e) (s01 _ _ e)
 refine ⟨lc, rfl, ⟨_, SqL.of ec⟩, FV (xs := cs0) (L10 f H1 l lh W e K mc qs hs fun f H1 l lh W e K mc qs hs i σ G => Mv f H1 G ∧ ∃ vs css z5 z6, σ = [some (.ref l), some (.ref lh), some (.int (W : Int)), some (.int (e : Int)), some (.ref f), z5, z6] ∧ G f = some (.lst vs) ∧ vs.length ≤ i ∧ Pts K G vs css ∧ css.Nodup ∧ (∀ c ∈ css, Cu c ∧ c.length ≤ W ∧ (∀ x ∈ c, RB mc x) ∧ (AV qs hs c).length ≤ e) ∧ ∀ ks ∈ kss.take i, ∀ c, Cu c → c.length ≤ W → (∀ k ∈ ks, Cv.ev c (qs.getD k 0) = hs.getD k 0) → (AV qs hs c).length ≤ e → c ∈ css) ⟨Mv.refl _ _, [], [], none, none, rfl, ef1, S9 _, .nil, List.nodup_nil, (fun _ h => nomatch h), (fun _ h => nomatch h)⟩ (fun i σ G _ h => SqL.of (h.1 _ _ lcf ec)) ?_ ?_⟩
 ·rintro i v σ G hv hR1
  refine Br hR1 fun mg hz98 => ?_
  refine HI hz98 fun vs css z5 z6 hz98' => ?_
  clear hz98
  refine Mw hz98' fun hq97 ef hvl hcp hcn hca hcc => ?_
  clear hz98'
  obtain rfl := hq97
  try clear hR1
  obtain ⟨ks, hks, a, rfl, ea⟩ := (Paired.get hcs hv)
  obtain ⟨kp, kn', kW⟩ := (hko ks (Sr hks))
  have hkl' := JI ks
  have haf : a ≠ f := fun z => by
   rw [z, ef1] at ea
   have := congrArg (fun o => match o with | some (HO.lst xs) => xs.length | _ => 0) ea
   simp only [TN] at this
   lia
  have ea := mg _ _ haf ea
  have sg := smv mg
  refine Ce ⟨_, rfl, a, rfl, ⟨_, SqL.of ea⟩, ?_⟩
  refine DQ (xs := kV' ks) (L5 G K ks qs hs fun G K ks qs hs j ws F => Af G F ∧ ws.length = j ∧ Cg K F ws ((ks.take j).map fun k => [qs.getD k 0, hs.getD k 0])) ⟨Af.refl _, rfl, .nil⟩ (fun j ws F _ h => ⟨SqL.of (h.1 _ _ ea), h.2.1⟩) (RW (AF (by lia))) ?_ ?_
  ·rintro j w ws F hw ⟨sf, hwl, hws⟩
   unfold kV' at hw
   rw [Sn] at hw
   obtain ⟨k, hk, rfl⟩ : ∃ k, ks[j]? = some k ∧ w = V.int (k : Int) := by
    cases z : ks[j]? with
    | none => rw [z] at hw; cases hw
    | some k => rw [z] at hw; cases hw; exact ⟨k, rfl, rfl⟩
   have hkn := kn' k (Sr hk)
   have hq := AN (l := qs) (i := k) (by lia)
   have hh' := AN (l := hs) (i := k) (by lia)
   obtain ⟨vx, hvx, rx, rfl, erx⟩ := (Paired.get' hz hq)
   obtain ⟨vy, hvy, nvy⟩ := (Paired.get' hy hh')
   have s0F := sg.trans sf
   refine ⟨_, rfl, _, rfl, l, zs, _, _, rfl, rfl, Af.seq s0F hl, AW hvx, _, rfl, _, rfl, lh, ys, _, _, rfl, rfl, Af.seq s0F hh, AW hvy, P2, fun t ht => ?_⟩
   have w1 := Af.new (o := .tup [.ref rx, vy]) ht
   have s1F := s0F.trans w1
   refine ⟨sf.trans w1, by simp [hwl], ?_⟩
   rw [Tf, hk, Tg]
   exact Paired.snoc (Cg.same hws w1) ⟨t, _, rx, rfl, SqT.of Aa, .cons (AB.of (s1F _ _ erx)) (.cons (nvy.same s1F) .nil), rfl, s1F _ _ erx⟩
  rintro ws F ⟨sf, hwl, hws⟩ lw hlw
  rw [hkl', UZ] at hws
  have w1 := Af.new (o := .lst ws) hlw
  refine ⟨lw, ws, rfl, .inl ⟨SqL.of Aa, fun lt hlt => ?_⟩⟩
  have w2 := Af.new (o := .tup ws) hlt
  have w12 := w1.trans w2
  have hp8 := Cg.same hws w12
  have h23 : Pf.P2 (ks.map fun k => [qs.getD k 0, hs.getD k 0]) := fun ps hps => by
   obtain ⟨k, _, rfl⟩ := (TR.mp hps)
   rfl
  have hnd' : ((ks.map fun k => [qs.getD k 0, hs.getD k 0]).map fun ps => ps.getD 0 0).Nodup := by
   rw [List.map_map]
   exact HB hql hnd kp kn'
  have hbp : ∀ ps ∈ ks.map (fun k => [qs.getD k 0, hs.getD k 0]), ∀ z ∈ ps, RB ny z := fun ps hps z hz' => by
   obtain ⟨k, hk, rfl⟩ := (TR.mp hps)
   have hkn := kn' k hk
   rcases S1.mp hz' with y | y
   ·rw [y]; exact (bq _ (Sr (AN (l := qs) (i := k) (by lia)))).mono hxy
   ·rw [Tw.mp y]; exact bh _ (Sr (AN (l := hs) (i := k) (by lia)))
  have hbk : ∀ ps ∈ ks.map (fun k => [qs.getD k 0, hs.getD k 0]), RB nx (ps.getD 0 0) := fun ps hps => by
   obtain ⟨k, hk, rfl⟩ := (TR.mp hps)
   have hkn := kn' k hk
   exact bq _ (Sr (AN (l := qs) (i := k) (by lia)))
  have htl := GR h23
  rw [Su, kW] at htl
  refine ⟨lt, ws, ks.map fun k => [qs.getD k 0, hs.getD k 0], ny, nx, rfl, SqT.of Aa, hp8, h23, by rw [Su]; lia, hnd', by lia, hbp, hbk, by lia, by lia, fun pc F2 cs f2 cC hcl hgc hrb hev => ?_⟩
  have hcW : cs.length ≤ W := by lia
  have thr : ∀ k ∈ ks, Cv.ev cs (qs.getD k 0) = hs.getD k 0 := fun k hk => Fi h23 hnd' hev _ (TR.mpr ⟨k, hk, rfl⟩)
  have one : ∀ c, Cu c → c.length ≤ W → (∀ k ∈ ks, Cv.ev c (qs.getD k 0) = hs.getD k 0) → c = cs := fun c gc lc hc => Eb gc hgc fun x => FG h23 hnd' (by lia) hcl (fun ps hps => by
   obtain ⟨k, hk, rfl⟩ := (TR.mp hps)
   exact hc k hk) (Fi h23 hnd' hev) x
  have bc : ∀ x ∈ cs, RB mc x := fun x hx => (hrb x hx).mono (by
   have := HV (k := 7) (m := 7) (show ny + 2 * nx + 2 ≤ ny + 2 * nx + 2 from S9 _) (S9 7)
   lia)
  have sF := (sf.trans w12).trans f2
  have mF : Mv f H1 F2 := mg.trans sF.mv
  have ef := sF _ _ ef
  have hcp := Pts.same hcp sF
  clear hws hp8 w1 w2 w12 f2 sf hlw hlt hbp hbk hrb hev
  have ecc : ∀ j : Nat, kss.take (i + 1) = kss.take i ++ [ks] := fun _ => by rw [Tf, hks]; rfl
  have hcc' : ∀ css' : List (List Rat), (∀ c ∈ css, c ∈ css') → ((AV qs hs cs).length ≤ e → cs ∈ css') → ∀ ks ∈ kss.take (i + 1), ∀ c, Cu c → c.length ≤ W → (∀ k ∈ ks, Cv.ev c (qs.getD k 0) = hs.getD k 0) → (AV qs hs c).length ≤ e → c ∈ css' := fun css' h1 h2 js hj c gc lc hc hm => by
   rw [ecc 0] at hj
   rcases S2.mp hj with y | y
   ·exact h1 c (hcc js y c gc lc hc hm)
   ·rw [Tw.mp y] at hc
    have := one c gc lc hc
    subst this
    exact h2 hm
  refine ⟨_, rfl, _, rfl, ?_⟩
  refine inC ⟨pc, rfl, cC⟩ (SqL.of ef) hcp ?_
  refine ⟨_, rfl, ?_⟩
  by_cases hin : cs ∈ css
  ·refine AM (by rw [decide_eq_true hin]; rfl) ?_
   exact ⟨mF, vs, css, _, _, rfl, ef, by lia, hcp, hcn, hca, hcc' css (fun _ h => h) fun _ => hin⟩
  ·refine AZ (by rw [decide_eq_false hin]; rfl) ?_
   have sH := smv mF
   have k1 : nx * cs.length ≤ 40 * 3 := UE hnx (by lia)
   have k2 : (mc + nx * cs.length + 4) * (cs.length + 2) ≤ 4000124 * 5 := UE (by lia) (by lia)
   refine ⟨_, rfl, _, rfl, _, rfl, l, lh, pc, zs, ys, qs, hs, cs, mc, nx, rfl, Af.seq sH hl, Ap.same hz.nums sH, Af.seq sH hh, Ap.same hy sH, cC, by lia, by lia, by lia, bq, bc, by lia, by lia, fun pm us2 ms F3 f3 hnm em hnu hperm hpw => ?_⟩
   have hul2 : us2.length = (AV qs hs cs).length := by rw [hnu.length, hperm.length_eq]
   have mF3 := mF.trans f3.mv
   have ef := f3 _ _ ef
   have hcp := Pts.same hcp f3
   refine ⟨pm, us2, rfl, .inl (SqL.of em), _, rfl, _, _, rfl, rfl, _, rfl, ?_⟩
   by_cases hle : (AV qs hs cs).length ≤ e
   ·refine AZ (decide_eq_true (by lia)) ?_
    refine ⟨_, rfl, .inl ⟨rfl, _, SqL.of ef⟩, _, rfl, f, vs, .ref pc, rfl, rfl, ef, RN (show vs.length < 300 by have := (S4.mp hv).1; lia) (by decide), ?_⟩
    refine ⟨fun b o hb e' => by rw [Am hb]; exact mF3 b o hb e', vs ++ [.ref pc], css ++ [cs], _, _, rfl, Aa, by rw [Ss, SK]; lia, Paired.snoc (Pts.put hcp ef) (PtV.put ⟨pc, rfl, cC.same f3⟩ ef), ?_, fun c hc => ?_, hcc' _ (fun c hc => S3 _ hc) fun _ => Sa _ (Tw.mpr rfl)⟩
    ·rw [List.nodup_append]
     exact ⟨hcn, Uy _ _, fun c hc d hd e' => hin (by rw [Tw.mp hd] at e'; rw [← e']; exact hc)⟩
    ·rcases S2.mp hc with y | y
     ·exact hca c y
     ·rw [Tw.mp y]; exact ⟨hgc, hcW, bc, hle⟩
   ·refine AM (decide_eq_false (by lia)) ⟨mF3, vs, css, _, _, rfl, ef, by lia, hcp, hcn, hca, hcc' css (fun _ h => h) fun h => absurd h hle⟩
 rintro σ G hR2
 refine Br hR2 fun mg hz104 => ?_
 refine HI hz104 fun vs css z5 z6 hz104' => ?_
 clear hz104
 refine Mw hz104' fun hq103 ef hvl hcp hcn hca hcc => ?_
 clear hz104'
 obtain rfl := hq103
 try clear hR2
 rw [hkl, UZ] at hcc
 refine ⟨_, rfl, q f vs css G (smv mg) ef hcp hcn hca fun g gg lg mgs => ?_⟩
 refine JK (Nb hql hhl mgs heW) fun ks hz105' => ?_
 refine Dw hz105' fun k1 k2 k3 k4 => ?_
 clear hz105'
 refine hcc ks ?_ g gg lg k4 mgs
 rw [← hkk]
 exact RS.mpr ⟨HR W n ks k1 k2 (by lia), decide_eq_true k3⟩
theorem Gb : Ar ["places"] ["places"] (Ae (top 21)) := ⟨rfl, rfl, rfl, by decide +kernel, rfl, by decide +kernel, by decide +kernel⟩
theorem Gg {f : Addr} {fd : FuncData} (F : Fun K "are_unlike" "are_unlike" (top 21) f fd) (Qc : mg "len" = none) (b_set : mg "set" = none) (hT : P.given.tree = none) :
 AH P w K mg base CX0 33 f fd ["places"] (Fl K) := by
 refine F.ok Gb (fun vs H Q E h => ?_) (fun cdv A outer s H vs Q E hr h => ?_)
 ·obtain ⟨_, _, _, rfl, _⟩ := h; rfl
 refine ⟨_, (Ag (Ax (F0 E5 (Aq L0 rfl Qc AD (A0 (CH (PU K rfl hr.units) rfl b_set OR (A0 (pv 0) Ac)) Ac)) (Aq (Bx K) rfl Qc AD (A0 (pv 0) Ac)) (Ay _)))), ?_⟩
 obtain ⟨l, ys, qs, rfl, hS, hn, hnd, h17, q⟩ := h
 have hl := hn.length
 refine ⟨_, rfl, l, ys, qs, rfl, hS, hn, hnd, h17, fun p hp => ⟨p, qs.length, rfl, Aa, by lia, ?_⟩⟩
 have s1 : Af H (upd H p (MC p qs.length)) := Af.new hp
 refine ⟨_, rfl, l, ys, rfl, .inl (Af.seq s1 hS), rfl, ?_⟩
 have e : (V.int ((qs.length : Nat) : Int) = V.int ((ys.length : Nat) : Int)) := by rw [hl]
 rw [decide_eq_true e]
 exact q _ s1
theorem EM : Ar ["places", "fewest"] ["places", "fewest"] (Ae (top 22)) := ⟨rfl, rfl, rfl, by decide +kernel, rfl, by decide +kernel, by decide +kernel⟩
theorem ES {f : Addr} {fd : FuncData} (F : Fun K "check_places" "check_places" (top 22) f fd) (R9 : Fd P w K mg base 33 "are_unlike" ["places"] (Fl K)) (Qc : mg "len" = none) {t_MOST_TOLD : Tok} (c_MOST_TOLD : mg "MOST_TOLD" = some (.int 12 t_MOST_TOLD)) (hT : P.given.tree = none) :
 AH P w K mg base CX0 34 f fd ["places", "fewest"] (EY K) := by
 refine F.ok EM (fun vs H Q E h => ?_) (fun cdv A outer s H vs Q E hr h => ?_)
 ·obtain ⟨_, _, _, _, rfl, _⟩ := h; rfl
 refine ⟨_, (Ab (K := K) (AQ (K := K) (PW.pt (JY (As E4 (Aq (Bx K) rfl Qc AD (A0 (pv 0) Ac)) (pv 1) (Ay _)) (Hj (As DI (Aq (Bx K) rfl Qc AD (A0 (pv 0) Ac)) (E3 (v := .int 12) rfl c_MOST_TOLD ⟨_, rfl⟩) (Ay _))))) (Ag Cd) AK (by rfl) (by rfl))
  (Ag (AQ (K := K) (Oa (O9 (Ao R9 hr rfl (A0 (pv 0) Ac)))) (Ag Cd) AK (by rfl) (by rfl))) (by rfl)), ?_⟩
 obtain ⟨l, few, ys, qs, rfl, hS, hn, hnd, h12, hf, q⟩ := h
 have hl := hn.length
 refine ⟨_, rfl, l, ys, rfl, .inl hS, _, rfl, _, _, rfl, rfl, _, rfl, ?_⟩
 refine AM (by rw [decide_eq_false (show ¬ ((ys.length : Int) < few) by lia)] <;> rfl) ?_
 refine ⟨_, rfl, l, ys, rfl, .inl hS, _, _, rfl, rfl, _, rfl, ?_⟩
 refine AM (by rw [decide_eq_false (show ¬ ((12 : Int) < (ys.length : Int)) by lia)] <;> rfl) ?_
 exact ⟨_, rfl, l, ys, qs, rfl, hS, hn, hnd, by lia, fun H' s => ⟨_, rfl, IV (q H' s)⟩⟩
theorem Et : Ar ["places", "heights"] ["places", "heights"] (Ae (top 26)) := ⟨rfl, rfl, rfl, by decide +kernel, rfl, by decide +kernel, by decide +kernel⟩
theorem Ey {f : Addr} {fd : FuncData} (F : Fun K "check_heights" "check_heights" (top 26) f fd) (QA : Fd P w K mg base 34 "check_places" ["places", "fewest"] (EY K)) (Qc : mg "len" = none) (hT : P.given.tree = none) :
 AH P w K mg base CX0 35 f fd ["places", "heights"] (Fo K) := by
 refine F.ok Et (fun vs H Q E h => ?_) (fun cdv A outer s H vs Q E hr h => ?_)
 ·obtain ⟨_, _, _, _, _, rfl, _⟩ := h; rfl
 refine ⟨_, (Ab (K := K) (BQ (Ao QA hr rfl (A0 (pv 0) (A0 Ad Ac))))
  (Ag (AQ (K := K) (As FF (Aq (Bx K) rfl Qc AD (A0 (pv 1) Ac)) (Aq (Bx K) rfl Qc AD (A0 (pv 0) Ac)) (Ay _)) (Ag Cd) AK (by rfl) (by rfl))) (by rfl)), ?_⟩
 obtain ⟨lp, lh, zs, ys, qs, rfl, hS, hN, hnd, h1, h12, hH, hl, q⟩ := h
 refine ⟨_, rfl, lp, 1, zs, qs, rfl, hS, hN, hnd, h12, by lia, fun H1 s1 => ?_⟩
 exact ⟨_, rfl, lh, ys, rfl, .inl (Af.seq s1 hH), _, rfl, lp, zs, rfl, .inl (Af.seq s1 hS), rfl, _, rfl, AM (by rw [hl, decide_eq_true rfl]; rfl) (q H1 s1)⟩
theorem Bf : Ar ["tops", "x", "height", "scale", "top"] ["tops", "x"] (Ae (top 16)) := ⟨rfl, rfl, rfl, by decide +kernel, rfl, by decide +kernel, by decide +kernel⟩
theorem EO {f : Addr} {fd : FuncData} (F : Fun K "whole_height" "whole_height" (top 16) f fd) (QB : mg "reversed" = none) (hT : P.given.tree = none) :
 AH P w K mg base CX0 33 f fd ["tops", "x"] (MS K) := by
 refine F.ok Bf (fun vs H Q E h => ?_) (fun cdv A outer s H vs Q E hr h => ?_)
 ·obtain ⟨_, _, _, _, _, _, rfl, _⟩ := h; rfl
 refine ⟨_, (Ab (K := K) (Ai (i := 2) Bf.nd rfl (Or.inl rfl) Ad)
  (Ab (K := K) (Ai (i := 3) Bf.nd rfl (Or.inl rfl) Ad)
  (Ab (K := K) (Bb (K := K) PassesOwn.never rfl (Pg K rfl QB (pv 0)) (Av (i := 4) Bf.nd rfl (Or.inl rfl)) (Ab (K := K) (Ai (i := 2) Bf.nd rfl (Or.inl rfl) (Ah AG (Ah Aw (pv 2) (Aj (ixT K) (pv 1) Ad (fun u v => rfl))) (Ah Aw (pv 4) (pv 3))))
  (Ag (Ai (i := 3) Bf.nd rfl (Or.inl rfl) (Ah Aw (pv 3) (Aj (ixT K) (pv 1) Ad (fun u v => rfl))))) (by rfl)) (by rfl))
  (Ag (Ax (AR (A0 (Ah Aw (pv 2) (Aj (ixT K) (pv 1) Ad (fun u v => rfl))) (A0 (pv 3) Ac))))) (by rfl)) (by rfl)) (by rfl)), ?_⟩
 obtain ⟨l, rx, ts, x, m, n, rfl, hS, ⟨_, erx, hx⟩, hB, hbx, hz, q⟩ := h
 cases erx
 have tl : (ts.map V.int).length = ts.length := Su _
 have hz2 : m + n * ts.length + 4 * n + ts.length + 4 ≤ 100000000 := by
  have e : (n + 1) * (ts.length + 4) = n * ts.length + 4 * n + ts.length + 4 := by rw [TH, UT]; lia
  lia
 have P2 : 2 ≤ sizeLine := by decide
 refine ⟨_, rfl, _, rfl, l, _, rfl, hS, ?_⟩
 refine Nt (L7 H l rx x ts m n fun H l rx x ts m n i σ H' => H' = H ∧ ∃ (h s : Int) (z : Option V), σ = [some (.ref l), some (.ref rx), some (.int h), some (.int s), z] ∧ s = (x.den : Int) ^ i ∧ s ≠ 0 ∧
  (h : Rat) * ((x.den : Int) : Rat) = Cv.evI (ts.drop (ts.length - i)) x * (s : Rat) ∧ Bd (m + n * i + i + 2) h ∧ Bd (n * i + 1) s)
  ⟨rfl, 0, 1, none, rfl, rfl, by decide, ?_, ?_, ?_⟩ (fun i σ H' _ p => by rw [p.1]; exact hS) ?_ ?_
 ·rw [TV, TZ (S9 _)]
  show ((0 : Int) : Rat) * _ = 0 * _
  rw [UH]; grind
 ·exact (show Bd 1 0 by unfold Bd; decide).mono (by lia)
 ·exact (show Bd 1 1 by unfold Bd; decide).mono (by lia)
 ·rintro i v σ H' hi hv hR1
  refine Br hR1 fun hq106 hz108 => ?_
  refine CK hz108 fun h s z hz108' => ?_
  clear hz108
  refine Mx hz108' fun hq107 es hs0 he hbh hbs => ?_
  clear hz108'
  obtain rfl := hq106
  obtain rfl := hq107
  try clear hR1
  rw [tl] at hi hv
  have hj : ts.length - 1 - i < ts.length := by lia
  have htq : ts[ts.length - 1 - i]? = some ts[ts.length - 1 - i] := Tx hj
  have htm : ts[ts.length - 1 - i] ∈ ts := Tz hj
  rw [Sn, htq] at hv
  cases hv
  generalize ts[ts.length - 1 - i] = t at htq htm
  have bt := hB _ htm
  have hni : n * i ≤ n * ts.length := V0 n (by lia)
  have hni1 : n * (i + 1) = n * i + n := by rw [UT, V1]
  refine ⟨_, rfl, _, rfl, rx, _, _, _, rfl, rfl, hx, rfl, _, _, rfl, rfl, Bv.bd hbh hbx.1 (by lia), _, rfl, _, rfl, _, _, rfl, rfl, Bv.bd bt hbs (by lia), _, _, rfl, rfl, ?_⟩
  refine ⟨_, rfl, _, rfl, rx, _, _, _, rfl, rfl, hx, rfl, _, _, rfl, rfl, Bv.bd hbs hbx.2 (by lia), ⟨rfl, _, _, _, rfl, ?_, T4 hs0 (Nm.den_ne x), ?_, ?_, ?_⟩⟩
  ·rw [es, Int.pow_succ]
  ·rw [HL rfl hi htq, Cv.evI_cons, Rat.intCast_add, T5, T5, T5, Nm.num_mul x]
   grind
  ·have b1 := hbh.mul hbx.1
   have b2 := bt.mul hbs
   exact (Bd.add (b1.mono (n := m + n * i + i + 2 + n) (by lia)) (b2.mono (by lia))).mono (by lia)
  ·exact (hbs.mul hbx.2).mono (by lia)
 ·rintro σ H' hR2
  refine Br hR2 fun hq109 hz111 => ?_
  refine CK hz111 fun h s z hz111' => ?_
  clear hz111
  refine Mx hz111' fun hq110 es hs0 he hbh hbs => ?_
  clear hz111'
  obtain rfl := hq109
  obtain rfl := hq110
  try clear hR2
  rw [tl] at es he hbh hbs
  rw [Nat.sub_self, TU] at he
  refine ⟨_, rfl, _, rfl, rx, _, _, _, rfl, rfl, hx, rfl, _, _, rfl, rfl, Bv.bd hbh hbx.2 (by lia), _, rfl, P2, fun p hp => ?_⟩
  exact q _ _ p es hs0 (by rw [T5]; exact he) ((hbh.mul hbx.2).mono (by rw [TH, UT]; lia)) hbs hp
theorem Ft : Ar ["pair", "x", "y", "room"] ["pair", "x", "y"] (Ae (top 28)) := ⟨rfl, rfl, rfl, by decide +kernel, rfl, by decide +kernel, by decide +kernel⟩
theorem JA {f : Addr} {fd : FuncData} (F : Fun K "lack_at" "lack_at" (top 28) f fd) (Qp : Fd P w K mg base 33 "whole_height" ["tops", "x"] (MS K)) (Qc : mg "len" = none) (hT : P.given.tree = none) :
 AH P w K mg base CX0 34 f fd ["pair", "x", "y"] (Jr K) := by
 refine F.ok Ft (fun vs H Q E h => ?_) (fun cdv A outer s H vs Q E hr h => ?_)
 ·obtain ⟨_, _, _, _, _, _, _, _, _, _, rfl, _⟩ := h; rfl
 refine ⟨_, (Ab (K := K) (Ai (i := 3) Ft.nd rfl (Or.inl rfl) (Ah (Bi hr hT) (Aq (Bx K) rfl Qc AD (A0 (pv 0) Ac)) Ad))
  (Ag (Ax (Ah AU (Ah Aw (Aj (ixT K) (pv 2) Ad (fun u v => rfl)) (Aj (ixT K) (Ao Qp hr rfl (A0 (BF (slL K) (pv 0) C3 (C2 (pv 3))) (A0 (pv 1) Ac))) Ad (fun u v => rfl))) (Ah Aw (Aj (ixT K) (pv 2) Ad (fun u v => rfl)) (Aj (ixT K) (Ao Qp hr rfl (A0 (BF (slL K) (pv 0) (C2 (pv 3)) C3) (A0 (pv 1) Ac))) Ad (fun u v => rfl)))))) (by rfl)), ?_⟩
 obtain ⟨l, rx, ry, ts, x, y, R, m, nx, ny, rfl, hS, hl, hx, ⟨_, ery, hy⟩, hB, bx, by_, hz, q⟩ := h
 cases ery
 have hz1 : (nx + 1) * (R + 4) = (nx + 1) * (R + 2) + (nx + 1) * 2 := by rw [← UT]
 generalize hP : (nx + 1) * (R + 2) = P at *
 refine ⟨_, rfl, l, _, rfl, .inl hS, _, _, rfl, rfl, by decide, ?_⟩
 have eR : (((ts.map V.int).length : Nat) : Int).fdiv 2 = (R : Int) := by
  rw [Su, hl, UL _ (by decide)]; lia
 rw [eR]
 have ht1 : (ts.take R).length = R := by rw [Sj]; lia
 have ht2 : (ts.drop R).length = R := by rw [SD]; lia
 refine ⟨_, rfl, ry, _, _, _, rfl, rfl, hy, rfl, _, rfl, _, rfl, _, rfl, l, _, rfl, hS, fun p1 h1 => ?_⟩
 have c1 : CD (ts.map V.int) none (some (R : Int)) = (ts.take R).map V.int := by rw [Dv, V3]
 rw [c1]
 have n1 := Af.new (o := .lst ((ts.take R).map V.int)) h1
 have e1 : (upd H p1 (.lst ((ts.take R).map V.int))) p1 = some (.lst ((ts.take R).map V.int)) := Aa
 generalize upd H p1 (.lst ((ts.take R).map V.int)) = H1 at n1 e1 ⊢
 refine ⟨_, rfl, p1, rx, ts.take R, x, m, nx, rfl, SqL.of e1, hx.same n1, fun t ht => hB t (UC ht), bx, by rw [ht1]; lia, fun hN s p2 es hs0 ehN bN bs hp2 => ?_⟩
 rw [ht1] at es bN bs
 have n2 := Af.new (o := .tup [.int hN, .int s]) hp2
 refine ⟨p2, _, _, _, rfl, rfl, SqT.of Aa, rfl, _, _, rfl, rfl, Bv.bd by_.2 bN (by lia), ?_⟩
 have s2 := n1.trans n2
 generalize upd H1 p2 (.tup [.int hN, .int s]) = H2 at s2 ⊢
 refine ⟨_, rfl, ry, _, _, _, rfl, rfl, hy.same s2, rfl, _, rfl, _, rfl, _, rfl, l, _, rfl, Af.seq s2 hS, fun p3 h3 => ?_⟩
 have c2 : CD (ts.map V.int) (some (R : Int)) none = (ts.drop R).map V.int := by rw [Ef, List.map_drop]
 rw [c2]
 have n3 := s2.trans (Af.new (o := .lst ((ts.drop R).map V.int)) h3)
 have e3 : (upd H2 p3 (.lst ((ts.drop R).map V.int))) p3 = some (.lst ((ts.drop R).map V.int)) := Aa
 generalize upd H2 p3 (.lst ((ts.drop R).map V.int)) = H3 at n3 e3 ⊢
 refine ⟨_, rfl, p3, rx, ts.drop R, x, m, nx, rfl, SqL.of e3, hx.same n3, fun t ht => hB t (UU ht), bx, by rw [ht2]; lia, fun hD s' p4 es' hs0' ehD bD bs' hp4 => ?_⟩
 rw [ht2] at es' bD bs'
 have n4 := Af.new (o := .tup [.int hD, .int s']) hp4
 refine ⟨p4, _, _, _, rfl, rfl, SqT.of Aa, rfl, _, _, rfl, rfl, Bv.bd by_.1 bD (by lia), _, _, rfl, rfl, ?_⟩
 refine q _ _ (n3.trans n4) ?_ ?_
 ·rw [T6, T5, T5, ehN, ehD, es', ← es, T5, Nm.num_mul y]
  grind
 ·exact Bd.sub (n := m + P + ny) ((by_.2.mul bN).mono (by lia)) ((by_.1.mul bD).mono (by lia))
theorem DX : Ar ["pair", "x"] ["pair", "x"] (Ae (top 29)) := ⟨rfl, rfl, rfl, by decide +kernel, rfl, by decide +kernel, by decide +kernel⟩
theorem E7 {f : Addr} {fd : FuncData} (F : Fun K "with_nought_at" "with_nought_at" (top 29) f fd) (Qd : mg "range" = none) (Qc : mg "len" = none) (hT : P.given.tree = none) :
 AH P w K mg base CX0 33 f fd ["pair", "x"] (GY K) := by
 refine F.ok DX (fun vs H Q E h => ?_) (fun cdv A outer s H vs Q E hr h => ?_)
 ·obtain ⟨_, _, _, _, _, _, rfl, _⟩ := h; rfl
 refine ⟨_, (Ag (Ax (CG rfl (N := ["k", "pair", "x"]) (nt := 1) (js := [0, 1]) (Be.look (NX := ["pair", "x"]) (sc := Ae (top 29)) rfl rfl (by decide +kernel)) (Bp rfl Qd (A0 (Aq (Bx K) rfl Qc AD (A0 (pv 0) Ac)) Ac)) (fun u1 u2 u3 u4 u5 => (Av (i := 0) (show List.Nodup (["k", "pair", "x"] : List Str) from by decide +kernel) rfl (Or.inl rfl))) (AL (by decide)) (fun u1 u2 u3 u4 u5 => BP) (fun u1 u2 u3 u4 u5 => (Ah AU (Ah Aw (Aj (ixT K) (pv 2) Ad (fun u v => rfl)) (Aj (ixL K) (pv 1) (Ah AU (pv 0) Ad) (fun u v => rfl))) (Ah Aw (Aj (ixT K) (pv 2) Ad (fun u v => rfl)) (Aj (ixL K) (pv 1) (pv 0) (fun u v => rfl)))))))), ?_⟩
 obtain ⟨l, rx, ts, x, m, n, rfl, hS, ⟨_, erx, hx⟩, h1, h100, hlast, hB, bx, hz, q⟩ := h
 cases erx
 have tl : (ts.map V.int).length = ts.length := Su _
 refine Ce ⟨_, rfl, l, _, rfl, .inl hS, _, rfl, by rw [tl]; lia, by rw [tl]; lia, ?_⟩
 rw [Sy, tl]
 refine LZ (L3 H x ts fun H x ts i zs G => G = H ∧ zs = ((RQ i).map fun k => (x.den : Int) * (if k = 0 then 0 else ts.getD (k - 1) 0) - x.num * ts.getD k 0).map V.int) ⟨rfl, rfl⟩ (fun i zs G _ h => by rw [h.2, Su, Su, U5]) (RW (AF (by lia))) ?_ ?_
 ·rintro i zs G hi ⟨rfl, rfl⟩
  have at_i : atI (ts.map V.int) (0 + (i : Int)) = some (.int (ts.getD i 0)) := by
   rw [UX]
   refine AW ?_
   rw [Sn, Tx hi, Tq, Tx hi]; rfl
  have at_p : atI (ts.map V.int) (0 + (i : Int) - 1) = some (.int (if i = 0 then 0 else ts.getD (i - 1) 0)) := by
   by_cases z : i = 0
   ·subst z
    rw [if_pos rfl]
    have : atI (ts.map V.int) (-1) = some (.int 0) := J8 (by
     rw [tl, Sn, Tx (by lia)]
     rw [Tq, Tx (by lia)] at hlast
     exact congrArg (fun t => some (V.int t)) hlast)
    exact this
   ·rw [if_neg z, show (0 : Int) + (i : Int) - 1 = ((i - 1 : Nat) : Int) by lia]
    refine AW ?_
    rw [Sn, Tx (by lia), Tq, Tx (by lia)]; rfl
  have bp : Bd m (if i = 0 then 0 else ts.getD (i - 1) 0) := by
   split
   ·exact (show Bd 0 0 by unfold Bd; decide).mono (by lia)
   ·exact CB hB _
  refine ⟨_, rfl, rx, _, _, _, rfl, rfl, hx, rfl, _, rfl, _, rfl, _, _, rfl, rfl, l, _, _, _, rfl, rfl, hS, at_p, _, _, rfl, rfl, Bv.bd bx.2 bp (by lia), ?_⟩
  refine ⟨_, rfl, rx, _, _, _, rfl, rfl, hx, rfl, _, rfl, _, rfl, l, _, _, _, rfl, rfl, hS, at_i, _, _, rfl, rfl, Bv.bd bx.1 (CB hB i) (by lia), _, _, rfl, rfl, rfl, ?_⟩
  rw [TQ, Tg, Tg]
  rfl
 rintro zs G ⟨hG, rfl⟩ p hp
 obtain rfl : H = G := hG.symm
 refine q p _ (Af.new hp) Aa fun t ht => ?_
 unfold shI at ht
 obtain ⟨k, _, rfl⟩ := (TR.mp ht)
 have bp : Bd m (if k = 0 then 0 else ts.getD (k - 1) 0) := by
  split
  ·exact (show Bd 0 0 by unfold Bd; decide).mono (by lia)
  ·exact CB hB _
 exact Bd.sub (n := m + n) ((bx.2.mul bp).mono (by lia)) ((bx.1.mul (CB hB k)).mono (by lia))
theorem BB : Ar ["tops", "measure", "top"] ["tops"] (Ae (top 30)) := ⟨rfl, rfl, rfl, by decide +kernel, rfl, by decide +kernel, by decide +kernel⟩
theorem E6 {f : Addr} {fd : FuncData} (F : Fun K "without_common" "without_common" (top 30) f fd) (Qm : Fd P w K mg base 33 "common_measure" ["one", "other"] (Im)) (hT : P.given.tree = none) :
 AH P w K mg base CX0 34 f fd ["tops"] (Lp K) := by
 refine F.ok BB (fun vs H Q E h => ?_) (fun cdv A outer s H vs Q E hr h => ?_)
 ·obtain ⟨_, _, _, rfl, _⟩ := h; rfl
 refine ⟨_, (Ab (K := K) (Ai (i := 1) BB.nd rfl (Or.inr rfl) Ad)
  (Ab (K := K) (Bb (K := K) PassesOwn.never rfl (piL K (pv 0)) (Av (i := 2) BB.nd rfl (Or.inl rfl)) (Ag (Ai (i := 1) BB.nd rfl (Or.inr rfl) (Ao Qm hr rfl (A0 (pv 1) (A0 (pv 2) Ac))))) (by rfl))
  (Ag (Ax (CG rfl (N := ["top", "measure"]) (nt := 1) (js := [1]) (Be.look (NX := ["tops", "measure", "top"]) (sc := Ae (top 30)) rfl rfl (by decide +kernel)) (piL K (pv 0)) (fun u1 u2 u3 u4 u5 => (Av (i := 0) (show List.Nodup (["top", "measure"] : List Str) from by decide +kernel) rfl (Or.inl rfl))) (AL (by decide)) (fun u1 u2 u3 u4 u5 => BP) (fun u1 u2 u3 u4 u5 => (Ah (Bi hr hT) (pv 0) (pv 1)))))) (by rfl)) (by rfl)), ?_⟩
 obtain ⟨l, ts, m, rfl, hS, hne, h100, hB, q⟩ := h
 have tl : (ts.map V.int).length = ts.length := Su _
 refine ⟨_, rfl, l, rfl, ⟨_, hS⟩, FV (xs := ts.map V.int) (L3 H l ts fun H l ts i σ G => G = H ∧ ∃ (g : Int) (z : Option V), σ = [some (.ref l), some (.int g), z] ∧ 0 ≤ g ∧ (∀ t ∈ ts.take i, g ∣ t) ∧ (g = 0 → ∀ t ∈ ts.take i, t = 0)) ⟨rfl, 0, none, rfl, by decide, (fun _ h => nomatch h), fun _ _ h => nomatch h⟩ (fun i σ G _ h => by rw [h.1]; exact hS) ?_ ?_⟩
 ·rintro i v σ G hv hR1
  refine Br hR1 fun hq112 hz114 => ?_
  refine Ct hz114 fun g z hz114' => ?_
  clear hz114
  refine Dw hz114' fun hq113 g0 hg hg0 => ?_
  clear hz114'
  obtain rfl := hq112
  obtain rfl := hq113
  try clear hR1
  rw [Sn] at hv
  cases ht : ts[i]? with
  | none => rw [ht] at hv; cases hv
  | some t =>
    rw [ht] at hv
    cases hv
    refine ⟨_, rfl, _, rfl, g, t, rfl, rfl, _, _, rfl, by lia, fun u hu => ?_, fun z u hu => ?_⟩
    ·rw [Tf, ht] at hu
     rcases S2.mp hu with w | w
     ·exact Int.dvd_trans (SX ..) (hg u w)
     ·rw [show u = t from Tw.mp w]; exact T1 ..
    ·have z' : SS g t = 0 := by lia
     rw [Int.gcd_eq_zero_iff] at z'
     rw [Tf, ht] at hu
     rcases S2.mp hu with w | w
     ·exact hg0 z'.1 u w
     ·rw [show u = t from Tw.mp w]; exact z'.2
 rintro σ G hR2
 refine Br hR2 fun hG hz116 => ?_
 refine Ct hz116 fun g z hz116' => ?_
 clear hz116
 refine Dw hz116' fun hq115 g0 hg hg0 => ?_
 clear hz116'
 obtain rfl := hq115
 try clear hR2
 obtain rfl : H = G := hG.symm
 rw [tl, UZ] at hg hg0
 have gne : g ≠ 0 := fun z => by
  obtain ⟨t, ht, hn⟩ := hne
  exact hn (hg0 z t ht)
 refine Ce ⟨_, rfl, l, rfl, ⟨_, hS⟩, ?_⟩
 refine DQ (xs := ts.map V.int) (fun i zs G => G = H ∧ zs = ((ts.take i).map fun t => t.fdiv g).map V.int) ⟨rfl, rfl⟩ (fun i zs G hi h => ⟨by rw [h.1]; exact hS, by rw [h.2, Su, Su, Sj]; lia⟩) (RW (AF (by lia))) ?_ ?_
 ·rintro i v zs G hv ⟨rfl, rfl⟩
  rw [Sn] at hv
  cases ht : ts[i]? with
  | none => rw [ht] at hv; cases hv
  | some t =>
    rw [ht] at hv
    cases hv
    refine ⟨_, rfl, _, rfl, _, _, rfl, rfl, gne, rfl, ?_⟩
    rw [Tf, ht, Tg, Tg]
    rfl
 rintro zs G ⟨hG, rfl⟩ p hp
 obtain rfl : H = G := hG.symm
 rw [tl, UZ]
 refine q p _ g _ (Af.new hp) Aa gne (by rw [Su]) (fun j => ?_) fun t ht => ?_
 ·rw [Tq, Tq, Sn]
  cases ht : ts[j]? with
  | none => exact UB _
  | some t =>
    show g * t.fdiv g = t
    rw [UL _ g0]
    exact Int.mul_ediv_cancel' (hg t (Sr ht))
 ·obtain ⟨u, hu, rfl⟩ := (TR.mp ht)
  rw [UL _ g0]
  have b := hB u hu
  unfold Bd at b ⊢
  exact SQ (Int.natAbs_ediv_le_natAbs ..) b
theorem Bh : Ar ["both", "x", "y", "low", "high", "lack", "other"] ["both", "x", "y"] (Ae (top 31)) := ⟨rfl, rfl, rfl, by decide +kernel, rfl, by decide +kernel, by decide +kernel⟩
theorem Hu {f : Addr} {fd : FuncData} (F : Fun K "both_with" "both_with" (top 31) f fd) (QK : Fd P w K mg base 34 "lack_at" ["pair", "x", "y"] (Jr K)) (QL : Fd P w K mg base 33 "with_nought_at" ["pair", "x"] (GY K)) (Ra : Fd P w K mg base 34 "without_common" ["tops"] (Lp K)) (Qg : mg "zip" = none) (hT : P.given.tree = none) :
 AH P w K mg base CX0 35 f fd ["both", "x", "y"] (Js K) := by
 refine F.ok Bh (fun vs H Q E h => ?_) (fun cdv A outer s H vs Q E hr h => ?_)
 ·obtain ⟨_, _, _, _, _, _, _, _, _, _, _, _, _, _, _, _, _, _, _, _, _, rfl, _⟩ := h; rfl
 refine ⟨_, (Ab (K := K) (Ai (i := 3) Bh.nd rfl (Or.inl rfl) (Aj (ixT K) (pv 0) Ad (fun u v => rfl)))
  (Ab (K := K) (Ai (i := 4) Bh.nd rfl (Or.inl rfl) (Aj (ixT K) (pv 0) Ad (fun u v => rfl)))
  (Ab (K := K) (Ai (i := 5) Bh.nd rfl (Or.inr rfl) (Ao QK hr rfl (A0 (Aj (ixT K) (pv 3) Ad (fun u v => rfl)) (A0 (pv 1) (A0 (pv 2) Ac)))))
  (Ab (K := K) (Ai (i := 6) Bh.nd rfl (Or.inr rfl) (Ao QK hr rfl (A0 (Aj (ixT K) (pv 4) Ad (fun u v => rfl)) (A0 (pv 1) (A0 (pv 2) Ac)))))
  (Ab (K := K) (AQ (K := K) (PW.pt (Fy (As E5 (pv 5) Ad (Ay _)) (E1 (As FF (pv 6) Ad (Ay _))))) (Ag (Ai (i := 4) Bh.nd rfl (Or.inl rfl) (AR (A0 (Ah AG (Aj (ixT K) (pv 4) Ad (fun u v => rfl)) Ad) (A0 (Ao QL hr rfl (A0 (Aj (ixT K) (pv 4) Ad (fun u v => rfl)) (A0 (pv 1) Ac))) Ac))))) AK (by rfl) (by rfl))
  (Ab (K := K) (AQ (K := K) (PW.pt (Fy (As FF (pv 5) Ad (Ay _)) (E1 (As FF (pv 6) Ad (Ay _))))) (Ag (Ai (i := 4) Bh.nd rfl (Or.inl rfl) (AR (A0 (Aj (ixT K) (pv 4) Ad (fun u v => rfl)) (A0 (Ao Ra hr rfl (A0 (CG rfl (N := ["a", "b", "lack", "other"]) (nt := 2) (js := [5, 6]) (Be.look (NX := ["both", "x", "y", "low", "high", "lack", "other"]) (sc := Ae (top 31)) rfl rfl (by decide +kernel)) (NK K rfl Qg (A0 (Aj (ixT K) (pv 3) Ad (fun u v => rfl)) (A0 (Aj (ixT K) (pv 4) Ad (fun u v => rfl)) Ac))) (fun u1 u2 u3 u4 u5 => (pgT K (n := 2) rfl (C4 (Av (i := 0) (show List.Nodup (["a", "b", "lack", "other"] : List Str) from by decide +kernel) rfl (Or.inl rfl)) (C4 (Av (i := 1) (show List.Nodup (["a", "b", "lack", "other"] : List Str) from by decide +kernel) rfl (Or.inl rfl)) EZ)))) (Gs (Cw (by decide) (Cw (by decide) Fj))) (fun u1 u2 u3 u4 u5 => BP) (fun u1 u2 u3 u4 u5 => (Ah AU (Ah Aw (pv 2) (pv 1)) (Ah Aw (pv 3) (pv 0))))) Ac)) Ac))))) AK (by rfl) (by rfl))
  (Ab (K := K) (AQ (K := K) (As FF (pv 5) Ad (Ay _)) (Ag (Ai (i := 3) Bh.nd rfl (Or.inl rfl) (AR (A0 (Ah AG (Aj (ixT K) (pv 3) Ad (fun u v => rfl)) Ad) (A0 (Ao QL hr rfl (A0 (Aj (ixT K) (pv 3) Ad (fun u v => rfl)) (A0 (pv 1) Ac))) Ac))))) AK (by rfl) (by rfl))
  (Ag (Ax (FE (As E4 (Aj (ixT K) (pv 3) Ad (fun u v => rfl)) (Aj (ixT K) (pv 4) Ad (fun u v => rfl)) (Ay _)) (AR (A0 (pv 3) (A0 (pv 4) Ac))) (AR (A0 (pv 4) (A0 (pv 3) Ac)))))) (by rfl)) (by rfl)) (by rfl)) (by rfl)) (by rfl)) (by rfl)) (by rfl)), ?_⟩
 obtain ⟨b, rx, ry, v1, v2, r1, r2, ts1, ts2, w, v, n, R, ps, A, S, C, nx, ny, x, y, rfl, hb, ⟨p1, l1, rfl, hp1, hl1⟩, ⟨p2, l2, rfl, hp2, hl2⟩, I, eR, hw, hx, hy, bx, by_, hnd, hk, hn12, hC, hA, hSz, q⟩ := h
 have P2 : 2 ≤ sizeLine := by decide
 refine Ct I.bd fun a1 a2 hz117' => ?_
 refine D5 hz117' fun ba1 ba2 hA1 hA2 hAS => ?_
 clear hz117'
 have hz1 : (nx + 1) * (R + 4) = (nx + 1) * (R + 2) + (nx + 1) * 2 := by rw [← UT]
 have hz2 : (nx + 1) * 2 ≤ (nx + 1) * (R + 2) := V0 _ (by lia)
 obtain ⟨c0, hc0⟩ : ∃ c0, c0 = (nx + 1) * (R + 2) + ny := ⟨_, rfl⟩
 have hcC : c0 + 2 ≤ C := by lia
 have hnx : nx + 1 ≤ C := by lia
 have hR1 : 1 ≤ R := by lia
 have z1a : ts1.getD (R - 1) 0 = 0 := (I.z1 (R - 1) (by lia) (by lia)).1
 have z1b : ts1.getD (R + (R - 1)) 0 = 0 := (I.z1 (R - 1) (by lia) (by lia)).2
 have z2a : ts2.getD (R - 1) 0 = 0 := (I.z2 (R - 1) (by lia) (by lia)).1
 have z2b : ts2.getD (R + (R - 1)) 0 = 0 := (I.z2 (R - 1) (by lia) (by lia)).2
 have last1 : ts1.getD (ts1.length - 1) 0 = 0 := by rw [I.l1, show 2 * R - 1 = R + (R - 1) by lia]; exact z1b
 have last2 : ts2.getD (ts2.length - 1) 0 = 0 := by rw [I.l2, show 2 * R - 1 = R + (R - 1) by lia]; exact z2b
 have den0 : (((x.den : Int)) : Rat) ≠ 0 := IW (Nm.den_ne x)
 have denx : (((x.den : Int)) : Rat) * x = ((x.num : Int) : Rat) := by rw [Nm.num_mul x]; grind
 have hs : (((y.den : Int) * (x.den : Int) ^ R : Int) : Rat) ≠ 0 := IW (T4 (Nm.den_ne y) (Int.pow_ne_zero (Nm.den_ne x)))
 refine ⟨_, rfl, b, _, _, _, rfl, rfl, hb, rfl, _, rfl, b, _, _, _, rfl, rfl, hb, rfl, ?_⟩
 refine ⟨_, rfl, p1, _, _, _, rfl, rfl, hp1, rfl, _, rfl, _, rfl, l1, rx, ry, ts1, x, y, R, a1, nx, ny, rfl, hl1, I.l1, hx, hy, ba1, bx, by_, by lia, fun L1 H1 s1 eL1 bL1 => ?_⟩
 refine ⟨_, rfl, p2, _, _, _, rfl, rfl, hp2.same s1, rfl, _, rfl, _, rfl, l2, rx, ry, ts2, x, y, R, a2, nx, ny, rfl, Af.seq s1 hl2, I.l2, hx.same s1, hy.same s1, ba2, bx, by_, by lia, fun L2 H2 s2 eL2 bL2 => ?_⟩
 have s2 := s1.trans s2
 have bL1 : Bd (a1 + (c0 + 1)) L1 := bL1.mono (by lia)
 have bL2 : Bd (a2 + (c0 + 1)) L2 := bL2.mono (by lia)
 have eL1 : (L1 : Rat) = (((y.den : Int) * (x.den : Int) ^ R : Int) : Rat) * (Cv.ev (ic (ts1.take R)) x - y * Cv.ev (ic (ts1.drop R)) x) := eL1
 have eL2 : (L2 : Rat) = (((y.den : Int) * (x.den : Int) ^ R : Int) : Rat) * (Cv.ev (ic (ts2.take R)) x - y * Cv.ev (ic (ts2.drop R)) x) := eL2
 clear hz1 hz2 s1 hC hc0 hb
 by_cases h1 : L1 = 0
 ·by_cases h2 : L2 = 0
  ·exact absurd ⟨MQ ((Ea hs eL1).mp h1), MQ ((Ea hs eL2).mp h2)⟩ (I.inv.some hw hnd)
  ·-- lack = 0, other ≠ 0
   have hN1 : Cv.ev (ic (ts1.take R)) x = y * Cv.ev (ic (ts1.drop R)) x := by have := (Ea hs eL1).mp h1; exact MQ this
   refine ⟨_, rfl, rfl, _, rfl, AZ (decide_eq_true (by rw [h1])) ⟨_, rfl, rfl, _, rfl, AZ (by rw [decide_eq_false fun z => h2 (V.int.inj z)]; rfl) ?_⟩⟩
   refine ⟨_, rfl, p2, _, _, _, rfl, rfl, hp2.same s2, rfl, _, _, rfl, rfl, _, rfl, p2, _, _, _, rfl, rfl, hp2.same s2, rfl, _, rfl, ?_⟩
   refine ⟨l2, rx, ts2, x, a2, nx, rfl, Af.seq s2 hl2, hx.same s2, by rw [I.l2]; lia, by rw [I.l2]; lia, last2, ba2, bx, by lia, fun l9 G9 s9 e9 b9 => ⟨P2, fun p9 hp9 => ?_⟩⟩
   have s9 := s2.trans s9
   have n9 := Af.new (o := .tup [.int (r2 + 2), .ref l9]) hp9
   have ep9 : (upd G9 p9 (.tup [.int (r2 + 2), .ref l9])) p9 = some (.tup [.int (r2 + 2), .ref l9]) := Aa
   have e9 := n9 _ _ e9
   have s9 := s9.trans n9
   generalize upd G9 p9 (.tup [.int (r2 + 2), .ref l9]) = G at ep9 e9 s9 ⊢
   clear n9 hp9
   refine ⟨_, rfl, rfl, _, rfl, AM (by rw [decide_eq_true (by rw [h1])]; rfl) (IV ?_)⟩
   refine ⟨_, rfl, rfl, _, rfl, AM (by rw [decide_eq_true (by rw [h1])]; rfl) ?_⟩
   have un := I.inv.stepA (y := y) den0 denx hN1 (Fp I.l2 hR1 z2a) (Fq I.l2 hR1 z2a z2b)
   have len1 := I.l1
   have len2 := (DN x.num x.den ts2).trans I.l2
   have zer1 : ∀ j, (ps ++ [(x, y)]).length + 1 ≤ j → j < R → ts1.getD j 0 = 0 ∧ ts1.getD (R + j) 0 = 0 := fun j h => I.z1 j (by rw [Ss] at h; lia)
   have zer2 : ∀ j, (ps ++ [(x, y)]).length + 1 ≤ j → j < R → (shI x.num x.den ts2).getD j 0 = 0 ∧ (shI x.num x.den ts2).getD (R + j) 0 = 0 := by rw [Ss]; exact Fs (c := x.num) (d := x.den) I.z2
   have bda := ba1
   have bdb := b9
   refine ⟨_, rfl, p1, _, _, _, rfl, rfl, hp1.same s9, rfl, _, rfl, p9, _, _, _, rfl, rfl, SqT.of ep9, rfl, _, _, rfl, rfl, _, rfl, ?_⟩
   by_cases hlt : r1 < r2 + 2
   ·refine AZ (decide_eq_true hlt) ⟨_, rfl, _, rfl, P2, fun t9 ht9 => ?_⟩
    have n9 := Af.new (o := .tup [.ref p1, .ref p9]) ht9
    exact q t9 _ _ _ _ _ _ _ (s9.trans n9) (SqT.of Aa) ⟨p1, _, rfl, (hp1.same s9).same n9, Af.seq n9 (Af.seq s9 hl1)⟩ ⟨p9, _, rfl, (SqT.of ep9).same n9, Af.seq n9 (SqL.of e9)⟩ ⟨un.inv hlt, len1, len2, zer1, zer2, _, _, bda, bdb, by lia, by lia, by lia⟩
   ·refine AM (decide_eq_false hlt) ⟨_, rfl, _, rfl, P2, fun t9 ht9 => ?_⟩
    have n9 := Af.new (o := .tup [.ref p9, .ref p1]) ht9
    exact q t9 _ _ _ _ _ _ _ (s9.trans n9) (SqT.of Aa) ⟨p9, _, rfl, (SqT.of ep9).same n9, Af.seq n9 (SqL.of e9)⟩ ⟨p1, _, rfl, (hp1.same s9).same n9, Af.seq n9 (Af.seq s9 hl1)⟩ ⟨un.turn hlt, len2, len1, zer2, zer1, _, _, bdb, bda, by lia, by lia, by lia⟩
 ·by_cases h2 : L2 = 0
  ·-- lack ≠ 0, other = 0
   have hN2 : Cv.ev (ic (ts2.take R)) x = y * Cv.ev (ic (ts2.drop R)) x := by have := (Ea hs eL2).mp h2; exact MQ this
   refine ⟨_, rfl, rfl, _, rfl, AM (decide_eq_false fun z => h1 (V.int.inj z)) (IV ?_)⟩
   refine ⟨_, rfl, rfl, _, rfl, AZ (by rw [decide_eq_false fun z => h1 (V.int.inj z)]; rfl) ⟨_, rfl, rfl, _, rfl, AM (by rw [decide_eq_true (by rw [h2])]; rfl) ?_⟩⟩
   refine ⟨_, rfl, rfl, _, rfl, AZ (by rw [decide_eq_false fun z => h1 (V.int.inj z)]; rfl) ?_⟩
   refine ⟨_, rfl, p1, _, _, _, rfl, rfl, hp1.same s2, rfl, _, _, rfl, rfl, _, rfl, p1, _, _, _, rfl, rfl, hp1.same s2, rfl, _, rfl, ?_⟩
   refine ⟨l1, rx, ts1, x, a1, nx, rfl, Af.seq s2 hl1, hx.same s2, by rw [I.l1]; lia, by rw [I.l1]; lia, last1, ba1, bx, by lia, fun l9 G9 s9 e9 b9 => ⟨P2, fun p9 hp9 => ?_⟩⟩
   have s9 := s2.trans s9
   have n9 := Af.new (o := .tup [.int (r1 + 2), .ref l9]) hp9
   have ep9 : (upd G9 p9 (.tup [.int (r1 + 2), .ref l9])) p9 = some (.tup [.int (r1 + 2), .ref l9]) := Aa
   have e9 := n9 _ _ e9
   have s9 := s9.trans n9
   generalize upd G9 p9 (.tup [.int (r1 + 2), .ref l9]) = G at ep9 e9 s9 ⊢
   clear n9 hp9
   have un := I.inv.stepB (y := y) den0 denx hN2 (Fp I.l1 hR1 z1a) (Fq I.l1 hR1 z1a z1b)
   have len1 := (DN x.num x.den ts1).trans I.l1
   have len2 := I.l2
   have zer2 : ∀ j, (ps ++ [(x, y)]).length + 1 ≤ j → j < R → ts2.getD j 0 = 0 ∧ ts2.getD (R + j) 0 = 0 := fun j h => I.z2 j (by rw [Ss] at h; lia)
   have zer1 : ∀ j, (ps ++ [(x, y)]).length + 1 ≤ j → j < R → (shI x.num x.den ts1).getD j 0 = 0 ∧ (shI x.num x.den ts1).getD (R + j) 0 = 0 := by rw [Ss]; exact Fs (c := x.num) (d := x.den) I.z1
   have bda := b9
   have bdb := ba2
   refine ⟨_, rfl, p9, _, _, _, rfl, rfl, SqT.of ep9, rfl, _, rfl, p2, _, _, _, rfl, rfl, hp2.same s9, rfl, _, _, rfl, rfl, _, rfl, ?_⟩
   by_cases hlt : r1 + 2 < r2
   ·refine AZ (decide_eq_true hlt) ⟨_, rfl, _, rfl, P2, fun t9 ht9 => ?_⟩
    have n9 := Af.new (o := .tup [.ref p9, .ref p2]) ht9
    exact q t9 _ _ _ _ _ _ _ (s9.trans n9) (SqT.of Aa) ⟨p9, _, rfl, (SqT.of ep9).same n9, Af.seq n9 (SqL.of e9)⟩ ⟨p2, _, rfl, (hp2.same s9).same n9, Af.seq n9 (Af.seq s9 hl2)⟩ ⟨un.inv hlt, len1, len2, zer1, zer2, _, _, bda, bdb, by lia, by lia, by lia⟩
   ·refine AM (decide_eq_false hlt) ⟨_, rfl, _, rfl, P2, fun t9 ht9 => ?_⟩
    have n9 := Af.new (o := .tup [.ref p2, .ref p9]) ht9
    exact q t9 _ _ _ _ _ _ _ (s9.trans n9) (SqT.of Aa) ⟨p2, _, rfl, (hp2.same s9).same n9, Af.seq n9 (Af.seq s9 hl2)⟩ ⟨p9, _, rfl, (SqT.of ep9).same n9, Af.seq n9 (SqL.of e9)⟩ ⟨un.turn hlt, len2, len1, zer2, zer1, _, _, bdb, bda, by lia, by lia, by lia⟩
  ·-- both
   refine ⟨_, rfl, rfl, _, rfl, AM (decide_eq_false fun z => h1 (V.int.inj z)) (IV ?_)⟩
   refine ⟨_, rfl, rfl, _, rfl, AZ (by rw [decide_eq_false fun z => h1 (V.int.inj z)]; rfl) ⟨_, rfl, rfl, _, rfl, AZ (by rw [decide_eq_false fun z => h2 (V.int.inj z)]; rfl) ?_⟩⟩
   refine ⟨_, rfl, p2, _, _, _, rfl, rfl, hp2.same s2, rfl, ?_⟩
   refine Ce ⟨_, rfl, p1, _, _, _, rfl, rfl, hp1.same s2, rfl, _, rfl, p2, _, _, _, rfl, rfl, hp2.same s2, rfl, l1, l2, ts1.map V.int, ts2.map V.int, rfl, Af.seq s2 hl1, Af.seq s2 hl2, ?_⟩
   have tl1 : (ts1.map V.int).length = 2 * R := by rw [Su]; exact I.l1
   have tl2 : (ts2.map V.int).length = 2 * R := by rw [Su]; exact I.l2
   have hmin : min (ts1.map V.int).length (ts2.map V.int).length = 2 * R := by lia
   refine OA (xs := ts1.map V.int) (ys := ts2.map V.int) (L5 H2 L1 ts2 L2 ts1 fun H2 L1 ts2 L2 ts1 i zs G => Af H2 G ∧ zs = ((RQ i).map fun k => L1 * ts2.getD k 0 - L2 * ts1.getD k 0).map V.int) ⟨Af.refl _, rfl⟩ (fun i zs G _ h => ⟨Af.seq (s2.trans h.1) hl1, Af.seq (s2.trans h.1) hl2, by rw [h.2, Su, Su, U5]⟩) (RW (AF (by lia))) ?_ ?_
   ·rintro i u1 u2 T zs G hu1 hu2 hT ⟨sg, rfl⟩
    have hi : i < 2 * R := by have := (S4.mp hu1).1; lia
    have g1 : ts1[i]? = some (ts1.getD i 0) := by rw [Tq, Tx (by have := I.l1; lia)]; rfl
    have g2 : ts2[i]? = some (ts2.getD i 0) := by rw [Tq, Tx (by have := I.l2; lia)]; rfl
    rw [Sn, g1] at hu1
    rw [Sn, g2] at hu2
    cases hu1
    cases hu2
    refine ⟨_, rfl, _, rfl, _, _, rfl, rfl, Bv.bd bL1 (CB ba2 i) (by lia), _, rfl, _, rfl, _, _, rfl, rfl, Bv.bd bL2 (CB ba1 i) (by lia), _, _, rfl, rfl, sg.trans (Af.new hT), ?_⟩
    rw [TQ, Tg, Tg]
    rfl
   rintro zs G ⟨sg, rfl⟩ m9 hm9
   rw [hmin]
   generalize hms : ((RQ (2 * R)).map fun k => L1 * ts2.getD k 0 - L2 * ts1.getD k 0) = ms
   have msl : ms.length = 2 * R := by rw [← hms, Su, U5]
   have msg : ∀ j, ms.getD j 0 = L1 * ts2.getD j 0 - L2 * ts1.getD j 0 := fun j => by
    rcases Ut j (2 * R) with z | z
    ·rw [← hms, Tq, Sn, U9 z]; rfl
    ·rw [CJ (by lia), CJ (by have := I.l2; lia), CJ (by have := I.l1; lia), UB, UB]; rfl
   have bms : ∀ t ∈ ms, Bd (a1 + a2 + (c0 + 2)) t := fun t ht => by
    rw [← hms] at ht
    obtain ⟨k, _, rfl⟩ := (TR.mp ht)
    exact Bd.sub (n := a1 + a2 + (c0 + 1)) ((bL1.mul (CB ba2 k)).mono (by lia)) ((bL2.mul (CB ba1 k)).mono (by lia))
   have hne : ∃ t ∈ ms, t ≠ 0 := by
    have top := CC.mix (m := 1) (a := (L1 : Rat)) (b := (L2 : Rat)) I.inv.top2 I.inv.le1 I.inv.lt (IW h1) (N' := ic (ms.take R)) (D' := ic (ms.drop R)) (IM (g := 1) R fun j => by rw [SY, msg]) (IP (g := 1) R fun j => by rw [SY, msg])
    have key : ∀ j, ((ms.getD j 0 : Int) : Rat) ≠ 0 → ∃ t ∈ ms, t ≠ 0 := fun j hj => by
     have h0 : ms.getD j 0 ≠ 0 := fun z => hj (by rw [z]; exact UH)
     rcases Ut j ms.length with z | z
     ·exact ⟨_, GH z, h0⟩
     ·exact absurd (CJ z) h0
    rcases top with ⟨j, _, hj⟩ | ⟨j, _, hj⟩
    ·rw [B0, Bl] at hj
     split at hj
     ·exact key j hj
     ·exact absurd UH hj
    ·rw [B0, Bo] at hj
     exact key _ hj
   refine ⟨m9, ms, a1 + a2 + (c0 + 2), rfl, SqL.of Aa, hne, by rw [msl]; lia, bms, fun l8 G8 g us s8 e8 g0 usl husg bus => ⟨P2, fun p8 hp8 => ?_⟩⟩
   have s8 := ((s2.trans sg).trans (Af.new (o := .lst (ms.map V.int)) hm9)).trans s8
   have n8 := Af.new (o := .tup [.int r2, .ref l8]) hp8
   have ep8 : (upd G8 p8 (.tup [.int r2, .ref l8])) p8 = some (.tup [.int r2, .ref l8]) := Aa
   have e8 := n8 _ _ e8
   have s8 := s8.trans n8
   generalize upd G8 p8 (.tup [.int r2, .ref l8]) = G7 at ep8 e8 s8 ⊢
   have husg : ∀ j, g * us.getD j 0 = L1 * ts2.getD j 0 - L2 * ts1.getD j 0 := fun j => by rw [husg j, msg j]
   have usl : us.length = 2 * R := usl.trans msl
   clear n8 hp8 hne bms msg hms msl sg hm9
   refine ⟨_, rfl, rfl, _, rfl, AZ (by rw [decide_eq_false fun z => h1 (V.int.inj z)]; rfl) ?_⟩
   refine ⟨_, rfl, p1, _, _, _, rfl, rfl, hp1.same s8, rfl, _, _, rfl, rfl, _, rfl, p1, _, _, _, rfl, rfl, hp1.same s8, rfl, _, rfl, ?_⟩
   refine ⟨l1, rx, ts1, x, a1, nx, rfl, Af.seq s8 hl1, hx.same s8, by rw [I.l1]; lia, by rw [I.l1]; lia, last1, ba1, bx, by lia, fun l9 G9 s9 e9 b9 => ⟨P2, fun p9 hp9 => ?_⟩⟩
   have s9G := s9.trans (Af.new (o := .tup [.int (r1 + 2), .ref l9]) hp9)
   have s9 := s8.trans s9
   have n9 := Af.new (o := .tup [.int (r1 + 2), .ref l9]) hp9
   have ep9 : (upd G9 p9 (.tup [.int (r1 + 2), .ref l9])) p9 = some (.tup [.int (r1 + 2), .ref l9]) := Aa
   have e9 := n9 _ _ e9
   have s9 := s9.trans n9
   generalize upd G9 p9 (.tup [.int (r1 + 2), .ref l9]) = G at ep9 e9 s9 s9G ⊢
   clear n9 hp9
   have un := I.inv.stepC (y := y) (s := (((y.den : Int) * (x.den : Int) ^ R : Int) : Rat)) den0 denx (IW h1) (IW g0) eL1 eL2 (Fp I.l1 hR1 z1a) (Fq I.l1 hR1 z1a z1b) (IM R husg) (IP R husg)
   have len1 := (DN x.num x.den ts1).trans I.l1
   have len2 := usl
   have zer1 : ∀ j, (ps ++ [(x, y)]).length + 1 ≤ j → j < R → (shI x.num x.den ts1).getD j 0 = 0 ∧ (shI x.num x.den ts1).getD (R + j) 0 = 0 := by rw [Ss]; exact Fs (c := x.num) (d := x.den) I.z1
   have zer2 : ∀ j, (ps ++ [(x, y)]).length + 1 ≤ j → j < R → us.getD j 0 = 0 ∧ us.getD (R + j) 0 = 0 := fun j h hj => by
    rw [Ss] at h
    have q1 := I.z1 j (by lia) hj
    have q2 := I.z2 j (by lia) hj
    exact ⟨IK g0 husg q1.1 q2.1, IK g0 husg q1.2 q2.2⟩
   have bda := b9
   have bdb := bus
   have sG : Af G7 G := s9G
   refine ⟨_, rfl, p9, _, _, _, rfl, rfl, SqT.of ep9, rfl, _, rfl, p8, _, _, _, rfl, rfl, (SqT.of (K := K) ep8).same sG, rfl, _, _, rfl, rfl, _, rfl, ?_⟩
   by_cases hlt : r1 + 2 < r2
   ·refine AZ (decide_eq_true hlt) ⟨_, rfl, _, rfl, P2, fun t9 ht9 => ?_⟩
    have n9 := Af.new (o := .tup [.ref p9, .ref p8]) ht9
    exact q t9 _ _ _ _ _ _ _ (s9.trans n9) (SqT.of Aa) ⟨p9, _, rfl, (SqT.of ep9).same n9, Af.seq n9 (SqL.of e9)⟩ ⟨p8, _, rfl, ((SqT.of (K := K) ep8).same sG).same n9, Af.seq n9 (Af.seq sG (SqL.of (K := K) e8))⟩ ⟨un.inv hlt, len1, len2, zer1, zer2, _, _, bda, bdb, by lia, by lia, by lia⟩
   ·refine AM (decide_eq_false hlt) ⟨_, rfl, _, rfl, P2, fun t9 ht9 => ?_⟩
    have n9 := Af.new (o := .tup [.ref p8, .ref p9]) ht9
    exact q t9 _ _ _ _ _ _ _ (s9.trans n9) (SqT.of Aa) ⟨p8, _, rfl, ((SqT.of (K := K) ep8).same sG).same n9, Af.seq n9 (Af.seq sG (SqL.of (K := K) e8))⟩ ⟨p9, _, rfl, (SqT.of ep9).same n9, Af.seq n9 (SqL.of e9)⟩ ⟨un.turn hlt, len2, len1, zer2, zer1, _, _, bdb, bda, by lia, by lia, by lia⟩
theorem AJ : Ar ["places", "heights", "width", "room", "first", "second", "both", "x", "y", "tops"] ["places", "heights", "width"] (Ae (top 32)) := ⟨rfl, rfl, rfl, by decide +kernel, rfl, by decide +kernel, by decide +kernel⟩
theorem ER {f : Addr} {fd : FuncData} (F : Fun K "pair_through" "pair_through" (top 32) f fd) (Rb : Fd P w K mg base 35 "both_with" ["both", "x", "y"] (Js K)) (Qo : Fd P w K mg base 35 "curve_over" ["tops", "bottom"] (Cy K)) (Qg : mg "zip" = none) (Qc : mg "len" = none) (hT : P.given.tree = none) :
 AH P w K mg base CX0 36 f fd ["places", "heights", "width"] (Jo K) := by
 refine F.ok AJ (fun vs H Q E h => ?_) (fun cdv A outer s H vs Q E hr h => ?_)
 ·obtain ⟨_, _, _, _, _, _, _, _, _, _, _, rfl, _⟩ := h; rfl
 refine ⟨_, (Ab (K := K) (Ai (i := 3) AJ.nd rfl (Or.inl rfl) (Ah AG (Aq (Bx K) rfl Qc AD (A0 (pv 0) Ac)) Ad))
  (Ab (K := K) (Ai (i := 4) AJ.nd rfl (Or.inl rfl) (AR (A0 (Ah Aw Ad (Ah AU Ad (pv 2))) (A0 (Ah DP (AS (A0 Ad Ac)) (Ah DO (AS (A0 Ad Ac)) (Ah AU (Ah Aw Ad (pv 3)) Ad))) Ac))))
  (Ab (K := K) (Ai (i := 5) AJ.nd rfl (Or.inl rfl) (AR (A0 (Ah AG (Ah Aw Ad (Ah AU Ad (Ah AU (pv 3) (pv 2)))) Ad) (A0 (Ah DP (Ah DP (Ah DO (AS (A0 Ad Ac)) (pv 3)) (AS (A0 Ad Ac))) (Ah DO (AS (A0 Ad Ac)) (Ah AU (pv 3) Ad))) Ac))))
  (Ab (K := K) (Ai (i := 6) AJ.nd rfl (Or.inl rfl) (FE (As E4 (Aj (ixT K) (pv 4) Ad (fun u v => rfl)) (Aj (ixT K) (pv 5) Ad (fun u v => rfl)) (Ay _)) (AR (A0 (pv 4) (A0 (pv 5) Ac))) (AR (A0 (pv 5) (A0 (pv 4) Ac)))))
  (Ab (K := K) (Bb (K := K) PassesOwn.never rfl (NK K rfl Qg (A0 (pv 0) (A0 (pv 1) Ac))) (pgT K (n := 2) rfl (C4 (Av (i := 7) AJ.nd rfl (Or.inl rfl)) (C4 (Av (i := 8) AJ.nd rfl (Or.inl rfl)) EZ))) (Ag (Ai (i := 6) AJ.nd rfl (Or.inl rfl) (Ao Rb hr rfl (A0 (pv 6) (A0 (pv 7) (A0 (pv 8) Ac)))))) (by rfl))
  (Ab (K := K) (Ai (i := 9) AJ.nd rfl (Or.inl rfl) (Aj (ixT K) (Aj (ixT K) (pv 6) Ad (fun u v => rfl)) Ad (fun u v => rfl)))
  (Ag (Ax (AR (A0 (Ao Qo hr rfl (A0 (BF (slL K) (pv 9) C3 (C2 (pv 3))) (A0 Ad Ac))) (A0 (Ao Qo hr rfl (A0 (BF (slL K) (pv 9) (C2 (pv 3)) C3) (A0 Ad Ac))) Ac))))) (by rfl)) (by rfl)) (by rfl)) (by rfl)) (by rfl)) (by rfl)), ?_⟩
 obtain ⟨lp, lh, zs, ys, qs, hs, W, n, nx, ny, C, rfl, hP, hZ, hH, hY, hql, hhl, hn1, hn12, hnd, hW1, hWn, bq, bh, hC, hG, q⟩ := h
 have P1 : 1 ≤ sizeLine := by decide
 have P2 : 2 ≤ sizeLine := by decide
 have P60 : 60 ≤ sizeLine := by decide
 have hzl := hZ.length
 refine ⟨_, rfl, lp, _, rfl, .inl hP, _, _, rfl, rfl, ?_⟩
 have eR : ((zs.length : Nat) : Int) + 1 = ((n + 1 : Nat) : Int) := by lia
 rw [eR]
 refine ⟨_, rfl, _, _, rfl, rfl, _, _, rfl, rfl, .inl ⟨by decide, by decide⟩, P1, fun o1 ho1 => ⟨P1, fun o2 ho2 => ?_⟩⟩
 have n1 := Af.new (o := .lst [.int 1]) ho1
 have n2 := Af.new (o := .lst [.int 0]) ho2
 refine ⟨_, rfl, _, _, rfl, rfl, .inl ⟨by decide, by decide⟩, _, _, rfl, rfl, o2, _, [.int 0], rfl, rfl, Aa, by lia, by lia, RV (show _ ≤ 60 by show 1 * _ ≤ 60; lia) P60, fun o3 ho3 => ?_⟩
 have e3 : (Si (2 * ((n + 1 : Nat) : Int) - 1).toNat [V.int 0]).flatten = (Si (2 * (n + 1) - 1) (0 : Int)).map V.int := by rw [show (2 * ((n + 1 : Nat) : Int) - 1).toNat = 2 * (n + 1) - 1 by lia, N3]
 rw [e3]
 have n3 := Af.new (o := .lst ((Si (2 * (n + 1) - 1) (0 : Int)).map V.int)) ho3
 refine ⟨o1, o3, [.int 1], _, rfl, rfl, n3 _ _ (n2 _ _ Aa), Aa, RV (show _ ≤ 60 by rw [SK, Su, Sv]; lia) P60, fun k1 hk1 => ⟨P2, fun f1 hf1 => ?_⟩⟩
 have n4 := Af.new (o := .lst ([V.int 1] ++ (Si (2 * (n + 1) - 1) (0 : Int)).map V.int)) hk1
 have n5 := Af.new (o := .tup [.int (2 * (1 - (W : Int))), .ref k1]) hf1
 have sF := (((n1.trans n2).trans n3).trans n4).trans n5
 have ek1 := n5 _ _ (Aa (H := upd (upd (upd H o1 (.lst [.int 1])) o2 (.lst [.int 0])) o3 (.lst ((Si (2 * (n + 1) - 1) (0 : Int)).map V.int))) (a := k1) (o := .lst ([V.int 1] ++ (Si (2 * (n + 1) - 1) (0 : Int)).map V.int)))
 have ef1 := Aa (H := upd (upd (upd (upd H o1 (.lst [.int 1])) o2 (.lst [.int 0])) o3 (.lst ((Si (2 * (n + 1) - 1) (0 : Int)).map V.int))) k1 (.lst ([V.int 1] ++ (Si (2 * (n + 1) - 1) (0 : Int)).map V.int))) (a := f1) (o := .tup [.int (2 * (1 - (W : Int))), .ref k1])
 generalize upd (upd (upd (upd (upd H o1 (.lst [.int 1])) o2 (.lst [.int 0])) o3 (.lst ((Si (2 * (n + 1) - 1) (0 : Int)).map V.int))) k1 (.lst ([V.int 1] ++ (Si (2 * (n + 1) - 1) (0 : Int)).map V.int))) f1 (.tup [.int (2 * (1 - (W : Int))), .ref k1]) = HF at sF ek1 ef1 ⊢
 have ek1 : HF k1 = some (.lst ((D0 (n + 1)).map V.int)) := ek1
 clear n1 n2 n3 n4 n5 e3 ho1 ho2 ho3 hk1 hf1
 refine ⟨_, rfl, _, rfl, _, _, rfl, rfl, _, _, rfl, rfl, _, _, rfl, rfl, .inl ⟨by decide, by decide⟩, _, _, rfl, rfl, P1, fun o5 ho5 => ?_⟩
 have s8 := Af.new (o := .lst [.int 0]) ho5
 have e5 := Aa (H := HF) (a := o5) (o := .lst [.int 0])
 generalize upd HF o5 (.lst [.int 0]) = A1 at s8 e5 ⊢
 refine ⟨_, rfl, o5, _, [.int 0], rfl, rfl, e5, by lia, by lia, RV (show _ ≤ 60 by show 1 * _ ≤ 60; lia) P60, fun o6 ho6 => ?_⟩
 rw [Sy, N3]
 have s8 := s8.trans (Af.new (o := .lst ((Si (n + 1) (0 : Int)).map V.int)) ho6)
 have e6 := Aa (H := A1) (a := o6) (o := .lst ((Si (n + 1) (0 : Int)).map V.int))
 generalize upd A1 o6 (.lst ((Si (n + 1) (0 : Int)).map V.int)) = A2 at s8 e6 ⊢
 refine ⟨P1, fun o7 ho7 => ?_⟩
 have n3 := Af.new (o := .lst [.int 1]) ho7
 have e7 := Aa (H := A2) (a := o7) (o := .lst [.int 1])
 have e6 := n3 _ _ e6
 have s8 := s8.trans n3
 generalize upd A2 o7 (.lst [.int 1]) = A3 at s8 e6 e7 ⊢
 refine ⟨o6, o7, _, _, rfl, rfl, e6, e7, RV (show _ ≤ 60 by rw [SK, Su, Sv]; lia) P60, fun o8 ho8 => ?_⟩
 have s8 := s8.trans (Af.new (o := .lst ((Si (n + 1) (0 : Int)).map V.int ++ [V.int 1])) ho8)
 have e8 := Aa (H := A3) (a := o8) (o := .lst ((Si (n + 1) (0 : Int)).map V.int ++ [V.int 1]))
 generalize upd A3 o8 (.lst ((Si (n + 1) (0 : Int)).map V.int ++ [V.int 1])) = A4 at s8 e8 ⊢
 refine ⟨P1, fun o9 ho9 => ?_⟩
 have n5 := Af.new (o := .lst [.int 0]) ho9
 have e9 := Aa (H := A4) (a := o9) (o := .lst [.int 0])
 have e8 := n5 _ _ e8
 have s8 := s8.trans n5
 generalize upd A4 o9 (.lst [.int 0]) = A5 at s8 e8 e9 ⊢
 refine ⟨_, rfl, _, _, rfl, rfl, o9, _, [.int 0], rfl, rfl, e9, by lia, by lia, RV (show _ ≤ 60 by show 1 * _ ≤ 60; lia) P60, fun o10 ho10 => ?_⟩
 have e10 : (Si (((n + 1 : Nat) : Int) - 1).toNat [V.int 0]).flatten = (Si (n + 1 - 1) (0 : Int)).map V.int := by rw [show (((n + 1 : Nat) : Int) - 1).toNat = n + 1 - 1 by lia, N3]
 rw [e10]
 have n6 := Af.new (o := .lst ((Si (n + 1 - 1) (0 : Int)).map V.int)) ho10
 have e8 := n6 _ _ e8
 have ea := Aa (H := A5) (a := o10) (o := .lst ((Si (n + 1 - 1) (0 : Int)).map V.int))
 have s8 := s8.trans n6
 generalize upd A5 o10 (.lst ((Si (n + 1 - 1) (0 : Int)).map V.int)) = A6 at s8 e8 ea ⊢
 refine ⟨o8, o10, _, _, rfl, rfl, e8, ea, RV (show _ ≤ 60 by rw [Ss, SK, Su, Sv, Su, Sv]; lia) P60, fun k2 hk2 => ?_⟩
 have esec : (Si (n + 1) (0 : Int)).map V.int ++ [V.int 1] ++ (Si (n + 1 - 1) (0 : Int)).map V.int = (BA (n + 1)).map V.int := by unfold BA; rw [Tg, Tg]; rfl
 rw [esec]
 have s8 := s8.trans (Af.new (o := .lst ((BA (n + 1)).map V.int)) hk2)
 have ek2 := Aa (H := A6) (a := k2) (o := .lst ((BA (n + 1)).map V.int))
 generalize upd A6 k2 (.lst ((BA (n + 1)).map V.int)) = A7 at s8 ek2 ⊢
 refine ⟨P2, fun f2 hf2 => ?_⟩
 have n8 := Af.new (o := .tup [.int (2 * (1 - (((n + 1 : Nat) : Int) - (W : Int))) + 1), .ref k2]) hf2
 have ef2 := Aa (H := A7) (a := f2) (o := .tup [.int (2 * (1 - (((n + 1 : Nat) : Int) - (W : Int))) + 1), .ref k2])
 have ek2 := n8 _ _ ek2
 have s8 := s8.trans n8
 generalize upd A7 f2 (.tup [.int (2 * (1 - (((n + 1 : Nat) : Int) - (W : Int))) + 1), .ref k2]) = HG at s8 ek2 ef2 ⊢
 have sG := sF.trans s8
 have ef1 := s8 _ _ ef1
 have ek1 := s8 _ _ ek1
 clear n3 n5 n6 n8 esec e10 sF s8
 have er2 : (2 * (1 - (((n + 1 : Nat) : Int) - (W : Int))) + 1) = 2 * (1 - ((n : Int) + 1 - W)) + 1 := by lia
 rw [er2] at ef2
 have un := PV (n := n) hW1 hWn
 refine ⟨_, rfl, f1, _, _, _, rfl, rfl, SqT.of ef1, rfl, _, rfl, f2, _, _, _, rfl, rfl, SqT.of ef2, rfl, _, _, rfl, rfl, _, rfl, ?_⟩
 by_cases hlt : 2 * (1 - (W : Int)) < 2 * (1 - ((n : Int) + 1 - W)) + 1
 ·refine AZ (decide_eq_true hlt) ⟨_, rfl, _, rfl, P2, fun b0 hb0 => ?_⟩
  have nb := Af.new (o := .tup [.ref f1, .ref f2]) hb0
  obtain ⟨va, vb, ra, rb, Ta, Tb, hb0, R1, R2, S0⟩ : ∃ (va vb : V) (ra rb : Int) (Ta Tb : List Int), SqT K (upd HG b0 (.tup [.ref f1, .ref f2])) b0 [va, vb] ∧ Rpr K (upd HG b0 (.tup [.ref f1, .ref f2])) va ra Ta ∧ Rpr K (upd HG b0 (.tup [.ref f1, .ref f2])) vb rb Tb ∧ PSt (W : Int) ((n : Int) + 1 - W) n (n + 1) ((qs.zip hs).take 0) (gAS C 0).1 (gAS C 0).2 ra Ta rb Tb :=
   ⟨_, _, _, _, _, _, SqT.of Aa, ⟨f1, k1, rfl, SqT.of (nb _ _ ef1), SqL.of (nb _ _ ek1)⟩, ⟨f2, k2, rfl, SqT.of (nb _ _ ef2), SqL.of (nb _ _ ek2)⟩, ⟨un.inv hlt, Ec n, DG n, FW n, EG n, 1, 1, IZ _, Gv _, S9 1, S9 1, S9 2⟩⟩
  have sB := sG.trans nb
  generalize upd HG b0 (.tup [.ref f1, .ref f2]) = H0 at sB hb0 R1 R2 ⊢
  refine ⟨_, rfl, _, rfl, lp, lh, zs, ys, rfl, Af.seq sB hP, Af.seq sB hH, Kb (xs := zs) (ys := ys) (L11 H lp lh W n f1 f2 K qs hs C fun H lp lh W n f1 f2 K qs hs C i σ G => Af H G ∧ ∃ (b : Addr) (va vb : V) (ra rb : Int) (Ta Tb : List Int) (z7 z8 : Option V), σ = [some (.ref lp), some (.ref lh), some (.int (W : Int)), some (.int ((n + 1 : Nat) : Int)), some (.ref f1), some (.ref f2), some (.ref b), z7, z8, none] ∧ SqT K G b [va, vb] ∧ Rpr K G va ra Ta ∧ Rpr K G vb rb Tb ∧ PSt (W : Int) ((n : Int) + 1 - W) n (n + 1) ((qs.zip hs).take i) (gAS C i).1 (gAS C i).2 ra Ta rb Tb) ⟨sB, b0, va, vb, ra, rb, Ta, Tb, none, none, rfl, hb0, R1, R2, S0⟩ (fun i σ G _ h => ⟨Af.seq h.1 hP, Af.seq h.1 hH⟩) ?_ ?_⟩
  ·rintro i x y T σ G hx hy hT hR1
   refine Br hR1 fun sg hz119 => ?_
   refine Nu hz119 fun b va vb ra rb Ta Tb z7 z8 hz119' => ?_
   clear hz119
   refine D5 hz119' fun hq118 hb R1 R2 S => ?_
   clear hz119'
   obtain rfl := hq118
   try clear hR1
   obtain ⟨qx, hqx, rx, rfl, hrx⟩ := (Paired.get hZ hx)
   obtain ⟨hv, hhv, ry, rfl, hry⟩ := (Paired.get hY hy)
   have hi : i < n := by have := (S4.mp hqx).1; lia
   have nT := Af.new (o := .tup [.ref rx, .ref ry]) hT
   have sT := sg.trans nT
   refine ⟨T, _, rfl, SqT.of Aa, rfl, _, _, rfl, _, _, rfl, rfl, ?_⟩
   have ezip : (qs.zip hs)[i]? = some (qx, hv) := by rw [Uz]; exact ⟨hqx, hhv⟩
   have etake : (qs.zip hs).take (i + 1) = (qs.zip hs).take i ++ [(qx, hv)] := by rw [Tf, ezip]; rfl
   have hlen : ((qs.zip hs).take i).length = i := by rw [Sj, Uv]; lia
   have hm := Du C (i := i) (n := n) (by lia)
   have hl := HH C i
   refine ⟨_, rfl, _, rfl, _, rfl, b, rx, ry, va, vb, ra, rb, Ta, Tb, (W : Int), (n : Int) + 1 - W, n, n + 1, (qs.zip hs).take i, (gAS C i).1, (gAS C i).2, C, nx, ny, qx, hv, rfl, hb.same nT, R1.same nT, R2.same nT, S, rfl, by lia, AB.same ⟨rx, rfl, hrx⟩ sT, AB.same ⟨ry, rfl, hry⟩ sT, bq qx (Sr hqx), bh hv (Sr hhv), ?_, by lia, hn12, hC, by lia, by lia, fun b' G' v1' v2' r1' r2' us1 us2 s' hb' R1' R2' S' => ?_⟩
   ·rw [← etake, V3, V4 (by lia)]
    exact (So _ _).nodup hnd
   ·refine ⟨sT.trans s', b', v1', v2', r1', r2', us1, us2, _, _, rfl, hb', R1', R2', ?_⟩
    rw [etake]
    exact S'
  rintro σ G hR2
  refine Br hR2 fun sg hz126 => ?_
  refine Nu hz126 fun b va vb ra rb Ta Tb z7 z8 hz126' => ?_
  clear hz126
  refine D5 hz126' fun hq124 hb hq125 R2 S => ?_
  clear hz126'
  obtain rfl := hq124
  refine Ct hq125 fun pa la hz128' => ?_
  refine CL hz128' fun hq127 hpa hla => ?_
  clear hz128'
  obtain rfl := hq127
  try clear hR2
  have hmin : min zs.length ys.length = n := by rw [hZ.length, hY.length]; lia
  rw [hmin, TX (by rw [Uv]; lia)] at S
  have hR := S.l1
  refine Ct S.bd fun a1 a2 hz129' => ?_
  refine D5 hz129' fun ba1 ba2 hA1 hA2 hAS => ?_
  clear hz129'
  have hgl := HH C n
  refine ⟨_, rfl, b, _, _, _, rfl, rfl, hb, rfl, pa, _, _, _, rfl, rfl, hpa, rfl, ?_⟩
  refine ⟨_, rfl, _, rfl, _, rfl, la, _, rfl, hla, fun s1 hs1 => ?_⟩
  have c1 : CD (Ta.map V.int) none (some ((n + 1 : Nat) : Int)) = (Ta.take (n + 1)).map V.int := by rw [Dv, V3]
  rw [c1]
  have n1 := Af.new (o := .lst ((Ta.take (n + 1)).map V.int)) hs1
  refine ⟨s1, Ta.take (n + 1), 1, rfl, SqL.of Aa, by decide, by rw [Sj]; lia, fun pN G1 sN cN => ?_⟩
  have sgN := n1.trans sN
  refine ⟨_, rfl, _, rfl, _, rfl, la, _, rfl, Af.seq sgN hla, fun s2 hs2 => ?_⟩
  have c2 : CD (Ta.map V.int) (some ((n + 1 : Nat) : Int)) none = (Ta.drop (n + 1)).map V.int := by rw [Ef, List.map_drop]
  rw [c2]
  have n2 := Af.new (o := .lst ((Ta.drop (n + 1)).map V.int)) hs2
  refine ⟨s2, Ta.drop (n + 1), 1, rfl, SqL.of Aa, by decide, by rw [SD]; lia, fun pD G2 sD cD => ⟨P2, fun t ht => ?_⟩⟩
  have n3 := Af.new (o := .tup [.ref pN, .ref pD]) ht
  rw [M9] at cN cD
  refine q t pN pD _ ra rb _ _ _ _ ((((sg.trans sgN).trans n2).trans sD).trans n3) (SqT.of Aa) (((cN.same n2).same sD).same n3) (cD.same n3) ?_ ?_ S.inv
  ·exact K9 (fun t ht => ba1 t (UC ht)) (by lia)
  ·exact K9 (fun t ht => ba1 t (UU ht)) (by lia)
 ·refine AM (decide_eq_false hlt) ⟨_, rfl, _, rfl, P2, fun b0 hb0 => ?_⟩
  have nb := Af.new (o := .tup [.ref f2, .ref f1]) hb0
  obtain ⟨va, vb, ra, rb, Ta, Tb, hb0, R1, R2, S0⟩ : ∃ (va vb : V) (ra rb : Int) (Ta Tb : List Int), SqT K (upd HG b0 (.tup [.ref f2, .ref f1])) b0 [va, vb] ∧ Rpr K (upd HG b0 (.tup [.ref f2, .ref f1])) va ra Ta ∧ Rpr K (upd HG b0 (.tup [.ref f2, .ref f1])) vb rb Tb ∧ PSt (W : Int) ((n : Int) + 1 - W) n (n + 1) ((qs.zip hs).take 0) (gAS C 0).1 (gAS C 0).2 ra Ta rb Tb :=
   ⟨_, _, _, _, _, _, SqT.of Aa, ⟨f2, k2, rfl, SqT.of (nb _ _ ef2), SqL.of (nb _ _ ek2)⟩, ⟨f1, k1, rfl, SqT.of (nb _ _ ef1), SqL.of (nb _ _ ek1)⟩, ⟨un.turn hlt, DG n, Ec n, EG n, FW n, 1, 1, Gv _, IZ _, S9 1, S9 1, S9 2⟩⟩
  have sB := sG.trans nb
  generalize upd HG b0 (.tup [.ref f2, .ref f1]) = H0 at sB hb0 R1 R2 ⊢
  refine ⟨_, rfl, _, rfl, lp, lh, zs, ys, rfl, Af.seq sB hP, Af.seq sB hH, Kb (xs := zs) (ys := ys) (L11 H lp lh W n f1 f2 K qs hs C fun H lp lh W n f1 f2 K qs hs C i σ G => Af H G ∧ ∃ (b : Addr) (va vb : V) (ra rb : Int) (Ta Tb : List Int) (z7 z8 : Option V), σ = [some (.ref lp), some (.ref lh), some (.int (W : Int)), some (.int ((n + 1 : Nat) : Int)), some (.ref f1), some (.ref f2), some (.ref b), z7, z8, none] ∧ SqT K G b [va, vb] ∧ Rpr K G va ra Ta ∧ Rpr K G vb rb Tb ∧ PSt (W : Int) ((n : Int) + 1 - W) n (n + 1) ((qs.zip hs).take i) (gAS C i).1 (gAS C i).2 ra Ta rb Tb) ⟨sB, b0, va, vb, ra, rb, Ta, Tb, none, none, rfl, hb0, R1, R2, S0⟩ (fun i σ G _ h => ⟨Af.seq h.1 hP, Af.seq h.1 hH⟩) ?_ ?_⟩
  ·rintro i x y T σ G hx hy hT hR3
   refine Br hR3 fun sg hz131 => ?_
   refine Nu hz131 fun b va vb ra rb Ta Tb z7 z8 hz131' => ?_
   clear hz131
   refine D5 hz131' fun hq130 hb R1 R2 S => ?_
   clear hz131'
   obtain rfl := hq130
   try clear hR3
   obtain ⟨qx, hqx, rx, rfl, hrx⟩ := (Paired.get hZ hx)
   obtain ⟨hv, hhv, ry, rfl, hry⟩ := (Paired.get hY hy)
   have hi : i < n := by have := (S4.mp hqx).1; lia
   have nT := Af.new (o := .tup [.ref rx, .ref ry]) hT
   have sT := sg.trans nT
   refine ⟨T, _, rfl, SqT.of Aa, rfl, _, _, rfl, _, _, rfl, rfl, ?_⟩
   have ezip : (qs.zip hs)[i]? = some (qx, hv) := by rw [Uz]; exact ⟨hqx, hhv⟩
   have etake : (qs.zip hs).take (i + 1) = (qs.zip hs).take i ++ [(qx, hv)] := by rw [Tf, ezip]; rfl
   have hlen : ((qs.zip hs).take i).length = i := by rw [Sj, Uv]; lia
   have hm := Du C (i := i) (n := n) (by lia)
   have hl := HH C i
   refine ⟨_, rfl, _, rfl, _, rfl, b, rx, ry, va, vb, ra, rb, Ta, Tb, (W : Int), (n : Int) + 1 - W, n, n + 1, (qs.zip hs).take i, (gAS C i).1, (gAS C i).2, C, nx, ny, qx, hv, rfl, hb.same nT, R1.same nT, R2.same nT, S, rfl, by lia, AB.same ⟨rx, rfl, hrx⟩ sT, AB.same ⟨ry, rfl, hry⟩ sT, bq qx (Sr hqx), bh hv (Sr hhv), ?_, by lia, hn12, hC, by lia, by lia, fun b' G' v1' v2' r1' r2' us1 us2 s' hb' R1' R2' S' => ?_⟩
   ·rw [← etake, V3, V4 (by lia)]
    exact (So _ _).nodup hnd
   ·refine ⟨sT.trans s', b', v1', v2', r1', r2', us1, us2, _, _, rfl, hb', R1', R2', ?_⟩
    rw [etake]
    exact S'
  rintro σ G hR4
  refine Br hR4 fun sg hz138 => ?_
  refine Nu hz138 fun b va vb ra rb Ta Tb z7 z8 hz138' => ?_
  clear hz138
  refine D5 hz138' fun hq136 hb hq137 R2 S => ?_
  clear hz138'
  obtain rfl := hq136
  refine Ct hq137 fun pa la hz140' => ?_
  refine CL hz140' fun hq139 hpa hla => ?_
  clear hz140'
  obtain rfl := hq139
  try clear hR4
  have hmin : min zs.length ys.length = n := by rw [hZ.length, hY.length]; lia
  rw [hmin, TX (by rw [Uv]; lia)] at S
  have hR := S.l1
  refine Ct S.bd fun a1 a2 hz141' => ?_
  refine D5 hz141' fun ba1 ba2 hA1 hA2 hAS => ?_
  clear hz141'
  have hgl := HH C n
  refine ⟨_, rfl, b, _, _, _, rfl, rfl, hb, rfl, pa, _, _, _, rfl, rfl, hpa, rfl, ?_⟩
  refine ⟨_, rfl, _, rfl, _, rfl, la, _, rfl, hla, fun s1 hs1 => ?_⟩
  have c1 : CD (Ta.map V.int) none (some ((n + 1 : Nat) : Int)) = (Ta.take (n + 1)).map V.int := by rw [Dv, V3]
  rw [c1]
  have n1 := Af.new (o := .lst ((Ta.take (n + 1)).map V.int)) hs1
  refine ⟨s1, Ta.take (n + 1), 1, rfl, SqL.of Aa, by decide, by rw [Sj]; lia, fun pN G1 sN cN => ?_⟩
  have sgN := n1.trans sN
  refine ⟨_, rfl, _, rfl, _, rfl, la, _, rfl, Af.seq sgN hla, fun s2 hs2 => ?_⟩
  have c2 : CD (Ta.map V.int) (some ((n + 1 : Nat) : Int)) none = (Ta.drop (n + 1)).map V.int := by rw [Ef, List.map_drop]
  rw [c2]
  have n2 := Af.new (o := .lst ((Ta.drop (n + 1)).map V.int)) hs2
  refine ⟨s2, Ta.drop (n + 1), 1, rfl, SqL.of Aa, by decide, by rw [SD]; lia, fun pD G2 sD cD => ⟨P2, fun t ht => ?_⟩⟩
  have n3 := Af.new (o := .tup [.ref pN, .ref pD]) ht
  rw [M9] at cN cD
  refine q t pN pD _ ra rb _ _ _ _ ((((sg.trans sgN).trans n2).trans sD).trans n3) (SqT.of Aa) (((cN.same n2).same sD).same n3) (cD.same n3) ?_ ?_ S.inv
  ·exact K9 (fun t ht => ba1 t (UC ht)) (by lia)
  ·exact K9 (fun t ht => ba1 t (UU ht)) (by lia)
theorem Gw : Ar ["places", "bottom"] ["places"] (Ae (top 27)) := ⟨rfl, rfl, rfl, by decide +kernel, rfl, by decide +kernel, by decide +kernel⟩
theorem KA {f : Addr} {fd : FuncData} (F : Fun K "rising" "rising" (top 27) f fd) (Qn : Fd P w K mg base 34 "bottom_of" ["numbers"] (Io K)) (QC : mg "sorted" = none) (hT : P.given.tree = none) (hbm : Bm mg base) (hl : EE K f 172 = true) :
 AH P w K mg base CX0 38 f fd ["places"] (Jm K 172) := by
 refine F.okL hl Gw (fun vs H Q E h => ?_) (fun cdc A outer s H vs Q E hcd hr h => ?_)
 ·obtain ⟨_, _, _, _, rfl, _⟩ := h; rfl
 refine ⟨_, (Ab (K := K) (Ai (i := 1) Gw.nd rfl (Or.inr rfl) (Ao Qn hr rfl (A0 (pv 0) Ac)))
  (Ag (Ax (LH K (k := 33) hr (fun _ => rfl) rfl QC (pv 0) (N7 (sc := Ae (top 27)) hcd hbm)))) (by rfl)), ?_⟩
 obtain ⟨l, xs, qs, n, rfl, hS, hN, hb, hn6, h20, hct, q⟩ := h
 have hxl := hN.length
 have hn22 : n * (qs.length + 2) ≤ 1000000 * 22 := UE hn6 (by lia)
 have hn20 : n * qs.length ≤ 1000000 * 20 := UE hn6 h20
 refine ⟨_, rfl, true, l, xs, qs, n, rfl, hS, hN, fun q hq => (hb q hq).2, by lia, fun B hB hd bB => ?_⟩
 refine ⟨_, rfl, l, rfl, hct, fun f c' cl ctv H2 C hfree LN => ?_⟩
 have hS2 := Lr hS hct LN.old
 refine ⟨f, _, ["place"], cl, xs, qs.map (EC B), rfl, hS2, by rw [Su]; lia, by lia, KN fun a => rfl, C, fun os hcn hci => ⟨_, OD (k := 32) (fr := ["bottom"]) (ws := [.int B]) (Ok := fun vs r => ∃ x q, vs = [x] ∧ q ∈ qs ∧ AB K H2 x q ∧ r = .int (EC B q)) LN C hfree hcn hci ⟨rfl, rfl, rfl, by decide +kernel, by decide +kernel⟩ (lk1 _) (.cons 1 rfl rfl rfl rfl .nil) (fun A outer s E vs r H' Q hr hvl ho hm hQ => ?_), fun i x kk hx hkk Q' hQ => ?_⟩, fun p ys hp hz => ?_⟩
 ·refine Ct ho fun x c hz145' => ?_
  refine Dw hz145' fun hq142 hc hq143 hq144 => ?_
  clear hz145'
  obtain rfl := hq142
  obtain ⟨rx, rfl, hrx⟩ := hq143
  obtain rfl := hq144
  refine ⟨_, (Ah Aw (Aj (ixT K) (pv 0) Ad (fun u v => rfl)) (Ah (Bi hr hT) (pv 1) (Aj (ixT K) (pv 0) Ad (fun u v => rfl)))), ?_⟩
  have hr' := hrx.same hm
  have hdc : (c.den : Int) ≠ 0 := Nm.den_ne c
  have bq : Bd (n * qs.length + 1) (B.fdiv (c.den : Int)) := by
   rw [UL _ (by lia)]
   unfold Bd at bB ⊢
   exact SQ (Int.natAbs_ediv_le_natAbs ..) bB
  exact ⟨_, rfl, rx, _, _, _, rfl, rfl, hr', rfl, _, rfl, _, rfl, rx, _, _, _, rfl, rfl, hr', rfl, _, _, rfl, rfl, hdc, _, _, rfl, rfl, Bv.bd (hb c hc).1 bq (by lia), hQ⟩
 ·rw [Sn] at hkk
  obtain ⟨c, hc, hcn'⟩ := (Paired.get hN hx)
  rw [hc] at hkk
  cases hkk
  exact ⟨rfl, Af.refl _, _, ⟨x, c, rfl, Sr hc, hcn'.but hct LN.old, rfl⟩, hQ⟩
 ·refine JK hz fun zs hz147' => ?_
  refine CL hz147' fun hperm hq146 hsort => ?_
  clear hz147'
  obtain rfl := hq146
  have hpz := Lu (B := B) (show Ap K H2 xs qs from Paired.mapP hN fun _ _ z => z.but hct LN.old)
  obtain ⟨rs, hrs, hpr⟩ := (EH hperm.symm (Iw hpz))
  obtain ⟨ek, hnum⟩ := (Ky hpr)
  have nN := Af.new (o := .lst (zs.map Prod.snd)) hp
  refine q p _ _ rs (BW.trans LN.old nN.b) (LN.tab.same nN) (Me LN.tab LN.old hp) Aa (Ap.same hnum nN) hrs ?_
  have h1 : (rs.map (EC B)).Pairwise (· ≤ ·) := by
   rw [ek]
   exact Uw.mpr hsort
  refine List.Pairwise.imp_of_mem (fun {a b} ha hb' h => ?_) (Uw.mp h1)
  exact Nn hB (hd a (hrs.mem_iff.mp ha)) (hd b (hrs.mem_iff.mp hb')) h
theorem CT : Ar ["curve", "x", "bottom", "told"] ["curve", "x"] (Ae (top 17)) := ⟨rfl, rfl, rfl, by decide +kernel, rfl, by decide +kernel, by decide +kernel⟩
theorem Hq {f : Addr} {fd : FuncData} (F : Fun K "height_at" "height_at" (top 17) f fd) (Qn : Fd P w K mg base 34 "bottom_of" ["numbers"] (Io K)) (Qp : Fd P w K mg base 33 "whole_height" ["tops", "x"] (MS K)) (Qj : Fd P w K mg base 34 "number_of" ["top", "bottom"] (D9)) (Qu : Fd P w K mg base 33 "tops_over" ["numbers", "bottom"] (GS K)) (hT : P.given.tree = none) :
 AH P w K mg base CX0 35 f fd ["curve", "x"] (Dz K) := by
 refine F.ok CT (fun vs H Q E h => ?_) (fun cdv A outer s H vs Q E hr h => ?_)
 ·obtain ⟨_, _, _, _, _, _, _, rfl, _⟩ := h; rfl
 refine ⟨_, (Ab (K := K) (Ai (i := 2) CT.nd rfl (Or.inl rfl) (Ao Qn hr rfl (A0 (pv 0) Ac)))
  (Ab (K := K) (Ai (i := 3) CT.nd rfl (Or.inl rfl) (Ao Qp hr rfl (A0 (Ao Qu hr rfl (A0 (pv 0) (A0 (pv 2) Ac))) (A0 (pv 1) Ac))))
  (Ag (Ax (Ao Qj hr rfl (A0 (Aj (ixT K) (pv 3) Ad (fun u v => rfl)) (A0 (Ah Aw (pv 2) (Aj (ixT K) (pv 3) Ad (fun u v => rfl))) Ac))))) (by rfl)) (by rfl)), ?_⟩
 obtain ⟨r, rx, qs, x, g, d, m, rfl, ⟨xs, hS, hn⟩, ⟨_, erx, hx⟩, hB, hbx, hz, h1000, q⟩ := h
 cases erx
 have hl := hn.length
 have e1 : d * (qs.length + 2) = d * qs.length + d * 2 := UT ..
 have e2 : (m + 1) * (qs.length + 4) = m * qs.length + qs.length + (m + 1) * 4 := by rw [UT, TH, TJ]
 refine ⟨_, rfl, false, r, xs, qs, d, rfl, hS, hn, (fun q hq => (hB q hq).2), by lia, fun B hB0 hdv hbB => ?_⟩
 refine ⟨_, rfl, _, rfl, false, r, xs, qs, B, d * qs.length + 1, g, rfl, hS, hn, hbB, (fun q hq => (hB q hq).1), by lia, h1000, fun l hl0 => ?_⟩
 have tl : (qs.map (BM B)).length = qs.length := Su _
 have hx1 : SqT K (upd H l (.lst ((qs.map (BM B)).map V.int))) rx [.int x.num, .int x.den] := SqT.same hx (Af.new hl0)
 have tB : ∀ t ∈ qs.map (BM B), Bd (g + (d * qs.length + 1)) t := fun t ht => by
  obtain ⟨c, hc, rfl⟩ := (TR.mp ht)
  exact ((hB c hc).1.mul (hbB.fdiv (y := c.den))).mono (by lia)
 refine ⟨_, rfl, l, rx, qs.map (BM B), x, g + (d * qs.length + 1), m, rfl, SqL.of Aa, ⟨rx, rfl, hx1⟩, tB, hbx, by rw [tl]; lia, fun h s p es hs0 he hbh hbs hp => ?_⟩
 rw [tl] at hbs
 have ep : SqT K (upd (upd H l (.lst ((qs.map (BM B)).map V.int))) p (.tup [.int h, .int s])) p [.int h, .int s] := SqT.of Aa
 have hb0 : B * s ≠ 0 := T4 (by lia) hs0
 refine ⟨_, rfl, p, _, _, _, rfl, rfl, ep, rfl, _, rfl, _, rfl, p, _, _, _, rfl, rfl, ep, rfl, _, _, rfl, rfl, Bv.bd hbB hbs (by lia), _, _, rfl, hb0, fun u hu => ?_⟩
 have ev := MK hdv x
 have e : SW h (B * s) = Cv.ev qs x := Nm.div_eq hb0 (by
  have he' : (h : Rat) = Cv.ev ((qs.map (BM B)).map fun t : Int => (t : Rat)) x * (s : Rat) := he
  rw [he', ev, T5]; grind)
 rw [tl] at hbh
 have e3 : (m + 1) * (qs.length + 2) = m * qs.length + qs.length + (m + 1) * 2 := by rw [UT, TH, TJ]
 have d1 : 1 ≤ d ∨ qs.length = 0 := by
  cases qs with
  | nil => exact .inr rfl
  | cons c r =>
    left
    have := (hB c (RY ..)).2
    unfold Bd at this
    rcases Nat.eq_zero_or_pos d with z | z
    ·rw [z] at this
     have := c.den_pos
     lia
    ·exact z
 refine q u _ (((Af.new hl0).trans (Af.new hp)).trans (Af.new hu)) ?_ ?_
 ·rw [← e]; exact Aa
 ·rw [← e]
  exact RB.div (m := 0) (hbh.mono (by lia)) ((hbB.mul hbs).mono (by lia)) hb0
theorem BV : Ar ["places", "heights", "width", "most", "many", "pair", "lock", "points", "sure", "curve", "wrong"] ["places", "heights", "width", "most"] (Ae (top 42)) := ⟨rfl, rfl, rfl, by decide +kernel, rfl, by decide +kernel, by decide +kernel⟩
theorem KC {f : Addr} {fd : FuncData} (F : Fun K "judged" "judged" (top 42) f fd) (Rc : Fd P w K mg base 35 "check_heights" ["places", "heights"] (Fo K)) (Rf : Fd P w K mg base 36 "pair_through" ["places", "heights", "width"] (Jo K)) (Qy : Fd P w K mg base 39 "curve_through" ["points"] (GV K)) (F_rising : Fd P w K mg base 38 "rising" ["places"] (Jm K 172)) (Qq : Fd P w K mg base 35 "height_at" ["curve", "x"] (Dz K)) (QD : mg "list" = none) (Qc : mg "len" = none) (Qg : mg "zip" = none) (Qf : mg "tuple" = none) {a_NOUGHT : Addr} (c_NOUGHT : mg "NOUGHT" = some (.ref a_NOUGHT)) (n_NOUGHT : ∀ H : Hp, AB K H (.ref a_NOUGHT) (0)) (hT : P.given.tree = none) :
 AH P w K mg base CX0 40 f fd ["places", "heights", "width", "most"] (Fn K 172) := by
 refine F.ok BV (fun vs H Q E h => ?_) (fun cdv A outer s H vs Q E hr h => ?_)
 ·obtain ⟨_, _, _, _, _, _, _, _, _, _, _, _, _, rfl, _⟩ := h; rfl
 refine ⟨_, (Ab (K := K) (BQ (Ao Rc hr rfl (A0 (pv 0) (A0 (pv 1) Ac))))
  (Ab (K := K) (Ai (i := 4) BV.nd rfl (Or.inl rfl) (Ah AG (Ah Aw Ad (pv 3)) (pv 2)))
  (Ab (K := K) (AQ (K := K) (As DI (pv 4) (Aq (Bx K) rfl Qc AD (A0 (pv 0) Ac)) (Ay _)) (Ag Cd) AK (by rfl) (by rfl))
  (Ab (K := K) (Ai (i := 5) BV.nd rfl (Or.inl rfl) (Ao Rf hr rfl (A0 (BF (slL K) (pv 0) C3 (C2 (pv 4))) (A0 (BF (slL K) (pv 1) C3 (C2 (pv 4))) (A0 (Ah AG (pv 3) (pv 2)) Ac)))))
  (Ab (K := K) (Ai (i := 6) BV.nd rfl (Or.inr rfl) (Aj (ixT K) (pv 5) Ad (fun u v => rfl)))
  (Ab (K := K) (Ai (i := 7) BV.nd rfl (Or.inl rfl) (Jv K rfl rfl QD rfl Qg (A0 (pv 0) (A0 (pv 1) Ac))))
  (Ab (K := K) (JZ (i := 8) rfl BV.nd rfl rfl (N := ["point", "lock"]) (nt := 1) (js := [6]) (Be.look (NX := ["places", "heights", "width", "most", "many", "pair", "lock", "points", "sure", "curve", "wrong"]) (sc := Ae (top 42)) rfl rfl (by decide +kernel)) (piL K (BF (slL K) (pv 7) C3 (C2 (pv 4)))) (fun u1 u2 u3 u4 u5 => (Av (i := 0) (show List.Nodup (["point", "lock"] : List Str) from by decide +kernel) rfl (Or.inl rfl))) (AL (by decide)) (fun u1 u2 u3 u4 u5 => E2 (As (neD K hr.units) (Ao Qq hr rfl (A0 (pv 1) (A0 (Aj (ixT K) (pv 0) Ad (fun u v => rfl)) Ac))) (E3 (v := .ref a_NOUGHT) rfl c_NOUGHT rfl) (Ay _))) (fun u1 u2 u3 u4 u5 => (pv 0)) rfl)
  (Ab (K := K) (Ai (i := 9) BV.nd rfl (Or.inr rfl) (Ao Qy hr rfl (A0 (CH (GQ K) rfl Qf Eh (A0 (BF (slL K) (pv 8) C3 (C2 (pv 2))) Ac)) Ac)))
  (Ab (K := K) (Ai (i := 10) BV.nd rfl (Or.inl rfl) (Ao F_rising hr rfl (A0 (CG rfl (N := ["x", "y", "curve"]) (nt := 2) (js := [9]) (Be.look (NX := ["places", "heights", "width", "most", "many", "pair", "lock", "points", "sure", "curve", "wrong"]) (sc := Ae (top 42)) rfl rfl (by decide +kernel)) (piL K (pv 7)) (fun u1 u2 u3 u4 u5 => (pgT K (n := 2) rfl (C4 (Av (i := 0) (show List.Nodup (["x", "y", "curve"] : List Str) from by decide +kernel) rfl (Or.inl rfl)) (C4 (Av (i := 1) (show List.Nodup (["x", "y", "curve"] : List Str) from by decide +kernel) rfl (Or.inl rfl)) EZ)))) (Gs (Cw (by decide) (Cw (by decide) Fj))) (fun u1 u2 u3 u4 u5 => E2 (As (neD K hr.units) (Ao Qq hr rfl (A0 (pv 2) (A0 (pv 0) Ac))) (pv 1) (Ay _))) (fun u1 u2 u3 u4 u5 => (pv 0))) Ac)))
  (Ab (K := K) (AQ (K := K) (As DI (Aq (Bx K) rfl Qc AD (A0 (pv 10) Ac)) (pv 3) (Ay _)) (Ag (Ax (AR (A0 Hk (A0 (pv 6) (A0 (Aj (ixT K) (pv 5) Ad (fun u v => rfl)) Ac)))))) AK (by rfl) (by rfl))
  (Ag (Ax (AR (A0 Hk (A0 (pv 9) (A0 (pv 10) Ac)))))) (by rfl)) (by rfl)) (by rfl)) (by rfl)) (by rfl)) (by rfl)) (by rfl)) (by rfl)) (by rfl)) (by rfl)), ?_⟩
 obtain ⟨lp, lh, zs, ys, qs, hs, W, e, n, nx, ny, mc, C, rfl, hP, hZT, hH, hY, hql, hhl, hn12, hnd, hW1, hW8, hm, bq, bh, hnx1, hnx, hxy, hny, hC, hG, hct, hmc, hmw, q1, q2⟩ := h
 have P3 : 3 ≤ sizeLine := by decide
 have hZ : Ap K H zs qs := hZT.nums
 have hzl := hZ.length
 have hyl := hY.length
 refine ⟨_, rfl, _, rfl, lp, lh, zs, ys, qs, rfl, hP, hZT, hnd, by lia, by lia, hH, by lia, fun H1 s1 => ?_⟩
 obtain ⟨m, hm2⟩ : ∃ m, m = 2 * e + W := ⟨_, rfl⟩
 refine ⟨_, rfl, _, _, rfl, rfl, .inl ⟨by decide, by decide⟩, _, rfl, _, _, rfl, rfl, ?_⟩
 rw [show (2 : Int) * (e : Int) + (W : Int) = (m : Int) by lia]
 refine ⟨_, rfl, _, rfl, lp, zs, rfl, .inl (Af.seq s1 hP), _, _, rfl, rfl, _, rfl, AM (decide_eq_false (by lia)) ?_⟩
 refine ⟨_, rfl, _, rfl, _, rfl, lp, zs, rfl, Af.seq s1 hP, fun o1 h1 => ?_⟩
 rw [Dv]
 have w1 := Af.new (o := .lst (zs.take m)) h1
 refine ⟨_, rfl, _, rfl, _, rfl, lh, ys, rfl, Af.seq (s1.trans w1) hH, fun o2 h2 => ?_⟩
 rw [Dv]
 have w2 := Af.new (o := .lst (ys.take m)) h2
 have s2 := (s1.trans w1).trans w2
 have e1 := w2 _ _ (Aa (H := H1) (a := o1) (o := .lst (zs.take m)))
 have e2 := Aa (H := upd H1 o1 (.lst (zs.take m))) (a := o2) (o := .lst (ys.take m))
 generalize upd (upd H1 o1 (.lst (zs.take m))) o2 (.lst (ys.take m)) = H2 at s2 e1 e2 ⊢
 have hqt : (qs.take m).length = m := by rw [Sj]; lia
 have hht : (hs.take m).length = m := by rw [Sj]; lia
 have hndt : (qs.take m).Nodup := hnd.sublist (So _ _)
 have hCm : (nx + 1) * (m + 3) + ny + 2 ≤ C := by
  have := V0 (nx + 1) (show m + 3 ≤ n + 3 by lia)
  lia
 have hGm : (gAS C m).2 + 3 * C ≤ 2000000 := RV (Ue (Du C (show m ≤ n by lia)) _) hG
 refine ⟨_, rfl, _, rfl, _, _, rfl, rfl, ?_⟩
 rw [show (e : Int) + (W : Int) = ((e + W : Nat) : Int) by lia]
 refine ⟨o1, o2, _, _, qs.take m, hs.take m, e + W, m, nx, ny, C, rfl, SqL.of e1, Paired.take _ (Ap.same hZ s2), SqL.of e2, Paired.take _ (Ap.same hY s2), hqt, hht, by lia, by lia, hndt, by lia, by lia, fun x hx => bq x (UC hx), fun x hx => bh x (UC hx), hCm, by lia, fun t pN pD H3 r1 r2 N D N2 D2 s3 hT cN cD bN bD I => ?_⟩
 have hzlt : ((qs.take m).zip (hs.take m)).length = m := by rw [Uv]; lia
 have hDne := I.below hzlt (by lia) (by rw [V4 (by lia)]; exact hndt)
 have hr1 := I.fin hzlt
 have hDl : (Cv.strip D).length ≤ e + 1 := Ij fun j hj => I.le1.2 j (by lia)
 have s03 := s2.trans s3
 clear w1 w2 h1 h2 e1 e2 s1 s2 hCm
 refine ⟨_, rfl, t, _, _, _, rfl, rfl, hT, rfl, ?_⟩
 refine ⟨_, rfl, _, rfl, lp, lh, zs, ys, rfl, Af.seq s03 hP, Af.seq s03 hH, by lia, fun lpt us H4 s4 hno elp hp4 => ?_⟩
 have s04 := s03.trans s4
 have hpts : Cg K H4 us ((qs.zip hs).map fun p => [p.1, p.2]) := N5 hp4 (AE.same hZT s04) (Ap.same hY s04)
 have hul : us.length = n := by rw [hpts.length, Su, Uv]; lia
 have hzn : (qs.zip hs).length = n := by rw [Uv]; lia
 have bD' : ∀ c ∈ Cv.strip D, Bd ((gAS C m).2 + 1) c.num ∧ Bd 1 (c.den : Int) := fun c hc => bD c (Cv.strip_mem _ _ hc)
 refine Ce ⟨_, rfl, _, rfl, _, rfl, lpt, us, rfl, SqL.of elp, fun o5 h5 => ?_⟩
 rw [Dv]
 have w5 := Af.new (o := .lst (us.take m)) h5
 have e5 := Aa (H := H4) (a := o5) (o := .lst (us.take m))
 have cD5 := (cD.same s4).same w5
 have s05 := s04.trans w5
 have hpts := Cg.same hpts w5
 generalize upd H4 o5 (.lst (us.take m)) = H5 at w5 e5 cD5 s05 hpts ⊢
 refine ⟨o5, rfl, ⟨_, SqL.of e5⟩, ?_⟩
 have hx17 : (nx + 1) * ((Cv.strip D).length + 4) ≤ 41 * 17 := UE (by lia) (by lia)
 refine Fc (xs := us.take m) (L5 H5 K qs hs D fun H5 K qs hs D i ws G => Af H5 G ∧ ws.length ≤ i ∧ Cg K G ws ((((qs.zip hs).take i).filter fun p => !decide (Cv.ev D p.1 = 0)).map fun p => [p.1, p.2])) ⟨Af.refl _, S9 _, .nil⟩ (fun i ws G _ h => ⟨SqL.of (h.1 _ _ e5), h.2.1⟩) (RW (AF (by rw [Sj]; lia))) ?_ ?_
 ·rintro i v ws G hv ⟨sg, hwl, hws⟩
  have hi : i < m := by
   have := (S4.mp hv).1
   rw [Sj] at this; lia
  rw [Us, if_pos hi] at hv
  obtain ⟨ps, hps, pt⟩ := (Paired.get hpts hv)
  rw [Sn] at hps
  obtain ⟨⟨x, y⟩, hpr, rfl⟩ : ∃ pr, (qs.zip hs)[i]? = some pr ∧ ps = [pr.1, pr.2] := by
   cases z : (qs.zip hs)[i]? with
   | none => rw [z] at hps; cases hps
   | some pr => rw [z] at hps; cases hps; exact ⟨pr, rfl, rfl⟩
  refine CK (id pt) fun ta tu px hz149' => ?_
  refine D5 hz149' fun hq148 hta htn hpx epx => ?_
  clear hz149'
  obtain rfl := hq148
  have hxm : x ∈ qs := (Sh (Sr hpr)).1
  refine ⟨_, rfl, _, rfl, ta, tu, _, _, rfl, rfl, hta.same sg, AW (j := 0) hpx, pD, px, Cv.strip D, x, (gAS C m).2 + 1, 1, nx, rfl, cD5.same sg, AB.of (sg _ _ epx), bD', bq x hxm, by lia, by lia, fun p1 G1 s1 e1 _ => ?_⟩
  refine eqN (AB.of e1) (n_NOUGHT _) ?_
  refine ⟨_, rfl, ?_⟩
  rw [Cv.ev_strip]
  have et : (((qs.zip hs).take (i + 1)).filter fun p => !decide (Cv.ev D p.1 = 0)) = (((qs.zip hs).take i).filter fun p => !decide (Cv.ev D p.1 = 0)) ++ ([(x, y)].filter fun p => !decide (Cv.ev D p.1 = 0)) := by rw [Tf, hpr, UQ]; rfl
  by_cases h0 : Cv.ev D x = 0
  ·refine AM (by rw [decide_eq_true h0]; rfl) ⟨sg.trans s1, by lia, ?_⟩
   rw [et, UN (by show ¬ (!decide (Cv.ev D x = 0)) = true; rw [decide_eq_true h0]; decide), UY, Sf]
   exact Cg.same hws s1
  ·refine AZ (by rw [decide_eq_false h0]; rfl) ⟨_, rfl, sg.trans s1, by rw [Ss, SK]; lia, ?_⟩
   rw [et, UM (by show (!decide (Cv.ev D x = 0)) = true; rw [decide_eq_false h0]; rfl), Tg]
   exact Paired.snoc (Cg.same hws s1) (pt.same (sg.trans s1))
 rintro ws G ⟨sg, hwl, hws⟩ lsu hlsu
 have hsl : (us.take m).length = m := by rw [Sj]; lia
 rw [hsl] at hws hwl
 have w6 := Af.new (o := .lst ws) hlsu
 have s06 := (s05.trans sg).trans w6
 have s46 := (w5.trans sg).trans w6
 have hws := Cg.same hws w6
 have e6 := Aa (H := G) (a := lsu) (o := .lst ws)
 generalize upd G lsu (.lst ws) = H6 at s06 s46 hws e6 ⊢
 clear w6 sg w5 e5 cD5 s05 hpts hlsu h5
 have ezt : (qs.zip hs).take m = (qs.take m).zip (hs.take m) := List.take_zipWith (f := Prod.mk)
 generalize hL : ((qs.zip hs).take m).filter (fun p => !decide (Cv.ev D p.1 = 0)) = L at hws
 have hLs : List.Sublist L (qs.zip hs) := by rw [← hL]; exact (List.filter_sublist).trans (So _ _)
 have hLm : ∀ pr ∈ L, pr ∈ qs.zip hs := fun pr hpr => hLs.subset hpr
 have hLon : ∀ f : List Rat, (∀ x, Cv.ev N x = Cv.ev f x * Cv.ev D x) → ∀ pr ∈ L, Cv.ev f pr.1 = pr.2 := fun f hf pr hpr => by
  rw [← hL, ezt] at hpr
  obtain ⟨h1, h2⟩ := (RS.mp hpr)
  have h0 : Cv.ev D pr.1 ≠ 0 := by simpa using h2
  have o1 := I.on1 pr h1
  rw [hf pr.1] at o1
  have : (Cv.ev f pr.1 - pr.2) * Cv.ev D pr.1 = 0 := by grind
  rcases Ti.mp this with z | z
  ·grind
  ·exact absurd z h0
 have hLW : W ≤ L.length := by
  have f1 := J0 (C8 D) hDne hndt
  have f2 := Ed (fun x => decide (Cv.ev (Cv.strip D) x = 0)) (qs.take m)
  have f3 : L.length = ((qs.take m).filter fun x => !decide (Cv.ev (Cv.strip D) x = 0)).length := by
   rw [← hL, ezt]
   have e : ((qs.take m).zip (hs.take m)).map Prod.fst = qs.take m := V4 (by lia)
   rw [← e, List.filter_map, Su, e]
   congr 2
   funext p
   show (!decide (Cv.ev D p.1 = 0)) = (!decide (Cv.ev (Cv.strip D) p.1 = 0))
   rw [Cv.ev_strip]
  lia
 have h23 : P2 ((L.take W).map fun p => [p.1, p.2]) := fun ps hps => by
  obtain ⟨pr, _, rfl⟩ := (TR.mp hps)
  rfl
 have hnd' : (((L.take W).map fun p => [p.1, p.2]).map fun ps => ps.getD 0 0).Nodup := by
  rw [List.map_map]
  show ((L.take W).map Prod.fst).Nodup
  have hsub : List.Sublist ((L.take W).map Prod.fst) ((qs.zip hs).map Prod.fst) := ((So _ _).trans hLs).map _
  rw [V4 (by lia)] at hsub
  exact hnd.sublist hsub
 have hLt : (L.take W).length = W := by rw [Sj]; lia
 have hbp : ∀ ps ∈ (L.take W).map (fun p => [p.1, p.2]), ∀ z ∈ ps, RB ny z := fun ps hps z hz => by
  obtain ⟨pr, hpr, rfl⟩ := (TR.mp hps)
  have := Sh (show (pr.1, pr.2) ∈ qs.zip hs from (hLm pr (UC hpr)))
  rcases S1.mp hz with y | y
  ·rw [y]; exact (bq _ this.1).mono hxy
  ·rw [Tw.mp y]; exact bh _ this.2
 have hbk : ∀ ps ∈ (L.take W).map (fun p => [p.1, p.2]), RB nx (ps.getD 0 0) := fun ps hps => by
  obtain ⟨pr, hpr, rfl⟩ := (TR.mp hps)
  exact bq _ (Sh (show (pr.1, pr.2) ∈ qs.zip hs from (hLm pr (UC hpr)))).1
 refine ⟨_, rfl, _, rfl, _, rfl, lsu, ws, rfl, SqL.of e6, fun o6 h6 => ?_⟩
 rw [Dv]
 have w7 := Af.new (o := .lst (ws.take W)) h6
 refine ⟨o6, ws.take W, rfl, .inl ⟨SqL.of Aa, fun o7 h7 => ?_⟩⟩
 have w8 := Af.new (o := .tup (ws.take W)) h7
 have w78 := w7.trans w8
 have hp8 : Cg K (upd (upd H6 o6 (.lst (ws.take W))) o7 (.tup (ws.take W))) (ws.take W) ((L.take W).map fun p => [p.1, p.2]) := by
  have := Paired.take W (Cg.same hws w78)
  rwa [← V3] at this
 refine ⟨o7, ws.take W, (L.take W).map fun p => [p.1, p.2], ny, nx, rfl, SqT.of Aa, hp8, h23, by rw [Su]; lia, hnd', by rw [JT]; lia, hbp, hbk, by lia, by lia, fun pc H8 cs s8 cC hcl hgc hrb hev => ?_⟩
 have hcW : cs.length ≤ W := by rw [JT, hLt] at hcl; exact hcl
 have only : ∀ f : List Rat, f.length ≤ W → (∀ x, Cv.ev N x = Cv.ev f x * Cv.ev D x) → ∀ x, Cv.ev f x = Cv.ev cs x := fun f hf hfe x => FG h23 hnd' (by rw [JT, hLt]; exact hf) hcl (fun ps hps => by
  obtain ⟨pr, hpr, rfl⟩ := (TR.mp hps)
  exact hLon f hfe pr (UC hpr)) (Fi h23 hnd' hev) x
 have bc : ∀ x ∈ cs, RB mc x := fun x hx => (hrb x hx).mono (by
  have := HV (k := 7) (m := 7) (show ny + 2 * nx + 2 ≤ ny + 2 * nx + 2 from S9 _) (S9 7)
  lia)
 have s48 := (s46.trans w78).trans s8
 have s08 := (s06.trans w78).trans s8
 have elp := s48 _ _ elp
 clear w7 w8 w78 h6 h7 hp8 hrb hev hcl hbp hbk hnd' h23 hws e6 hLm hLon hLs hL hwl
 refine Ce ⟨_, rfl, lpt, rfl, ⟨_, SqL.of elp⟩, ?_⟩
 have hmc' : mc * (cs.length + 4) ≤ mc * (W + 4) := V0 _ (by lia)
 have hmc2 : mc * (cs.length + 4) = mc * (cs.length + 2) + mc * 2 := by rw [← UT]
 have hxc : (nx + 1) * (cs.length + 4) ≤ 41 * 12 := UE (by lia) (by lia)
 refine OB (xs := us) (fun i vs G => Af H8 G ∧ vs.length ≤ i ∧ Ap K G vs (AV (qs.take i) (hs.take i) cs)) ⟨Af.refl _, S9 _, .nil⟩ (fun i vs G _ h => ⟨SqL.of (h.1 _ _ elp), h.2.1⟩) (RW (AF (by lia))) ?_ ?_
 ·rintro i v vs G hv ⟨sg, hvl, hvs⟩
  obtain ⟨pr, hpr, tt, rfl, ett⟩ := (Paired.get hp4 hv)
  obtain ⟨hz1, hy1⟩ := (Uz.mp hpr)
  obtain ⟨x, hx, hvx⟩ := (Paired.get hZ hz1)
  obtain ⟨y, hy, hvy⟩ := (Paired.get hY hy1)
  obtain ⟨rx, erx, _⟩ := (id hvx)
  have s0g := s08.trans sg
  refine ⟨tt, pr.1, pr.2, rfl, SqT.of (sg _ _ (s48 _ _ ett)), ?_⟩
  rw [erx] at hvx ⊢
  refine ⟨_, rfl, _, rfl, pc, rx, cs, x, mc, mc, nx, rfl, cC.same sg, hvx.same s0g, bc, bq x (Sr hx), by lia, by lia, fun p1 G1 s1 e1 _ => ?_⟩
  refine ⟨_, rfl, ?_⟩
  refine eqN (AB.of e1) ((hvy.same s0g).same s1) ?_
  refine ⟨_, rfl, ?_⟩
  have ms := GB (c := cs) (by lia) hx hy
  by_cases he : Cv.ev cs x = y
  ·refine AM (by rw [decide_eq_true he]; rfl) ⟨sg.trans s1, by lia, ?_⟩
   rw [ms, if_pos he, Sf]; exact Ap.same hvs s1
  ·refine AZ (by rw [decide_eq_false he]; rfl) ⟨_, rfl, sg.trans s1, by rw [Ss, SK]; lia, ?_⟩
   rw [ms, if_neg he]
   exact Paired.snoc (Ap.same hvs s1) ((hvx.same s0g).same s1)
 rintro vs G ⟨sg, hvl, hvs⟩ lv hlv
 rw [hul, TX (by lia), TX (by lia)] at hvs
 have w9 := Af.new (o := .lst vs) hlv
 have s09 := (s08.trans sg).trans w9
 have hmn : (AV qs hs cs).length ≤ 12 := by
  rw [FO]
  refine RV (UR ..) ?_
  rw [Uv]; lia
 refine ⟨lv, vs, AV qs hs cs, nx, rfl, SqL.of Aa, Ap.same hvs w9, fun x hx => bq x (IT hx), by lia, by lia, hct.same s09, fun pr H9 rsV rs m9 ct9 hno9 e9 hn9 hperm hpw => ?_⟩
 have hrl : rsV.length = (AV qs hs cs).length := by rw [hn9.length, hperm.length_eq]
 have hno : H pr = none := by
  cases z : H pr with
  | none => rfl
  | some o => rw [s09 _ _ z] at hno9; cases hno9
 have sB : BW 172 H H9 := BW.trans (Af.b s09) m9
 refine ⟨_, rfl, pr, rsV, rfl, .inl (SqL.of e9), _, rfl, _, _, rfl, rfl, _, rfl, ?_⟩
 by_cases hgt : e < rsV.length
 ·refine AZ (decide_eq_true (by lia)) ?_
  have hT9 := ((hT.same ((s4.trans s48).trans (sg.trans w9))).but (hct.same s09) m9)
  refine ⟨_, rfl, _, rfl, t, _, _, _, rfl, rfl, hT9, rfl, P3, fun tf htf => ?_⟩
  have nf := Af.new (o := .tup [.str "none", .ref pD, .ref pN]) htf
  have cDf := (((cD.same ((s4.trans s48).trans (sg.trans w9))).but (hct.same s09) m9).same nf)
  have cNf := (((cN.same ((s4.trans s48).trans (sg.trans w9))).but (hct.same s09) m9).same nf)
  subst hm2
  refine q2 tf pD pN _ (Cv.strip N) (Cv.strip D) cs (BW.trans sB nf.b) (ct9.same nf) (SqT.of Aa) cDf cNf (C8 D) (C8 N) hDne hDl (Ij fun j hj => I.le1.1 j (by lia)) bD' (fun x hx => bN x (Cv.strip_mem _ _ hx)) (fun i hi h1 h2 => ?_) (by lia) fun f hf hfe => only f hf fun x => by
   have := hfe x
   rwa [Cv.ev_strip, Cv.ev_strip] at this
  have hmz := MG hqt hht hi
  rw [List.getElem_take, List.getElem_take] at hmz
  rw [Cv.ev_strip, Cv.ev_strip]
  exact I.on1 _ hmz
 ·refine AM (decide_eq_false (by lia)) ?_
  refine ⟨_, rfl, _, rfl, P3, fun tf htf => ?_⟩
  have nf := Af.new (o := .tup [.str "one", .ref pc, .ref pr]) htf
  exact q1 tf pc pr _ rsV rs cs (BW.trans sB nf.b) (ct9.same nf) (SqT.of Aa) ((((cC.same sg).same w9).but (hct.same s09) m9).same nf) hgc hcW bc hno (nf _ _ e9) (Ap.same hn9 nf) hperm hpw (by lia)
theorem Cb : Ar ["places", "width", "other", "many", "start", "heights"] ["places", "width"] (Ae (top 43)) := ⟨rfl, rfl, rfl, by decide +kernel, rfl, by decide +kernel, by decide +kernel⟩
theorem IC {f : Addr} {fd : FuncData} (F : Fun K "doubtful" "doubtful" (top 43) f fd) (QA : Fd P w K mg base 34 "check_places" ["places", "fewest"] (EY K)) (Qw : Fd P w K mg base 36 "by_steps" ["knots", "steps"] (DA K)) (Qq : Fd P w K mg base 35 "height_at" ["curve", "x"] (Dz K)) (Qc : mg "len" = none) {a_NOUGHT : Addr} (c_NOUGHT : mg "NOUGHT" = some (.ref a_NOUGHT)) (n_NOUGHT : ∀ H : Hp, AB K H (.ref a_NOUGHT) (0)) (hT : P.given.tree = none) :
 AH P w K mg base CX0 37 f fd ["places", "width"] (Ha K) := by
 refine F.ok Cb (fun vs H Q E h => ?_) (fun cdv A outer s H vs Q E hr h => ?_)
 ·obtain ⟨_, _, _, _, rfl, _⟩ := h; rfl
 refine ⟨_, (Ab (K := K) (BQ (Ao QA hr rfl (A0 (pv 0) (A0 Ad Ac))))
  (Ab (K := K) (AQ (K := K) (PW.pt (JY (As E4 (pv 1) Ad (Ay _)) (Hj (As NL (pv 1) (Aq (Bx K) rfl Qc AD (A0 (pv 0) Ac)) (Ay _))))) (Ag Cd) AK (by rfl) (by rfl))
  (Ab (K := K) (Ai (i := 2) Cb.nd rfl (Or.inr rfl) (Ao Qw hr rfl (A0 (BF (slL K) (pv 0) C3 (C2 (pv 1))) (A0 (Ah DP (Ah DO (AS (A0 (E3 (v := .ref a_NOUGHT) rfl c_NOUGHT rfl) Ac)) (Ah AU (pv 1) Ad)) (AS (A0 (AR (A0 Ad (A0 Ad Ac))) Ac))) Ac))))
  (Ab (K := K) (Ai (i := 3) Cb.nd rfl (Or.inl rfl) (Ah AG (Ah (Bi hr hT) (Ah AU (Aq (Bx K) rfl Qc AD (A0 (pv 0) Ac)) (pv 1)) Ad) Ad))
  (Ab (K := K) (Ai (i := 4) Cb.nd rfl (Or.inl rfl) (Ah AU (Aq (Bx K) rfl Qc AD (A0 (pv 0) Ac)) (pv 3)))
  (Ab (K := K) (Ai (i := 5) Cb.nd rfl (Or.inl rfl) (Ah DP (Ah DO (AS (A0 (E3 (v := .ref a_NOUGHT) rfl c_NOUGHT rfl) Ac)) (pv 4)) (CG rfl (N := ["x", "other"]) (nt := 1) (js := [2]) (Be.look (NX := ["places", "width", "other", "many", "start", "heights"]) (sc := Ae (top 43)) rfl rfl (by decide +kernel)) (piL K (BF (slL K) (pv 0) (C2 (pv 4)) C3)) (fun u1 u2 u3 u4 u5 => (Av (i := 0) (show List.Nodup (["x", "other"] : List Str) from by decide +kernel) rfl (Or.inl rfl))) (AL (by decide)) (fun u1 u2 u3 u4 u5 => BP) (fun u1 u2 u3 u4 u5 => (Ao Qq hr rfl (A0 (pv 1) (A0 (pv 0) Ac)))))))
  (Ag (Ax (AR (A0 (pv 5) (A0 (AR Ac) (A0 (pv 2) Ac)))))) (by rfl)) (by rfl)) (by rfl)) (by rfl)) (by rfl)) (by rfl)), ?_⟩
 obtain ⟨l, ys, qs, wd, rfl, hS, hn, hnd, h12, hw1, hwn, hb, q⟩ := h
 have P0 : 0 ≤ sizeLine := by decide
 have P1 : 1 ≤ sizeLine := by decide
 have P2 : 2 ≤ sizeLine := by decide
 have P3 : 3 ≤ sizeLine := by decide
 have hl := hn.length
 refine ⟨_, rfl, l, 2, ys, qs, rfl, hS, hn, hnd, h12, by lia, fun H1 s1 => ?_⟩
 refine ⟨_, rfl, _, _, rfl, rfl, _, rfl, ?_⟩
 refine AM (by rw [decide_eq_false (show ¬ ((wd : Int) < 1) by lia)] <;> rfl) ?_
 refine ⟨_, rfl, _, rfl, l, ys, rfl, .inl (Af.seq s1 hS), _, _, rfl, rfl, _, rfl, ?_⟩
 refine AM (by rw [decide_eq_false (show ¬ ((ys.length : Int) ≤ (wd : Int)) by lia)] <;> rfl) ?_
 refine ⟨_, rfl, _, rfl, _, rfl, l, ys, rfl, Af.seq s1 hS, fun la hla => ?_⟩
 rw [Dv]
 have sa := s1.trans (Af.new (o := .lst (ys.take wd)) hla)
 have ela : (upd H1 la (.lst (ys.take wd))) la = some (.lst (ys.take wd)) := Aa
 generalize upd H1 la (.lst (ys.take wd)) = H2 at sa ela ⊢
 refine ⟨P1, fun lb hlb => ?_⟩
 have eW : ((wd : Int) - 1).toNat = wd - 1 := by lia
 refine ⟨_, rfl, _, _, rfl, rfl, lb, _, _, rfl, rfl, Aa, by lia, by lia, ?_, fun lc hlc => ?_⟩
 ·show 1 * ((wd : Int) - 1).toNat ≤ sizeLine
  rw [eW]; exact RW (AF (by lia))
 rw [eW]
 have sb := (Af.new (o := .lst [.ref a_NOUGHT]) hlb).trans (Af.new (o := .lst (Si (wd - 1) [V.ref a_NOUGHT]).flatten) hlc)
 have nr := DY (K := K) (H := upd (upd H2 lb (.lst [.ref a_NOUGHT])) lc (.lst (Si (wd - 1) [V.ref a_NOUGHT]).flatten)) (n_NOUGHT _) (wd - 1)
 have nrl := nr.length
 rw [Sv] at nrl
 have elc : (upd (upd H2 lb (.lst [.ref a_NOUGHT])) lc (.lst (Si (wd - 1) [V.ref a_NOUGHT]).flatten)) lc = some (.lst (Si (wd - 1) [V.ref a_NOUGHT]).flatten) := Aa
 generalize upd (upd H2 lb (.lst [.ref a_NOUGHT])) lc (.lst (Si (wd - 1) [V.ref a_NOUGHT]).flatten) = H3 at sb nr elc ⊢
 refine ⟨P2, fun t1 ht1 => ⟨P1, fun ld hld => ?_⟩⟩
 have sc := (Af.new (o := .tup [.int 1, .int 1]) ht1).trans (Af.new (o := .lst [.ref t1]) hld)
 refine ⟨lc, ld, _, [.ref t1], rfl, rfl, sc _ _ elc, Aa, RV (show _ ≤ 300 by rw [nrl]; show _ + 1 ≤ 300; lia) (by decide), fun le hle => ?_⟩
 have sd := sc.trans (Af.new (o := .lst ((Si (wd - 1) [V.ref a_NOUGHT]).flatten ++ [V.ref t1])) hle)
 have nst : Ap K (upd (upd (upd H3 t1 (.tup [.int 1, .int 1])) ld (.lst [.ref t1])) le (.lst ((Si (wd - 1) [V.ref a_NOUGHT]).flatten ++ [V.ref t1]))) ((Si (wd - 1) [V.ref a_NOUGHT]).flatten ++ [V.ref t1]) (Si (wd - 1) 0 ++ [1]) := Paired.snoc (Ap.same nr sd) (AB.of ((Af.new hle) _ _ ((Af.new hld) _ _ (Aa (o := nT 1)))))
 have ele : (upd (upd (upd H3 t1 (.tup [.int 1, .int 1])) ld (.lst [.ref t1])) le (.lst ((Si (wd - 1) [V.ref a_NOUGHT]).flatten ++ [V.ref t1]))) le = some (.lst ((Si (wd - 1) [V.ref a_NOUGHT]).flatten ++ [V.ref t1])) := Aa
 generalize upd (upd (upd H3 t1 (.tup [.int 1, .int 1])) ld (.lst [.ref t1])) le (.lst ((Si (wd - 1) [V.ref a_NOUGHT]).flatten ++ [V.ref t1])) = H4 at sd nst ele ⊢
 have s24 := sb.trans sd
 have s4 := sa.trans s24
 have hbt : ∀ c ∈ qs.take wd, RB 24 c := fun c hc => hb c (UC hc)
 refine ⟨la, le, _, _, qs.take wd, Si (wd - 1) 0 ++ [1], 24, rfl, SqL.of (s24 _ _ ela), Paired.take wd (AE.same hn s4).nums, SqL.of ele, nst, ?_, ?_, hbt, fun c hc => ?_, by decide, fun oth H5 os s5 hos hol hog hob hoe => ?_⟩
 ·rw [Sj, Ss, Sv, SK]; lia
 ·rw [Sj]; lia
 ·rcases S2.mp hc with z | z
  ·rw [(UG.mp z).2]; exact RB.zero (by decide)
  ·rw [Tw.mp z]; exact RB.one (by decide)
 have htl : (qs.take wd).length = wd := by rw [Sj]; lia
 rw [htl] at hol hob
 have hwq : qs[wd - 1]? = some (qs[wd - 1]'(by lia)) := Tx _
 have hoe' : ∀ X, Cv.ev os X = L2.prV X (qs.take (wd - 1)) := fun X => by
  have e1 : qs.take wd = qs.take (wd - 1) ++ [qs[wd - 1]'(by lia)] := by
   conv => lhs; rw [show wd = wd - 1 + 1 by lia]
   rw [Tf, hwq]; rfl
  have e2 : Si (wd - 1) (0 : Rat) = Si (qs.take (wd - 1)).length 0 := by rw [Sj, Sz (by lia)]
  rw [hoe, e1, e2, Dp]
  show _ * (1 + (X - _) * 0) = _
  grind
 have s05 := s4.trans s5
 have hob' : ∀ c ∈ os, RB 1000 c := fun c hc => (hob c hc).mono (by lia)
 clear nst ele elc nr sd sb sc ela sa s24 s4 s5 hoe hob
 have e3 : ((ys.length : Int) - (wd : Int)) = (((ys.length - wd : Nat)) : Int) := by lia
 obtain ⟨mn, hmn⟩ : ∃ mn, mn = (qs.length - wd) / 2 + 1 := ⟨_, rfl⟩
 rw [← hmn] at q
 have hmn1 : 1 ≤ mn ∧ mn ≤ qs.length := by lia
 refine ⟨_, rfl, l, ys, rfl, .inl (Af.seq s05 hS), _, rfl, _, _, rfl, rfl, _, _, rfl, rfl, (by first | decide | (dsimp only; decide)), _, _, rfl, rfl, ?_⟩
 have e4 : (((ys.length : Int) - (wd : Int)).fdiv 2 + 1) = ((mn : Nat) : Int) := by
  rw [e3, UL _ (by decide), hmn, hl]
  lia
 try dsimp only
 rw [e4]
 refine ⟨_, rfl, l, ys, rfl, .inl (Af.seq s05 hS), _, rfl, _, _, rfl, rfl, ?_⟩
 obtain ⟨st, hst⟩ : ∃ st, st = qs.length - mn := ⟨_, rfl⟩
 rw [← hst] at q
 have e5 : ((ys.length : Int) - ((mn : Nat) : Int)) = ((st : Nat) : Int) := by lia
 try dsimp only
 rw [e5]
 refine ⟨P1, fun lf hlf => ?_⟩
 refine ⟨_, rfl, lf, _, _, rfl, rfl, Aa, by lia, by lia, ?_, fun lg hlg => ?_⟩
 ·show 1 * ((st : Nat) : Int).toNat ≤ sizeLine
  rw [Sy]; exact RW (AF (by lia))
 rw [Sy]
 have sg := (Af.new (o := .lst [.ref a_NOUGHT]) hlf).trans (Af.new (o := .lst (Si st [V.ref a_NOUGHT]).flatten) hlg)
 have ng := DY (K := K) (H := upd (upd H5 lf (.lst [.ref a_NOUGHT])) lg (.lst (Si st [V.ref a_NOUGHT]).flatten)) (n_NOUGHT _) st
 have ngl := ng.length
 rw [Sv] at ngl
 have elg : (upd (upd H5 lf (.lst [.ref a_NOUGHT])) lg (.lst (Si st [V.ref a_NOUGHT]).flatten)) lg = some (.lst (Si st [V.ref a_NOUGHT]).flatten) := Aa
 generalize upd (upd H5 lf (.lst [.ref a_NOUGHT])) lg (.lst (Si st [V.ref a_NOUGHT]).flatten) = H6 at sg ng elg ⊢
 have s06 := s05.trans sg
 refine Ce ⟨_, rfl, _, rfl, _, rfl, l, ys, rfl, Af.seq s06 hS, fun lh hlh => ?_⟩
 rw [Ef]
 have sh : Af H6 (upd H6 lh (.lst (ys.drop st))) := Af.new hlh
 have elh : (upd H6 lh (.lst (ys.drop st))) lh = some (.lst (ys.drop st)) := Aa
 generalize upd H6 lh (.lst (ys.drop st)) = H7 at sh elh ⊢
 have hdl : (ys.drop st).length = qs.length - st := by rw [SD]; lia
 have hos7 := (hos.same sg).same sh
 have s07 := s06.trans sh
 refine ⟨lh, rfl, ⟨_, SqL.of elh⟩, DQ (xs := ys.drop st) (L5 H7 K qs st os fun H7 K qs st os i zs H' => Af H7 H' ∧ zs.length = i ∧ Ap K H' zs (((qs.drop st).take i).map fun x => Cv.ev os x)) ⟨Af.refl _, rfl, .nil⟩ (fun i zs H' _ h => ⟨SqL.of (h.1 _ _ elh), h.2.1⟩) (RW (AF (by lia))) ?_ ?_⟩
 ·rintro i v zs H' hv ⟨sm, hzl, hzn⟩
  obtain ⟨x, hx, xa, rfl, hxa⟩ := (Paired.get (Dk st (AE.same hn s07)) hv)
  have hxm : x ∈ qs := UU (Sr hx)
  have hz16 : (os.length + 4) * (os.length + 4) ≤ 16 * 16 := UE (by lia) (by lia)
  have hz3 : (1000 + 1) * ((os.length + 4) * (os.length + 4)) ≤ 30000000 := RV (V0 _ hz16) (by decide)
  refine ⟨_, rfl, _, rfl, oth, xa, os, x, 1000, 1000, 1000, rfl, hos7.same sm, AB.of (sm _ _ hxa), hob', (hb x hxm).mono (by decide), by lia, by lia, fun p H8 s8 e8 _ => ⟨sm.trans s8, by simp [hzl], ?_⟩⟩
  rw [Tf, hx, Tg]
  exact Paired.snoc (Ap.same hzn s8) (AB.of e8)
 rintro zs H8 ⟨s8, hzl, hzn⟩ li hli
 rw [hdl, TX (by rw [SD]; lia)] at hzn
 have si := s8.trans (Af.new (o := .lst zs) hli)
 have eli : (upd H8 li (.lst zs)) li = some (.lst zs) := Aa
 have hzi := Ap.same hzn (Af.new (o := .lst zs) hli)
 generalize upd H8 li (.lst zs) = H9 at si eli hzi ⊢
 have s69 := sh.trans si
 refine ⟨lg, li, _, zs, rfl, rfl, s69 _ _ elg, eli, RV (show _ ≤ 300 by rw [ngl]; lia) (by decide), fun lj hlj => ?_⟩
 have sj : Af H9 (upd H9 lj (.lst ((Si st [V.ref a_NOUGHT]).flatten ++ zs))) := Af.new hlj
 have s6j := s69.trans sj
 have nj : Ap K (upd H9 lj (.lst ((Si st [V.ref a_NOUGHT]).flatten ++ zs))) ((Si st [V.ref a_NOUGHT]).flatten ++ zs) (D3 qs os st) := Paired.append (Ap.same ng s6j) (Ap.same hzi sj)
 have elj : (upd H9 lj (.lst ((Si st [V.ref a_NOUGHT]).flatten ++ zs))) lj = some (.lst ((Si st [V.ref a_NOUGHT]).flatten ++ zs)) := Aa
 have hljH : H lj = none := ((s07.trans si)).free hlj
 generalize upd H9 lj (.lst ((Si st [V.ref a_NOUGHT]).flatten ++ zs)) = H10 at sj s6j nj elj ⊢
 refine ⟨_, rfl, P0, fun one hone => ?_⟩
 have sk : Af H10 (upd H10 one (.tup [])) := Af.new hone
 refine ⟨_, rfl, P3, fun tt htt => ?_⟩
 have sl : Af (upd H10 one (.tup [])) (upd (upd H10 one (.tup [])) tt (.tup [.ref lj, .ref one, .ref oth])) := Af.new htt
 have skl := sk.trans sl
 exact q tt lj one oth _ _ os ((s06.trans s6j).trans skl) (SqT.of Aa) hljH (skl _ _ elj) (Ap.same nj skl) (SqT.of (sl _ _ Aa)) ((hos.same sg).same (s6j.trans skl)) hog hol hob' hoe'
theorem Ba : Ar ["_law_pen_here", "_law_places_here", "_law_curve_here", "_law_many", "_law_heights", "_law_spots", "_law_k", "_law_spot", "_law_by"] ["_law_pen_here", "_law_places_here", "_law_curve_here", "_law_many"] (Ae (top 55)) := ⟨rfl, rfl, rfl, by decide +kernel, rfl, by decide +kernel, by decide +kernel⟩
theorem ET {f : Addr} {fd : FuncData} (F : Fun K "_law_planted" "_law_planted" (top 55) f fd) (Qx : Fd P w K mg base 35 "_law_at" ["_law_curve_here", "_law_x"] (JU K)) (Qe : Fd P w K mg base 33 "_law_draw" ["_law_pen_here", "_law_many"] (En)) (Qk : Fd P w K mg base 34 "_law_number" ["_law_pen_here"] (Il 8)) (Ql : Fd P w K mg base 34 "_law_plus" ["_law_a", "_law_b"] (Dc K (· + ·))) (Qd : mg "range" = none) (Qc : mg "len" = none) (hT : P.given.tree = none) :
 AH P w K mg base CX0 36 f fd ["_law_pen_here", "_law_places_here", "_law_curve_here", "_law_many"] (El K) := by
 refine F.ok Ba (fun vs H Q E h => ?_) (fun cdv A outer s H vs Q E hr h => ?_)
 ·obtain ⟨_, _, _, _, _, _, _, _, _, rfl, _⟩ := h; rfl
 refine ⟨_, (Ab (K := K) (JZ (i := 4) rfl Ba.nd rfl rfl (N := ["_law_x", "_law_curve_here"]) (nt := 1) (js := [2]) (Be.look (NX := ["_law_pen_here", "_law_places_here", "_law_curve_here", "_law_many", "_law_heights", "_law_spots", "_law_k", "_law_spot", "_law_by"]) (sc := Ae (top 55)) rfl rfl (by decide +kernel)) (piL K (pv 1)) (fun u1 u2 u3 u4 u5 => (Av (i := 0) (show List.Nodup (["_law_x", "_law_curve_here"] : List Str) from by decide +kernel) rfl (Or.inl rfl))) (AL (by decide)) (fun u1 u2 u3 u4 u5 => BP) (fun u1 u2 u3 u4 u5 => (Ao Qx hr rfl (A0 (pv 1) (A0 (pv 0) Ac)))) rfl)
  (Ab (K := K) (Ai (i := 5) Ba.nd rfl (Or.inl rfl) (AS Ac))
  (Ab (K := K) (Bb (K := K) PassesOwn.never rfl (Bp rfl Qd (A0 (pv 3) Ac)) (Av (i := 6) Ba.nd rfl (Or.inl rfl)) (Ab (K := K) (Ai (i := 7) Ba.nd rfl (Or.inl rfl) (Ao Qe hr rfl (A0 (pv 0) (A0 (Aq (Bx K) rfl Qc AD (A0 (pv 1) Ac)) Ac))))
  (Ag (AQ (K := K) (As (Ot K) (pv 7) (pv 5) (by with_unfolding_all rfl)) (Ab (K := K) (BQ (Dj K PySem.F.plainAttrs_list PySem.F.slot_list_append PySem.F.type_list_append Cp (pv 5) (A0 (pv 7) Ac)))
  (Ab (K := K) (Ai (i := 8) Ba.nd rfl (Or.inl rfl) (Ao Qk hr rfl (A0 (pv 0) Ac)))
  (Ab (K := K) (AQ (K := K) (As (eqD K hr.units) (pv 8) (AR (A0 Ad (A0 Ad Ac))) (Ay _)) (Ag (Ai (i := 8) Ba.nd rfl (Or.inl rfl) (AR (A0 Ad (A0 Ad Ac))))) AK (by rfl) (by rfl))
  (Ag (Eu (Ao Ql hr rfl (A0 (Aj (ixL K) (pv 4) (pv 7) (fun u v => rfl)) (A0 (pv 8) Ac))) (FD (pv 4) (pv 7) Dd))) (by rfl)) (by rfl)) (by rfl)) AK (by rfl) (by rfl))) (by rfl)) (by rfl))
  (Ag (Ax (pv 4))) (by rfl)) (by rfl)) (by rfl)), ?_⟩
 obtain ⟨a, l, c, k, zs, qs, cs, mc, nx, rfl, pn, la, el, hz, hc, hq1, hq12, hc12, bq, bc, hmc, hnx, hk, q⟩ := h
 have P0 : 0 ≤ sizeLine := by decide
 have P2 : 2 ≤ sizeLine := by decide
 have hzl := hz.length
 obtain ⟨xc, hxc, hcn⟩ := (id hc)
 obtain ⟨B, hB⟩ : ∃ B, B = (mc + nx * cs.length + 4) * (cs.length + 2) := ⟨_, rfl⟩
 have hnc : nx * cs.length ≤ 100 * 12 := UE hnx hc12
 have hB2 : B ≤ 101204 * 14 := by rw [hB]; exact UE (by lia) (by lia)
 rw [← hB] at q
 refine Ce ⟨_, rfl, l, rfl, ⟨_, SqL.of el⟩, ?_⟩
 refine DQ (xs := zs) (L5 H K qs cs B fun H K qs cs B i us G => Af H G ∧ us.length = i ∧ Ap K G us ((qs.take i).map fun x => Cv.ev cs x) ∧ ∀ y ∈ (qs.take i).map (fun x => Cv.ev cs x), RB B y) ⟨Af.refl _, rfl, .nil, (fun _ h => nomatch h)⟩ (fun i us G _ h => ⟨SqL.of (h.1 _ _ el), h.2.1⟩) (RW (AF (by lia))) ?_ ?_
 ·rintro i v us G hv hR1
  refine Dw hR1 fun sg hul hun hub => ?_
  try clear hR1
  obtain ⟨x, hx, hvx⟩ := (Paired.get hz hv)
  obtain ⟨rx, rfl, _⟩ := (id hvx)
  refine ⟨_, rfl, _, rfl, false, c, rx, xc, cs, x, mc, nx, rfl, hxc.same sg, Ap.same hcn sg, hvx.same sg, bc, bq x (Sr hx), by lia, fun p1 G1 s1 e1 b1 => ?_⟩
  refine ⟨sg.trans s1, by simp [hul], ?_, ?_⟩
  ·rw [Tf, hx, Tg]
   exact Paired.snoc (Ap.same hun s1) (AB.of e1)
  ·intro y hy
   rw [Tf, hx, Tg] at hy
   rcases S2.mp hy with z | z
   ·exact hub y z
   ·rw [Tw.mp z, hB]
    exact b1.mono (V0 _ (by lia))
 rintro ys G hR2 lh hlh
 refine Dw hR2 fun sg hyl hys hyb => ?_
 try clear hR2
 rw [hzl, UZ] at hys hyb
 have n1 := Af.new (o := .lst ys) hlh
 have hHlh : H lh = none := by
  cases z : H lh with
  | none => rfl
  | some o => rw [sg _ _ z] at hlh; cases hlh
 refine ⟨P0, fun sp hsp => ?_⟩
 have n2 := Af.new (o := .lst []) hsp
 have hne : lh ≠ sp := fun z => by rw [← z, Aa] at hsp; cases hsp
 have pn2 : Pen (upd (upd G lh (.lst ys)) sp (.lst [])) a := ((pn.sm sg).sm n1).sm n2
 have elh := n2 _ _ (Aa (H := G) (a := lh) (o := .lst ys))
 have esp := Aa (H := upd G lh (.lst ys)) (a := sp) (o := .lst [])
 have hys2 := Ap.same (Ap.same hys n1) n2
 have m2 : Mv a H (upd (upd G lh (.lst ys)) sp (.lst [])) := ((sg.trans n1).trans n2).mv
 have lha : lh ≠ a := (pn.sm sg).ne' hlh
 have spa : sp ≠ a := ((pn.sm sg).sm n1).ne' hsp
 have hll : lh ≠ l := fun z => by rw [z, el] at hHlh; cases hHlh
 have hlsp : l ≠ sp := fun z => by rw [← z, n1 _ _ (sg _ _ el)] at hsp; cases hsp
 have hHsp : H sp = none := by
  cases z : H sp with
  | none => rfl
  | some o => rw [n1 _ _ (sg _ _ z)] at hsp; cases hsp
 generalize upd (upd G lh (.lst ys)) sp (.lst []) = G2 at pn2 elh esp hys2 m2 ⊢
 refine ⟨_, rfl, _, rfl, by lia, by lia, ?_⟩
 rw [Sy]
 refine BK (n := k) (L11 a l c k lh sp H K qs cs B fun a l c k lh sp H K qs cs B i σ G => ∃ (us : List V) (ts : List Int) (hs : List Rat) (z6 z7 z8 : Option V), σ = [some (.ref a), some (.ref l), some (.ref c), some (.int (k : Int)), some (.ref lh), some (.ref sp), z6, z7, z8] ∧ Mv a H G ∧ Pen G a ∧ G lh = some (.lst us) ∧ G sp = some (.lst (ts.map V.int)) ∧ ts.length ≤ i ∧ Ap K G us hs ∧ hs.length = qs.length ∧ ((qs.zip hs).filter (bad cs)).length ≤ i ∧ ∀ y ∈ hs, RB (B + 9 * i) y)
  ⟨ys, [], qs.map fun x => Cv.ev cs x, none, none, none, rfl, m2, pn2, elh, esp, S9 _, hys2, by rw [Su], by rw [J7]; exact S9 _, fun y hy => (hyb y hy).mono (by lia)⟩ ?_ ?_
 ·rintro i σ G hi hR3
  refine OO hR3 fun us ts hs z6 z7 z8 hz157' => ?_
  refine NQ hz157' fun hq156 mg pg eg es htl hun hhl hbad hb => ?_
  clear hz157'
  obtain rfl := hq156
  try clear hR3
  have elg := mg _ _ la el
  have hul := hun.length
  refine ⟨_, rfl, _, rfl, l, zs, rfl, .inl (SqL.of elg), a, _, rfl, pg, by lia, by lia, fun s G1 s0 s1 o1 p1 => ?_⟩
  obtain ⟨S, rfl⟩ : ∃ S : Nat, s = (S : Int) := ⟨s.toNat, by lia⟩
  have m1 := BU.mv o1
  have eg := m1 _ _ lha eg
  have es := m1 _ _ spa es
  have hun := Ap.mv hun pg m1
  have mg := mg.trans m1
  clear o1 m1
  refine ⟨_, rfl, _, rfl, sp, ts.map V.int, rfl, .inl (SqL.of es), rfl, by rw [List.all_map]; exact Tp.mpr fun x _ => rfl, _, rfl, ?_⟩
  refine Gk (fun _ => ?_) (fun _ => ?_)
  ·refine ⟨_, rfl, .inl ⟨rfl, _, SqL.of es⟩, _, rfl, sp, _, _, rfl, rfl, es, RN (show _ < 300 by rw [Su]; lia) (by decide), ?_⟩
   have eS := Aa (H := G1) (a := sp) (o := .lst (ts.map V.int ++ [.int (S : Int)]))
   have mS : Mv a H (upd G1 sp (.lst (ts.map V.int ++ [.int (S : Int)]))) := fun b u hb e => by
    have hbs : b ≠ sp := fun z => by rw [z, hHsp] at e; cases e
    rw [Am hbs]; exact mg b u hb e
   have pS : Pen (upd G1 sp (.lst (ts.map V.int ++ [.int (S : Int)]))) a := by
    refine CK p1 fun x0 x1 x2 e => ?_
    exact ⟨x0, x1, x2, by rw [Am spa.symm]; exact e⟩
   have eg2 : (upd G1 sp (.lst (ts.map V.int ++ [.int (S : Int)]))) lh = some (.lst us) := by rw [Am hne]; exact eg
   have hun2 := Ap.put (o := .lst (ts.map V.int ++ [.int (S : Int)])) hun es
   generalize upd G1 sp (.lst (ts.map V.int ++ [.int (S : Int)])) = G2 at eS mS pS eg2 hun2 ⊢
   clear es eg hun mg p1 pg
   refine ⟨_, rfl, a, rfl, pS, fun b rb G3 m3 p3 hrb bbn bbd => ?_⟩
   have eg := m3 _ _ lha eg2
   have es := m3 _ _ spa eS
   have hun := Ap.mv hun2 pS m3
   have mg := mS.trans m3
   clear eS mS eg2 hun2 pS m3
   try dsimp only
   refine Kw (L9 a l c k lh sp i S G3 fun a l c k lh sp i S G3 σ' G => ∃ (rb : Addr) (b : Rat), σ' = [some (.ref a), some (.ref l), some (.ref c), some (.int (k : Int)), some (.ref lh), some (.ref sp), some (.int (0 + (i : Int))), some (.int (S : Int)), some (.ref rb)] ∧ Af G3 G ∧ G rb = some (nT b) ∧ RB 8 b) (fun nx hnx => ?_) ?_
   ·refine ⟨_, rfl, P2, fun u1 g1 => ?_⟩
    have w1 := Af.new (o := .tup [.int 0, .int 1]) g1
    refine eqN (AB.of (w1 _ _ hrb)) (AB.of (Aa (o := nT 0))) ?_
    refine ⟨_, rfl, ?_⟩
    refine Gk (fun _ => ?_) (fun _ => ?_)
    ·refine ⟨P2, fun u2 g2 => ?_⟩
     exact hnx _ _ ⟨u2, r13, rfl, w1.trans (Af.new g2), by rw [Ox]; exact Aa, O3⟩
    ·exact hnx _ _ ⟨rb, b, rfl, w1, w1 _ _ hrb, bbn, bbd⟩
   rintro σ' G4 hR4
   refine Ct hR4 fun rb b hz160' => ?_
   refine Dw hz160' fun hq159 s4 erb bb => ?_
   clear hz160'
   obtain rfl := hq159
   try clear hR4
   have eg := s4 _ _ eg
   have es := s4 _ _ es
   have hun := Ap.same hun s4
   have mg := mg.trans s4.mv
   have p4 := p3.sm s4
   clear s4 p3 hrb
   have hSl : S < hs.length := by lia
   obtain ⟨vy, hvy, nvy⟩ := (Paired.get' hun (Tx hSl))
   have bS := hb _ (Tz hSl)
   refine ⟨_, rfl, _, rfl, lh, us, _, _, rfl, rfl, SqL.of eg, AW hvy, _, rfl, _, _, hs[S], b, B + 9 * i, 8, rfl, nvy, AB.of erb, bS, bb, by lia, fun p5 h5 => ?_⟩
   have n5 := Af.new (o := nT (hs[S] + b)) h5
   refine ⟨_, rfl, _, rfl, lh, us, _, S, rfl, rfl, n5 _ _ eg, by unfold ixN; rw [if_pos (by lia), if_pos (by lia), Sy], ?_⟩
   have eg5 := n5 _ _ eg
   have hun5 := Ap.same hun n5
   have e5 := Aa (H := G4) (a := p5) (o := nT (hs[S] + b))
   refine ⟨us.set S (.ref p5), ts ++ [(S : Int)], hs.set S (hs[S] + b), _, _, _, rfl, ?_, ?_, Aa, ?_, by rw [Ss, SK]; lia, ?_, by rw [SF]; exact hhl, ?_, ?_⟩
   ·intro x u hx e
    have hxl : x ≠ lh := fun z => by rw [z, hHlh] at e; cases e
    rw [Am hxl]
    exact n5 _ _ (mg x u hx e)
   ·refine CK (p4.sm n5) fun x0 x1 x2 e => ?_
    exact ⟨x0, x1, x2, by rw [Am lha.symm]; exact e⟩
   ·rw [Am hne.symm, Tg]; exact n5 _ _ es
   ·exact Paired.set (AB.put (AB.of e5) eg5) S (Ap.put hun5 eg5)
   ·have := Kl cs (hs[S] + b) qs hs S
    lia
   ·intro y hy
    rcases V2 hy with z | z
    ·exact (hb y z).mono (by lia)
    ·rw [z]; exact (RB.plus bS bb).mono (by lia)
  ·exact ⟨us, ts, hs, _, _, _, rfl, mg, p1, eg, es, by lia, hun, hhl, by lia, fun y hy => (hb y hy).mono (by lia)⟩
 ·rintro σ G hR5
  refine OO hR5 fun us ts hs z6 z7 z8 hz163' => ?_
  refine NQ hz163' fun hq162 mg pg eg es htl hun hhl hbad hb => ?_
  clear hz163'
  obtain rfl := hq162
  try clear hR5
  exact ⟨_, rfl, q lh G us hs mg pg hHlh lha eg hun hhl hbad hb⟩
theorem DH : Ar ["_law_pen_here", "_law_most", "_law_some"] ["_law_pen_here", "_law_most"] (Ae (top 53)) := ⟨rfl, rfl, rfl, by decide +kernel, rfl, by decide +kernel, by decide +kernel⟩
theorem Gj {f : Addr} {fd : FuncData} (F : Fun K "_law_curve" "_law_curve" (top 53) f fd) (Qk : Fd P w K mg base 34 "_law_number" ["_law_pen_here"] (Il 8)) (Qe : Fd P w K mg base 33 "_law_draw" ["_law_pen_here", "_law_many"] (En)) (Qf : mg "tuple" = none) (Qd : mg "range" = none) (hT : P.given.tree = none) :
 AH P w K mg base CX0 35 f fd ["_law_pen_here", "_law_most"] (Hb K 8) := by
 refine F.ok DH (fun vs H Q E h => ?_) (fun cdv A outer s H vs Q E hr h => ?_)
 ·obtain ⟨_, _, rfl, _⟩ := h; rfl
 refine ⟨_, (Ab (K := K) (JZ (i := 2) rfl DH.nd rfl rfl (N := ["_law_k", "_law_pen_here"]) (nt := 1) (js := [0]) (Be.look (NX := ["_law_pen_here", "_law_most", "_law_some"]) (sc := Ae (top 53)) rfl rfl (by decide +kernel)) (Bp rfl Qd (A0 (Ao Qe hr rfl (A0 (pv 0) (A0 (Ah AG (pv 1) Ad) Ac))) Ac)) (fun u1 u2 u3 u4 u5 => (Av (i := 0) (show List.Nodup (["_law_k", "_law_pen_here"] : List Str) from by decide +kernel) rfl (Or.inl rfl))) (AL (by decide)) (fun u1 u2 u3 u4 u5 => BP) (fun u1 u2 u3 u4 u5 => (Ao Qk hr rfl (A0 (pv 1) Ac))) rfl)
  (Ab (K := K) (Di PassesOwn.never (PW.pt (Fy (As (neD K hr.units) (pv 2) (AS Ac) (Ay _)) (E1 (As (eqD K hr.units) (Aj (ixL K) (pv 2) (Iv Ff Ad) (fun u v => rfl)) (AR (A0 Ad (A0 Ad Ac))) (Ay _))))) (Ag (BQ (N9 K PySem.F.plainAttrs_list PySem.F.slot_list_pop PySem.F.type_list_pop Oz (pv 2)))))
  (Ag (Ax (CH (GQ K) rfl Qf Eh (A0 (pv 2) Ac)))) (by rfl)) (by rfl)), ?_⟩
 obtain ⟨a, most, rfl, pn, h0, h1, q⟩ := h
 have P0 : 0 ≤ sizeLine := by decide
 have P2 : 2 ≤ sizeLine := by decide
 refine Ce ⟨_, rfl, _, rfl, _, _, rfl, rfl, a, most + 1, rfl, pn, by lia, by lia, fun n H1 n0 n1 o1 p1 => ⟨n, rfl, by lia, by lia, ?_⟩⟩
 have hN : (n.toNat : Int) ≤ most := by lia
 generalize n.toNat = N at hN
 refine LZ (L3 a H K fun a H K i zs H' => Mv a H H' ∧ Pen H' a ∧ zs.length = i ∧ ∃ qs, Ap K H' zs qs ∧ ∀ q ∈ qs, RB 8 q) ⟨o1.mv, p1, rfl, [], .nil, (fun _ h => nomatch h)⟩ (fun i zs H' _ h => h.2.2.1) (RW (AF (by lia))) ?_ ?_
 ·rintro i zs H' hi hR1
  obtain ⟨mv, pn', hz, qs, hq, hb⟩ := hR1
  try clear hR1
  refine ⟨_, rfl, a, rfl, pn', fun x r H3 m3 p3 hr bn bd => ⟨mv.trans m3, p3, by simp [hz], qs ++ [x], Paired.snoc (Ap.mv hq pn' m3) (AB.of hr), fun c hc => ?_⟩⟩
  rcases S2.mp hc with z | z
  ·exact hb c z
  ·have e : c = x := by simpa using z
   subst e; exact ⟨bn, bd⟩
 rintro zs Hz hR2 l hl
 obtain ⟨mvz, pnz, hzl, qs, hqz, hb⟩ := hR2
 try clear hR2
 have hql : qs.length = N := by rw [← hqz.length]; exact hzl
 have la : l ≠ a := by
  refine CK pnz fun x0 x1 x2 ex => ?_
  exact (Au ex hl).symm
 have hHl : H l = none := by
  cases z : H l with
  | none => rfl
  | some u => rw [mvz l u la z] at hl; cases hl
 refine ND (L8 a H K zs qs most l N fun a H K zs qs most l N σ H' => Mv a H H' ∧ Pen H' a ∧ Ap K H' zs qs ∧ σ = [some (.ref a), some (.int most), some (.ref l)] ∧ ∃ v, v ≤ N ∧ H' l = some (.lst (zs.take v)) ∧ ∀ j q, v ≤ j → qs[j]? = some q → q = 0)
  (fun _ H' => match H' l with | some (.lst xs) => xs.length | _ => 0) ⟨Mv.put' mvz hHl, pnz.same hl, Ap.same hqz (Af.new hl), rfl, N, S9 _, by rw [TX (by lia)]; exact Aa, fun j c hj e => absurd (S4.mp e).1 (by lia)⟩ ?_
 rintro σ Hc hR3
 obtain ⟨mv, pn', hq, rfl, v, hv, el, hall⟩ := hR3
 try clear hR3
 refine ⟨_, rfl, P0, fun e he => ?_⟩
 have sE : Af Hc (upd Hc e (.lst [])) := Af.new he
 refine eqL (ps := qs.take v) (qs := []) (SqL.of (sE _ _ el)) (Paired.take v (Ap.same hq sE)) (SqL.of Aa) .nil ?_
 refine ⟨_, rfl, ?_⟩
 have fin : (v = 0 ∨ ∃ q, qs[v - 1]? = some q ∧ q ≠ 0) → qs.take v = Cv.strip qs := fun hc => Cv.take_strip qs v hall hc
 by_cases hv0 : v = 0
 ·have e0 : qs.take v = [] := by rw [hv0]; rfl
  refine AM (by rw [decide_eq_true e0] <;> rfl) (IV ?_)
  refine ⟨_, rfl, l, _, rfl, .inl ⟨SqL.of (sE _ _ el), fun r hr => ?_⟩⟩
  have sZ := sE.trans (Af.new (o := .tup (zs.take v)) hr)
  refine q (qs.take v) r _ (mv.trans sZ.mv) (pn'.sm sZ) ⟨zs.take v, SqT.of Aa, Paired.take v (Ap.same hq sZ)⟩ ?_ ?_ fun c hc => hb c (UC hc)
  ·rw [fin (.inl hv0)]; exact C8 _
  ·rw [Sj]; lia

 have hvi : v - 1 < qs.length := by lia
 have hqv : qs[v - 1]? = some qs[v - 1] := Tx hvi
 have hne : qs.take v ≠ [] := fun z => by
  have := congrArg List.length z
  rw [Sj, Sz (by lia)] at this
  exact hv0 this
 refine AZ (by rw [decide_eq_false hne] <;> rfl) ?_
 obtain ⟨x, hx, hxn⟩ := (Paired.get' hq hqv)
 have hlast : (zs.take v)[(zs.take v).length - 1]? = some x := by
  rw [Sj, Sz (by lia), Us, if_pos (by lia)]
  exact hx
 refine ⟨_, rfl, _, rfl, l, _, _, x, rfl, rfl, SqL.of (sE _ _ el), J8 hlast, P2, fun t0 ht0 => ?_⟩
 have sF := sE.trans (Af.new (o := .tup [.int 0, .int 1]) ht0)
 refine eqN (q := 0) (hxn.same sF) (AB.of (Aa (o := nT 0))) ?_
 refine ⟨_, rfl, ?_⟩
 by_cases hq0 : qs[v - 1] = 0
 ·refine AZ (by rw [decide_eq_true hq0] <;> rfl) (NC ?_)
  have elF := sF _ _ el
  refine ⟨_, rfl, .inl ⟨rfl, _, SqL.of elF⟩, l, _, x, rfl, rfl, elF, hlast, ?_⟩
  refine ⟨⟨Mv.put' (mv.trans sF.mv) hHl, ?_, Ap.put (Ap.same hq sF) elF, rfl, v - 1, by lia, ?_, fun j c hj e => ?_⟩, ?_⟩
  ·refine CK (pn'.sm sF) fun x0 x1 x2 ex => ?_
   exact ⟨x0, x1, x2, by rw [Am (Ne.symm la)]; exact ex⟩
  ·rw [Aa, List.dropLast_eq_take, Sj, Sz (by lia), List.take_take, Sz (by lia)]
  ·by_cases hjv : v ≤ j
   ·exact hall j c hjv e
   ·have : j = v - 1 := by lia
    subst this
    rw [hqv] at e
    cases e
    exact hq0
  ·show (match upd _ l _ l with | some (.lst xs) => xs.length | _ => 0) < (match Hc l with | some (.lst xs) => xs.length | _ => 0)
   rw [Aa, el]
   show (zs.take v).dropLast.length < (zs.take v).length
   have e1 : (zs.take v).length = v := by rw [Sj, Sz (by lia)]
   rw [List.length_dropLast, e1]
   exact Nat.sub_lt (SU hv0) Nat.zero_lt_one
 ·refine AM (by rw [decide_eq_false hq0] <;> rfl) ?_
  refine ⟨_, rfl, l, _, rfl, .inl ⟨SqL.of (sF _ _ el), fun r hr => ?_⟩⟩
  have sZ := sF.trans (Af.new (o := .tup (zs.take v)) hr)
  refine q (qs.take v) r _ (mv.trans sZ.mv) (pn'.sm sZ) ⟨zs.take v, SqT.of Aa, Paired.take v (Ap.same hq sZ)⟩ ?_ ?_ fun c hc => hb c (UC hc)
  ·rw [fin (.inr ⟨_, hqv, hq0⟩)]; exact C8 _
  ·rw [Sj]; lia
theorem BS : Ar ["_law_script", "_law_pen_here", "_law_places_here", "_law_many", "_law_width", "_law_most", "_law_heights", "_law_near_here", "_law_found", "_law_left", "_law_one", "_law_other"] ["_law_script"] (Ae (top 59)) := ⟨rfl, rfl, rfl, by decide +kernel, rfl, by decide +kernel, by decide +kernel⟩
theorem Oq {f : Addr} {fd : FuncData} (F : Fun K "law" "law" (top 59) f fd) (Rg : Fd P w K mg base 33 "_law_pen" ["_law_script", "_law_k"] (Lq K)) (Rh : Fd P w K mg base 35 "_law_places" ["_law_pen_here", "_law_many"] (Em K 8)) (Qe : Fd P w K mg base 33 "_law_draw" ["_law_pen_here", "_law_many"] (En)) (QM : Fd P w K mg base 40 "_law_near" ["_law_places_here", "_law_heights", "_law_width", "_law_most"] (Jq K)) (F_judged : Fd P w K mg base 40 "judged" ["places", "heights", "width", "most"] (Fn K 172)) (Ri : Fd P w K mg base 37 "doubtful" ["places", "width"] (Ha K)) (Rj : Fd P w K mg base 36 "_law_planted" ["_law_pen_here", "_law_places_here", "_law_curve_here", "_law_many"] (El K)) (Qz : Fd P w K mg base 36 "_law_missing" ["_law_places_here", "_law_heights", "_law_curve_here"] (GZ K)) (Rk : Fd P w K mg base 35 "_law_curve" ["_law_pen_here", "_law_most"] (Hb K 8)) (Qc : mg "len" = none) (b_min : mg "min" = none) (hT : P.given.tree = none) :
 AH P w K mg base CX0 41 f fd ["_law_script"] (Fm K 172) := by
 refine F.ok BS (fun vs H Q E h => ?_) (fun cdv A outer s H vs Q E hr h => ?_)
 ·obtain ⟨_, _, rfl, _⟩ := h; rfl
 refine ⟨_, (@Ab _ _ _ _ _ K _ (@Ai _ _ 1 _ _ _ _ BS.nd rfl (Or.inr rfl) (@Ao _ _ _ _ _ _ _ _ _ _ _ Rg hr rfl (@A0 _ _ _ _ _ (pv 0) (@A0 _ _ _ _ _ Ad Ac (by rfl)) (by rfl)) (by decide) (by decide) (by rfl) (by rfl)) (by rfl) (by first   | exact .inl rfl   | exact .inr rfl   | assumption)) (@Ab _ _ _ _ _ K _ (@Ai _ _ 2 _ _ _ _ BS.nd rfl (Or.inl rfl) (@Ao _ _ _ _ _ _ _ _ _ _ _ Rh hr rfl (@A0 _ _ _ _ _ (pv 1) (@A0 _ _ _ _ _ (@Ah _ _ _ _ _ _ _ _ AG Ad (@Ao _ _ _ _ _ _ _ _ _ _ _ Qe hr rfl (@A0 _ _ _ _ _ (pv 1) (@A0 _ _ _ _ _ Ad Ac (by rfl)) (by rfl)) (by decide) (by decide) (by rfl) (by rfl))) Ac (by rfl)) (by rfl)) (by decide) (by decide) (by rfl) (by rfl)) (by rfl) (by first   | exact .inl rfl   | exact .inr rfl   | assumption)) (@Ab _ _ _ _ _ K _ (@Ai _ _ 3 _ _ _ _ BS.nd rfl (Or.inl rfl) (@Aq _ _ _ _ _ _ _ _ _ (Bx K) rfl Qc AD (@A0 _ _ _ _ _ (pv 2) Ac (by rfl)) (by decide) (by decide) (by rfl) (by rfl)) (by rfl) (by first   | exact .inl rfl   | exact .inr rfl   | assumption)) (@Ab _ _ _ _ _ K _ (@Ai _ _ 4 _ _ _ _ BS.nd rfl (Or.inl rfl) (@Ah _ _ _ _ _ _ _ _ AG Ad (@Ao _ _ _ _ _ _ _ _ _ _ _ Qe hr rfl (@A0 _ _ _ _ _ (pv 1) (@A0 _ _ _ _ _ (@Aq _ _ _ _ _ _ _ _ _ (KZ rfl) rfl b_min OS (@A0 _ _ _ _ _ Ad (@A0 _ _ _ _ _ (pv 3) Ac (by rfl)) (by rfl)) (by decide) (by decide) (by rfl) (by rfl)) Ac (by rfl)) (by rfl)) (by decide) (by decide) (by rfl) (by rfl))) (by rfl) (by first   | exact .inl rfl   | exact .inr rfl   | assumption)) (@Ab _ _ _ _ _ K _ (@Ai _ _ 5 _ _ _ _ BS.nd rfl (Or.inl rfl) (@Ao _ _ _ _ _ _ _ _ _ _ _ Qe hr rfl (@A0 _ _ _ _ _ (pv 1) (@A0 _ _ _ _ _ (@Ah _ _ _ _ _ _ _ _ AG (@Ah _ _ _ _ _ _ _ _ (Bi hr hT) (@Ah _ _ _ _ _ _ _ _ AU (pv 3) (pv 4)) Ad) Ad) Ac (by rfl)) (by rfl)) (by decide) (by decide) (by rfl) (by rfl)) (by rfl) (by first   | exact .inl rfl   | exact .inr rfl   | assumption)) (@Ab _ _ _ _ _ K _ (@JZ _ (["_law_x", "_law_pen_here"]) 1 ([1]) _ _ _ _ _ _ _ _ _ _ 6 _ _ _ rfl BS.nd rfl rfl (Be.look (NX := ["_law_script", "_law_pen_here", "_law_places_here", "_law_many", "_law_width", "_law_most", "_law_heights", "_law_near_here", "_law_found", "_law_left", "_law_one", "_law_other"]) (sc := Ae (top 59)) rfl rfl (by decide +kernel)) (@piL _ K _ _ _ (pv 2) (by rfl)) (fun u1 u2 u3 u4 u5 => (@Av _ _ 0 _ (show List.Nodup (["_law_x", "_law_pen_here"] : List Str) from by decide +kernel) rfl (Or.inl rfl) (by first   | exact .inl rfl   | exact .inr rfl   | assumption))) (AL (by decide)) (fun u1 u2 u3 u4 u5 => BP) (fun u1 u2 u3 u4 u5 => (@AR _ _ _ _ _ (@A0 _ _ _ _ _ (@Ao _ _ _ _ _ _ _ _ _ _ _ Qe hr rfl (@A0 _ _ _ _ _ (pv 1) (@A0 _ _ _ _ _ Ad Ac (by rfl)) (by rfl)) (by decide) (by decide) (by rfl) (by rfl)) (@A0 _ _ _ _ _ Ad Ac (by rfl)) (by rfl)))) rfl (by intro _; rfl)) (@Ab _ _ _ _ _ K _ (@AQ _ _ _ _ _ _ _ _ K _ _ (@As _ _ _ _ _ _ _ _ E5 (@Ao _ _ _ _ _ _ _ _ _ _ _ Qe hr rfl (@A0 _ _ _ _ _ (pv 1) (@A0 _ _ _ _ _ Ad Ac (by rfl)) (by rfl)) (by decide) (by decide) (by rfl) (by rfl)) Ad (Ay _)) (@Ag _ _ _ (@Ai _ _ 6 _ _ _ _ BS.nd rfl (Or.inl rfl) (@Ao _ _ _ _ _ _ _ _ _ _ _ Rj hr rfl (@A0 _ _ _ _ _ (pv 1) (@A0 _ _ _ _ _ (pv 2) (@A0 _ _ _ _ _ (@Ao _ _ _ _ _ _ _ _ _ _ _ Rk hr rfl (@A0 _ _ _ _ _ (pv 1) (@A0 _ _ _ _ _ (pv 4) Ac (by rfl)) (by rfl)) (by decide) (by decide) (by rfl) (by rfl)) (@A0 _ _ _ _ _ (@Ao _ _ _ _ _ _ _ _ _ _ _ Qe hr rfl (@A0 _ _ _ _ _ (pv 1) (@A0 _ _ _ _ _ Ad Ac (by rfl)) (by rfl)) (by decide) (by decide) (by rfl) (by rfl)) Ac (by rfl)) (by rfl)) (by rfl)) (by rfl)) (by decide) (by decide) (by rfl) (by rfl)) (by rfl) (by first   | exact .inl rfl   | exact .inr rfl   | assumption))) AK (by rfl) (by rfl)) (@Ab _ _ _ _ _ K _ (@Ai _ _ 7 _ _ _ _ BS.nd rfl (Or.inl rfl) (@Ao _ _ _ _ _ _ _ _ _ _ _ QM hr rfl (@A0 _ _ _ _ _ (pv 2) (@A0 _ _ _ _ _ (pv 6) (@A0 _ _ _ _ _ (pv 4) (@A0 _ _ _ _ _ (pv 5) Ac (by rfl)) (by rfl)) (by rfl)) (by rfl)) (by decide) (by decide) (by rfl) (by rfl)) (by rfl) (by first   | exact .inl rfl   | exact .inr rfl   | assumption)) (@Ab _ _ _ _ _ K _ (@Ai _ _ 8 _ _ _ _ BS.nd rfl (Or.inl rfl) (@Ao _ _ _ _ _ _ _ _ _ _ _ F_judged hr rfl (@A0 _ _ _ _ _ (pv 2) (@A0 _ _ _ _ _ (pv 6) (@A0 _ _ _ _ _ (pv 4) (@A0 _ _ _ _ _ (pv 5) Ac (by rfl)) (by rfl)) (by rfl)) (by rfl)) (by decide) (by decide) (by rfl) (by rfl)) (by rfl) (by first   | exact .inl rfl   | exact .inr rfl   | assumption)) (@Ab _ _ _ _ _ K _ (@AQ _ _ _ _ _ _ _ _ K _ _ (@As _ _ _ _ _ _ _ _ (eqD K hr.units) (pv 7) (@AS _ _ _ _ Ac) (Ay _)) (@Ag _ _ _ (@AQ _ _ _ _ _ _ _ _ K _ _ (@As _ _ _ _ _ _ _ _ FF (@Aj _ _ _ _ _ _ _ (ixT K) (pv 8) Ad (fun u v => rfl)) Hk (Ay _)) (@Ag _ _ _ (@Ax _ _ _ _ LJ)) AK (by rfl) (by rfl))) (@Ab _ _ _ _ _ K _ (@Ai _ _ 9 _ _ _ _ BS.nd rfl (Or.inl rfl) (@Ao _ _ _ _ _ _ _ _ _ _ _ Qz hr rfl (@A0 _ _ _ _ _ (pv 2) (@A0 _ _ _ _ _ (pv 6) (@A0 _ _ _ _ _ (@Aj _ _ _ _ _ _ _ (ixL K) (pv 7) Ad (fun u v => rfl)) Ac (by rfl)) (by rfl)) (by rfl)) (by decide) (by decide) (by rfl) (by rfl)) (by rfl) (by first   | exact .inl rfl   | exact .inr rfl   | assumption)) (@Ag _ _ _ (@AQ _ _ _ _ _ _ _ _ K _ _ (@PW.pt _ _ _ (@JY _ _ _ _ _ _ _ (@As _ _ _ _ _ _ _ _ DI (@Aq _ _ _ _ _ _ _ _ _ (Bx K) rfl Qc AD (@A0 _ _ _ _ _ (pv 7) Ac (by rfl)) (by decide) (by decide) (by rfl) (by rfl)) Ad (Ay _)) (@Hj _ _ _ _ (@As _ _ _ _ _ _ _ _ (neD K hr.units) (pv 8) (@AR _ _ _ _ _ (@A0 _ _ _ _ _ Hk (@A0 _ _ _ _ _ (@Aj _ _ _ _ _ _ _ (ixL K) (pv 7) Ad (fun u v => rfl)) (@A0 _ _ _ _ _ (pv 9) Ac (by rfl)) (by rfl)) (by rfl))) (Ay _))))) (@Ag _ _ _ (@Ax _ _ _ _ LJ)) AK (by rfl) (by rfl))) (by rfl)) (by rfl) (by rfl)) (@Ab _ _ _ _ _ K _ (@AQ _ _ _ _ _ _ _ _ K _ _ (@PW.pt _ _ _ (@JY _ _ _ _ _ _ _ (@As _ _ _ _ _ _ _ _ E5 (pv 3) Ad (Ay _)) (@Hj _ _ _ _ (@As _ _ _ _ _ _ _ _ E5 (pv 4) (pv 3) (Ay _))))) (@Ag _ _ _ (@Ax _ _ _ _ LJ)) AK (by rfl) (by rfl)) (@Ab _ _ _ _ _ K _ (@Eu _ _ _ _ _ _ (@Ao _ _ _ _ _ _ _ _ _ _ _ Ri hr rfl (@A0 _ _ _ _ _ (pv 2) (@A0 _ _ _ _ _ (pv 4) Ac (by rfl)) (by rfl)) (by decide) (by decide) (by rfl) (by rfl)) (@pgT _ K _ _ _ 3 _ rfl (C4 (@Av _ _ 6 _ BS.nd rfl (Or.inl rfl) (by first   | exact .inl rfl   | exact .inr rfl   | assumption)) (C4 (@Av _ _ 10 _ BS.nd rfl (Or.inl rfl) (by first   | exact .inl rfl   | exact .inr rfl   | assumption)) (C4 (@Av _ _ 11 _ BS.nd rfl (Or.inl rfl) (by first   | exact .inl rfl   | exact .inr rfl   | assumption)) EZ))) (by rfl) (by rfl) (by rfl)) (by rfl) (by rfl) (by rfl)) (@Ab _ _ _ _ _ K _ (@Ai _ _ 7 _ _ _ _ BS.nd rfl (Or.inl rfl) (@Ao _ _ _ _ _ _ _ _ _ _ _ QM hr rfl (@A0 _ _ _ _ _ (pv 2) (@A0 _ _ _ _ _ (pv 6) (@A0 _ _ _ _ _ (pv 4) (@A0 _ _ _ _ _ (@Ah _ _ _ _ _ _ _ _ AG (@Ah _ _ _ _ _ _ _ _ (Bi hr hT) (@Ah _ _ _ _ _ _ _ _ AU (pv 3) (pv 4)) Ad) Ad) Ac (by rfl)) (by rfl)) (by rfl)) (by rfl)) (by decide) (by decide) (by rfl) (by rfl)) (by rfl) (by first   | exact .inl rfl   | exact .inr rfl   | assumption)) (@Ag _ _ _ (@Ax _ _ _ _ (@LK _ _ _ _ _ _ _ (@F0 _ _ _ _ _ _ _ _ (inD K hr) (pv 10) (pv 7) (by with_unfolding_all rfl)) (@LK _ _ _ _ _ _ _ (@F0 _ _ _ _ _ _ _ _ (inD K hr) (pv 11) (pv 7) (by with_unfolding_all rfl)) (@Oh _ _ _ _ _ (@F0 _ _ _ _ _ _ _ _ DI (@Aq _ _ _ _ _ _ _ _ _ (Bx K) rfl Qc AD (@A0 _ _ _ _ _ (pv 7) Ac (by rfl)) (by decide) (by decide) (by rfl) (by rfl)) Ad (Ay _))))))) (by rfl)) (by rfl)) (by rfl)) (by rfl)) (by rfl)) (by rfl)) (by rfl)) (by rfl)) (by rfl)) (by rfl)) (by rfl)) (by rfl)) (by rfl)), ?_⟩
 obtain ⟨a0, ns, rfl, hS, h63, hTb, q⟩ := h
 have P0 : 0 ≤ sizeLine := by decide
 have P2 : 2 ≤ sizeLine := by decide
 have P3 : 3 ≤ sizeLine := by decide
 have P60 : 60 ≤ sizeLine := by decide
 have ok1 : PyData.strOk "one" = true := by decide +kernel
 refine ⟨_, rfl, a0, ns, 0, rfl, hS, h63, by decide, by decide, fun p c0 c1 hp => ?_⟩
 have pn : Pen (upd H p (.lst [.int c0, .int c1, .int 0])) p := .put
 have tb : (upd H p (.lst [.int c0, .int c1, .int 0])) 172 = some (.tbl #[]) := (Af.new hp) _ _ hTb
 generalize upd H p (.lst [.int c0, .int c1, .int 0]) = H1 at pn tb ⊢
 clear hS hp hTb
 refine ⟨_, rfl, _, rfl, p, 6, rfl, pn, by decide, by decide, fun d H5 d0 d1 o5 p5 => ⟨_, _, rfl, rfl, p, _, rfl, p5, by lia, by lia, fun l H6 zs qs m6 p6 hl el hz hql hnd hb => ?_⟩⟩
 have st : S8 K 172 p l zs qs H6 := ⟨p6, p5.ne' hl, el, hz, NG tb pn ((BU.mv o5).trans m6)⟩
 have hzl := hz.length
 obtain ⟨n, hqn, hn1, hn6⟩ : ∃ n, qs.length = n ∧ 1 ≤ n ∧ n ≤ 6 := ⟨_, rfl, by lia, by lia⟩
 clear hl m6 p5 o5 hql p6 el hz tb pn
 refine ⟨_, rfl, l, zs, rfl, .inl (SqL.of st.el), ?_⟩
 rw [hzl, hqn]
 refine ⟨_, rfl, _, rfl, 3, (n : Int), rfl, p, _, rfl, st.pen, by split <;> lia, by split <;> lia, fun w G1 w0 w1 o1 p1 => ⟨_, _, rfl, rfl, ?_⟩⟩
 obtain ⟨W, hW, hW1, hW3, hWn⟩ : ∃ W : Nat, 1 + w = (W : Int) ∧ 1 ≤ W ∧ W ≤ 3 ∧ W ≤ n := ⟨(1 + w).toNat, by split at w1 <;> lia, by lia, by split at w1 <;> lia, by split at w1 <;> lia⟩
 rw [hW]
 have st := st.mv (BU.mv o1) p1
 clear o1 p1 w0 w1 hW
 refine ⟨_, rfl, _, rfl, _, rfl, _, _, rfl, rfl, _, _, rfl, rfl, by decide, ?_⟩
 obtain ⟨R, hR⟩ : ∃ R : Nat, R = (n - W) / 2 := ⟨_, rfl⟩
 have hF : ((n : Int) - (W : Int)).fdiv 2 = (R : Int) := by
  rw [UL _ (by decide)]; lia
 rw [hF]
 refine ⟨_, _, rfl, rfl, p, _, rfl, st.pen, by lia, by lia, fun e G2 e0 e1 o2 p2 => ?_⟩
 obtain ⟨E, rfl⟩ : ∃ E : Nat, e = (E : Int) := ⟨e.toNat, by lia⟩
 have hWe : 2 * E + W ≤ n := by lia
 have st := st.mv (BU.mv o2) p2
 clear o2 p2 e0 e1
 refine Ce ⟨_, rfl, l, rfl, ⟨_, SqL.of st.el⟩, ?_⟩
 refine DQ (xs := zs) (L3 p G2 K fun p G2 K i us G => Mv p G2 G ∧ Pen G p ∧ us.length = i ∧ ∃ ks, Ap K G us ks ∧ ∀ c ∈ ks, RB 8 c) ⟨Mv.refl _ _, st.pen, rfl, [], .nil, (fun _ h => nomatch h)⟩ (fun i us G _ h => ⟨SqL.of (h.1 _ _ st.lp st.el), h.2.2.1⟩) (RV (show zs.length ≤ 60 by lia) P60) ?_ ?_
 ·rintro i v us G hv hR1
  obtain ⟨mg, pg, hul, ks, hks, hkb⟩ := hR1
  try clear hR1
  refine ⟨_, rfl, p, 3, rfl, pg, by decide, by decide, fun v G1 v0 v1 og pg1 => ⟨P2, fun t ht => ?_⟩⟩
  have nt := Af.new (o := .tup [.int v, .int 1]) ht
  refine ⟨(mg.trans (BU.mv og)).trans nt.mv, pg1.sm nt, by simp [hul], ks ++ [((v : Int) : Rat)], Paired.snoc (Ap.same (Ap.mv hks pg (BU.mv og)) nt) (AB.of (by rw [Oy]; exact Aa)), fun c hc => ?_⟩
  rcases S2.mp hc with z | z
  ·exact hkb c z
  ·rw [Tw.mp z]
   exact M5 (by unfold Bd; lia) (by decide)
 rintro ys G hR2 lh hlh
 obtain ⟨mg, pg, hul, hs, hhs, hhb⟩ := hR2
 try clear hR2
 have w1 := Af.new (o := .lst ys) hlh
 have sh : H8s K p lh ys hs n 340 (upd G lh (.lst ys)) := ⟨pg.ne' hlh, Aa, Ap.same hhs w1, by rw [← hhs.length, hul, hzl, hqn], fun y hy => (hhb y hy).mono (by decide)⟩
 have st := (st.mv mg pg).same w1
 generalize upd G lh (.lst ys) = G3 at sh st ⊢
 clear w1 hlh mg pg hul hhs hhb
 try dsimp only
 refine Er (fun σ' G => ∃ (lh : Addr) (ys : List V) (hs : List Rat), σ' = [some (.ref a0), some (.ref p), some (.ref l), some (.int (n : Int)), some (.int (W : Int)), some (.int (E : Int)), some (.ref lh), none, none, none, none, none] ∧ S8 K 172 p l zs qs G ∧ H8s K p lh ys hs n 340 G) (fun nx hnx => ?_) ?_
 ·refine ⟨_, rfl, p, 2, rfl, st.pen, by decide, by decide, fun d G4 d0 d1 o4 p4 => ?_⟩
  have sh := sh.mv st.pen (BU.mv o4)
  have st := st.mv (BU.mv o4) p4
  refine ⟨rfl, _, rfl, ?_⟩
  refine Gk (fun _ => ?_) (fun _ => ?_)
  ·refine ⟨_, rfl, _, rfl, _, rfl, _, rfl, p, _, rfl, st.pen, by lia, by lia, fun cs rc G5 m5 p5 cc gc lc bc => ?_⟩
   have st := st.mv m5 p5
   refine ⟨_, rfl, p, 3, rfl, p5, by decide, by decide, fun d G6 d0 d1 o6 p6 => ?_⟩
   obtain ⟨k, rfl⟩ : ∃ k : Nat, d = (k : Int) := ⟨d.toNat, by lia⟩
   have cc := cc.mv p5 (BU.mv o6)
   have st := st.mv (BU.mv o6) p6
   have kk : (8 + 16 * cs.length + 4) * (cs.length + 2) ≤ 60 * 5 := UE (by lia) (by lia)
   refine ⟨p, l, rc, k, zs, qs, cs, 8, 16, rfl, st.pen, st.lp, st.el, st.nz.nums, cc, by lia, by lia, by lia, hb, bc, by decide, by lia, by lia, fun lh G7 ys hs m7 p7 hno lhp eh hy hhl hbad bh => ?_⟩
   exact hnx _ _ ⟨lh, ys, hs, rfl, st.mv m7 p7, lhp, eh, hy, by rw [hhl, hqn], fun y hy => (bh y hy).mono (by lia)⟩
  ·exact hnx _ _ ⟨lh, ys, hs, rfl, st, sh⟩
 clear st sh
 rintro σ' G4 hR3
 refine CK hR3 fun lh ys hs hz173' => ?_
 refine CL hz173' fun hq172 st sh => ?_
 clear hz173'
 obtain rfl := hq172
 try clear hR3
 refine ⟨_, rfl, _, rfl, _, rfl, _, rfl, l, lh, zs, ys, qs, hs, W, E, n, 16, 340, 1244972, rfl, SqL.of st.el, st.nz, SqL.of sh.eh, sh.nh, hqn, sh.len, hn6, hnd, hW1, hW3, by lia, hb, sh.rb, by decide, by decide, by decide, by decide, by decide, by decide, fun lf us css G5 s5 ef hcp hcn hca hcc => ?_⟩
 have st := st.same s5
 have sh := sh.same s5
 have ct0 : CN 172 Fv G5 := OQ st.tb
 have hC : (16 + 1) * (n + 3) + 340 + 2 ≤ 500 := by lia
 have hG : (gAS 500 n).2 + 3 * 500 ≤ 2000000 := RV (Ue (Du 500 hn6) _) (by decide)
 have hmw : 1244972 * (W + 4) ≤ 49000000 := by lia
 try dsimp only
 refine Er (fun σ' G => ∃ t, σ' = [some (.ref a0), some (.ref p), some (.ref l), some (.int (n : Int)), some (.int (W : Int)), some (.int (E : Int)), some (.ref lh), some (.ref lf), some (.ref t), none, none, none] ∧ G l = some (.lst zs) ∧ AE G zs qs ∧ G lh = some (.lst ys) ∧ Ap K G ys hs ∧ G lf = some (.lst us) ∧ Pts K G us css ∧
  ((∃ pc lw vs rs c, SqT K G t [.str "one", .ref pc, .ref lw] ∧ Crv K G pc c ∧ Cu c ∧ c.length ≤ W ∧ G lw = some (.lst vs) ∧ Ap K G vs rs ∧ rs.Perm (AV qs hs c) ∧ rs.Pairwise (· ≤ ·) ∧ (AV qs hs c).length ≤ E ∧ c ∈ css) ∨ (∃ pD pN, SqT K G t [.str "none", .ref pD, .ref pN] ∧ css = []))) (fun nx hnx => ?_) ?_
 ·refine ⟨_, rfl, _, rfl, _, rfl, _, rfl, l, lh, zs, ys, qs, hs, W, E, n, 16, 340, 1244972, 500, rfl, SqL.of st.el, st.nz, SqL.of sh.eh, sh.nh, hqn, sh.len, by lia, hnd, hW1, by lia, hWe, hb, sh.rb, by decide, by decide, by decide, by decide, hC, hG, ct0, by decide, hmw, fun t pc lw G6 vs rs c m6 ct6 hT cC gc lc bc hnw ew hvs hp1 hpw1 hle => ?_, fun t pD pN G6 N D c m6 ct6 hT cD cN gD gN hD0 lD lN bD bN on hgt only => ?_⟩
  ·exact hnx _ _ ⟨t, rfl, DE st.el ct0 m6, Gz st.nz ct0 m6, DE sh.eh ct0 m6, Paired.mapP sh.nh fun _ _ z => z.but ct0 m6, DE ef ct0 m6, Paired.mapP hcp fun _ _ ⟨a, e, z⟩ => ⟨a, e, z.but ct0 m6⟩, .inl ⟨pc, lw, vs, rs, c, hT, cC, gc, lc, ew, hvs, hp1, hpw1, hle, hcc c gc lc hle⟩⟩
  ·refine hnx _ _ ⟨t, rfl, DE st.el ct0 m6, Gz st.nz ct0 m6, DE sh.eh ct0 m6, Paired.mapP sh.nh fun _ _ z => z.but ct0 m6, DE ef ct0 m6, Paired.mapP hcp fun _ _ ⟨a, e, z⟩ => ⟨a, e, z.but ct0 m6⟩, .inr ⟨pD, pN, hT, ?_⟩⟩
   refine US.mpr fun c0 hc0 => ?_
   refine Dw (hca c0 hc0) fun g0 l0 _ m0 => ?_
   have hf := Ng hqn sh.len hnd l0 hW1 m0 hWe lN lD on
   have := JD (qs := qs) (hs := hs) (only c0 l0 hf)
   rw [this] at m0
   lia
 have hlen := sh.len
 have hrb := sh.rb
 clear st sh ct0 ef hcp s5
 rintro σ' G6 hR4
 refine JK hR4 fun t hz176' => ?_
 refine Pw hz176' fun hq175 el nz eh nh ef hcp hd => ?_
 clear hz176'
 obtain rfl := hq175
 try clear hR4
 try dsimp only
 refine Er (fun σ' G => ∃ z9, σ' = [some (.ref a0), some (.ref p), some (.ref l), some (.int (n : Int)), some (.int (W : Int)), some (.int (E : Int)), some (.ref lh), some (.ref lf), some (.ref t), z9, none, none] ∧ G l = some (.lst zs) ∧ AE G zs qs) (fun nx hnx => ?_) ?_
 ·refine ⟨_, rfl, P0, fun u1 g1 => ?_⟩
  have w1 := Af.new (o := .lst []) g1
  refine Q6 (ps := css) (qs := []) (SqL.of (w1 _ _ ef)) (Pts.same hcp w1) (SqL.of Aa) .nil ?_
  refine ⟨_, rfl, ?_⟩
  rcases hd with ⟨pc, lw, vs, rs, c, hT, cC, gc, lc, ew, hvs, hp1, hpw1, hle, hin⟩ | ⟨pD, pN, hT, hc0⟩
  ·have hne : css ≠ [] := List.ne_nil_of_mem hin
   refine AM (decide_eq_false hne) ?_
   obtain ⟨c0, cr, rfl⟩ : ∃ c0 cr, css = c0 :: cr := by
    cases css with
    | nil => exact absurd rfl hne
    | cons a b => exact ⟨a, b, rfl⟩
   have all : ∀ d ∈ c0 :: cr, d = c := fun d hd => by
    refine Dw (hca d hd) fun g0 l0 _ m0 => ?_
    exact Eb g0 gc (LS hqn hlen hnd l0 lc m0 hle hWe)
   have e0 : c0 = c := all c0 RY
   have ecr : cr = [] := US.mpr fun d hd => by
    have := all d (RZ _ hd)
    exact (Sg.mp hcn).1 (by rw [e0, ← this]; exact hd)
   subst e0 ecr
   obtain ⟨r0, rfl, cr0⟩ : ∃ r0, us = [.ref r0] ∧ Crv K G6 r0 c0 := by
    cases hcp with
    | cons h1 t1 =>
      obtain ⟨r0, e1, z1⟩ := h1
      cases t1
      exact ⟨r0, by rw [e1], z1⟩
   refine Dw (hca c0 RY) fun _ _ bc _ => ?_
   have k1 : (1244972 + 16 * c0.length + 4) * (c0.length + 2) ≤ 1245100 * 5 := UE (by lia) (by lia)
   have ef1 := w1 _ _ ef
   refine ⟨_, rfl, _, rfl, _, rfl, lf, _, 0, _, rfl, rfl, SqL.of ef1, rfl, l, lh, r0, zs, ys, qs, hs, c0, 1244972, 16, rfl, SqL.of (w1 _ _ el), (AE.same nz w1).nums, SqL.of (w1 _ _ eh), Ap.same nh w1, cr0.same w1, by lia, by lia, by lia, hb, bc, by lia, by decide, fun pm us2 ms G7 s7 hnm em hnu hperm hpw => ?_⟩
   have s17 := w1.trans s7
   have ef7 := s17 _ _ ef
   have ers : ms = rs := N0 hpw hpw1 (hperm.trans hp1.symm)
   subst ers
   refine ⟨_, rfl, lf, _, rfl, .inl (SqL.of ef7), _, _, rfl, rfl, _, rfl, AM (decide_eq_false (by simp)) ?_⟩
   refine ⟨_, rfl, _, rfl, lf, _, 0, _, rfl, rfl, SqL.of ef7, rfl, _, rfl, P3, fun u2 g2 => ?_⟩
   have w2 := Af.new (o := .tup [.str "one", .ref r0, .ref pm]) g2
   have s18 := s17.trans w2
   refine Q5 ok1 (hT.same s18) (cC.same s18) (SqL.of (s18 _ _ ew)) (Ap.same hvs s18) (SqT.of Aa) (cr0.same s18) (SqL.of (w2 _ _ em)) (Ap.same hnu w2) ?_
   exact ⟨_, rfl, AM rfl (hnx _ _ ⟨_, rfl, s18 _ _ el, AE.same nz s18⟩)⟩
  ·refine AZ (decide_eq_true hc0) ?_
   refine ⟨_, rfl, t, _, _, _, rfl, rfl, hT.same w1, rfl, rfl, _, rfl, AM (by decide +kernel) ?_⟩
   exact hnx _ _ ⟨_, rfl, w1 _ _ el, AE.same nz w1⟩
 clear hd hcp ef eh nh nz el hca hcc hcn hmw hG hC
 rintro σ' G7 hR5
 refine JK hR5 fun z9 hz180' => ?_
 refine CL hz180' fun hq179 el nz => ?_
 clear hz180'
 obtain rfl := hq179
 try clear hR5
 refine ⟨_, rfl, rfl, _, rfl, ?_⟩
 by_cases hn : n = 1
 ·exact AZ (decide_eq_true (by rw [hn]; rfl)) (q _)
 refine AM (decide_eq_false (fun z => hn (by have := V.int.inj z; lia))) ?_
 refine ⟨_, rfl, _, rfl, rfl, _, rfl, ?_⟩
 by_cases hwn : W = n
 ·exact AZ (decide_eq_true (by rw [hwn])) (q _)
 refine AM (decide_eq_false (fun z => hwn (by have := V.int.inj z; lia))) ?_
 refine ⟨_, rfl, _, rfl, l, zs, qs, W, rfl, SqL.of el, nz, hnd, by lia, hW1, by lia, fun x hx => (hb x hx).mono (by decide), fun t2 lj one oth G8 hv os s8 hT2 hno2 ej nj h1 c2 gos los bos hev => ?_⟩
 refine ⟨t2, _, rfl, hT2, rfl, _, _, rfl, _, _, rfl, _, _, rfl, rfl, ?_⟩
 have el := s8 _ _ el
 have nz := AE.same nz s8
 rw [hqn, ← hR] at nj
 obtain ⟨dm1, dm2⟩ := (JM (os := os) hqn hW1 (by lia) (show R + 1 = (n - W) / 2 + 1 by lia) hev)
 have hdl : (D3 qs os (n - (R + 1))).length = n := by rw [EL (by lia), hqn]
 have hrb2 : ∀ y ∈ D3 qs os (n - (R + 1)), RB 340 y := Nv (m := 0) (by decide) fun x hx => by
  rw [hev]
  refine (Lv (hb x hx) _ fun y hy => hb y (UC hy)).mono ?_
  rw [Sj]
  have := V0 33 (show min (W - 1) qs.length ≤ 2 by lia)
  lia
 refine ⟨_, rfl, _, rfl, _, rfl, _, rfl, _, rfl, _, _, rfl, rfl, _, _, rfl, rfl, by decide, ?_⟩
 rw [hF]
 refine ⟨_, _, rfl, rfl, ?_⟩
 rw [show (R : Int) + 1 = ((R + 1 : Nat) : Int) by lia]
 refine ⟨l, lj, zs, hv, qs, _, W, R + 1, n, 16, 340, 1244972, rfl, SqL.of el, nz, SqL.of ej, nj, hqn, hdl, hn6, hnd, hW1, hW3, by lia, hb, hrb2, by decide, by decide, by decide, by decide, by decide, by decide, fun lf2 us2 css2 G9 s9 ef2 hcp2 hcn2 hca2 hcc2 => ?_⟩
 have in1 : [] ∈ css2 := hcc2 [] (.inl rfl) (Sb _) dm1
 have in2 : os ∈ css2 := hcc2 os gos los dm2
 have hos : os ≠ [] := fun z => by
  have hpl := CV (qs.take (W - 1))
  have := Eb (Mc (qs.take (W - 1))) (.inl rfl) fun x => by rw [Ju, ← hev x, z]
  rw [this] at hpl; cases hpl
 have hl2 : 2 ≤ css2.length := by
  match css2, in1, in2 with
  | [a], i1, i2 => exact absurd ((Tw.mp i2).trans (Tw.mp i1).symm) hos
  | _ :: _ :: _, _, _ => exact Nat.le_add_left 2 _
 have hul := hcp2.length
 refine ⟨_, rfl, _, rfl, ?_⟩
 refine inC ⟨one, rfl, [], h1.same s9, .nil⟩ (SqL.of ef2) hcp2 ?_
 refine ⟨_, rfl, AZ (decide_eq_true in1) ?_⟩
 refine ⟨_, rfl, _, rfl, ?_⟩
 refine inC ⟨oth, rfl, c2.same s9⟩ (SqL.of ef2) hcp2 ?_
 refine ⟨_, rfl, AZ (decide_eq_true in2) ?_⟩
 refine ⟨_, rfl, lf2, us2, rfl, .inl (SqL.of ef2), _, _, rfl, rfl, ?_⟩
 have hdd : decide (((us2.length : Nat) : Int) > 1) = true := decide_eq_true (by lia)
 rw [hdd]
 exact q _
end
theorem fdm {P : Program} (w : World) {K : RU} {mg : Str → Option Value} (base : Heap) {n : Nat} {x : Str} {ps : List Str} {sp : Sp} {f : Addr} {fd : FuncData} (a : AH P w K mg base CX0 n f fd ps sp) (b : C5 K fd ps []) (c : Se K (.ref f) = true) (d : mg x = some (.ref f)) : Fd P w K mg base n x ps sp := ⟨_, _, a, b, c, d⟩
theorem OU {l : Uo} {w : World} {K : RU} {h : Heap} {mg : Str → Option Value} {fa f1 f2 f3 f4 f5 f6 f7 f8 f9 f10 f11 f12 f13 f14 f15 f16 f17 f18 f19 f20 f21 f22 f23 f24 f25 f26 f27 f28 f29 f30 f31 f32 f33 f34 f35 f36 f37 f38 f39 f40 f41 f42 f43 f44 f45 f46 : Addr} (hT : l.prog.given.tree = none) (X : K.In h) (G : h.Ns mainGlobals mg) (hfa : mg "law" = some (.ref fa))
 {od1 an1 od2 an2 od3 an3 od4 an4 od5 an5 od6 an6 od7 an7 od8 an8 od9 an9 od10 an10 od11 an11 od12 an12 od13 an13 od14 an14 od15 an15 od16 an16 od17 an17 od18 an18 od19 an19 od20 an20 od21 an21 od22 an22 od23 an23 od24 an24 od25 an25 od26 an26 od27 an27 od28 an28 od29 an29 od30 an30 od31 an31 od32 an32 od33 an33 od34 an34 od35 an35 od36 an36 od37 an37 od38 an38 od39 an39 od40 an40 od41 an41 od42 an42 od43 an43 od44 an44 od45 an45 od46 an46 : Option Addr} {sl1 sl2 sl3 sl4 sl5 sl6 sl7 sl8 sl9 sl10 sl11 sl12 sl13 sl14 sl15 sl16 sl17 sl18 sl19 sl20 sl21 sl22 sl23 sl24 sl25 sl26 sl27 sl28 sl29 sl30 sl31 sl32 sl33 sl34 sl35 sl36 sl37 sl38 sl39 sl40 sl41 sl42 sl43 sl44 sl45 sl46 : Array (Option Value)} {oc1 kV1 dc1 pm1 cd1 ct1 oc2 kV2 dc2 pm2 cd2 ct2 oc3 kV3 dc3 pm3 cd3 ct3 oc4 kV4 dc4 pm4 cd4 ct4 oc5 kV5 dc5 pm5 cd5 ct5 oc6 kV6 dc6 pm6 cd6 ct6 oc7 kV7 dc7 pm7 cd7 ct7 oc8 kV8 dc8 pm8 cd8 ct8 oc9 kV9 dc9 pm9 cd9 ct9 oc10 kV10 dc10 pm10 cd10 ct10 oc11 kV11 dc11 pm11 cd11 ct11 oc12 kV12 dc12 pm12 cd12 ct12 oc13 kV13 dc13 pm13 cd13 ct13 oc14 kV14 dc14 pm14 cd14 ct14 oc15 kV15 dc15 pm15 cd15 ct15 oc16 kV16 dc16 pm16 cd16 ct16 oc17 kV17 dc17 pm17 cd17 ct17 oc18 kV18 dc18 pm18 cd18 ct18 oc19 kV19 dc19 pm19 cd19 ct19 oc20 kV20 dc20 pm20 cd20 ct20 oc21 kV21 dc21 pm21 cd21 ct21 oc22 kV22 dc22 pm22 cd22 ct22 oc23 kV23 dc23 pm23 cd23 ct23 oc24 kV24 dc24 pm24 cd24 ct24 oc25 kV25 dc25 pm25 cd25 ct25 oc26 kV26 dc26 pm26 cd26 ct26 oc27 kV27 dc27 pm27 cd27 ct27 oc28 kV28 dc28 pm28 cd28 ct28 oc29 kV29 dc29 pm29 cd29 ct29 oc30 kV30 dc30 pm30 cd30 ct30 oc31 kV31 dc31 pm31 cd31 ct31 oc32 kV32 dc32 pm32 cd32 ct32 oc33 kV33 dc33 pm33 cd33 ct33 oc34 kV34 dc34 pm34 cd34 ct34 oc35 kV35 dc35 pm35 cd35 ct35 oc36 kV36 dc36 pm36 cd36 ct36 oc37 kV37 dc37 pm37 cd37 ct37 oc38 kV38 dc38 pm38 cd38 ct38 oc39 kV39 dc39 pm39 cd39 ct39 oc40 kV40 dc40 pm40 cd40 ct40 oc41 kV41 dc41 pm41 cd41 ct41 oc42 kV42 dc42 pm42 cd42 ct42 oc43 kV43 dc43 pm43 cd43 ct43 oc44 kV44 dc44 pm44 cd44 ct44 oc45 kV45 dc45 pm45 cd45 ct45 oc46 kV46 dc46 pm46 cd46 ct46 : Value}
 (a1 : TK K mainGlobals "_law_pen" = some (some (.ref f1))) (l1 : K.lookup f1 = some ⟨oc1, od1, .func (Sw "_law_pen" "_law_pen" (Al (top 45)) (Ak (top 45)) (Ae (top 45)) .none kV1 dc1 pm1 an1 cd1 ct1), sl1⟩) (c1 : Sx K cd1 "_law_pen" = true) (k1 : Se K (.ref f1) = true)
 (a2 : TK K mainGlobals "_law_lowest" = some (some (.ref f2))) (l2 : K.lookup f2 = some ⟨oc2, od2, .func (Sw "_law_lowest" "_law_lowest" (Al (top 47)) (Ak (top 47)) (Ae (top 47)) .none kV2 dc2 pm2 an2 cd2 ct2), sl2⟩) (c2 : Sx K cd2 "_law_lowest" = true) (k2 : Se K (.ref f2) = true)
 (a3 : TK K mainGlobals "_law_draw" = some (some (.ref f3))) (l3 : K.lookup f3 = some ⟨oc3, od3, .func (Sw "_law_draw" "_law_draw" (Al (top 46)) (Ak (top 46)) (Ae (top 46)) .none kV3 dc3 pm3 an3 cd3 ct3), sl3⟩) (c3 : Sx K cd3 "_law_draw" = true) (k3 : Se K (.ref f3) = true)
 (a4 : TK K mainGlobals "_law_number" = some (some (.ref f4))) (l4 : K.lookup f4 = some ⟨oc4, od4, .func (Sw "_law_number" "_law_number" (Al (top 51)) (Ak (top 51)) (Ae (top 51)) .none kV4 dc4 pm4 an4 cd4 ct4), sl4⟩) (c4 : Sx K cd4 "_law_number" = true) (k4 : Se K (.ref f4) = true)
 (a5 : TK K mainGlobals "_law_plus" = some (some (.ref f5))) (l5 : K.lookup f5 = some ⟨oc5, od5, .func (Sw "_law_plus" "_law_plus" (Al (top 48)) (Ak (top 48)) (Ae (top 48)) .none kV5 dc5 pm5 an5 cd5 ct5), sl5⟩) (c5 : Sx K cd5 "_law_plus" = true) (k5 : Se K (.ref f5) = true)
 (a6 : TK K mainGlobals "_law_places" = some (some (.ref f6))) (l6 : K.lookup f6 = some ⟨oc6, od6, .func (Sw "_law_places" "_law_places" (Al (top 54)) (Ak (top 54)) (Ae (top 54)) .none kV6 dc6 pm6 an6 cd6 ct6), sl6⟩) (c6 : Sx K cd6 "_law_places" = true) (k6 : Se K (.ref f6) = true)
 (a7 : TK K mainGlobals "_law_choices" = some (some (.ref f7))) (l7 : K.lookup f7 = some ⟨oc7, od7, .func (Sw "_law_choices" "_law_choices" (Al (top 57)) (Ak (top 57)) (Ae (top 57)) .none kV7 dc7 pm7 an7 cd7 ct7), sl7⟩) (c7 : Sx K cd7 "_law_choices" = true) (k7 : Se K (.ref f7) = true)
 (a8 : TK K mainGlobals "common_measure" = some (some (.ref f8))) (l8 : K.lookup f8 = some ⟨oc8, od8, .func (Sw "common_measure" "common_measure" (Al (top 6)) (Ak (top 6)) (Ae (top 6)) .none kV8 dc8 pm8 an8 cd8 ct8), sl8⟩) (c8 : Sx K cd8 "common_measure" = true) (k8 : Se K (.ref f8) = true)
 (a9 : TK K mainGlobals "bottom_of" = some (some (.ref f9))) (l9 : K.lookup f9 = some ⟨oc9, od9, .func (Sw "bottom_of" "bottom_of" (Al (top 13)) (Ak (top 13)) (Ae (top 13)) .none kV9 dc9 pm9 an9 cd9 ct9), sl9⟩) (c9 : Sx K cd9 "bottom_of" = true) (k9 : Se K (.ref f9) = true)
 (a10 : TK K mainGlobals "tops_over" = some (some (.ref f10))) (l10 : K.lookup f10 = some ⟨oc10, od10, .func (Sw "tops_over" "tops_over" (Al (top 14)) (Ak (top 14)) (Ae (top 14)) .none kV10 dc10 pm10 an10 cd10 ct10), sl10⟩) (c10 : Sx K cd10 "tops_over" = true) (k10 : Se K (.ref f10) = true)
 (a11 : TK K mainGlobals "curve_of" = some (some (.ref f11))) (l11 : K.lookup f11 = some ⟨oc11, od11, .func (Sw "curve_of" "curve_of" (Al (top 12)) (Ak (top 12)) (Ae (top 12)) .none kV11 dc11 pm11 an11 cd11 ct11), sl11⟩) (c11 : Sx K cd11 "curve_of" = true) (k11 : Se K (.ref f11) = true)
 (a12 : TK K mainGlobals "number_of" = some (some (.ref f12))) (l12 : K.lookup f12 = some ⟨oc12, od12, .func (Sw "number_of" "number_of" (Al (top 7)) (Ak (top 7)) (Ae (top 7)) .none kV12 dc12 pm12 an12 cd12 ct12), sl12⟩) (c12 : Sx K cd12 "number_of" = true) (k12 : Se K (.ref f12) = true)
 (a13 : TK K mainGlobals "curve_over" = some (some (.ref f13))) (l13 : K.lookup f13 = some ⟨oc13, od13, .func (Sw "curve_over" "curve_over" (Al (top 15)) (Ak (top 15)) (Ae (top 15)) .none kV13 dc13 pm13 an13 cd13 ct13), sl13⟩) (c13 : Sx K cd13 "curve_over" = true) (k13 : Se K (.ref f13) = true)
 (a14 : TK K mainGlobals "whole_product" = some (some (.ref f14))) (l14 : K.lookup f14 = some ⟨oc14, od14, .func (Sw "whole_product" "whole_product" (Al (top 18)) (Ak (top 18)) (Ae (top 18)) .none kV14 dc14 pm14 an14 cd14 ct14), sl14⟩) (c14 : Sx K cd14 "whole_product" = true) (k14 : Se K (.ref f14) = true)
 (a15 : TK K mainGlobals "by_steps" = some (some (.ref f15))) (l15 : K.lookup f15 = some ⟨oc15, od15, .func (Sw "by_steps" "by_steps" (Al (top 39)) (Ak (top 39)) (Ae (top 39)) .none kV15 dc15 pm15 an15 cd15 ct15), sl15⟩) (c15 : Sx K cd15 "by_steps" = true) (k15 : Se K (.ref f15) = true)
 (a16 : TK K mainGlobals "told_in" = some (some (.ref f16))) (l16 : K.lookup f16 = some ⟨oc16, od16, .func (Sw "told_in" "told_in" (Al (top 23)) (Ak (top 23)) (Ae (top 23)) .none kV16 dc16 pm16 an16 cd16 ct16), sl16⟩) (c16 : Sx K cd16 "told_in" = true) (k16 : Se K (.ref f16) = true)
 (a17 : TK K mainGlobals "knots_of" = some (some (.ref f17))) (l17 : K.lookup f17 = some ⟨oc17, od17, .func (Sw "knots_of" "knots_of" (Al (top 24)) (Ak (top 24)) (Ae (top 24)) .none kV17 dc17 pm17 an17 cd17 ct17), sl17⟩) (c17 : Sx K cd17 "knots_of" = true) (k17 : Se K (.ref f17) = true)
 (a18 : TK K mainGlobals "slopes_in" = some (some (.ref f18))) (l18 : K.lookup f18 = some ⟨oc18, od18, .func (Sw "slopes_in" "slopes_in" (Al (top 35)) (Ak (top 35)) (Ae (top 35)) .none kV18 dc18 pm18 an18 cd18 ct18), sl18⟩) (c18 : Sx K cd18 "slopes_in" = true) (k18 : Se K (.ref f18) = true)
 (a19 : TK K mainGlobals "first_row" = some (some (.ref f19))) (l19 : K.lookup f19 = some ⟨oc19, od19, .func (Sw "first_row" "first_row" (Al (top 34)) (Ak (top 34)) (Ae (top 34)) .none kV19 dc19 pm19 an19 cd19 ct19), sl19⟩) (c19 : Sx K cd19 "first_row" = true) (k19 : Se K (.ref f19) = true)
 (a20 : TK K mainGlobals "over" = some (some (.ref f20))) (l20 : K.lookup f20 = some ⟨oc20, od20, .func (Sw "over" "over" (Al (top 9)) (Ak (top 9)) (Ae (top 9)) .none kV20 dc20 pm20 an20 cd20 ct20), sl20⟩) (c20 : Sx K cd20 "over" = true) (k20 : Se K (.ref f20) = true)
 (a21 : TK K mainGlobals "minus" = some (some (.ref f21))) (l21 : K.lookup f21 = some ⟨oc21, od21, .func (Sw "minus" "minus" (Al (top 8)) (Ak (top 8)) (Ae (top 8)) .none kV21 dc21 pm21 an21 cd21 ct21), sl21⟩) (c21 : Sx K cd21 "minus" = true) (k21 : Se K (.ref f21) = true)
 (a22 : TK K mainGlobals "next_row" = some (some (.ref f22))) (l22 : K.lookup f22 = some ⟨oc22, od22, .func (Sw "next_row" "next_row" (Al (top 36)) (Ak (top 36)) (Ae (top 36)) .none kV22 dc22 pm22 an22 cd22 ct22), sl22⟩) (c22 : Sx K cd22 "next_row" = true) (k22 : Se K (.ref f22) = true)
 (a23 : TK K mainGlobals "table_of" = some (some (.ref f23))) (l23 : K.lookup f23 = some ⟨oc23, od23, .func (Sw "table_of" "table_of" (Al (top 37)) (Ak (top 37)) (Ae (top 37)) .none kV23 dc23 pm23 an23 cd23 ct23), sl23⟩) (c23 : Sx K cd23 "table_of" = true) (k23 : Se K (.ref f23) = true)
 (a24 : TK K mainGlobals "steps_of" = some (some (.ref f24))) (l24 : K.lookup f24 = some ⟨oc24, od24, .func (Sw "steps_of" "steps_of" (Al (top 38)) (Ak (top 38)) (Ae (top 38)) .none kV24 dc24 pm24 an24 cd24 ct24), sl24⟩) (c24 : Sx K cd24 "steps_of" = true) (k24 : Se K (.ref f24) = true)
 (a25 : TK K mainGlobals "curve_through" = some (some (.ref f25))) (l25 : K.lookup f25 = some ⟨oc25, od25, .func (Sw "curve_through" "curve_through" (Al (top 40)) (Ak (top 40)) (Ae (top 40)) .none kV25 dc25 pm25 an25 cd25 ct25), sl25⟩) (c25 : Sx K cd25 "curve_through" = true) (k25 : Se K (.ref f25) = true)
 (a26 : TK K mainGlobals "_law_times" = some (some (.ref f26))) (l26 : K.lookup f26 = some ⟨oc26, od26, .func (Sw "_law_times" "_law_times" (Al (top 50)) (Ak (top 50)) (Ae (top 50)) .none kV26 dc26 pm26 an26 cd26 ct26), sl26⟩) (c26 : Sx K cd26 "_law_times" = true) (k26 : Se K (.ref f26) = true)
 (a27 : TK K mainGlobals "_law_at" = some (some (.ref f27))) (l27 : K.lookup f27 = some ⟨oc27, od27, .func (Sw "_law_at" "_law_at" (Al (top 52)) (Ak (top 52)) (Ae (top 52)) .none kV27 dc27 pm27 an27 cd27 ct27), sl27⟩) (c27 : Sx K cd27 "_law_at" = true) (k27 : Se K (.ref f27) = true)
 (a28 : TK K mainGlobals "_law_minus" = some (some (.ref f28))) (l28 : K.lookup f28 = some ⟨oc28, od28, .func (Sw "_law_minus" "_law_minus" (Al (top 49)) (Ak (top 49)) (Ae (top 49)) .none kV28 dc28 pm28 an28 cd28 ct28), sl28⟩) (c28 : Sx K cd28 "_law_minus" = true) (k28 : Se K (.ref f28) = true)
 (a29 : TK K mainGlobals "_law_missing" = some (some (.ref f29))) (l29 : K.lookup f29 = some ⟨oc29, od29, .func (Sw "_law_missing" "_law_missing" (Al (top 56)) (Ak (top 56)) (Ae (top 56)) .none kV29 dc29 pm29 an29 cd29 ct29), sl29⟩) (c29 : Sx K cd29 "_law_missing" = true) (k29 : Se K (.ref f29) = true)
 (a30 : TK K mainGlobals "_law_near" = some (some (.ref f30))) (l30 : K.lookup f30 = some ⟨oc30, od30, .func (Sw "_law_near" "_law_near" (Al (top 58)) (Ak (top 58)) (Ae (top 58)) .none kV30 dc30 pm30 an30 cd30 ct30), sl30⟩) (c30 : Sx K cd30 "_law_near" = true) (k30 : Se K (.ref f30) = true)
 (a31 : TK K mainGlobals "are_unlike" = some (some (.ref f31))) (l31 : K.lookup f31 = some ⟨oc31, od31, .func (Sw "are_unlike" "are_unlike" (Al (top 21)) (Ak (top 21)) (Ae (top 21)) .none kV31 dc31 pm31 an31 cd31 ct31), sl31⟩) (c31 : Sx K cd31 "are_unlike" = true) (k31 : Se K (.ref f31) = true)
 (a32 : TK K mainGlobals "check_places" = some (some (.ref f32))) (l32 : K.lookup f32 = some ⟨oc32, od32, .func (Sw "check_places" "check_places" (Al (top 22)) (Ak (top 22)) (Ae (top 22)) .none kV32 dc32 pm32 an32 cd32 ct32), sl32⟩) (c32 : Sx K cd32 "check_places" = true) (k32 : Se K (.ref f32) = true)
 (a33 : TK K mainGlobals "check_heights" = some (some (.ref f33))) (l33 : K.lookup f33 = some ⟨oc33, od33, .func (Sw "check_heights" "check_heights" (Al (top 26)) (Ak (top 26)) (Ae (top 26)) .none kV33 dc33 pm33 an33 cd33 ct33), sl33⟩) (c33 : Sx K cd33 "check_heights" = true) (k33 : Se K (.ref f33) = true)
 (a34 : TK K mainGlobals "whole_height" = some (some (.ref f34))) (l34 : K.lookup f34 = some ⟨oc34, od34, .func (Sw "whole_height" "whole_height" (Al (top 16)) (Ak (top 16)) (Ae (top 16)) .none kV34 dc34 pm34 an34 cd34 ct34), sl34⟩) (c34 : Sx K cd34 "whole_height" = true) (k34 : Se K (.ref f34) = true)
 (a35 : TK K mainGlobals "lack_at" = some (some (.ref f35))) (l35 : K.lookup f35 = some ⟨oc35, od35, .func (Sw "lack_at" "lack_at" (Al (top 28)) (Ak (top 28)) (Ae (top 28)) .none kV35 dc35 pm35 an35 cd35 ct35), sl35⟩) (c35 : Sx K cd35 "lack_at" = true) (k35 : Se K (.ref f35) = true)
 (a36 : TK K mainGlobals "with_nought_at" = some (some (.ref f36))) (l36 : K.lookup f36 = some ⟨oc36, od36, .func (Sw "with_nought_at" "with_nought_at" (Al (top 29)) (Ak (top 29)) (Ae (top 29)) .none kV36 dc36 pm36 an36 cd36 ct36), sl36⟩) (c36 : Sx K cd36 "with_nought_at" = true) (k36 : Se K (.ref f36) = true)
 (a37 : TK K mainGlobals "without_common" = some (some (.ref f37))) (l37 : K.lookup f37 = some ⟨oc37, od37, .func (Sw "without_common" "without_common" (Al (top 30)) (Ak (top 30)) (Ae (top 30)) .none kV37 dc37 pm37 an37 cd37 ct37), sl37⟩) (c37 : Sx K cd37 "without_common" = true) (k37 : Se K (.ref f37) = true)
 (a38 : TK K mainGlobals "both_with" = some (some (.ref f38))) (l38 : K.lookup f38 = some ⟨oc38, od38, .func (Sw "both_with" "both_with" (Al (top 31)) (Ak (top 31)) (Ae (top 31)) .none kV38 dc38 pm38 an38 cd38 ct38), sl38⟩) (c38 : Sx K cd38 "both_with" = true) (k38 : Se K (.ref f38) = true)
 (a39 : TK K mainGlobals "pair_through" = some (some (.ref f39))) (l39 : K.lookup f39 = some ⟨oc39, od39, .func (Sw "pair_through" "pair_through" (Al (top 32)) (Ak (top 32)) (Ae (top 32)) .none kV39 dc39 pm39 an39 cd39 ct39), sl39⟩) (c39 : Sx K cd39 "pair_through" = true) (k39 : Se K (.ref f39) = true)
 (a40 : TK K mainGlobals "rising" = some (some (.ref f40))) (l40 : K.lookup f40 = some ⟨oc40, od40, .func (Sw "rising" "rising" (Al (top 27)) (Ak (top 27)) (Ae (top 27)) .none kV40 dc40 pm40 an40 cd40 ct40), sl40⟩) (c40 : Sx K cd40 "rising" = true) (k40 : Se K (.ref f40) = true)
 (a41 : TK K mainGlobals "height_at" = some (some (.ref f41))) (l41 : K.lookup f41 = some ⟨oc41, od41, .func (Sw "height_at" "height_at" (Al (top 17)) (Ak (top 17)) (Ae (top 17)) .none kV41 dc41 pm41 an41 cd41 ct41), sl41⟩) (c41 : Sx K cd41 "height_at" = true) (k41 : Se K (.ref f41) = true)
 (a42 : TK K mainGlobals "judged" = some (some (.ref f42))) (l42 : K.lookup f42 = some ⟨oc42, od42, .func (Sw "judged" "judged" (Al (top 42)) (Ak (top 42)) (Ae (top 42)) .none kV42 dc42 pm42 an42 cd42 ct42), sl42⟩) (c42 : Sx K cd42 "judged" = true) (k42 : Se K (.ref f42) = true)
 (a43 : TK K mainGlobals "doubtful" = some (some (.ref f43))) (l43 : K.lookup f43 = some ⟨oc43, od43, .func (Sw "doubtful" "doubtful" (Al (top 43)) (Ak (top 43)) (Ae (top 43)) .none kV43 dc43 pm43 an43 cd43 ct43), sl43⟩) (c43 : Sx K cd43 "doubtful" = true) (k43 : Se K (.ref f43) = true)
 (a44 : TK K mainGlobals "_law_planted" = some (some (.ref f44))) (l44 : K.lookup f44 = some ⟨oc44, od44, .func (Sw "_law_planted" "_law_planted" (Al (top 55)) (Ak (top 55)) (Ae (top 55)) .none kV44 dc44 pm44 an44 cd44 ct44), sl44⟩) (c44 : Sx K cd44 "_law_planted" = true) (k44 : Se K (.ref f44) = true)
 (a45 : TK K mainGlobals "_law_curve" = some (some (.ref f45))) (l45 : K.lookup f45 = some ⟨oc45, od45, .func (Sw "_law_curve" "_law_curve" (Al (top 53)) (Ak (top 53)) (Ae (top 53)) .none kV45 dc45 pm45 an45 cd45 ct45), sl45⟩) (c45 : Sx K cd45 "_law_curve" = true) (k45 : Se K (.ref f45) = true)
 (a46 : TK K mainGlobals "law" = some (some (.ref f46))) (l46 : K.lookup f46 = some ⟨oc46, od46, .func (Sw "law" "law" (Al (top 59)) (Ak (top 59)) (Ae (top 59)) .none kV46 dc46 pm46 an46 cd46 ct46), sl46⟩) (c46 : Sx K cd46 "law" = true) (k46 : Se K (.ref f46) = true)
 (z_len : TK K mainGlobals "len" = some none)
 (z_abs : TK K mainGlobals "abs" = some none)
 (z_range : TK K mainGlobals "range" = some none)
 (z_tuple : TK K mainGlobals "tuple" = some none)
 (z_set : TK K mainGlobals "set" = some none)
 (z_reversed : TK K mainGlobals "reversed" = some none)
 (z_zip : TK K mainGlobals "zip" = some none)
 (z_sorted : TK K mainGlobals "sorted" = some none)
 (z_list : TK K mainGlobals "list" = some none)
 (z_min : TK K mainGlobals "min" = some none)
 {t_MOST_TOLD : Tok} (x_MOST_TOLD : TK K mainGlobals "MOST_TOLD" = some (some (.int 12 t_MOST_TOLD)))
 {g_NOUGHT : Addr} {o_NOUGHT : Obj} {v_NOUGHT : Array Value} {m_NOUGHT : Nat} (x_NOUGHT : TK K mainGlobals "NOUGHT" = some (some (.ref g_NOUGHT))) (y_NOUGHT : K.lookup g_NOUGHT = some o_NOUGHT) (w_NOUGHT : o_NOUGHT.cls = .type "tuple") (d_NOUGHT : o_NOUGHT.data = .seq v_NOUGHT m_NOUGHT) (e_NOUGHT : v_NOUGHT.toList.map La = [some (.int (0 : Rat).num), some (.int ((0 : Rat).den : Int))])
 (h40 : EE K f40 172 = true) :
 ∃ (fd : FuncData) (c : Addr), Uj K c 172 = true ∧ (∀ (s : Shared) (v : Value), BindsTo s fd ⟨[v], []⟩ [("_law_script", v)]) ∧ ∀ base : Heap, K.In base → base.Ns mainGlobals mg → Bm mg base → AH l.prog w K mg base CX0 41 fa fd ["_law_script"] (Fm K 172) := by
 obtain ⟨cc, hcc⟩ := KW h40
 have e := hfa.symm.trans (V5 X G a46)
 cases e
 have Qc := V6 X G z_len
 have Qh := V6 X G z_abs
 have Qd := V6 X G z_range
 have Qf := V6 X G z_tuple
 have b_set := V6 X G z_set
 have QB := V6 X G z_reversed
 have Qg := V6 X G z_zip
 have QC := V6 X G z_sorted
 have QD := V6 X G z_list
 have b_min := V6 X G z_min
 have c_MOST_TOLD := V5 X G x_MOST_TOLD
 have c_NOUGHT := V5 X G x_NOUGHT
 have n_NOUGHT : ∀ H : Hp, AB K H (.ref g_NOUGHT) (0) := fun H => ⟨_, rfl, KU y_NOUGHT w_NOUGHT d_NOUGHT e_NOUGHT⟩
 have F1 := Az (st := top 45) l1 c1 k1
 have B1 := Fun.binds2 "_law_script" "_law_k" F1 fun _ _ _ _ _ _ _ _ => rfl
 have F2 := Az (st := top 47) l2 c2 k2
 have B2 := Fun.binds2 "_law_top" "_law_bottom" F2 fun _ _ _ _ _ _ _ _ => rfl
 have F3 := Az (st := top 46) l3 c3 k3
 have B3 := Fun.binds2 "_law_pen_here" "_law_many" F3 fun _ _ _ _ _ _ _ _ => rfl
 have F4 := Az (st := top 51) l4 c4 k4
 have B4 := Fun.binds1 "_law_pen_here" F4 fun _ _ _ _ _ _ _ => rfl
 have F5 := Az (st := top 48) l5 c5 k5
 have B5 := Fun.binds2 "_law_a" "_law_b" F5 fun _ _ _ _ _ _ _ _ => rfl
 have F6 := Az (st := top 54) l6 c6 k6
 have B6 := Fun.binds2 "_law_pen_here" "_law_many" F6 fun _ _ _ _ _ _ _ _ => rfl
 have F7 := Az (st := top 57) l7 c7 k7
 have B7 := Fun.binds2 "_law_many" "_law_size" F7 fun _ _ _ _ _ _ _ _ => rfl
 have F8 := Az (st := top 6) l8 c8 k8
 have B8 := Fun.binds2 "one" "other" F8 fun _ _ _ _ _ _ _ _ => rfl
 have F9 := Az (st := top 13) l9 c9 k9
 have B9 := Fun.binds1 "numbers" F9 fun _ _ _ _ _ _ _ => rfl
 have F10 := Az (st := top 14) l10 c10 k10
 have B10 := Fun.binds2 "numbers" "bottom" F10 fun _ _ _ _ _ _ _ _ => rfl
 have F11 := Az (st := top 12) l11 c11 k11
 have B11 := Fun.binds1 "numbers" F11 fun _ _ _ _ _ _ _ => rfl
 have F12 := Az (st := top 7) l12 c12 k12
 have B12 := Fun.binds2 "top" "bottom" F12 fun _ _ _ _ _ _ _ _ => rfl
 have F13 := Az (st := top 15) l13 c13 k13
 have B13 := Fun.binds2 "tops" "bottom" F13 fun _ _ _ _ _ _ _ _ => rfl
 have F14 := Az (st := top 18) l14 c14 k14
 have B14 := Fun.binds2 "first" "second" F14 fun _ _ _ _ _ _ _ _ => rfl
 have F15 := Az (st := top 39) l15 c15 k15
 have B15 := Fun.binds2 "knots" "steps" F15 fun _ _ _ _ _ _ _ _ => rfl
 have F16 := Az (st := top 23) l16 c16 k16
 have B16 := Fun.binds1 "points" F16 fun _ _ _ _ _ _ _ => rfl
 have F17 := Az (st := top 24) l17 c17 k17
 have B17 := Fun.binds1 "points" F17 fun _ _ _ _ _ _ _ => rfl
 have F18 := Az (st := top 35) l18 c18 k18
 have B18 := Fun.binds1 "points" F18 fun _ _ _ _ _ _ _ => rfl
 have F19 := Az (st := top 34) l19 c19 k19
 have B19 := Fun.binds1 "points" F19 fun _ _ _ _ _ _ _ => rfl
 have F20 := Az (st := top 9) l20 c20 k20
 have B20 := Fun.binds2 "a" "b" F20 fun _ _ _ _ _ _ _ _ => rfl
 have F21 := Az (st := top 8) l21 c21 k21
 have B21 := Fun.binds2 "a" "b" F21 fun _ _ _ _ _ _ _ _ => rfl
 have F22 := Az (st := top 36) l22 c22 k22
 have B22 := Fun.binds4 "ahead" "knots" "slopes" "k" F22 fun _ _ _ _ _ _ _ _ _ _ => rfl
 have F23 := Az (st := top 37) l23 c23 k23
 have B23 := Fun.binds1 "points" F23 fun _ _ _ _ _ _ _ => rfl
 have F24 := Az (st := top 38) l24 c24 k24
 have B24 := Fun.binds1 "points" F24 fun _ _ _ _ _ _ _ => rfl
 have F25 := Az (st := top 40) l25 c25 k25
 have B25 := Fun.binds1 "points" F25 fun _ _ _ _ _ _ _ => rfl
 have F26 := Az (st := top 50) l26 c26 k26
 have B26 := Fun.binds2 "_law_a" "_law_b" F26 fun _ _ _ _ _ _ _ _ => rfl
 have F27 := Az (st := top 52) l27 c27 k27
 have B27 := Fun.binds2 "_law_curve_here" "_law_x" F27 fun _ _ _ _ _ _ _ _ => rfl
 have F28 := Az (st := top 49) l28 c28 k28
 have B28 := Fun.binds2 "_law_a" "_law_b" F28 fun _ _ _ _ _ _ _ _ => rfl
 have F29 := Az (st := top 56) l29 c29 k29
 have B29 := Fun.binds3 "_law_places_here" "_law_heights" "_law_curve_here" F29 fun _ _ _ _ _ _ _ _ _ => rfl
 have F30 := Az (st := top 58) l30 c30 k30
 have B30 := Fun.binds4 "_law_places_here" "_law_heights" "_law_width" "_law_most" F30 fun _ _ _ _ _ _ _ _ _ _ => rfl
 have F31 := Az (st := top 21) l31 c31 k31
 have B31 := Fun.binds1 "places" F31 fun _ _ _ _ _ _ _ => rfl
 have F32 := Az (st := top 22) l32 c32 k32
 have B32 := Fun.binds2 "places" "fewest" F32 fun _ _ _ _ _ _ _ _ => rfl
 have F33 := Az (st := top 26) l33 c33 k33
 have B33 := Fun.binds2 "places" "heights" F33 fun _ _ _ _ _ _ _ _ => rfl
 have F34 := Az (st := top 16) l34 c34 k34
 have B34 := Fun.binds2 "tops" "x" F34 fun _ _ _ _ _ _ _ _ => rfl
 have F35 := Az (st := top 28) l35 c35 k35
 have B35 := Fun.binds3 "pair" "x" "y" F35 fun _ _ _ _ _ _ _ _ _ => rfl
 have F36 := Az (st := top 29) l36 c36 k36
 have B36 := Fun.binds2 "pair" "x" F36 fun _ _ _ _ _ _ _ _ => rfl
 have F37 := Az (st := top 30) l37 c37 k37
 have B37 := Fun.binds1 "tops" F37 fun _ _ _ _ _ _ _ => rfl
 have F38 := Az (st := top 31) l38 c38 k38
 have B38 := Fun.binds3 "both" "x" "y" F38 fun _ _ _ _ _ _ _ _ _ => rfl
 have F39 := Az (st := top 32) l39 c39 k39
 have B39 := Fun.binds3 "places" "heights" "width" F39 fun _ _ _ _ _ _ _ _ _ => rfl
 have F40 := Az (st := top 27) l40 c40 k40
 have B40 := Fun.binds1 "places" F40 fun _ _ _ _ _ _ _ => rfl
 have F41 := Az (st := top 17) l41 c41 k41
 have B41 := Fun.binds2 "curve" "x" F41 fun _ _ _ _ _ _ _ _ => rfl
 have F42 := Az (st := top 42) l42 c42 k42
 have B42 := Fun.binds4 "places" "heights" "width" "most" F42 fun _ _ _ _ _ _ _ _ _ _ => rfl
 have F43 := Az (st := top 43) l43 c43 k43
 have B43 := Fun.binds2 "places" "width" F43 fun _ _ _ _ _ _ _ _ => rfl
 have F44 := Az (st := top 55) l44 c44 k44
 have B44 := Fun.binds4 "_law_pen_here" "_law_places_here" "_law_curve_here" "_law_many" F44 fun _ _ _ _ _ _ _ _ _ _ => rfl
 have F45 := Az (st := top 53) l45 c45 k45
 have B45 := Fun.binds2 "_law_pen_here" "_law_most" F45 fun _ _ _ _ _ _ _ _ => rfl
 have F46 := Az (st := top 59) l46 c46 k46
 refine ⟨Sw "law" "law" (Al (top 59)) (Ak (top 59)) (Ae (top 59)) .none kV46 dc46 pm46 an46 cd46 ct46, cc, hcc, fun s v => .of_eq rfl, fun base _ _ hbm => ?_⟩
 have Rl := fdm w base (IF F1 Qc hT) B1 k1 (V5 X G a1)
 have Qr := fdm w base (FK F2 Qh hT) B2 k2 (V5 X G a2)
 have Qs := fdm w base (HA F3 hT) B3 k3 (V5 X G a3)
 have QE := fdm w base (FJ F4 Qr Qs hT) B4 k4 (V5 X G a4)
 have QF := fdm w base (Hv F5 Qr hT) B5 k5 (V5 X G a5)
 have Rm := fdm w base (FI F6 QE QF Qd hT) B6 k6 (V5 X G a6)
 have Rn := fdm w base (EV F7 Qd Qc hT) B7 k7 (V5 X G a7)
 have QG := fdm w base (E8 F8 Qh hT) B8 k8 (V5 X G a8)
 have QH := fdm w base (Hs F9 QG hT) B9 k9 (V5 X G a9)
 have QN := fdm w base (Hm F10 hT) B10 k10 (V5 X G a10)
 have Ro := fdm w base (ID F11 Qc Qf c_NOUGHT n_NOUGHT hT) B11 k11 (V5 X G a11)
 have Qt := fdm w base (Ho F12 QG hT) B12 k12 (V5 X G a12)
 have QO := fdm w base (Gf F13 Ro Qt hT) B13 k13 (V5 X G a13)
 have Rp := fdm w base (Ew F14 Qd Qc hT) B14 k14 (V5 X G a14)
 have QP := fdm w base (IE F15 QH QN QO Rp Qd Qc hT) B15 k15 (V5 X G a15)
 have Rq := fdm w base (Jz F16 Qd Qc hT) B16 k16 (V5 X G a16)
 have QQ := fdm w base (IB F17 Rq hT) B17 k17 (V5 X G a17)
 have Rr := fdm w base (Hn F18 Qc hT) B18 k18 (V5 X G a18)
 have Rt := fdm w base (Hr F19 Qc hT) B19 k19 (V5 X G a19)
 have E_over := fdm w base (Nc F20 Qt hT) B20 k20 (V5 X G a20)
 have E_minus := fdm w base (LM F21 Qt hT) B21 k21 (V5 X G a21)
 have Ru := fdm w base (IA F22 E_over E_minus Qd Qc hT) B22 k22 (V5 X G a22)
 have Rv := fdm w base (Iy F23 QQ Rr Rt Ru Qd Qc hT) B23 k23 (V5 X G a23)
 have Rw := fdm w base (Iz F24 Rv hT) B24 k24 (V5 X G a24)
 have QR := fdm w base (Ex F25 QP QQ Rw hT) B25 k25 (V5 X G a25)
 have Rx := fdm w base (Gh F26 Qr hT) B26 k26 (V5 X G a26)
 have QS := fdm w base (JB F27 QF Rx hT) B27 k27 (V5 X G a27)
 have Ry := fdm w base (Gi F28 Qr hT) B28 k28 (V5 X G a28)
 have QT := fdm w base (EU F29 QS Ry Qd Qc hT) B29 k29 (V5 X G a29)
 have Rz := fdm w base (Hy F30 Rn QR QT Qc Qf hT) B30 k30 (V5 X G a30)
 have RA := fdm w base (Gg F31 Qc b_set hT) B31 k31 (V5 X G a31)
 have QU := fdm w base (ES F32 RA Qc c_MOST_TOLD hT) B32 k32 (V5 X G a32)
 have RC := fdm w base (Ey F33 QU Qc hT) B33 k33 (V5 X G a33)
 have QV := fdm w base (EO F34 QB hT) B34 k34 (V5 X G a34)
 have RD := fdm w base (JA F35 QV Qc hT) B35 k35 (V5 X G a35)
 have RE := fdm w base (E7 F36 Qd Qc hT) B36 k36 (V5 X G a36)
 have RF := fdm w base (E6 F37 QG hT) B37 k37 (V5 X G a37)
 have RG := fdm w base (Hu F38 RD RE RF Qg hT) B38 k38 (V5 X G a38)
 have RH := fdm w base (ER F39 RG QO Qg Qc hT) B39 k39 (V5 X G a39)
 have E_rising := fdm w base (KA F40 QH QC hT hbm h40) B40 k40 (V5 X G a40)
 have QW := fdm w base (Hq F41 QH QV Qt QN hT) B41 k41 (V5 X G a41)
 have E_judged := fdm w base (KC F42 RC RH QR E_rising QW QD Qc Qg Qf c_NOUGHT n_NOUGHT hT) B42 k42 (V5 X G a42)
 have RI := fdm w base (IC F43 QU QP QW Qc c_NOUGHT n_NOUGHT hT) B43 k43 (V5 X G a43)
 have RJ := fdm w base (ET F44 QS Qs QE QF Qd Qc hT) B44 k44 (V5 X G a44)
 have RK := fdm w base (Gj F45 QE Qs Qf Qd hT) B45 k45 (V5 X G a45)
 exact Oq F46 Rl Rm Qs Rz E_judged RI RJ QT RK Qc b_min hT
theorem PH {l : Uo} {q : Program} {loose : List Str} {XP : (Str → Option Value) → Heap → Prop} {d : DefRec} {K : Params → RU} {as : List Addr} {e : ∀ P, as = (K P).map (·.1)} (hI : PyProof.Rows.importsNone q = true) (hn : l.most = some 63) (hdf : d.params.defaults = []) (has : as.contains 172 = false)
 (F : ∀ (w : World) (mg : Str → Option Value) (fa : Addr) (h : Heap), (K w.params).In h → h.Ns mainGlobals mg → mg d.name = some (.ref fa) →
  ∃ (fd : FuncData) (c : Addr), Uj (K w.params) c 172 = true ∧ (∀ (s : Shared) (u : Value), BindsTo s fd ⟨[u], []⟩ [("_law_script", u)]) ∧ ∀ base : Heap, (K w.params).In base → base.Ns mainGlobals mg → Bm mg base → AH l.prog w (K w.params) mg base CX0 41 fa fd ["_law_script"] ((fun (K : RU) => (Fm K 172 : Sp)) (K w.params))) :
 PySem.W.WalkO q loose XP (PySem.W.kmHook K as e [172]).says l.row.toRowW d [] (fun f vs => PySem.call f vs) :=
 L2.Lf (n := 63) (k := 41) (x := "_law_script") (Pt := 172) (CX := fun _ => CX0) (sp := fun w => (fun (K : RU) => (Fm K 172 : Sp)) (K w.params)) hI hn (by decide) hdf ⟨rfl, by decide, by decide⟩ (fun w h Y => ⟨PySem.W.km_in_of Y, PySem.W.km_tabs_of Y _ RY, Nl (e _) has⟩) F (fun _ _ a ns hl _ hS hP => ⟨a, ns, rfl, hS, hl, hP, fun _ => rfl⟩) fun _ _ _ _ _ z => z
end Pf
def PySem.W.Fast.tw1955313270331000390 : Unit := ()
def PySem.W.Fast.tw12159042362323922720 : Unit := ()
def PySem.W.Fast.tw5891567421744769013 : Unit := ()
def PySem.W.Fast.tw2981716334038462740 : Unit := ()
def PySem.W.Fast.tw8533168159950659173 : Unit := ()
def PySem.W.Fast.tw8911197232749566676 : Unit := ()
def PySem.W.Fast.tw16377755951624438449 : Unit := ()
def PySem.W.Fast.tw10488853557676276459 : Unit := ()
def PySem.W.Fast.tw13428415553732211416 : Unit := ()
def PySem.W.Fast.tw777917550349209309 : Unit := ()
def PySem.W.Fast.tw3434938221523514811 : Unit := ()
def PySem.W.Fast.tw395957093985980211 : Unit := ()
def PySem.W.Fast.tw4968728532019181146 : Unit := ()
def PySem.W.Fast.tw15600888421182656715 : Unit := ()
def PySem.W.Fast.tw15704467956696073289 : Unit := ()
def PySem.W.Fast.tw6533076194215778229 : Unit := ()
def PySem.W.Fast.tw18438122198587666730 : Unit := ()
def PySem.W.Fast.tw924061604311190645 : Unit := ()
def PySem.W.Fast.tw15227865169571055040 : Unit := ()
def PySem.W.Fast.tw585978465963269196 : Unit := ()
def PySem.W.Fast.tw5332837149642818273 : Unit := ()
def PySem.W.Fast.tw15676686980690988880 : Unit := ()
def PySem.W.Fast.tw2189495511144120001 : Unit := ()
def PySem.W.Fast.tw10108218557169813941 : Unit := ()
def PySem.W.Fast.tw8429619517091797820 : Unit := ()
def PySem.W.Fast.tw14660931599371628901 : Unit := ()
def PySem.W.Fast.tw3432673341377422381 : Unit := ()
def PySem.W.Fast.tw16913252842199579235 : Unit := ()
def PySem.W.Fast.tw14139586336811543506 : Unit := ()
def PySem.W.Fast.tw1173696918216554837 : Unit := ()
def PySem.W.Fast.tw7377865853774775147 : Unit := ()
def PySem.W.Fast.tw7132990479408938388 : Unit := ()
def PySem.W.Fast.tw5950453779719701532 : Unit := ()
def PySem.W.Fast.tw5804300962868386837 : Unit := ()
def PySem.W.Fast.tw5730239668988915857 : Unit := ()
def PySem.W.Fast.tw11028831701797150046 : Unit := ()
def PySem.W.Fast.tw15874276075425480287 : Unit := ()
def PySem.W.Fast.tw15689994684462519335 : Unit := ()
def PySem.W.Fast.tw14389619708575921047 : Unit := ()
def PySem.W.Fast.tw11234335496028547637 : Unit := ()
def PySem.W.Fast.tw4798307173210474115 : Unit := ()
def PySem.W.Fast.tw5347283119312616596 : Unit := ()
def PySem.W.Fast.tw13924869200886242269 : Unit := ()
def PySem.W.Fast.tw17610994670270509552 : Unit := ()
def PySem.W.Fast.tw4976996531743782473 : Unit := ()
def PySem.W.Fast.tw6377109337620006116 : Unit := ()
def PySem.W.Fast.tw15789427588022359962 : Unit := ()
def PySem.W.Fast.tw4394595808574606467 : Unit := ()
def PySem.W.Fast.tw11860451202423550315 : Unit := ()
def PySem.W.Fast.tw7562842873835725575 : Unit := ()
def PySem.W.Fast.tw7638354278798072061 : Unit := ()
def PySem.W.Fast.tw14203922360806044297 : Unit := ()
def PySem.W.Fast.tw3700547526470563714 : Unit := ()
def PySem.W.Fast.tw14745505334668344545 : Unit := ()
def PySem.W.Fast.tw7940613552982234155 : Unit := ()
def PySem.W.Fast.tw13417654831538616656 : Unit := ()
def PySem.W.Fast.tw15642258515165270404 : Unit := ()
def PySem.W.Fast.tw12274835170302856971 : Unit := ()
def PySem.W.Fast.tw16393350600882129470 : Unit := ()
def PySem.W.Fast.tw10280810453138936211 : Unit := ()
def PySem.W.Fast.tw4947431634931855599 : Unit := ()
def PySem.W.Fast.tw12005695909933168291 : Unit := ()
def PySem.W.Fast.tw1743260279351393987 : Unit := ()
def PySem.W.Fast.tw12990419752504307583 : Unit := ()
def PySem.W.Fast.tw10220543073595334078 : Unit := ()
def PySem.W.Fast.tw11336407567849314210 : Unit := ()
def PySem.W.Fast.tw13875430575638974526 : Unit := ()
def PySem.W.Fast.tw17162824422895884148 : Unit := ()
def PySem.W.Fast.tw8362629871933392996 : Unit := ()
def PySem.W.Fast.tw16708768684322338462 : Unit := ()
def PySem.W.Fast.tw2432269291518910382 : Unit := ()
def PySem.W.Fast.tw5008209816636982083 : Unit := ()
def PySem.W.Fast.tw11061000108450231028 : Unit := ()
def PySem.W.Fast.tw3555139881875478477 : Unit := ()
def PySem.W.Fast.tw18414965900611354881 : Unit := ()
def PySem.W.Fast.tw15051934148107462985 : Unit := ()
def PySem.W.Fast.tw8153262118004031312 : Unit := ()
def PySem.W.Fast.tw803710477590857375 : Unit := ()
def PySem.W.Fast.tw15154268204132883932 : Unit := ()
def PySem.W.Fast.tw9378428399245138380 : Unit := ()
def PySem.W.Fast.tw18318141617777815772 : Unit := ()
def PySem.W.Fast.tw11087443874326699332 : Unit := ()
def PySem.W.Fast.tw13321921944518084109 : Unit := ()
def PySem.W.Fast.tw12719475459287514331 : Unit := ()
def PySem.W.Fast.tw14822717406396038036 : Unit := ()
def PySem.W.Fast.tw4411211545183401548 : Unit := ()
def PySem.W.Fast.tw6464804202421273207 : Unit := ()
def PySem.W.Fast.tw7415504421278775421 : Unit := ()
def PySem.W.Fast.tw3404637825111941314 : Unit := ()
def PySem.W.Fast.tw8738989360364431414 : Unit := ()
def PySem.W.Fast.tw11288751700211672776 : Unit := ()
def PySem.W.Fast.tw9937723786559361684 : Unit := ()
def PySem.W.Fast.tw10432082159535874670 : Unit := ()
def PySem.W.Fast.tw14644900013718989191 : Unit := ()
open PySem PySem.W PyProof.Rows
set_option maxRecDepth 100000 in
set_option maxHeartbeats 0 in
theorem PySem.Challenge.cw_onecurve_k51_whole_none_misses_fewer_holds : PySem.Challenge.rw_onecurve_k51_whole_none_misses_fewer.Holds := by
 w_on; o_law; k_head; (case hw => w_witness2)
 k_fill
 refine Pf.PH (l := PySem.Challenge.rw_onecurve_k51_whole_none_misses_fewer) (by decide +kernel) rfl rfl rfl ?F
 case F =>
  intro w mg fa h KX G hmg
  refine' Pf.OU rfl KX G hmg ?a1 ?l1 ?c1 ?k1 ?a2 ?l2 ?c2 ?k2 ?a3 ?l3 ?c3 ?k3 ?a4 ?l4 ?c4 ?k4 ?a5 ?l5 ?c5 ?k5 ?a6 ?l6 ?c6 ?k6 ?a7 ?l7 ?c7 ?k7 ?a8 ?l8 ?c8 ?k8 ?a9 ?l9 ?c9 ?k9 ?a10 ?l10 ?c10 ?k10 ?a11 ?l11 ?c11 ?k11 ?a12 ?l12 ?c12 ?k12 ?a13 ?l13 ?c13 ?k13 ?a14 ?l14 ?c14 ?k14 ?a15 ?l15 ?c15 ?k15 ?a16 ?l16 ?c16 ?k16 ?a17 ?l17 ?c17 ?k17 ?a18 ?l18 ?c18 ?k18 ?a19 ?l19 ?c19 ?k19 ?a20 ?l20 ?c20 ?k20 ?a21 ?l21 ?c21 ?k21 ?a22 ?l22 ?c22 ?k22 ?a23 ?l23 ?c23 ?k23 ?a24 ?l24 ?c24 ?k24 ?a25 ?l25 ?c25 ?k25 ?a26 ?l26 ?c26 ?k26 ?a27 ?l27 ?c27 ?k27 ?a28 ?l28 ?c28 ?k28 ?a29 ?l29 ?c29 ?k29 ?a30 ?l30 ?c30 ?k30 ?a31 ?l31 ?c31 ?k31 ?a32 ?l32 ?c32 ?k32 ?a33 ?l33 ?c33 ?k33 ?a34 ?l34 ?c34 ?k34 ?a35 ?l35 ?c35 ?k35 ?a36 ?l36 ?c36 ?k36 ?a37 ?l37 ?c37 ?k37 ?a38 ?l38 ?c38 ?k38 ?a39 ?l39 ?c39 ?k39 ?a40 ?l40 ?c40 ?k40 ?a41 ?l41 ?c41 ?k41 ?a42 ?l42 ?c42 ?k42 ?a43 ?l43 ?c43 ?k43 ?a44 ?l44 ?c44 ?k44 ?a45 ?l45 ?c45 ?k45 ?a46 ?l46 ?c46 ?k46 ?z_len ?z_abs ?z_range ?z_tuple ?z_set ?z_reversed ?z_zip ?z_sorted ?z_list ?z_min ?x_MOST_TOLD ?x_NOUGHT ?y_NOUGHT ?w_NOUGHT ?d_NOUGHT ?e_NOUGHT ?h40
  (case a1 => k_is)
  (case l1 => k_is)
  (case c1 => k_is)
  (case k1 => k_is)
  (case a2 => k_is)
  (case l2 => k_is)
  (case c2 => k_is)
  (case k2 => k_is)
  (case a3 => k_is)
  (case l3 => k_is)
  (case c3 => k_is)
  (case k3 => k_is)
  (case a4 => k_is)
  (case l4 => k_is)
  (case c4 => k_is)
  (case k4 => k_is)
  (case a5 => k_is)
  (case l5 => k_is)
  (case c5 => k_is)
  (case k5 => k_is)
  (case a6 => k_is)
  (case l6 => k_is)
  (case c6 => k_is)
  (case k6 => k_is)
  (case a7 => k_is)
  (case l7 => k_is)
  (case c7 => k_is)
  (case k7 => k_is)
  (case a8 => k_is)
  (case l8 => k_is)
  (case c8 => k_is)
  (case k8 => k_is)
  (case a9 => k_is)
  (case l9 => k_is)
  (case c9 => k_is)
  (case k9 => k_is)
  (case a10 => k_is)
  (case l10 => k_is)
  (case c10 => k_is)
  (case k10 => k_is)
  (case a11 => k_is)
  (case l11 => k_is)
  (case c11 => k_is)
  (case k11 => k_is)
  (case a12 => k_is)
  (case l12 => k_is)
  (case c12 => k_is)
  (case k12 => k_is)
  (case a13 => k_is)
  (case l13 => k_is)
  (case c13 => k_is)
  (case k13 => k_is)
  (case a14 => k_is)
  (case l14 => k_is)
  (case c14 => k_is)
  (case k14 => k_is)
  (case a15 => k_is)
  (case l15 => k_is)
  (case c15 => k_is)
  (case k15 => k_is)
  (case a16 => k_is)
  (case l16 => k_is)
  (case c16 => k_is)
  (case k16 => k_is)
  (case a17 => k_is)
  (case l17 => k_is)
  (case c17 => k_is)
  (case k17 => k_is)
  (case a18 => k_is)
  (case l18 => k_is)
  (case c18 => k_is)
  (case k18 => k_is)
  (case a19 => k_is)
  (case l19 => k_is)
  (case c19 => k_is)
  (case k19 => k_is)
  (case a20 => k_is)
  (case l20 => k_is)
  (case c20 => k_is)
  (case k20 => k_is)
  (case a21 => k_is)
  (case l21 => k_is)
  (case c21 => k_is)
  (case k21 => k_is)
  (case a22 => k_is)
  (case l22 => k_is)
  (case c22 => k_is)
  (case k22 => k_is)
  (case a23 => k_is)
  (case l23 => k_is)
  (case c23 => k_is)
  (case k23 => k_is)
  (case a24 => k_is)
  (case l24 => k_is)
  (case c24 => k_is)
  (case k24 => k_is)
  (case a25 => k_is)
  (case l25 => k_is)
  (case c25 => k_is)
  (case k25 => k_is)
  (case a26 => k_is)
  (case l26 => k_is)
  (case c26 => k_is)
  (case k26 => k_is)
  (case a27 => k_is)
  (case l27 => k_is)
  (case c27 => k_is)
  (case k27 => k_is)
  (case a28 => k_is)
  (case l28 => k_is)
  (case c28 => k_is)
  (case k28 => k_is)
  (case a29 => k_is)
  (case l29 => k_is)
  (case c29 => k_is)
  (case k29 => k_is)
  (case a30 => k_is)
  (case l30 => k_is)
  (case c30 => k_is)
  (case k30 => k_is)
  (case a31 => k_is)
  (case l31 => k_is)
  (case c31 => k_is)
  (case k31 => k_is)
  (case a32 => k_is)
  (case l32 => k_is)
  (case c32 => k_is)
  (case k32 => k_is)
  (case a33 => k_is)
  (case l33 => k_is)
  (case c33 => k_is)
  (case k33 => k_is)
  (case a34 => k_is)
  (case l34 => k_is)
  (case c34 => k_is)
  (case k34 => k_is)
  (case a35 => k_is)
  (case l35 => k_is)
  (case c35 => k_is)
  (case k35 => k_is)
  (case a36 => k_is)
  (case l36 => k_is)
  (case c36 => k_is)
  (case k36 => k_is)
  (case a37 => k_is)
  (case l37 => k_is)
  (case c37 => k_is)
  (case k37 => k_is)
  (case a38 => k_is)
  (case l38 => k_is)
  (case c38 => k_is)
  (case k38 => k_is)
  (case a39 => k_is)
  (case l39 => k_is)
  (case c39 => k_is)
  (case k39 => k_is)
  (case a40 => k_is)
  (case l40 => k_is)
  (case c40 => k_is)
  (case k40 => k_is)
  (case a41 => k_is)
  (case l41 => k_is)
  (case c41 => k_is)
  (case k41 => k_is)
  (case a42 => k_is)
  (case l42 => k_is)
  (case c42 => k_is)
  (case k42 => k_is)
  (case a43 => k_is)
  (case l43 => k_is)
  (case c43 => k_is)
  (case k43 => k_is)
  (case a44 => k_is)
  (case l44 => k_is)
  (case c44 => k_is)
  (case k44 => k_is)
  (case a45 => k_is)
  (case l45 => k_is)
  (case c45 => k_is)
  (case k45 => k_is)
  (case a46 => k_is)
  (case l46 => k_is)
  (case c46 => k_is)
  (case k46 => k_is)
  (case z_len => k_is)
  (case z_abs => k_is)
  (case z_range => k_is)
  (case z_tuple => k_is)
  (case z_set => k_is)
  (case z_reversed => k_is)
  (case z_zip => k_is)
  (case z_sorted => k_is)
  (case z_list => k_is)
  (case z_min => k_is)
  (case x_MOST_TOLD => k_is)
  (case x_NOUGHT => k_is)
  (case y_NOUGHT => k_is)
  (case w_NOUGHT => rfl)
  (case d_NOUGHT => rfl)
  (case e_NOUGHT => rfl)
  (case h40 => first | rfl | with_unfolding_all rfl)
#print axioms PySem.Challenge.cw_onecurve_k51_whole_none_misses_fewer_holds
