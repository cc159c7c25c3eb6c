import PyProof.Rows.All
import Wide.All
import OpenK.AllK
import Wide.FinOn
import Lean
import PyProof.EqAt
import PyProof.EqKinds
import PyProof.TupleCall
import KE.KDictList
import PySem.Challenge.RW_onecurve_k43_stretches_refused
open Option renaming some → QK
open PySem.W renaming methodObj → QL, hideAll → QQ, of_hideAll → QR, Frag → QT, findIn → Rc, specialIn → Rf, keepIn → Rg, mroIn → Rh, callWith_K → Rj, cellsFrom_some → Rn, fnOf → Rz, codeIn → RA, OpenLaw → RM, kitOne → SG, nsIn → SK, excIn → SM, mg_of → SN, exmOne → TC, mg_none_of → Uc
open Nat renaming lt_of_lt_of_le → QM, lt_irrefl → QN, ne_of_lt → QO, le_trans → QU, le_of_lt → QV, ne_of_gt → R7, le_refl → R8, zero_le → Rb, min_eq_left → RE, mul_comm → RK, lt_of_le_of_lt → RN, pos_of_ne_zero → RP, not_lt → Sk, lt_succ_self → So, le_succ → Sr, sub_lt_sub_left → Su, pow_le_pow_right → Sx, pow_add → Sz, pow_succ → SA, add_mul → SH, one_mul → SI, mul_le_mul_right → SJ, sub_zero → SQ, mul_add → SU, one_le_two_pow → SW, zero_add → T3, add_sub_cancel → Tb, sub_self → Te, mul_le_mul → Tr, mul_le_mul_left → TR
open List renaming range → QP, mem_range → QS, filterMap_cons → QW, mem_cons_self → QX, mem_cons_of_mem → QY, mem_cons → QZ, mem_append → R0, mem_append_left → R1, getElem?_eq_some_iff → R3, getElem?_set_self → R4, getElem?_set_ne → R5, mem_filterMap → R9, mem_append_right → Ra, append_nil → Ri, nodup_cons → Rk, of_mem_zip → Rl, replicate → Rm, length → Ro, length_take → Rp, getElem?_append_right → Rq, getElem?_replicate → Rr, getElem?_append_left → Rt, getElem?_map → Ru, mem_of_getElem? → Rv, length_append → Rw, length_map → Rx, length_replicate → Ry, size_toArray → RC, length_set → RF, replicate_succ → RG, flatten_cons → RH, append_assoc → RI, length_singleton → RJ, map_cons → RL, length_pos_iff → S8, length_cons → S9, getElem?_cons_succ → Sa, map_set → Sb, take_add_one → Sd, map_append → Se, take_length → Sf, eq_nil_of_length_eq_zero → Sg, lookup_cons → Si, lookup → Sj, getD_eq_getElem?_getD → Sl, ext_getElem? → Sm, getElem?_drop → Sn, mem_singleton → Ss, getElem?_eq_getElem → Sv, getElem_mem → Sw, drop_zero → SO, getElem?_eq_none → SV, length_range → SX, getElem?_range → SY, map_map → T5, map_congr_left → T6, take_of_length_le → T7, length_eq_zero_iff → T8, length_nil → Tq, mem_map → Tt, getElem?_of_mem → Tu, mem_of_mem_take → Tv, filter_append → TF, length_filter_le → TH, getElem_map → TZ, range_succ → U0, filter_cons_of_neg → U1, filter_cons_of_pos → U2, getElem?_take → Ua, reverse_reverse → Ub
open Array renaming length_toList → R6, getElem?_setIfInBounds_ne → Tx, getElem?_eq_some_iff → Tz
open Int renaming toNat_natCast → RD, gcd → RO, mul_fdiv_cancel_left → RQ, sign_eq_neg_one_of_neg → RT, one_mul → RU, sign_eq_one_of_pos → RV, mul_ne_zero → RY, natAbs_mul → Sy, natAbs_add_le → SD, sub_eq_add_neg → SE, pow_zero → SR, pow_succ → SS, mul_comm → T9, mul_assoc → Ta, eq_of_mul_eq_mul_left → Tc, pow_ne_zero → Td, one_pow → Tf, pow_mul → Tg, mul_zero → Th, fdiv → Ts, mul_neg_of_pos_of_neg → TJ, mul_pos → TK, toNat_of_nonneg → TM, mul_pos_of_neg_of_neg → U3, emod_nonneg → U7, emod_lt_of_pos → U8, natCast_nonneg → U9
open Rat renaming divInt → RS, divInt_eq_div → RW, div_mul_cancel → RX, intCast_add → RZ, intCast_mul → S5, pow_zero → S6, pow_succ → S7, mul_eq_zero → Sh, mul_comm → T4, intCast_zero → Ti, mul_inv_cancel → Tj, mul_assoc → Tn, mul_one → To, zero_mul → Tw, div_def → TL, num_natCast → TN, den_natCast → TQ, num_eq_zero → TU, num_nonneg → TV, intCast_le_intCast → TX, mul_pos → TY, intCast_lt_intCast → U4, le_of_lt → U5, mul_nonneg → U6
set_option Elab.async false
set_option linter.all false
set_option maxRecDepth 100000
namespace L2
open PySem PySem.Spec PyProof.Rows
abbrev Key := Sum Int Str
def MG : Key → Value → Bool
 | .inl k, v => Value.isInt k v
 | .inr x, v => Value.isStrOf x v
def OJ (w : World) : Key → Int
 | .inl k => hashInt k
 | .inr x => hashStr w x
theorem Bq : ∀ {k : Key} {v : Value}, MG k v = true → (∃ i t, k = Sum.inl i ∧ v = Value.int i t) ∨ (∃ x t, k = Sum.inr x ∧ v = Value.str x t)
 | .inl i, v, h => by
   obtain ⟨t, e⟩ := Value.isInt_shape (k := i) (v := v) h
   exact .inl ⟨i, t, rfl, e⟩
 | .inr x, v, h => by
   obtain ⟨t, e⟩ := Value.isStrOf_shape (x := x) (v := v) h
   exact .inr ⟨x, t, rfl, e⟩
theorem Nw (a b : Int) : decide ((Sum.inl a : Key) = Sum.inl b) = (a == b) := by
 by_cases e : a = b
 ·subst e; simp
 ·have h : ¬ (Sum.inl a : Key) = Sum.inl b := fun q => e (Sum.inl.inj q)
  rw [decide_eq_false h]
  exact (beq_eq_false_iff_ne.mpr e).symm
theorem Nt (a b : Str) : decide ((Sum.inr a : Key) = Sum.inr b) = decide (a = b) := by
 by_cases e : a = b
 ·subst e; simp
 ·have h : ¬ (Sum.inr a : Key) = Sum.inr b := fun q => e (Sum.inr.inj q)
  rw [decide_eq_false h, decide_eq_false e]
theorem Nv (a : Int) (b : Str) : decide ((Sum.inl a : Key) = Sum.inr b) = false := decide_eq_false (fun q => nomatch q)
theorem Nu (a : Str) (b : Int) : decide ((Sum.inr a : Key) = Sum.inl b) = false := decide_eq_false (fun q => nomatch q)
def Jr (prog : Program) (w : World) : PySem.KeyKind prog w Key where
 is := MG
 hash := OJ w
 inj := fun v a b ha hb => by
  rcases Bq ha with ⟨i, t, rfl, rfl⟩ | ⟨x, t, rfl, rfl⟩
  ·rcases Bq hb with ⟨j, u, rfl, e⟩ | ⟨y, u, rfl, e⟩
   ·injection e with e1 _; rw [e1]
   ·exact nomatch e
  ·rcases Bq hb with ⟨j, u, rfl, e⟩ | ⟨y, u, rfl, e⟩
   ·exact nomatch e
   ·injection e with e1 _; rw [e1]
 byValue := fun k v h => by
  rcases Bq h with ⟨i, t, rfl, rfl⟩ | ⟨x, t, rfl, rfl⟩ <;> rfl
 pyHash := fun hv h => by
  rcases Bq hv with ⟨i, t, rfl, rfl⟩ | ⟨x, t, rfl, rfl⟩
  ·exact wpAny_pyHash_int h
  ·exact wpAny_pyHash_str h
 eqBool := fun hu hv h => by
  rcases Bq hu with ⟨i, t, rfl, rfl⟩ | ⟨x, t, rfl, rfl⟩
  ·rcases Bq hv with ⟨j, u, rfl, rfl⟩ | ⟨y, u, rfl, rfl⟩
   ·rw [Nw] at h; exact wpAny_eqBool_int h
   ·rw [Nv] at h; exact SeqAt.EqAt.int_str i t y u _ _ _ _ h
  ·rcases Bq hv with ⟨j, u, rfl, rfl⟩ | ⟨y, u, rfl, rfl⟩
   ·rw [Nu] at h; exact SeqAt.EqAt.str_int x t j u _ _ _ _ h
   ·rw [Nt] at h; exact wpAny_eqBool_str h
 «strs» := fun k x t v h => by
  rcases Bq h with ⟨i, u, rfl, e⟩ | ⟨y, u, rfl, e⟩
  ·exact nomatch e
  ·injection e with e1 _
   subst e1
   cases v <;> rfl
end L2
namespace L2
open PySem PySem.Spec PyProof.Rows
inductive V where
 | non | bl (b : Bool) | int (i : Int) | str (x : Str) | byt (b : Array UInt8) | flt (b : UInt64) | ref (a : Addr) | ty (n : String)
 deriving DecidableEq
def Bh : V → Value → Prop
 | .non, u => u = Value.none
 | .bl b, u => u = Value.bool b
 | .int i, u => ∃ t, u = Value.int i t
 | .str x, u => ∃ t, u = Value.str x t
 | .byt b, u => ∃ t, u = Value.bytes b t
 | .flt b, u => ∃ t, u = Value.float b t
 | .ref a, u => u = Value.ref a
 | .ty n, u => u = Value.type n
abbrev AK : List V → List Value → Prop := Paired Bh
theorem AK.length {xs : List V} {us : List Value} (r : AK xs us) : xs.length = us.length := Paired.length r
theorem AK.get : ∀ {xs : List V} {us : List Value} {i : Nat} {x : V}, AK xs us → xs[i]? = some x → ∃ u, us[i]? = some u ∧ Bh x u
 | _, _, _, _, .nil, e => by simp at e
 | _, _, 0, _, .cons r _, e => by simp at e; subst e; exact ⟨_, rfl, r⟩
 | _, _, i + 1, x, .cons _ t, e => by
   obtain ⟨u, h1, h2⟩ := AK.get (i := i) (x := x) t (by simpa using e)
   exact ⟨u, by simpa using h1, h2⟩
theorem AK.set {x : V} {u : Value} (r : Bh x u) : ∀ {xs : List V} {us : List Value} (i : Nat), AK xs us → AK (xs.set i x) (us.set i u)
 | _, _, _, .nil => .nil
 | _, _, 0, .cons _ t => .cons r t
 | _, _, i + 1, .cons q t => .cons q (AK.set r i t)
theorem AK.append {xs ys : List V} {us ws : List Value} (a : AK xs us) (b : AK ys ws) : AK (xs ++ ys) (us ++ ws) := by
 induction a with
 | nil => exact b
 | cons r t ih => exact .cons r ih
theorem AK.take : ∀ {xs : List V} {us : List Value} (n : Nat), AK xs us → AK (xs.take n) (us.take n)
 | _, _, 0, _ => .nil
 | _, _, _ + 1, .nil => .nil
 | _, _, n + 1, .cons r t => .cons r (AK.take n t)
theorem AK.drop : ∀ {xs : List V} {us : List Value} (n : Nat), AK xs us → AK (xs.drop n) (us.drop n)
 | _, _, 0, r => r
 | _, _, _ + 1, .nil => .nil
 | _, _, n + 1, .cons _ t => AK.drop n t
def Oy : Option V → Option Value → Prop
 | some v, some u => Bh v u
 | none, none => True
 | _, _ => False
def KV {κ : Type} : List (κ × V) → List (κ × Value) → Prop := Paired fun (p : κ × V) (q : κ × Value) => p.1 = q.1 ∧ Bh p.2 q.2
def kV : Key → V
 | .inl i => .int i
 | .inr x => .str x
inductive HO where
 | lst (xs : List V)
 | tup (xs : List V)
 | dK (kvs : List (Key × V)) | dT (kvs : List (List Key × V))
 | set (S : Int → Bool) (n : Nat)
 | ins (C dx : Addr) (fs : List (Str × V))
 | own (x : Addr)
 | xd (fs : List (Str × V))
 | met (f x : Addr)
 | rng (lo hi : Int)
 | frz (o : Obj) (u : HO)
 | tbl (ps : Array Value)
 | ext (φ : Heap → Prop)
abbrev Hp := Addr → Option HO
def upd (H : Hp) (a : Addr) (o : HO) : Hp := fun b => if b = a then some o else H b
theorem Ad {H : Hp} {a : Addr} {o : HO} : upd H a o a = some o := by unfold upd; rw [if_pos rfl]
theorem AB {H : Hp} {a b : Addr} {o : HO} (h : b ≠ a) : upd H a o b = H b := by unfold upd; rw [if_neg h]
theorem LW {H : Hp} {a : Addr} {o u : HO} : upd (upd H a o) a u = upd H a u := by
 funext b; unfold upd; split <;> rfl
theorem HY {H : Hp} {a b : Addr} {o u : HO} (h : H a = some o) (h' : H b = some u) (d : o ≠ u) : a ≠ b := by
 intro e; subst e; rw [h] at h'; exact d (QK.inj h')
theorem Az {H : Hp} {a b : Addr} {o : HO} (h : H a = some o) (h' : H b = none) : a ≠ b := by
 intro e; subst e; rw [h] at h'; cases h'
section
variable (P : Program) (w : World)
def Cg (H : Hp) (h : Heap) (a : Addr) : HO → Prop
 | .lst xs => xs.length ≤ sizeLine ∧ ∃ (its : List Value) (n : Nat), AK xs its ∧ h.get? a = some { cls := .type "list", data := .seq its.toArray n }
 | .tup xs => xs.length ≤ sizeLine ∧ ∃ its : List Value, AK xs its ∧ IsTup h a its.toArray
 | .dK kvs => kvs.length ≤ sizeLine ∧ (a == sysModules) = false ∧ ∃ vs, KV kvs vs ∧ h.DictOf (Jr P w) a vs
 | .dT kvs => kvs.length ≤ sizeLine ∧ (a == sysModules) = false ∧ ∃ xs : List (List Key × Addr × Value),
  Paired (fun (p : List Key × V) (q : List Key × Addr × Value) => p.1 = q.1 ∧ H q.2.1 = some (.tup (p.1.map kV)) ∧ Bh p.2 q.2.2) kvs xs ∧
  ∃ o es ep, h.get? a = some o ∧ o.ExactDict ∧ o.data = .dict es ep ∧ es.toList = xs.map (entryOfKey (tupleKind (Jr P w))) ∧ (xs.map (·.1)).Nodup
 | .set S n => h.SetOf (intKind P w) a S n
 | .ins C dx fs => H dx = some (.own a) ∧ fs.length ≤ 1000 ∧ dx ≠ a ∧ h.get? a = some (PySem.W.instObj C dx) ∧
  ∃ mA, h.Ns1 dx mA ∧ (∀ f, Oy (fs.lookup f) (mA f)) ∧ PySem.Within mA (fs.map (·.1))
 | .own _ => ∃ o, h.get? a = some o
 | .xd fs => ∃ mA, h.Ns1 a mA ∧ ∀ f, Oy (fs.lookup f) (mA f)
 | .rng lo hi => ∃ t u v, h.get? a = some { cls := .type "range", data := .fields #[.int lo t, .int hi u, .int 1 v] }
 | .frz o u => h.get? a = some o ∧ Cg H h a u
 | .tbl ps => h.get? a = some { cls := .none, data := .fields ps }
 | .met f x => h.get? a = some (QL (.ref f) (.ref x))
 | .ext φ => φ h ∧ (∃ o, h.get? a = some o) ∧ ∀ h1 h2 : Heap, φ h1 → (∀ o, h1.get? a = some o → h2.get? a = some o) → φ h2
def HOk (H : Hp) (h : Heap) : Prop := ∀ a o, H a = some o → Cg P w H h a o
end
section
variable {P : Program} {w : World} {H H' : Hp} {h h' : Heap} {a : Addr} {o : HO}
theorem Cg.lt (x : Cg P w H h a o) : a < h.objs.size := by
 cases o with
 | lst xs => obtain ⟨_, _, _, _, e⟩ := x; exact Heap.lt_size e
 | tup xs => obtain ⟨_, _, _, p⟩ := x; exact p.lt
 | dK kvs => obtain ⟨_, _, _, _, o, _, _, e, _⟩ := x; exact Heap.lt_size e
 | dT kvs => obtain ⟨_, _, _, _, o, _, _, e, _⟩ := x; exact Heap.lt_size e
 | set S n => obtain ⟨o, _, _, _, e, _⟩ := x; exact Heap.lt_size e
 | ins C dx fs => obtain ⟨_, _, _, e, _⟩ := x; exact Heap.lt_size e
 | own y => obtain ⟨_, e⟩ := x; exact Heap.lt_size e
 | xd fs => obtain ⟨_, ⟨_, _, _, e, _⟩, _⟩ := x; exact Heap.lt_size e
 | rng lo hi => obtain ⟨_, _, _, e⟩ := x; exact Heap.lt_size e
 | frz ob u => obtain ⟨e, _⟩ := x; exact Heap.lt_size e
 | tbl ps => exact Heap.lt_size (show h.get? a = some _ from x)
 | met f y => exact Heap.lt_size (show h.get? a = some _ from x)
 | ext φ => obtain ⟨_, ⟨_, e⟩, _⟩ := x; exact Heap.lt_size e
theorem Paired.mapP {α β : Type} {F G : α → β → Prop} {l₁ : List α} {l₂ : List β} (h : Paired F l₁ l₂) (f : ∀ a b, F a b → G a b) : Paired G l₁ l₂ := by
 induction h with
 | nil => exact .nil
 | cons r t ih => exact .cons (f _ _ r) ih
theorem Cg.stay (x : Cg P w H h a o) (k : ∀ b u, (b = a ∨ H b = some (.own a)) → h.get? b = some u → h'.get? b = some u)
 (ho : ∀ b, H b = some (.own a) → H' b = some (.own a)) (ht : ∀ b xs, H b = some (.tup xs) → H' b = some (.tup xs)) : Cg P w H' h' a o := by
 induction o with
 | lst xs => obtain ⟨z, its, n, r, e⟩ := x; exact ⟨z, its, n, r, k _ _ (.inl rfl) e⟩
 | tup xs => obtain ⟨z, its, r, ob, e, c⟩ := x; exact ⟨z, its, r, ob, k _ _ (.inl rfl) e, c⟩
 | dK kvs => obtain ⟨z, y, vs, r, ob, es, ep, e, c⟩ := x; exact ⟨z, y, vs, r, ob, es, ep, k _ _ (.inl rfl) e, c⟩
 | dT kvs =>
   obtain ⟨z, y, xs, r, ob, es, ep, e, c⟩ := x
   exact ⟨z, y, xs, Paired.mapP r fun p q z => ⟨z.1, ht _ _ z.2.1, z.2.2⟩, ob, es, ep, k _ _ (.inl rfl) e, c⟩
 | set S n => obtain ⟨ob, es, ep, t, e, c⟩ := x; exact ⟨ob, es, ep, t, k _ _ (.inl rfl) e, c⟩
 | ins C dx fs =>
   obtain ⟨d, z, ne, e, mA, ⟨od, es, ep, e2, c⟩, r⟩ := x
   exact ⟨ho _ d, z, ne, k _ _ (.inl rfl) e, mA, ⟨od, es, ep, k _ _ (.inr d) e2, c⟩, r⟩
 | own y => obtain ⟨ob, e⟩ := x; exact ⟨ob, k _ _ (.inl rfl) e⟩
 | xd fs => obtain ⟨mA, ⟨od, es, ep, e, c⟩, r⟩ := x; exact ⟨mA, ⟨od, es, ep, k _ _ (.inl rfl) e, c⟩, r⟩
 | rng lo hi => obtain ⟨t, u, v, e⟩ := x; exact ⟨t, u, v, k _ _ (.inl rfl) e⟩
 | frz ob u ih => obtain ⟨e, q⟩ := x; exact ⟨k _ _ (.inl rfl) e, ih q⟩
 | tbl ps =>
   have e : h.get? a = some { cls := .none, data := .fields ps } := x
   show h'.get? a = some { cls := .none, data := .fields ps }
   exact k a _ (.inl rfl) e
 | met f y =>
   have e : h.get? a = some (QL (.ref f) (.ref y)) := x
   show h'.get? a = some (QL (.ref f) (.ref y))
   exact k a _ (.inl rfl) e
 | ext φ => obtain ⟨p, ⟨o, e⟩, st⟩ := x; exact ⟨st _ _ p fun o q => k _ _ (.inl rfl) q, ⟨o, k _ _ (.inl rfl) e⟩, st⟩
theorem HOk.lt (x : HOk P w H h) (e : H a = some o) : a < h.objs.size := (x a o e).lt
theorem HOk.fresh (x : HOk P w H h) (e : h.objs.size ≤ a) : H a = none := by
 cases q : H a with
 | none => rfl
 | some u => exact absurd (QM (x.lt q) e) (QN _)
theorem HOk.kept (x : HOk P w H h) (k : ∀ b u, h.get? b = some u → h'.get? b = some u) : HOk P w H h' := fun a o e =>
 (x a o e).stay (fun b u _ q => k b u q) (fun _ q => q) fun _ _ q => q
theorem HOk.laid (x : HOk P w H h) (k : ∀ b u, h.get? b = some u → h'.get? b = some u) (hp : h.objs.size ≤ a) (new : Cg P w (upd H a o) h' a o) : HOk P w (upd H a o) h' := fun b u e => by
 have hn := x.fresh hp
 by_cases hb : b = a
 ·subst hb; rw [Ad] at e; cases e; exact new
 ·rw [AB hb] at e
  exact (x b u e).stay (fun c v _ q => k c v q) (fun c q => by rw [AB (Az q hn)]; exact q) fun c xs q => by rw [AB (Az q hn)]; exact q
end
def Rd (H : Hp) (a : Addr) (u : HO) : Prop := H a = some u ∨ ∃ o, H a = some (.frz o u)
theorem Rd.ok {P : Program} {w : World} {H : Hp} {h : Heap} {a : Addr} {u : HO} (r : Rd H a u) (x : HOk P w H h) : Cg P w H h a u := by
 rcases r with r | ⟨o, r⟩
 ·exact x a u r
 ·obtain ⟨_, q⟩ := x a _ r
  exact q
def Mut : Option HO → Prop
 | some (.lst _) => True
 | some (.dK _) => True
 | some (.dT _) => True
 | some (.set _ _) => True
 | some (.ins _ _ _) => True
 | some (.ext _) => True
 | _ => False
section
variable {P : Program} {w : World} {H : Hp} {h h' : Heap} {x e : Addr} {o' : HO}
theorem HOk.write (ok : HOk P w H h) (mu : Mut (H x)) (he : e = x ∨ H e = some (.own x)) (k : ∀ b u, b ≠ e → h.get? b = some u → h'.get? b = some u) (heo : ∃ u, h'.get? e = some u)
 (new : Cg P w (upd H x o') h' x o') : HOk P w (upd H x o') h' := fun b u q => by
 have nown : ∀ c y, H c = some (.own y) → c ≠ x := fun c y r z => by subst z; rw [r] at mu; exact mu
 have ntup : ∀ c xs, H c = some (.tup xs) → c ≠ x := fun c xs r z => by subst z; rw [r] at mu; exact mu
 by_cases hb : b = x
 ·subst hb; rw [Ad] at q; cases q; exact new
 ·rw [AB hb] at q
  by_cases hbe : b = e
  ·have q' : H b = some (.own x) := by
    rcases he with z | z
    ·exact absurd (hbe.trans z) hb
    ·rw [hbe]; exact z
   rw [q] at q'; cases q'
   obtain ⟨v, hv⟩ := heo
   exact ⟨v, by rw [hbe]; exact hv⟩
  ·refine (ok b u q).stay (fun c v hc r => k c v ?_ r) (fun c r => by rw [AB (nown c b r)]; exact r) fun c xs r => by rw [AB (ntup c xs r)]; exact r
   rcases hc with rfl | hc
   ·exact hbe
   ·rintro rfl
    rcases he with z | z
    ·exact nown c b hc z
    ·rw [hc] at z; cases z; exact hb rfl
end
structure Un (fs ex : List Addr) (H H' : Hp) (h h' : Heap) : Prop where
 keep : ∀ b o, h.get? b = some o → H b = none → b ∉ fs → b ∉ ex → h'.get? b = some o
 slot : ∀ b o, h.get? b = some o → H b = none → b ∈ fs → b ∉ ex → ∃ sl, h'.get? b = some { o with slots := sl }
 free : ∀ b o, h.get? b = some o → H b = none → b ∉ ex → H' b = none
 there : ∀ b o, h.get? b = some o → b ∉ ex → ∃ o', h'.get? b = some o'
 tups : ∀ b xs, H b = some (.tup xs) → H' b = some (.tup xs)
 frzs : ∀ b o u, H b = some (.frz o u) → H' b = some (.frz o u)
 tbls : ∀ b ps, H b = some (.tbl ps) → ∃ more, H' b = some (.tbl (ps ++ more))
section
variable {fs fs' ex ex' : List Addr} {H H1 H2 : Hp} {h h1 h2 h' : Heap} {a x e : Addr} {o : HO}
theorem Un.any (u : Un fs ex H H1 h h1) {b : Addr} {ob : Obj} (q : h.get? b = some ob) (n : H b = none) (hx : b ∉ ex) : ∃ sl, h1.get? b = some { ob with slots := sl } := by
 by_cases hb : b ∈ fs
 ·exact u.slot b ob q n hb hx
 ·exact ⟨ob.slots, u.keep b ob q n hb hx⟩
theorem Un.kept (k : ∀ b u, h.get? b = some u → h'.get? b = some u) : Un fs ex H H h h' :=
 ⟨fun b ob q _ _ _ => k b ob q, fun b ob q _ _ _ => ⟨ob.slots, k b ob q⟩, fun _ _ _ n _ => n, fun b ob q _ => ⟨ob, k b ob q⟩, fun _ _ q => q, fun _ _ _ q => q, fun _ ps q => ⟨#[], by rw [q]; simp⟩⟩
theorem Un.refl : Un fs ex H H h h := Un.kept fun _ _ q => q
theorem Un.laid (k : ∀ b u, h.get? b = some u → h'.get? b = some u) (hp : h.objs.size ≤ a) (hn : H a = none) : Un fs ex H (upd H a o) h h' where
 keep := fun b u q _ _ _ => k b u q
 slot := fun b u q _ _ _ => ⟨u.slots, k b u q⟩
 free := fun b u q n _ => by rw [AB (QO (QM (Heap.lt_size q) hp))]; exact n
 there := fun b u q _ => ⟨u, k b u q⟩
 tups := fun b xs q => by rw [AB (Az q hn)]; exact q
 frzs := fun b u xs q => by rw [AB (Az q hn)]; exact q
 tbls := fun b ps q => ⟨#[], by rw [AB (Az q hn), q]; simp⟩
theorem Un.write (mu : Mut (H x)) (he : e = x ∨ H e = some (.own x)) (k : ∀ b u, b ≠ e → h.get? b = some u → h'.get? b = some u) (heo : ∃ u, h'.get? e = some u) : Un fs ex H (upd H x o) h h' := by
 have hx : ∀ b, H b = none → b ≠ x := fun b n z => by subst z; rw [n] at mu; exact mu
 have hb : ∀ b, H b = none → b ≠ e := fun b n z => by
  subst z
  rcases he with r | r
  ·exact hx b n r
  ·rw [n] at r; cases r
 have hm : ∀ b u, H b = some u → ¬ Mut (some u) → b ≠ x := fun b u q nm z => by subst z; rw [q] at mu; exact nm mu
 refine ⟨fun b u q n _ _ => k b u (hb b n) q, fun b u q n _ _ => ⟨u.slots, k b u (hb b n) q⟩, fun b u q n _ => by rw [AB (hx b n)]; exact n, fun b u q _ => ?_,
  fun b xs q => by rw [AB (hm b _ q fun z => z)]; exact q, fun b u xs q => by rw [AB (hm b _ q fun z => z)]; exact q, fun b ps q => ⟨#[], by rw [AB (hm b _ q fun z => z), q]; simp⟩⟩
 by_cases hbe : b = e
 ·subst hbe; exact heo
 ·exact ⟨u, k b u hbe q⟩
end
def trk (h : Heap) (H : Hp) : List Addr := (QP h.objs.size).filter fun a => (H a).isSome
def FZ (h : Heap) (H : Hp) : Heap := QQ h (trk h H)
theorem K6 (h : Heap) (H : Hp) : (FZ h H).objs.size = h.objs.size := PySem.W.hideAll_size _ _
theorem Lm {h : Heap} {H : Hp} {b : Addr} {o : Obj} (e : h.get? b = some o) (n : H b = none) : (FZ h H).get? b = some o :=
 PySem.W.hideAll_get _ e fun hm => by
  have q : (H b).isSome = true := (List.mem_filter.mp hm).2
  rw [n] at q; simp at q
theorem Me {h : Heap} {H : Hp} {b : Addr} {o : Obj} (e : (FZ h H).get? b = some o) : h.get? b = some o ∧ H b = none := by
 have e' : h.get? b = some o := QR (trk h H) e
 refine ⟨e', ?_⟩
 cases q : H b with
 | none => rfl
 | some x =>
   have hm : b ∈ trk h H := List.mem_filter.mpr ⟨QS.mpr (Heap.lt_size e'), by simp [q]⟩
   have z : (FZ h H).get? b = none := PySem.W.hideAll_none (trk h H) hm
   rw [z] at e; cases e
def Mz (g h : Heap) (L : Addr) : List (Addr × Obj) := (QP h.objs.size).filterMap fun a => if a = L ∨ (g.get? a).isSome = true then none else (h.get? a).map fun o => (a, o)
def rest (g h : Heap) (L d : Addr) : List (Addr × Obj) := (Mz g h L).filter fun p => decide (p.1 ≠ d)
end L2
namespace L2
open PySem PySem.Spec PyProof.Rows
structure Mod (K : QT) (mg : Str → Option Value) (base : Heap) : Prop where
 kin : K.In base
 glob : base.Ns mainGlobals mg
 blt : ∃ mb, base.Ns builtinsNs mb ∧ ∀ x : Str, x ≠ "__name__" → mb x = bootBuiltins x
 nolimit : base.NoLimit
 seer : base.NoSeer
structure Cx where
 prog : Program
 w : World
 K : QT
 mg : Str → Option Value
 base : Heap
 A : Around
 N : List Str
 s₀ : Shared
 H₀ : Hp
 env : Env
 outer : List Env
 stack : List Env
 ex : List Addr
 fn : Str → Bool
 calm : Bool
 pn : List (Addr × Obj)
 xe : Value → Shared → Prop
def frs (l : List Env) : List Addr := l.filterMap (·.frame)
abbrev Cx.fs (X : Cx) : List Addr := frs X.outer
def Vis (sc : Scope) (x : Str) : Prop := sc.names.lookup x = some .local ∨ sc.names.lookup x = some .cell ∨ sc.names.lookup x = some .free
def Loc (sc : Scope) (x : Str) : Prop := sc.names.lookup x = some .local ∨ sc.names.lookup x = some .cell
def OA (env : Env) (h : Heap) (m : Str → Option Value) (x : Str) (u : Value) : Prop :=
 (env.kindOf x = some .local ∧ m x = some u) ∨ ((env.kindOf x = some .cell ∨ env.kindOf x = some .free) ∧ ∃ c, env.cells.lookup x = some c ∧ h.IsCell c (some u))
structure Cx.Ok (X : Cx) : Prop where
 mod : Mod X.K X.mg X.base
 kind : X.env.scope.kind = .function
 glob : X.env.globals = mainGlobals
 blt : X.env.builtins = builtinsNs
 above : X.s₀.heap.objs.size ≤ X.env.locals
 inj : ∀ x y c, X.env.cells.lookup x = some c → X.env.cells.lookup y = some c → x = y
 has : ∀ x, (X.env.kindOf x = some .cell ∨ X.env.kindOf x = some .free) → ∃ c, X.env.cells.lookup x = some c
 cab : ∀ x c, X.fn x = true → X.env.cells.lookup x = some c → X.s₀.heap.objs.size ≤ c
 hd : X.calm = true → X.A.handled = none
 frames : X.A.frames = some X.stack
 stk : X.stack = X.outer ∨ (X.stack = X.env :: X.outer ∧ X.env.frame = some X.env.locals)
 exf : ∀ b ∈ X.ex, b ≠ X.env.locals ∧ ∀ x c, X.env.cells.lookup x = some c → c ≠ b
 bs : ∀ b o, X.base.get? b = some o → X.s₀.heap.get? b = some o ∧ X.H₀ b = none
 bsz : X.base.objs.size ≤ X.s₀.heap.objs.size
 noex : ∀ b o, X.base.get? b = some o → b ∉ X.ex
 exfs : ∀ b ∈ X.ex, b ∉ X.fs
 funs : X.s₀.heap.FunFrames X.base X.outer
 frf : ∀ b ∈ X.fs, X.H₀ b = none
structure Inv (X : Cx) (pins : List (Addr × Obj)) (σ : List (Option V)) (H : Hp) (s : Shared) : Prop where
 ok : X.Ok
 os : s.os = X.s₀.os
 bare : AllBare s.gens
 base : Un X.fs X.ex X.H₀ H X.s₀.heap s.heap
 loc : ∃ m, s.heap.Ns X.env.locals m ∧ ∀ (i : Nat) (x : Str) (v : V), X.N[i]? = some x → σ[i]? = some (some v) → Vis X.env.scope x → ∃ u, Bh v u ∧ OA X.env s.heap m x u
 cell : ∀ x c, X.env.cells.lookup x = some c → ∃ v, s.heap.IsCell c v
 free : H X.env.locals = none
 freeC : ∀ x c, X.env.cells.lookup x = some c → H c = none
 pin : ∀ p ∈ X.pn ++ pins, s.heap.get? p.1 = some p.2 ∧ H p.1 = none ∧ p.1 ≠ X.env.locals ∧ p.1 ∉ X.fs ∧ ∀ v, p.2.data ≠ .cell v
 hok : HOk X.prog X.w H s.heap
 len : σ.length = X.N.length
section
variable {X : Cx} {pins : List (Addr × Obj)} {σ : List (Option V)} {H H' : Hp} {s : Shared} {h' : Heap}
theorem Cx.Ok.nofr (ok : X.Ok) {b : Addr} {o : Obj} (e : X.base.get? b = some o) : b ∉ X.fs := fun hb => by
 have := (ok.funs.mem hb).1
 rw [e] at this; cases this
theorem Inv.bs (I : Inv X pins σ H s) : ∀ b o, X.base.get? b = some o → s.heap.get? b = some o ∧ H b = none := fun b o e =>
 ⟨I.base.keep b o (I.ok.bs b o e).1 (I.ok.bs b o e).2 (I.ok.nofr e) (I.ok.noex b o e), I.base.free b o (I.ok.bs b o e).1 (I.ok.bs b o e).2 (I.ok.noex b o e)⟩
theorem Inv.bk (I : Inv X pins σ H s) : ∀ b o, X.base.get? b = some o → s.heap.get? b = some o := fun b o e => (I.bs b o e).1
theorem Inv.mod (I : Inv X pins σ H s) : Mod X.K X.mg X.base := I.ok.mod
theorem Inv.kIn (I : Inv X pins σ H s) : X.K.In s.heap := I.ok.mod.kin.keeps I.bk
theorem Inv.nolimit (I : Inv X pins σ H s) : s.heap.NoLimit := I.ok.mod.nolimit.keeps I.bk
theorem Inv.lt (I : Inv X pins σ H s) : X.env.locals < s.heap.objs.size := let ⟨_, hn, _⟩ := I.loc; hn.lt
theorem Inv.sz (I : Inv X pins σ H s) : X.s₀.heap.objs.size ≤ s.heap.objs.size := QU I.ok.above (QV I.lt)
theorem Inv.nofs (I : Inv X pins σ H s) {a : Addr} (h : s.heap.objs.size ≤ a) : a ∉ X.fs := fun hb => by
 obtain ⟨_, o, ho, _⟩ := I.ok.funs.mem hb
 exact absurd (QM (Heap.lt_size ho) (QU I.sz h)) (QN _)
theorem Inv.cne (I : Inv X pins σ H s) : ∀ x c, X.env.cells.lookup x = some c → c ≠ X.env.locals := fun x c e z => by
 obtain ⟨v, o, ho, hd⟩ := I.cell x c e
 obtain ⟨m, ⟨o', es, ep, ho', hd', _⟩, _⟩ := I.loc
 rw [z, ho'] at ho; cases ho; rw [hd'] at hd; cases hd
theorem Inv.funs (I : Inv X pins σ H s) : s.heap.FunFrames X.base X.outer := by
 have all : ∀ (l : List Env), (∀ b ∈ frs l, b ∈ X.fs) → X.s₀.heap.FunFrames X.base l → s.heap.FunFrames X.base l := by
  intro l
  induction l with
  | nil => intro _ _; trivial
  | cons env r ih =>
    intro hs hl
    obtain ⟨hk, ⟨L, o, hf, hn, ho, hd⟩, hr⟩ := hl
    have hL : L ∈ X.fs := hs L (by unfold frs; rw [QW, hf]; exact QX)
    obtain ⟨sl, e⟩ := I.base.slot L o ho (I.ok.frf L hL) hL fun z => I.ok.exfs L z hL
    exact ⟨hk, ⟨L, _, hf, hn, e, hd⟩, ih (fun b hb => hs b (by unfold frs; rw [QW, hf]; exact QY _ hb)) hr⟩
 exact all X.outer (fun _ hb => hb) I.ok.funs
theorem Inv.stack (I : Inv X pins σ H s) : s.heap.FunFrames X.base X.stack := by
 rcases I.ok.stk with e | ⟨e, hf⟩
 ·rw [e]; exact I.funs
 ·rw [e]
  obtain ⟨m, hn, _⟩ := I.loc
  refine .cons (by rw [I.ok.kind]; decide) hf hn ?_ I.funs
  exact Heap.get?_none_of_le (QU I.ok.bsz I.ok.above)
theorem Inv.stkSub (I : Inv X pins σ H s) : ∀ b ∈ frs X.stack, b ∈ X.env.locals :: X.fs := fun b hb => by
 rcases I.ok.stk with e | ⟨e, hf⟩
 ·rw [e] at hb; exact QY _ hb
 ·rw [e] at hb
  unfold frs at hb
  rw [QW, hf] at hb
  exact hb
theorem Inv.stkFree (I : Inv X pins σ H s) : ∀ b ∈ frs X.stack, H b = none := fun b hb => by
 rcases QZ.mp (I.stkSub b hb) with e | hb
 ·rw [e]; exact I.free
 ·obtain ⟨_, o, ho, _⟩ := I.ok.funs.mem hb
  exact I.base.free b o ho (I.ok.frf b hb) fun z => I.ok.exfs b z hb
theorem Inv.step {g' : Array GenState} {t' : Nat} {d' : Drawn} {ch : List Addr} (I : Inv X pins σ H s)
 (hch : ∀ b ∈ ch, (b ∈ X.ex ∨ X.s₀.heap.objs.size ≤ b) ∧ b ≠ X.env.locals ∧ (∀ x c, X.env.cells.lookup x = some c → c ≠ b) ∧ ∀ p ∈ X.pn ++ pins, p.1 ≠ b)
 (keep : ∀ b o, b ≠ X.env.locals → b ∉ X.fs → b ∉ ch → s.heap.get? b = some o → H b = none → h'.get? b = some o)
 (slot : ∀ b o, b ≠ X.env.locals → b ∈ X.fs → b ∉ ch → s.heap.get? b = some o → H b = none → ∃ sl, h'.get? b = some { o with slots := sl }) (free : ∀ b o, b ∉ ch → s.heap.get? b = some o → H b = none → H' b = none)
 (there : ∀ b o, b ∉ ch → s.heap.get? b = some o → ∃ o', h'.get? b = some o')
 (tups : ∀ b xs, H b = some (.tup xs) → H' b = some (.tup xs)) (frzs : ∀ b o u, H b = some (.frz o u) → H' b = some (.frz o u)) (tbls : ∀ b ps, H b = some (.tbl ps) → ∃ more, H' b = some (.tbl (ps ++ more)))
 (ns : ∀ m, s.heap.Ns X.env.locals m → h'.Ns X.env.locals m) (hok : HOk X.prog X.w H' h') (hg : AllBare g') :
 Inv X pins σ H' { s with heap := h', gens := g', drawn := d', toks := t' } := by
 have neL : ∀ b o, X.s₀.heap.get? b = some o → b ≠ X.env.locals := fun b o e => QO (QM (Heap.lt_size e) I.ok.above)
 have neC : ∀ b o, X.s₀.heap.get? b = some o → b ∉ X.ex → b ∉ ch := fun b o e hx hb => by
  rcases (hch b hb).1 with z | z
  ·exact hx z
  ·exact absurd (QM (Heap.lt_size e) z) (QN _)
 have cellK : ∀ x c, X.env.cells.lookup x = some c → ∀ v, s.heap.IsCell c v → h'.IsCell c v := fun x c e v ⟨o, ho, hd⟩ => by
  have nch : c ∉ ch := fun z => (hch c z).2.2.1 x c e rfl
  by_cases hc : c ∈ X.fs
  ·obtain ⟨sl, q⟩ := slot c o (I.cne x c e) hc nch ho (I.freeC x c e)
   exact ⟨_, q, hd⟩
  ·exact ⟨o, keep c o (I.cne x c e) hc nch ho (I.freeC x c e), hd⟩
 refine ⟨I.ok, I.os, hg, ⟨fun b o e n hb hx => ?_, fun b o e n hb hx => ?_, fun b o e n hx => ?_, fun b o e hx => ?_, fun b xs e => tups b xs (I.base.tups b xs e), fun b o xs e => frzs b o xs (I.base.frzs b o xs e), fun b ps e => ?_⟩, ?_, fun x c e => ?_, ?_, fun x c e => ?_, fun p hp => ?_, hok, I.len⟩
 ·exact keep b o (neL b o e) hb (neC b o e hx) (I.base.keep b o e n hb hx) (I.base.free b o e n hx)
 ·obtain ⟨sl, e1⟩ := I.base.slot b o e n hb hx
  obtain ⟨sl', e2⟩ := slot b _ (neL b o e) hb (neC b o e hx) e1 (I.base.free b o e n hx)
  exact ⟨sl', e2⟩
 ·obtain ⟨o', e1⟩ := I.base.there b o e hx
  exact free b o' (neC b o e hx) e1 (I.base.free b o e n hx)
 ·obtain ⟨o', e1⟩ := I.base.there b o e hx
  exact there b o' (neC b o e hx) e1
 ·obtain ⟨m1, e1⟩ := I.base.tbls b ps e
  obtain ⟨m2, e2⟩ := tbls b _ e1
  exact ⟨m1 ++ m2, by rw [e2, Array.append_assoc]⟩
 ·obtain ⟨m, hn, hl⟩ := I.loc
  refine ⟨m, ns m hn, fun i x v e1 e2 e3 => ?_⟩
  obtain ⟨u, r, l⟩ := hl i x v e1 e2 e3
  refine ⟨u, r, ?_⟩
  rcases l with l | ⟨k, c, e, z⟩
  ·exact .inl l
  ·exact .inr ⟨k, c, e, cellK x c e _ z⟩
 ·obtain ⟨v, z⟩ := I.cell x c e
  exact ⟨v, cellK x c e v z⟩
 ·obtain ⟨m, ⟨o, _, _, ho, _⟩, _⟩ := I.loc
  exact free _ o (fun z => (hch _ z).2.1 rfl) ho I.free
 ·obtain ⟨v, o, ho, hd⟩ := I.cell x c e
  exact free c o (fun z => (hch c z).2.2.1 x c e rfl) ho (I.freeC x c e)
 ·obtain ⟨e, n, ne, nf, d⟩ := I.pin p hp
  have nch : p.1 ∉ ch := fun z => (hch p.1 z).2.2.2 p hp rfl
  exact ⟨keep p.1 p.2 ne nf nch e n, free p.1 p.2 nch e n, ne, nf, d⟩
theorem Inv.un {t' : Nat} (I : Inv X pins σ H s) (u : Un X.fs [] H H' s.heap h') (hok : HOk X.prog X.w H' h') : Inv X pins σ H' { s with heap := h', toks := t' } := by
 obtain ⟨m, ⟨o, es, ep, ho, r⟩, _⟩ := id I.loc
 obtain ⟨sl, hL⟩ := u.any ho I.free (by simp)
 exact I.step (g' := s.gens) (d' := s.drawn) (ch := []) (fun _ z => nomatch z) (fun b o _ hb _ e n => u.keep b o e n hb (by simp)) (fun b o _ hb _ e n => u.slot b o e n hb (by simp)) (fun b o _ e n => u.free b o e n (by simp)) (fun b o _ e => u.there b o e (by simp)) u.tups u.frzs u.tbls (fun m' hm => by
  obtain ⟨o', es', ep', ho', r'⟩ := hm
  rw [ho] at ho'; cases ho'
  exact ⟨_, es', ep', hL, r'⟩) hok I.bare
theorem Inv.call {g' : Array GenState} {t' : Nat} {d' : Drawn} {ch : List Addr} (I : Inv X pins σ H s) (u : Un (frs X.stack) ch H H' s.heap h') (hok : HOk X.prog X.w H' h') (hg : AllBare g')
 (hch : ∀ b ∈ ch, (b ∈ X.ex ∨ X.s₀.heap.objs.size ≤ b) ∧ b ≠ X.env.locals ∧ (∀ x c, X.env.cells.lookup x = some c → c ≠ b) ∧ ∀ p ∈ X.pn ++ pins, p.1 ≠ b) :
 Inv X pins σ H' { s with heap := h', gens := g', drawn := d', toks := t' } := by
 obtain ⟨m, ⟨o, es, ep, ho, r⟩, _⟩ := id I.loc
 obtain ⟨sl, hL⟩ := u.any ho I.free fun z => (hch _ z).2.1 rfl
 exact I.step (ch := ch) hch (fun b o hL hb hc e n => u.keep b o e n (fun z => (QZ.mp (I.stkSub b z)).elim hL hb) hc) (fun b o _ _ hc e n => u.any e n hc) (fun b o hc e n => u.free b o e n hc) (fun b o hc e => u.there b o e hc) u.tups u.frzs u.tbls (fun m' hm => by
  obtain ⟨o', es', ep', ho', r'⟩ := hm
  rw [ho] at ho'; cases ho'
  exact ⟨_, es', ep', hL, r'⟩) hok hg
theorem Inv.turned {t' : Nat} {it : Addr} (I : Inv X pins σ H s) (k : ∀ b o, b ≠ it → s.heap.get? b = some o → h'.get? b = some o) (hn : H it = none) (hL : it ≠ X.env.locals)
 (h1 : it ∈ X.ex ∨ X.s₀.heap.objs.size ≤ it) (h2 : ∀ x c, X.env.cells.lookup x = some c → c ≠ it) (h3 : ∀ p ∈ X.pn ++ pins, p.1 ≠ it) : Inv X pins σ H { s with heap := h', toks := t' } := by
 have nit : ∀ b u, H b = some u → b ≠ it := fun b u e z => by rw [z, hn] at e; cases e
 refine I.step (g' := s.gens) (d' := s.drawn) (ch := [it]) (fun b hb => ?_) (fun b o _ _ hc e _ => k b o (fun z => hc (by simp [z])) e) (fun b o _ _ hc e _ => ⟨o.slots, k b o (fun z => hc (by simp [z])) e⟩) (fun _ _ _ _ n => n)
  (fun b o hc e => ⟨o, k b o (fun z => hc (by simp [z])) e⟩) (fun _ _ e => e) (fun _ _ _ e => e) (fun b ps e => ⟨#[], by rw [e]; simp⟩) (fun m hm => ?_) (fun b u e => ?_) I.bare
 ·have e : b = it := by simpa using hb
  subst e
  exact ⟨h1, hL, h2, h3⟩
 ·obtain ⟨o, es, ep, ho, r⟩ := hm
  exact ⟨o, es, ep, k _ o (Ne.symm hL) ho, r⟩
 ·refine (I.hok b u e).stay (fun c v hc q => k c v ?_ q) (fun _ q => q) fun _ _ q => q
  rcases hc with z | z
  ·rw [z]; exact nit b u e
  ·exact nit c _ z
theorem Inv.tok (I : Inv X pins σ H s) (t : Nat) : Inv X pins σ H { s with toks := t } := I.un (h' := s.heap) (t' := t) Un.refl I.hok
theorem Inv.kept {t' : Nat} (I : Inv X pins σ H s) (k : ∀ b u, s.heap.get? b = some u → h'.get? b = some u) : Inv X pins σ H { s with heap := h', toks := t' } := I.un (Un.kept k) (I.hok.kept k)
theorem Inv.laid {a : Addr} {o : HO} {t' : Nat} (I : Inv X pins σ H s) (k : ∀ b u, s.heap.get? b = some u → h'.get? b = some u) (hp : s.heap.objs.size ≤ a) (new : Cg X.prog X.w (upd H a o) h' a o) :
 Inv X pins σ (upd H a o) { s with heap := h', toks := t' } := I.un (Un.laid k hp (I.hok.fresh hp)) (I.hok.laid k hp new)
theorem Inv.write {x e : Addr} {o : HO} {t' : Nat} (I : Inv X pins σ H s) (mu : Mut (H x)) (he : e = x ∨ H e = some (.own x)) (k : ∀ b u, b ≠ e → s.heap.get? b = some u → h'.get? b = some u) (heo : ∃ u, h'.get? e = some u)
 (new : Cg X.prog X.w (upd H x o) h' x o) : Inv X pins σ (upd H x o) { s with heap := h', toks := t' } := I.un (Un.write mu he k heo) (I.hok.write mu he k heo new)
theorem Inv.weak {σ' : List (Option V)} (I : Inv X pins σ H s) (hl : σ'.length = σ.length) (w : ∀ (i : Nat) v, σ'[i]? = some (some v) → σ[i]? = some (some v)) : Inv X pins σ' H s :=
 ⟨I.ok, I.os, I.bare, I.base, let ⟨m, hn, hl'⟩ := I.loc; ⟨m, hn, fun i x v e1 e2 e3 => hl' i x v e1 (w i v e2) e3⟩, I.cell, I.free, I.freeC, I.pin, I.hok, hl.trans I.len⟩
theorem Inv.pins_of {pins' : List (Addr × Obj)} (I : Inv X pins σ H s) (h : ∀ p ∈ pins', s.heap.get? p.1 = some p.2 ∧ H p.1 = none ∧ p.1 ≠ X.env.locals ∧ p.1 ∉ X.fs ∧ ∀ v, p.2.data ≠ .cell v) : Inv X pins' σ H s :=
 ⟨I.ok, I.os, I.bare, I.base, I.loc, I.cell, I.free, I.freeC, fun p hp => (R0.mp hp).elim (fun z => I.pin p (R1 _ z)) (h p), I.hok, I.len⟩
theorem Fo {N : List Str} (hN : N.Nodup) {i j : Nat} {x : Str} (a : N[i]? = some x) (b : N[j]? = some x) : i = j := by
 obtain ⟨h1, e1⟩ := R3.mp a
 obtain ⟨h2, e2⟩ := R3.mp b
 exact (List.getElem_inj hN).mp (e1.trans e2.symm)
theorem Eh {M : Model} {A : Around} {E : Value → Shared → Prop} {i : Nat} {x : Str} {v : V} {u : Value} {Q : Unit → Shared → Prop} (I : Inv X pins σ H s) (hN : X.N.Nodup) (hi : X.N[i]? = some x) (hx : Loc X.env.scope x) (r : Bh v u)
 (h : ∀ s', Inv X pins (σ.set i (some v)) H s' → (∃ a, Heap.SameBut a s.heap s'.heap ∧ (a = X.env.locals ∨ X.env.cells.lookup x = some a)) → Q () s') (hf : X.fn x = true ∨ X.env.scope.names.lookup x = some .local := by first | exact .inl rfl | exact .inr rfl | assumption) : wpAny M A (storeName X.env x u) Q E s := by
 obtain ⟨m, hn, hl⟩ := id I.loc
 have hcls : (X.env.scope.kind == .class || (X.env.scope.kind == .module && X.env.locals != X.env.globals)) = false := by rw [I.ok.kind]; rfl
 have hiσ : i < σ.length := by rw [I.len]; exact (R3.mp hi).1
 have cne := I.cne
 have tracked : ∀ {a : Addr} {h' : Heap}, (∃ o, s.heap.get? a = some o ∧ H a = none) → Heap.SameBut a s.heap h' → HOk X.prog X.w H h' := fun {a h'} ha hs b ob e => by
  obtain ⟨_, _, hfree⟩ := ha
  refine (I.hok b ob e).stay (fun c w' hc q => (hs.2 c ?_).trans q) (fun _ q => q) fun _ _ q => q
  rintro rfl
  rcases hc with rfl | hc
  ·rw [hfree] at e; cases e
  ·rw [hfree] at hc; cases hc
 rcases hx with hk | hk
 ·refine wpAny_storeName_local hk hn (fun h' hn' hs => ?_) hcls
  obtain ⟨oL, _, _, hoL, _⟩ := id hn
  refine h _ ⟨I.ok, I.os, I.bare, ⟨fun b o e n hb hx => ?_, fun b o e n hb hx => ?_, I.base.free, fun b o e hx => ?_, I.base.tups, I.base.frzs, I.base.tbls⟩, ⟨_, hn', fun j y v' e1 e2 e3 => ?_⟩, fun y c e => ?_, I.free, I.freeC, fun p hp => ?_, tracked ⟨oL, hoL, I.free⟩ hs, by simpa using I.len⟩ ⟨_, hs, .inl rfl⟩
  ·exact (hs.2 b (QO (QM (Heap.lt_size e) I.ok.above))).trans (I.base.keep b o e n hb hx)
  ·obtain ⟨sl, e1⟩ := I.base.slot b o e n hb hx
   exact ⟨sl, (hs.2 b (QO (QM (Heap.lt_size e) I.ok.above))).trans e1⟩
  ·obtain ⟨o', e1⟩ := I.base.there b o e hx
   exact ⟨o', (hs.2 b (QO (QM (Heap.lt_size e) I.ok.above))).trans e1⟩
  ·by_cases hj : j = i
   ·subst hj
    rw [hi] at e1; cases e1
    rw [R4 hiσ] at e2
    cases e2
    exact ⟨u, r, .inl ⟨hk, by simp⟩⟩
   ·rw [R5 (Ne.symm hj)] at e2
    obtain ⟨u', r', q⟩ := hl j y v' e1 e2 e3
    refine ⟨u', r', ?_⟩
    rcases q with ⟨k, e⟩ | ⟨k, c, e, z⟩
    ·refine .inl ⟨k, ?_⟩
     have : y ≠ x := fun e => hj (Fo hN e1 (e ▸ hi))
     simp [this, e]
    ·exact .inr ⟨k, c, e, z.sameBut hs (cne y c e)⟩
  ·obtain ⟨w', z⟩ := I.cell y c e
   exact ⟨w', z.sameBut hs (cne y c e)⟩
  ·obtain ⟨e, n, ne, nf, d⟩ := I.pin p hp
   exact ⟨(hs.2 p.1 ne).trans e, n, ne, nf, d⟩
 ·have hfn : X.fn x = true := by
   rcases hf with z | z
   ·exact z
   ·rw [z] at hk; cases hk
  obtain ⟨c, hc⟩ := I.ok.has x (.inl hk)
  obtain ⟨w', z⟩ := I.cell x c hc
  refine wpAny_storeName_cell I.ok.kind hk hc z (fun h' hc' hs => ?_)
  obtain ⟨oc, hoc, hocd⟩ := id z
  refine h { s with heap := h' } ⟨I.ok, I.os, I.bare, ⟨fun b o e n hb hx => ?_, fun b o e n hb hx => ?_, I.base.free, fun b o e hx => ?_, I.base.tups, I.base.frzs, I.base.tbls⟩, ⟨m, hn.sameBut hs (Ne.symm (cne x c hc)), fun j y v' e1 e2 e3 => ?_⟩, fun y c' e => ?_, I.free, I.freeC, fun p hp => ?_, tracked ⟨oc, hoc, I.freeC x c hc⟩ hs, by simpa using I.len⟩ ⟨c, hs, .inr hc⟩
  ·exact (hs.2 b (QO (QM (Heap.lt_size e) (I.ok.cab x c hfn hc)))).trans (I.base.keep b o e n hb hx)
  ·obtain ⟨sl, e1⟩ := I.base.slot b o e n hb hx
   exact ⟨sl, (hs.2 b (QO (QM (Heap.lt_size e) (I.ok.cab x c hfn hc)))).trans e1⟩
  ·obtain ⟨o', e1⟩ := I.base.there b o e hx
   exact ⟨o', (hs.2 b (QO (QM (Heap.lt_size e) (I.ok.cab x c hfn hc)))).trans e1⟩
  ·by_cases hj : j = i
   ·subst hj
    rw [hi] at e1; cases e1
    rw [R4 hiσ] at e2
    cases e2
    exact ⟨u, r, .inr ⟨.inl hk, c, hc, hc'⟩⟩
   ·rw [R5 (Ne.symm hj)] at e2
    obtain ⟨u', r', q⟩ := hl j y v' e1 e2 e3
    refine ⟨u', r', ?_⟩
    rcases q with q | ⟨k, c', e, z'⟩
    ·exact .inl q
    ·refine .inr ⟨k, c', e, z'.sameBut hs ?_⟩
     rintro rfl
     exact hj (Fo hN e1 (I.ok.inj _ _ _ e hc ▸ hi))
  ·by_cases hcc : c' = c
   ·subst hcc; exact ⟨_, hc'⟩
   ·obtain ⟨w2, z2⟩ := I.cell y c' e
    exact ⟨w2, z2.sameBut hs hcc⟩
  ·obtain ⟨e, n, ne, nf, d⟩ := I.pin p hp
   refine ⟨(hs.2 p.1 ?_).trans e, n, ne, nf, d⟩
   intro q
   rw [q, hoc] at e
   have q' : oc = p.2 := QK.inj e
   exact d w' (by rw [← q']; exact hocd)
theorem De {M : Model} {A : Around} {E : Value → Shared → Prop} {i : Nat} {x : Str} {v : V} {u : Value} {Q : Unit → Shared → Prop} (I : Inv X pins σ H s) (hN : X.N.Nodup) (hi : X.N[i]? = some x) (hx : Loc X.env.scope x) (r : Bh v u)
 (h : ∀ s', Inv X pins (σ.set i (some v)) H s' → Q () s') (hf : X.fn x = true ∨ X.env.scope.names.lookup x = some .local := by first | exact .inl rfl | exact .inr rfl | assumption) : wpAny M A (storeName X.env x u) Q E s :=
 Eh I hN hi hx r (fun s' I' _ => h s' I') hf
theorem Inv.call' {s' : Shared} {ch : List Addr} (I : Inv X pins σ H s) (ho : s'.os = s.os) (u : Un (frs X.stack) ch H H' s.heap s'.heap) (hok : HOk X.prog X.w H' s'.heap) (hg : AllBare s'.gens)
 (hch : ∀ b ∈ ch, (b ∈ X.ex ∨ X.s₀.heap.objs.size ≤ b) ∧ b ≠ X.env.locals ∧ (∀ x c, X.env.cells.lookup x = some c → c ≠ b) ∧ ∀ p ∈ X.pn ++ pins, p.1 ≠ b) : Inv X pins σ H' s' := by
 obtain ⟨h', g', d', t', o'⟩ := s'
 have e : o' = s.os := ho
 subst e
 exact I.call (g' := g') (t' := t') (d' := d') u hok hg hch
end
abbrev XK := Value → Option Addr → Hp → Prop
abbrev St := List (Option V)
abbrev VK := V → Hp → Prop
abbrev TE := St → Hp → VK → Prop
abbrev TT := St → Hp → (Bool → Hp → Prop) → Prop
abbrev TA := St → Hp → (List V → Hp → Prop) → Prop
structure CZ where
 nx : St → Hp → Prop
 rt : VK
 bk : St → Hp → Prop := fun _ _ => False
 ct : St → Hp → Prop := fun _ _ => False
abbrev TS := CZ → St → Hp → Prop
inductive EP (X : Cx) (pins : List (Addr × Obj)) (σ : St) (Q : VK) (u : Value) (s' : Shared) : Prop
 | mk (v : _) (H' : _) (h1 : Inv X pins σ H' s') (h2 : Bh v u) (h3 : Q v H') : EP X pins σ Q u s'
def TP (X : Cx) (pins : List (Addr × Obj)) (σ : St) (Q : Bool → Hp → Prop) (b : Bool) (s' : Shared) : Prop := ∃ H', Inv X pins σ H' s' ∧ Q b H'
inductive AP (X : Cx) (pins : List (Addr × Obj)) (σ : St) (Q : List V → Hp → Prop) (us : List Value) (s' : Shared) : Prop
 | mk (vs : _) (H' : _) (h1 : Inv X pins σ H' s') (h2 : AK vs us) (h3 : Q vs H') : AP X pins σ Q us s'
def SP (X : Cx) (pins : List (Addr × Obj)) (D : CZ) (f : Flow) (s' : Shared) : Prop :=
 match f with
 | .next => ∃ σ' H', Inv X pins σ' H' s' ∧ D.nx σ' H'
 | .brk => ∃ σ' H', Inv X pins σ' H' s' ∧ D.bk σ' H'
 | .cont => ∃ σ' H', Inv X pins σ' H' s' ∧ D.ct σ' H'
 | .ret u => ∃ v σ' H', Inv X pins σ' H' s' ∧ Bh v u ∧ D.rt v H'
def PE (X : Cx) (e : Expr) (t : TE) : Prop :=
 ∀ (pins : List (Addr × Obj)) (s : Shared) (σ : St) (H : Hp) (Q : VK), Inv X pins σ H s → t σ H Q → wpAny (model X.prog X.w) X.A (eval e X.env) (EP X pins σ Q) X.xe s
def PT (X : Cx) (e : Expr) (t : TT) : Prop :=
 ∀ (pins : List (Addr × Obj)) (s : Shared) (σ : St) (H : Hp) (Q : Bool → Hp → Prop), Inv X pins σ H s → t σ H Q → wpAny (model X.prog X.w) X.A (isTrue e X.env (eval e X.env)) (TP X pins σ Q) X.xe s
def PW (X : Cx) (e : Expr) (t : TT) : Prop :=
 ∀ (whole : Sem Value) (pins : List (Addr × Obj)) (s : Shared) (σ : St) (H : Hp) (Q : Bool → Hp → Prop), Inv X pins σ H s → t σ H Q → wpAny (model X.prog X.w) X.A (isTrue e X.env whole) (TP X pins σ Q) X.xe s
theorem PW.pt {X : Cx} {e : Expr} {t : TT} (h : PW X e t) : PT X e t := h _
def PA (X : Cx) (es : List Expr) (t : TA) : Prop :=
 ∀ (pos : Pos) (pins : List (Addr × Obj)) (s : Shared) (σ : St) (H : Hp) (Q : List V → Hp → Prop), Inv X pins σ H s → t σ H Q → wpAny (model X.prog X.w) X.A (spliced (backTo pos (starEach es X.env))) (AP X pins σ Q) X.xe s
def PS (X : Cx) (st : Stmt) (t : TS) : Prop :=
 ∀ (pins : List (Addr × Obj)) (s : Shared) (σ : St) (H : Hp) (D : CZ), Inv X pins σ H s → t D σ H → wpAny (model X.prog X.w) X.A (exec st X.env) (SP X pins D) X.xe s
def PSs (X : Cx) (st : List Stmt) (t : TS) : Prop :=
 ∀ (pins : List (Addr × Obj)) (s : Shared) (σ : St) (H : Hp) (D : CZ), Inv X pins σ H s → t D σ H → wpAny (model X.prog X.w) X.A (execs st X.env) (SP X pins D) X.xe s
theorem thn {α : Type} {t : Sem α} {Q Q' : α → Shared → Prop} {M : Model} {A : Around} {E : Value → Shared → Prop} {s : Shared} (h : wpAny M A t Q E s) (hQ : ∀ a s, Q a s → Q' a s) : wpAny M A t Q' E s := wpAny_mono h hQ fun _ _ x => x
end L2
namespace L2
open PySem PySem.Spec PyProof.Rows
section
variable {X : Cx}
inductive DD (i : Nat) (σ : St) (H : Hp) (Q : VK) : Prop
 | mk (v : _) (h1 : σ[i]? = some (some v)) (h2 : Q v H) : DD i σ H Q
def tC (v : V) : TE := fun _ H Q => Q v H
theorem KJ {i : Nat} {x : Str} {pos : Pos} (hN : X.N[i]? = some x) (hv : Vis X.env.scope x) (hd : (x == ("__debug__" : Str)) = false := by decide) (hcd : (x == ("__classdict__" : Str)) = false := by decide) : PE X (.Name x pos) (DD i) := by
 intro pins s σ H Q I h
 obtain ⟨v, e, h⟩ := h
 obtain ⟨m, hn, hl⟩ := I.loc
 obtain ⟨u, r, l⟩ := hl i x v hN e hv
 have fin : EP X pins σ Q u s := ⟨v, H, I, r, h⟩
 rcases l with ⟨hk, hm⟩ | ⟨hk, c, hc, hcell⟩
 ·exact wpAny_Name (wpAny_loadName_local I.ok.kind hk hn hm fin) hd
 ·rcases hk with hk | hk
  ·exact wpAny_Name (wpAny_loadName_cell I.ok.kind hk hc hcell fin) hd
  ·exact wpAny_Name (wpAny_loadName_free I.ok.kind hk hc hcell fin hcd) hd
theorem Ab {i j pos} : PE X (.Constant (.int i) j pos) (tC (.int i)) := fun _ _ _ H _ I h => wpAny_Constant_int ⟨.int i, H, I.tok _, ⟨_, rfl⟩, h⟩
theorem Gd {b j pos} : PE X (.Constant (.bool b) j pos) (tC (.bl b)) := fun _ _ _ H _ I h => Constant_bool ⟨.bl b, H, I, rfl, h⟩
theorem Fb {j pos} : PE X (.Constant .none j pos) (tC .non) := fun _ _ _ H _ I h => Constant_none ⟨.non, H, I, rfl, h⟩
theorem Bk {x j pos} : PE X (.Constant (.str x) j pos) (tC (.str x)) := fun _ _ _ H _ I h => Calls.Constant_str ⟨.str x, H, I.tok _, ⟨_, rfl⟩, h⟩
def Gl (X : Cx) (x : Str) : Prop := X.env.kindOf x = some .globalImplicit
theorem DA {E : Value → Shared → Prop} {pins : List (Addr × Obj)} {s : Shared} {σ : St} {H : Hp} {x : Str} {u : Value} {pos : Pos} {Q : Value → Shared → Prop} (I : Inv X pins σ H s) (hg : Gl X x) (hm : X.mg x = some u) (h : Q u s)
 (hd : (x == ("__debug__" : Str)) = false := by decide) : wpAny (model X.prog X.w) X.A (eval (.Name x pos) X.env) Q E s :=
 Calls.Name_function_global I.ok.kind hg (Calls.loadGlobal_global (by rw [I.ok.glob]; exact I.mod.glob.keeps I.bk) hm h) hd
theorem DM {E : Value → Shared → Prop} {pins : List (Addr × Obj)} {s : Shared} {σ : St} {H : Hp} {x : Str} {u : Value} {pos : Pos} {Q : Value → Shared → Prop} (I : Inv X pins σ H s) (hg : Gl X x) (hm : X.mg x = none) (hv : bootBuiltins x = some u) (h : Q u s)
 (hn : x ≠ "__name__" := by decide) (hd : (x == ("__debug__" : Str)) = false := by decide) : wpAny (model X.prog X.w) X.A (eval (.Name x pos) X.env) Q E s := by
 obtain ⟨mb, h1, h2⟩ := I.mod.blt
 exact Calls.Name_function_global I.ok.kind hg (Calls.loadGlobal_builtin (by rw [I.ok.glob]; exact I.mod.glob.keeps I.bk) hm (by rw [I.ok.blt]; exact h1.keeps I.bk) ((h2 x hn).trans hv) h) hd
theorem By {x : Str} {v : V} {u : Value} {pos : Pos} (hg : Gl X x) (hm : X.mg x = some u) (r : Bh v u) (hd : (x == ("__debug__" : Str)) = false := by decide) : PE X (.Name x pos) (tC v) :=
 fun _ _ _ H _ I h => DA I hg hm ⟨v, H, I, r, h⟩ hd
theorem M8 {x : Str} {v : V} {u : Value} {pos : Pos} (hg : Gl X x) (hm : X.mg x = none) (hv : bootBuiltins x = some u) (r : Bh v u) (hn : x ≠ "__name__" := by decide) (hd : (x == ("__debug__" : Str)) = false := by decide) : PE X (.Name x pos) (tC v) :=
 fun _ _ _ H _ I h => DM I hg hm hv ⟨v, H, I, r, h⟩ hn hd
variable {a b : Expr} {ta tb : TE} {pos : Pos}
def PC (X : Cx) (op : CmpOp) (a b : Expr) (t : TE) : Prop :=
 ∀ (pins : List (Addr × Obj)) (s : Shared) (σ : St) (H : Hp) (Q : VK), Inv X pins σ H s → t σ H Q →
   wpAny (model X.prog X.w) X.A (eval a X.env) (fun v s₁ => wpAny (model X.prog X.w) X.A (eval b X.env) (fun u s₂ => wpAny (model X.prog X.w) X.A (compareOp op v u) (EP X pins σ Q) X.xe s₂) X.xe s₁) X.xe s
def tB (t : TE) : TT := fun σ H Q => t σ H fun x H1 => ∃ c, x = .bl c ∧ Q c H1
theorem GR {e : Expr} {t : TE} (h : PE X e t) (he : ∀ whole, isTrue e X.env whole = (do let v ← whole; standAt e.pos; holding [v] (truthy v)) := by intro _; rfl) : PT X e (tB t) := by
 intro pins s σ H Q I hw
 refine isTrue_plain (thn (h pins s σ H _ I hw) fun v s1 ⟨x, H1, I1, r1, q1⟩ => ?_) (he _)
 obtain ⟨d, rfl, q⟩ := q1
 cases r1
 exact wpAny_truthy_bool ⟨H1, I1, q⟩
variable {tA tB' : TT} {rest : List Expr}
def OH (t u : TT) : TT := fun σ H Q => t σ H fun c H1 => if c = true then u σ H1 Q else Q false H1
def tOr (t u : TT) : TT := fun σ H Q => t σ H fun c H1 => if c = true then Q true H1 else u σ H1 Q
def OF (t : TT) : TT := fun σ H Q => t σ H fun c H1 => Q (!c) H1
theorem EH (ha : PT X a tA) : PW X (.BoolOp .And [a] pos) tA := by
 intro wh pins s σ H Q I h
 refine isTrue_and (thn (ha pins s σ H Q I h) fun c s1 e => ?_)
 cases c with
 | true => exact isTrue_and_nil e
 | false => exact e
theorem N4 (ha : PT X a tA) : PW X (.BoolOp .Or [a] pos) tA := by
 intro wh pins s σ H Q I h
 refine isTrue_or (thn (ha pins s σ H Q I h) fun c s1 e => ?_)
 cases c with
 | false => exact isTrue_or_nil e
 | true => exact e
theorem GQ (ha : PT X a tA) (hb : PW X (.BoolOp .And (b :: rest) pos) tB') : PW X (.BoolOp .And (a :: b :: rest) pos) (OH tA tB') := by
 intro wh pins s σ H Q I h
 refine isTrue_and (thn (ha pins s σ H _ I h) fun c s1 ⟨H1, I1, q1⟩ => ?_)
 cases c with
 | true => exact hb wh pins s1 σ H1 Q I1 q1
 | false => exact ⟨H1, I1, q1⟩
theorem O9 (ha : PT X a tA) (hb : PW X (.BoolOp .Or (b :: rest) pos) tB') : PW X (.BoolOp .Or (a :: b :: rest) pos) (tOr tA tB') := by
 intro wh pins s σ H Q I h
 refine isTrue_or (thn (ha pins s σ H _ I h) fun c s1 ⟨H1, I1, q1⟩ => ?_)
 cases c with
 | true => exact ⟨H1, I1, q1⟩
 | false => exact hb wh pins s1 σ H1 Q I1 q1
theorem IH (ha : PT X a tA) : PT X (.UnaryOp .Not a pos) (OF tA) := by
 intro pins s σ H Q I h
 exact isTrue_not (ha pins s σ H (fun c H1 => Q (!c) H1) I h)
def O3 (ta tb : TE) : TE := fun σ H Q => ta σ H fun x H1 => ∃ c, x = .bl c ∧ if c = true then tb σ H1 Q else Q (.bl false) H1
theorem Nc {op} {t : TE} (h : PE X a t) : PE X (.BoolOp op [a] pos) t := fun pins s σ H Q I hw => BoolOp_one (h pins s σ H Q I hw)
theorem Nf (ha : PE X a ta) (hb : PE X (.BoolOp .And (b :: rest) pos) tb) : PE X (.BoolOp .And (a :: b :: rest) pos) (O3 ta tb) := by
 intro pins s σ H Q I h
 refine BoolOp_and (thn (ha pins s σ H _ I h) fun v s1 ⟨x, H1, I1, r1, q1⟩ => ?_)
 obtain ⟨c, rfl, q1⟩ := q1
 cases r1
 refine wpAny_truthy_bool ?_
 cases c with
 | true => exact hb pins s1 σ H1 Q I1 q1
 | false => exact ⟨.bl false, H1, I1, rfl, q1⟩
end
end L2
namespace L2
open PySem PySem.Spec PyProof.Rows
def SqL (K : QT) (H : Hp) (a : Addr) (xs : List V) : Prop :=
 Rd H a (.lst xs) ∨
  ∃ (o : Obj) (its : Array Value) (n : Nat), K.lookup a = some o ∧ o.cls = .type "list" ∧ o.dict = none ∧ o.data = .seq its n ∧ its.size ≤ sizeLine ∧ AK xs its.toList
def SqT (K : QT) (H : Hp) (a : Addr) (xs : List V) : Prop :=
 Rd H a (.tup xs) ∨
  ∃ (o : Obj) (its : Array Value) (n : Nat), K.lookup a = some o ∧ o.cls = .type "tuple" ∧ o.data = .seq its n ∧ its.size ≤ sizeLine ∧ AK xs its.toList
def Ki : Value → Option V
 | .none => some .non
 | .bool b => some (.bl b)
 | .int i _ => some (.int i)
 | .str x _ => some (.str x)
 | .bytes b _ => some (.byt b)
 | .float b _ => some (.flt b)
 | .ref a => some (.ref a)
 | .type n => some (.ty n)
 | _ => none
theorem Bh.abs {x : V} {u : Value} (r : Bh x u) : Ki u = some x := by
 cases x with
 | non => cases r; rfl
 | bl _ => cases r; rfl
 | int _ => obtain ⟨t, rfl⟩ := r; rfl
 | str _ => obtain ⟨t, rfl⟩ := r; rfl
 | byt _ => obtain ⟨t, rfl⟩ := r; rfl
 | flt _ => obtain ⟨t, rfl⟩ := r; rfl
 | ref _ => cases r; rfl
 | ty _ => cases r; rfl
theorem Bh.inj {x y : V} {u : Value} (r : Bh x u) (q : Bh y u) : x = y := QK.inj (r.abs.symm.trans q.abs)
theorem AK.inj {xs ys : List V} {us : List Value} (a : AK xs us) (b : AK ys us) : xs = ys := by
 induction a generalizing ys with
 | nil => cases b; rfl
 | cons r t ih => cases b with | cons r' t' => rw [r.inj r', ih t']
section
variable {X : Cx} {pins : List (Addr × Obj)} {σ : St} {H : Hp} {s : Shared} {a : Addr} {xs ys : List V}
theorem SqL.of {K : QT} (h : H a = some (.lst xs)) : SqL K H a xs := .inl (.inl h)
theorem SqT.of {K : QT} (h : H a = some (.tup xs)) : SqT K H a xs := .inl (.inl h)
theorem Inv.list (I : Inv X pins σ H s) (h : SqL X.K H a xs) : ∃ its : List Value, AK xs its ∧ PlainL s.heap a its.toArray ∧ xs.length ≤ sizeLine := by
 rcases h with h | ⟨o, its, n, hk, hc, hd, hs, hz, r⟩
 ·obtain ⟨z, its, n, r, e⟩ := h.ok I.hok
  exact ⟨its, r, ⟨_, n, e, rfl, rfl, rfl⟩, z⟩
 ·refine ⟨its.toList, r, ⟨o, n, I.kIn a o hk, hc, hd, by simpa using hs⟩, ?_⟩
  have e := r.length
  simp only [R6] at e
  lia
theorem Inv.tuple (I : Inv X pins σ H s) (h : SqT X.K H a xs) : ∃ its : List Value, AK xs its ∧ IsTup s.heap a its.toArray ∧ xs.length ≤ sizeLine := by
 rcases h with h | ⟨o, its, n, hk, hc, hs, hz, r⟩
 ·obtain ⟨z, its, r, p⟩ := h.ok I.hok
  exact ⟨its, r, p, z⟩
 ·refine ⟨its.toList, r, ⟨o, I.kIn a o hk, hc, n, by simpa using hs⟩, ?_⟩
  have e := r.length
  simp only [R6] at e
  lia
theorem Inv.list_inj (I : Inv X pins σ H s) (h : SqL X.K H a xs) (h' : SqL X.K H a ys) : xs = ys := by
 obtain ⟨its, r, ⟨o, n, e, _, _, d⟩, _⟩ := I.list h
 obtain ⟨its', r', ⟨o', n', e', _, _, d'⟩, _⟩ := I.list h'
 rw [e] at e'; cases e'
 rw [d] at d'
 injection d' with d1 _
 have : its = its' := by simpa using congrArg Array.toList d1
 subst this
 exact r.inj r'
theorem Inv.tuple_inj (I : Inv X pins σ H s) (h : SqT X.K H a xs) (h' : SqT X.K H a ys) : xs = ys := by
 obtain ⟨its, r, ⟨o, e, _, n, d⟩, _⟩ := I.tuple h
 obtain ⟨its', r', ⟨o', e', _, n', d'⟩, _⟩ := I.tuple h'
 rw [e] at e'; cases e'
 rw [d] at d'
 injection d' with d1 _
 have : its = its' := by simpa using congrArg Array.toList d1
 subst this
 exact r.inj r'
end
abbrev Cx.wish (X : Cx) (E : Value → Shared → Prop) : Cx := { X with xe := E }
abbrev Cx.nox (X : Cx) : Cx := X.wish fun _ _ => False
theorem Cx.Ok.wish {X : Cx} (ok : X.Ok) (E : Value → Shared → Prop) : (X.wish E).Ok :=
 ⟨ok.mod, ok.kind, ok.glob, ok.blt, ok.above, ok.inj, ok.has, ok.cab, ok.hd, ok.frames, ok.stk, ok.exf, ok.bs, ok.bsz, ok.noex, ok.exfs, ok.funs, ok.frf⟩
theorem Cx.Ok.unwish {X : Cx} {E : Value → Shared → Prop} (ok : (X.wish E).Ok) : X.Ok :=
 ⟨ok.mod, ok.kind, ok.glob, ok.blt, ok.above, ok.inj, ok.has, ok.cab, ok.hd, ok.frames, ok.stk, ok.exf, ok.bs, ok.bsz, ok.noex, ok.exfs, ok.funs, ok.frf⟩
section
variable {X : Cx} {pins : List (Addr × Obj)} {σ : St} {H : Hp} {s : Shared} {E : Value → Shared → Prop}
theorem Inv.wish (I : Inv X pins σ H s) (E : Value → Shared → Prop) : Inv (X.wish E) pins σ H s := ⟨I.ok.wish E, I.os, I.bare, I.base, I.loc, I.cell, I.free, I.freeC, I.pin, I.hok, I.len⟩
theorem Inv.unwish (I : Inv (X.wish E) pins σ H s) : Inv X pins σ H s := ⟨I.ok.unwish, I.os, I.bare, I.base, I.loc, I.cell, I.free, I.freeC, I.pin, I.hok, I.len⟩
theorem SP.unwish {D : CZ} {f : Flow} {s' : Shared} (h : SP (X.wish E) pins D f s') : SP X pins D f s' := by
 cases f with
 | next => obtain ⟨σ', H', I, q⟩ := h; exact ⟨σ', H', I.unwish, q⟩
 | brk => obtain ⟨σ', H', I, q⟩ := h; exact ⟨σ', H', I.unwish, q⟩
 | cont => obtain ⟨σ', H', I, q⟩ := h; exact ⟨σ', H', I.unwish, q⟩
 | ret u => obtain ⟨v, σ', H', I, r, q⟩ := h; exact ⟨v, σ', H', I.unwish, r, q⟩
theorem PSs.nox {st : List Stmt} {t : TS} (h : PSs X.nox st t) : PSs X st t := fun pins s σ H D I hw =>
 wpAny_mono (h pins s σ H D (I.wish _) hw) (fun _ _ q => q.unwish) fun _ _ z => False.elim z
end
section
variable {X : Cx} {st : Stmt} {rest : List Stmt} {t u : TS} {e : Expr} {te : TE} {pos : Pos}
def O0 : TS := fun D σ H => D.nx σ H
@[reducible] def CZ.to (D : CZ) (n : St → Hp → Prop) : CZ := { D with nx := n }
def LY (t u : TS) : TS := fun D σ H => t (D.to (u D)) σ H
theorem AO : PSs X [] O0 := fun _ _ σ H _ I h => wpAny_execs_nil ⟨σ, H, I, h⟩
theorem Dj (h1 : PS X st t) (h2 : PSs X rest u) : PSs X (st :: rest) (LY t u) := by
 intro pins s σ H D I h
 refine wpAny_execs_cons (thn (h1 pins s σ H { D with nx := u D } I h) fun f s1 q => ?_)
 cases f with
 | next =>
   obtain ⟨σ', H', I', q⟩ := q
   exact h2 pins s1 σ' H' D I' q
 | ret v => exact q
 | brk => exact q
 | cont => exact q
theorem Ai (h1 : PS X st t) : PSs X [st] t := by
 intro pins s σ H D I h
 refine wpAny_execs_cons (thn (h1 pins s σ H D I h) fun f s1 q => ?_)
 cases f with
 | next => exact wpAny_execs_nil q
 | ret v => exact q
 | brk => exact q
 | cont => exact q
theorem Inv.quiet {pins : List (Addr × Obj)} {σ : St} {H : Hp} {s : Shared} (I : Inv X pins σ H s) : interactive X.env = false := by simp [interactive, I.ok.kind]
def O1 (te : TE) : TS := fun D σ H => te σ H fun _ H1 => D.nx σ H1
theorem DW (he : PE X e te) (hs : swapsWith e none pos.line X.env = pure false := by rfl) : PS X (.Expr e pos) (O1 te) := by
 intro pins s σ H D I h
 exact wpAny_Expr_any (thn (he pins s σ H _ I h) fun v s1 ⟨x, H1, I1, r1, q1⟩ => ⟨σ, H1, I1, q1⟩) I.quiet hs
def NW (te : TE) : TS := fun D σ H => te σ H D.rt
theorem Aw (he : PE X e te) : PS X (.Return (some e) pos) (NW te) := by
 intro pins s σ H D I h
 exact wpAny_Return_some (thn (he pins s σ H _ I h) fun v s1 ⟨x, H1, I1, r1, q1⟩ => ⟨x, σ, H1, I1, r1, q1⟩)
def Ku (c : TT) (t u : TS) : TS := fun D σ H => c σ H fun b H1 => if b = true then t D σ H1 else u D σ H1
theorem Oa {c : Expr} {a b : List Stmt} {tc : TT} (hc : PT X c tc) (ha : PSs X a t) (hb : PSs X b u) : PS X (.If c a b pos) (Ku tc t u) := by
 intro pins s σ H D I h
 refine wpAny_If (thn (hc pins s σ H _ I h) fun d s1 ⟨H1, I1, q1⟩ => ?_)
 cases d with
 | true => exact ha pins s1 σ H1 D I1 q1
 | false => exact hb pins s1 σ H1 D I1 q1
def Kt : TS := fun _ _ _ => False
theorem CL : PS X st Kt := fun _ _ _ _ _ _ h => h.elim
theorem Dw {sts : List Stmt} : PSs X sts Kt := fun _ _ _ _ _ _ h => h.elim
end
abbrev TG := V → St → Hp → (St → Hp → Prop) → Prop
abbrev TGs := List V → St → Hp → (St → Hp → Prop) → Prop
def PG (X : Cx) (target : Expr) (t : TG) : Prop :=
 ∀ (pins : List (Addr × Obj)) (s : Shared) (σ : St) (H : Hp) (v : V) (u : Value) (Q : St → Hp → Prop), Inv X pins σ H s → Bh v u → t v σ H Q →
   wpAny (model X.prog X.w) X.A (assign target X.env u) (fun _ s' => ∃ σ' H', Inv X pins σ' H' s' ∧ Q σ' H') X.xe s
def PGs (X : Cx) (ts : List Expr) (t : TGs) : Prop :=
 ∀ (pins : List (Addr × Obj)) (s : Shared) (σ : St) (H : Hp) (vs : List V) (us : List Value) (Q : St → Hp → Prop), Inv X pins σ H s → AK vs us → t vs σ H Q →
   wpAny (model X.prog X.w) X.A (assignInOrder ((assignEach ts X.env).map (·.2)) us) (fun _ s' => ∃ σ' H', Inv X pins σ' H' s' ∧ Q σ' H') X.xe s
abbrev NP := V → V → V → Hp → (Hp → Prop) → Prop
def Oz (X : Cx) (t : NP) : Prop :=
 ∀ (pins : List (Addr × Obj)) (s : Shared) (σ : St) (H : Hp) (o i v : V) (ov iv u : Value) (Q : Hp → Prop), Inv X pins σ H s → Bh o ov → Bh i iv → Bh v u → t o i v H Q →
   wpAny (model X.prog X.w) X.A (setItem ov iv u) (fun _ s' => ∃ H', Inv X pins σ H' s' ∧ Q H') X.xe s
section
variable {X : Cx} {pos : Pos}
def BW (i : Nat) : TG := fun v σ H Q => Q (σ.set i (some v)) H
theorem AE {i : Nat} {x : Str} (hN : X.N.Nodup) (hi : X.N[i]? = some x) (hx : Loc X.env.scope x) (hf : X.fn x = true ∨ X.env.scope.names.lookup x = some .local := by first | exact .inl rfl | exact .inr rfl | assumption) : PG X (.Name x pos) (BW i) := by
 intro pins s σ H v u Q I r h
 exact wpAny_assign_Name (De I hN hi hx r (fun s' I' => ⟨_, H, I', h⟩) hf)
def NB : TGs := fun vs σ H Q => vs = [] ∧ Q σ H
inductive Ig (t : TG) (u : TGs) (vs : List V) (σ : St) (H : Hp) (Q : (St → Hp → Prop)) : Prop
 | mk (v : _) (r : _) (h1 : vs = v :: r) (h2 : t v σ H fun σ' H' => u r σ' H' Q) : Ig t u vs σ H Q
theorem Jj : PGs X [] NB := by
 intro pins s σ H vs us Q I r h
 obtain ⟨e, h⟩ := h
 subst e
 cases r
 exact assignInOrder_nil ⟨σ, H, I, h⟩
theorem DX {e : Expr} {es : List Expr} {t : TG} {u : TGs} (h1 : PG X e t) (h2 : PGs X es u)
 (hs : (assignEach (e :: es) X.env).map (·.2) = assign e X.env :: (assignEach es X.env).map (·.2) := by rfl) : PGs X (e :: es) (Ig t u) := by
 intro pins s σ H vs us Q I r h
 obtain ⟨v, vr, e1, h⟩ := h
 subst e1
 cases r with
 | cons r rr =>
   rw [hs]
   refine assignInOrder_cons (thn (h1 pins s σ H _ _ _ I r h) fun _ s1 ⟨σ1, H1, I1, q1⟩ => ?_)
   exact h2 pins s1 σ1 H1 _ _ Q I1 rr q1
inductive K8 (K : QT) (n : Nat) (t : TGs) (v : V) (σ : St) (H : Hp) (Q : (St → Hp → Prop)) : Prop
 | mk (a : _) (xs : _) (h1 : v = .ref a) (h2 : SqT K H a xs) (h3 : xs.length = n) (h4 : t xs σ H Q) : K8 K n t v σ H Q
theorem Na {es : List Expr} {k : Nat} {t : TGs} {n : Nat} (hc : X.calm = true) (h : PGs X es t)
 (hn : (assignEach es X.env).length = n := by rfl) (hst : (assignEach es X.env).findIdx? (·.1) = none := by rfl) : PG X (.Tuple es k pos) (K8 X.K n t) := by
 intro pins s σ H v u Q I r hw
 obtain ⟨a, xs, e1, hq, hl, hw⟩ := hw
 subst e1
 cases r
 obtain ⟨its, rv, ht, hz⟩ := I.tuple hq
 refine assign_Tuple_tuple (I.ok.hd hc) ht (by simp [hn, ← hl, rv.length]) hst fun h' hx => ?_
 have I1 : Inv X pins σ H { s with heap := h' } := I.kept (t' := s.toks) fun b o e => hx b o (QO (Heap.lt_size e)) e
 exact h pins _ σ H xs _ Q I1 (by simpa using rv) hw
def OL (to ti : TE) (t : NP) : TG := fun v σ H Q => to σ H fun o H1 => ti σ H1 fun i H2 => t o i v H2 fun H3 => Q σ H3
theorem EZ {o i : Expr} {to ti : TE} {t : NP} (ho : PE X o to) (hi : PE X i ti) (hs : Oz X t)
 (ha : ∀ v, assign (.Subscript o i pos) X.env v = (do
  let ov ← holding [v] (eval o X.env)
  let iv ← holding [v, ov] (eval i X.env)
  standAt pos
  holding [v, ov, iv] (setItem ov iv v)
  release [v, ov, iv] []) := by intro _; rfl) : PG X (.Subscript o i pos) (OL to ti t) := by
 intro pins s σ H v u Q I r h
 rw [ha]
 refine wpAny_bind (wpAny_holding (thn (ho pins s σ H _ I h) fun ov s1 ⟨x, H1, I1, r1, q1⟩ => ?_))
 refine wpAny_bind (wpAny_holding (thn (hi pins s1 σ H1 _ I1 q1) fun iv s2 ⟨y, H2, I2, r2, q2⟩ => ?_))
 refine wpAny_bind (wpAny_standAt (wpAny_bind (wpAny_holding (thn (hs pins s2 σ H2 x y v ov iv u _ I2 r1 r2 r q2) fun _ s3 ⟨H3, I3, q3⟩ => ?_))))
 exact wpAny_release ⟨σ, H3, I3, q3⟩
def IC (te : TE) (g : TG) : TS := fun D σ H => te σ H fun x H1 => g x σ H1 D.nx
theorem Em {tg e : Expr} {te : TE} {g : TG} (he : PE X e te) (hg : PG X tg g) (hs : swapsWithSole [tg] e pos.line X.env = pure false := by rfl) (hw : swappedStores [tg] e X.env = pure none := by rfl)
 (h1 : (assignEach [tg] X.env).map (·.2) = [assign tg X.env] := by rfl) : PS X (.Assign [tg] e pos) (IC te g) := by
 intro pins s σ H D I h
 refine wpAny_Assign_stores (thn (he pins s σ H _ I h) fun v s1 ⟨x, H1, I1, r1, q1⟩ => ?_) hs hw
 rw [h1]
 exact thn (hg pins s1 σ H1 x v _ I1 r1 q1) fun _ s2 q => q
theorem Aj {i : Nat} {x : Str} {e : Expr} {te : TE} {pos' : Pos} (hN : X.N.Nodup) (hi : X.N[i]? = some x) (hx : Loc X.env.scope x) (he : PE X e te) (hs : swapsWith e (some (.Name x pos')) pos.line X.env = pure false := by rfl) (hf : X.fn x = true ∨ X.env.scope.names.lookup x = some .local := by first | exact .inl rfl | exact .inr rfl | assumption) :
 PS X (.Assign [.Name x pos'] e pos) (IC te (BW i)) := by
 intro pins s σ H D I h
 refine wpAny_Assign_Name (thn (he pins s σ H _ I h) fun v s1 ⟨y, H1, I1, r1, q1⟩ => ?_) hs
 exact De I1 hN hi hx r1 (fun s2 I2 => ⟨_, H1, I2, q1⟩) hf
def OE (i j : Nat) (ta : TA) : TS := fun D σ H => ta σ H fun vs H1 => ∃ v w, vs = [v, w] ∧ D.nx ((σ.set i (some v)).set j (some w)) H1
theorem N5 {i j : Nat} {x y : Str} {a b : Expr} {ta : TA} {px py pt : Pos} {kt k2 pt2} (hc : X.calm = true) (hN : X.N.Nodup) (hi : X.N[i]? = some x) (hj : X.N[j]? = some y) (hij : i ≠ j)
 (hx : X.env.scope.names.lookup x = some .local) (hy : X.env.scope.names.lookup y = some .local) (ha : PA X [a, b] ta)
 (hw : swappedStores [.Tuple [.Name x px, .Name y py] kt pt] (.Tuple [a, b] k2 pt2) X.env = pure (some [x, y]))
 (hs : swapsWithSole [.Tuple [.Name x px, .Name y py] kt pt] (.Tuple [a, b] k2 pt2) pos.line X.env = pure false := by rfl) :
 PS X (.Assign [.Tuple [.Name x px, .Name y py] kt pt] (.Tuple [a, b] k2 pt2) pos) (OE i j ta) := by
 intro pins s σ H D I h
 rw [exec_Assign_arm]
 refine wpAny_bind (wpAny_standAt ?_)
 rw [hs]
 refine wpAny_bind (wpAny_pure ?_)
 rw [if_neg (by decide)]
 refine wpAny_bind (Tuple_ (thn (ha _ pins s σ H _ I h) fun us s1 ⟨vs, H1, I1, r1, q1⟩ => ?_))
 obtain ⟨v, w, e1, q1⟩ := q1
 subst e1
 obtain ⟨u1, u2, rfl, rv, rw'⟩ : ∃ u1 u2, us = [u1, u2] ∧ Bh v u1 ∧ Bh w u2 := by
  cases r1 with
  | cons p q =>
    cases q with
    | cons p' q' =>
      cases q'
      exact ⟨_, _, rfl, p, p'⟩
 refine wpAny_newObj_type ?_ (by show 2 ≤ sizeLine; decide)
 have I2 : Inv X pins σ H1 { s1 with heap := s1.heap.push { cls := .type "tuple", data := .seq [u1, u2].toArray } } := I1.kept (t' := s1.toks) fun b o e => Heap.get?_push_of_some _ e
 rw [hw]
 refine wpAny_bind (wpAny_pure ?_)
 show wpAny (model X.prog X.w) X.A (do rule "assign.swapped-stores"; let items ← unpackItems (.ref s1.heap.objs.size) 2 none; assignInOrder [fun v => bindName X.env y v, fun v => bindName X.env x v] items.reverse; pure Flow.next) _ _ _
 refine wpAny_bind (wpAny_rule (wpAny_bind (unpackItems_tuple (items := #[u1, u2]) (I.ok.hd hc) (IsTup.new s1.heap _) fun h' hx' => ?_)))
 have I3 := I2.kept (h' := h') (t' := s1.toks) fun b o e => hx' b o (QO (Heap.lt_size e)) e
 show wpAny _ _ (assignInOrder [fun v => bindName X.env y v, fun v => bindName X.env x v] [u2, u1] >>= fun _ => pure Flow.next) _ _ _
 refine wpAny_bind (assignInOrder_cons (wpAny_bindName (De I3 hN hj (.inl hy) rw' (fun s2 I4 => ?_) (.inr hy))))
 refine assignInOrder_cons (wpAny_bindName (De I4 hN hi (.inl hx) rv (fun s3 I5 => assignInOrder_nil (wpAny_pure ?_)) (.inr hx)))
 rw [List.set_comm _ _ (Ne.symm hij)] at I5
 exact ⟨_, H1, I5, q1⟩
end
section
variable {X : Cx} {pos : Pos}
def IB (c : TT) (tb : TS) : TS := fun D σ H => ∃ W : Nat → St → Hp → Prop, (∃ m, W m σ H) ∧ ∀ m σ H, W m σ H →
 c σ H fun b H1 => if b = true then ∃ N : St → Hp → Prop, (∀ σ' H', N σ' H' → ∃ m', m' < m ∧ W m' σ' H') ∧ tb { D with nx := N, ct := N, bk := D.nx } σ H1 else D.nx σ H1
theorem BQ {c : Expr} {body : List Stmt} {tc : TT} {tb : TS} (hp : PassesOwn (model X.prog X.w) X.A X.env X.xe) (hc : PT X c tc) (hb : PSs X body tb) : PS X (.While c body [] pos) (IB tc tb) := by
 intro pins s σ H D I h
 obtain ⟨W, ⟨m0, w0⟩, turn⟩ := h
 refine wpAny_While (codeAny_whileLoop (fun n s' => ∃ σ' H', Inv X pins σ' H' s' ∧ W n σ' H') ?_ m0 ⟨σ, H, I, w0⟩)
 rintro n s1 ⟨σ1, H1, I1, w1⟩
 refine wpAny_passesOwn hp (thn (hc pins s1 σ1 H1 _ I1 (turn n σ1 H1 w1)) fun b s2 ⟨H2, I2, q2⟩ => ?_)
 cases b with
 | true =>
   obtain ⟨N, hN, q2⟩ := q2
   rw [if_pos rfl]
   refine wpAny_passesOwn hp (thn (hb pins s2 σ1 H2 _ I2 q2) fun f s3 q3 => ?_)
   cases f with
   | next =>
     obtain ⟨σ3, H3, I3, n3⟩ := q3
     obtain ⟨m', hm, w3⟩ := hN σ3 H3 n3
     exact ⟨m', hm, σ3, H3, I3, w3⟩
   | cont =>
     obtain ⟨σ3, H3, I3, n3⟩ := q3
     obtain ⟨m', hm, w3⟩ := hN σ3 H3 n3
     exact ⟨m', hm, σ3, H3, I3, w3⟩
   | brk => exact q3
   | ret v => exact q3
 | false =>
   rw [if_neg Bool.false_ne_true]
   exact wpAny_execs_nil ⟨σ1, H2, I2, q2⟩
end
structure It where
 go : Nat → Hp → Prop
 yld : Nat → Hp → V → Hp → Prop
 stop : Nat → Hp → Prop
def DP (X : Cx) (pins : List (Addr × Obj)) (H : Hp) (b : Addr) : Prop :=
 H b = none ∧ b ≠ X.env.locals ∧ b ∉ X.fs ∧ (b ∈ X.ex ∨ X.s₀.heap.objs.size ≤ b) ∧ (∀ x c, X.env.cells.lookup x = some c → c ≠ b) ∧ ∀ p ∈ X.pn ++ pins, p.1 ≠ b
theorem Inv.fpOk {X : Cx} {pins : List (Addr × Obj)} {σ : St} {H H' : Hp} {s : Shared} {b : Addr} (I : Inv X pins σ H s) (hb : s.heap.objs.size ≤ b) (hn : H' b = none) : DP X pins H' b := by
 refine ⟨hn, R7 (QM I.lt hb), I.nofs hb, .inr (QU I.sz hb), fun x c e z => ?_, fun p hp z => ?_⟩
 ·obtain ⟨v, q⟩ := I.cell x c e
  exact absurd (QM q.lt (by rw [z]; exact hb)) (QN _)
 ·exact absurd (QM (Heap.lt_size (I.pin p hp).1) (by rw [z]; exact hb)) (QN _)
structure Iu (P : Program) (w : World) (K : QT) (tg : Expr) (J : It) (fp : List Addr) (it : Addr) (tn : Nat → Heap → Prop) : Prop where
 mem : it ∈ fp
 obj : ∀ i h, tn i h → ∀ b ∈ fp, ∃ o, h.get? b = some o ∧ ∀ v, o.data ≠ .cell v
 keep : ∀ i h h', tn i h → (∀ b ∈ fp, ∀ o, h.get? b = some o → h'.get? b = some o) → tn i h'
 item : ∀ (X : Cx), X.prog = P → X.w = w → X.K = K → X.calm = true → ∀ (i : Nat) (pins : List (Addr × Obj)) (s : Shared) (σ : St) (H : Hp) (E : Value → Shared → Prop), Inv X pins σ H s → (∀ b ∈ fp, DP X pins H b) → tn i s.heap → J.go i H →
  wpAny (model P w) X.A (pyNext (.ref it)) (fun r s1 => ∃ u, r = some u ∧
   wpAny (model P w) X.A (letOwnedTupleGo tg (.ref it) u) (fun _ s2 => ∃ x H', Inv X pins σ H' s2 ∧ Bh x u ∧ J.yld i H x H' ∧ tn (i + 1) s2.heap ∧ ∀ b ∈ fp, H' b = none) E s1) E s
 done : ∀ (X : Cx), X.prog = P → X.w = w → X.K = K → X.calm = true → ∀ (i : Nat) (pins : List (Addr × Obj)) (s : Shared) (σ : St) (H : Hp) (E : Value → Shared → Prop), Inv X pins σ H s → (∀ b ∈ fp, DP X pins H b) → tn i s.heap → J.stop i H →
  wpAny (model P w) X.A (pyNext (.ref it)) (fun r s1 => r = none ∧ Inv X pins σ H s1) E s
 self : ∀ (A : Around) (i : Nat) (s : Shared) (Q : Value → Shared → Prop) (E : Value → Shared → Prop), tn i s.heap → Q (.ref it) s → wpAny (model P w) A (pyIter (.ref it)) Q E s
abbrev TI := St → Hp → (It → Hp → Prop) → Prop
def PIE (X : Cx) (pins : List (Addr × Obj)) (σ : St) (tg : Expr) (R : It → Hp → Prop) (itv : Value) (s2 : Shared) : Prop :=
 ∃ (it : Addr) (fp : List Addr) (tn : Nat → Heap → Prop) (J : It) (H' : Hp), itv = .ref it ∧ Inv X pins σ H' s2 ∧ Iu X.prog X.w X.K tg J fp it tn ∧ tn 0 s2.heap ∧ (∀ b ∈ fp, DP X pins H' b) ∧ R J H'
def PI (X : Cx) (tg iter : Expr) (wi : TI) : Prop :=
 ∀ (pins : List (Addr × Obj)) (s : Shared) (σ : St) (H : Hp) (R : It → Hp → Prop), Inv X pins σ H s → wi σ H R →
   wpAny (model X.prog X.w) X.A (eval iter X.env) (fun v s1 => wpAny (model X.prog X.w) X.A (pyIter v) (PIE X pins σ tg R) X.xe s1) X.xe s
theorem Gk {M : Model} {A : Around} {E : Value → Shared → Prop} {s : Shared} {tg : Expr} {it : Addr} {u : Value} {o : Obj} {n : String} {vs : Array Value} {Q : Unit → Shared → Prop} (ho : s.heap.get? it = some o) (hc : o.cls = .type n) (hd : o.data = .fields vs)
 (hn : ["enumerate", "zip", "dict_itemiterator", "dict_reverseitemiterator", "odict_iterator", "itertools.zip_longest", "itertools.pairwise"].contains n = false) (hQ : Q () s) : wpAny M A (letOwnedTupleGo tg (.ref it) u) Q E s := by
 unfold letOwnedTupleGo
 cases tg <;> first
  | exact wpAny_pure hQ
  | (cases u <;> first
   | exact wpAny_pure hQ
   | (refine wpAny_bind (wpAny_load ho ?_)
      rw [hc, hd]
      show wpAny M A (if (["enumerate", "zip", "dict_itemiterator", "dict_reverseitemiterator", "odict_iterator", "itertools.zip_longest", "itertools.pairwise"].contains n && vs[0]? == some (rawInt _)) = true then _ else _) Q E s
      rw [if_neg (by intro h; rw [hn, Bool.false_and] at h; cases h)]
      exact wpAny_pure hQ))
def Itl (K : QT) (a : Addr) : It :=
 ⟨fun i H => ∃ xs x, SqL K H a xs ∧ xs[i]? = some x, fun i H x H' => H' = H ∧ ∀ xs, SqL K H a xs → xs[i]? = some x, fun i H => ∃ xs, SqL K H a xs ∧ xs.length ≤ i⟩
def Itt (K : QT) (a : Addr) : It :=
 ⟨fun i H => ∃ xs x, SqT K H a xs ∧ xs[i]? = some x, fun i H x H' => H' = H ∧ ∀ xs, SqT K H a xs → xs[i]? = some x, fun i H => ∃ xs, SqT K H a xs ∧ xs.length ≤ i⟩
def Itr (lo : Int) (n : Nat) : It := ⟨fun i _ => i < n, fun i H x H' => H' = H ∧ x = .int (lo + i), fun i _ => n ≤ i⟩
theorem G8 {P : Program} {w : World} {K : QT} {tg : Expr} (a it : Addr) : Iu P w K tg (Itl K a) [it] it (fun i h => h.IsListIter it a i) where
 mem := by simp
 obj := fun i h st b hb => by
  have e : b = it := by simpa using hb
  subst e
  obtain ⟨o, e, c, d⟩ := st
  exact ⟨o, e, fun v z => by rw [d] at z; cases z⟩
 keep := fun i h h' st k => st.at fun o e => k it (by simp) o e
 item := by
  intro X hP hw hK hc i pins s σ H E I hf st hg
  subst hP hw hK
  obtain ⟨xs, x, hq, hx⟩ := hg
  obtain ⟨its, rv, p, hz⟩ := I.list hq
  obtain ⟨u, hu, ru⟩ := rv.get hx
  obtain ⟨f0, f1, f2, f3, f4, f5⟩ := hf it (by simp)
  refine wpAny_pyNext_list_item st p.isList (x := u) (by simpa using hu) fun h' st' sb => ?_
  have I1 : Inv X pins σ H { s with heap := h' } := I.turned (t' := s.toks) (fun b o hb e => (sb.2 b hb).trans e) f0 f1 f3 f4 f5
  obtain ⟨o, e, c, d⟩ := id st'
  exact ⟨u, rfl, Gk (s := { s with heap := h' }) e c d (by decide) ⟨x, H, I1, ru, ⟨rfl, fun ys hy => by rw [I.list_inj hy hq]; exact hx⟩, st', fun b hb => (hf b hb).1⟩⟩
 done := by
  intro X hP hw hK hc i pins s σ H E I hf st hg
  subst hP hw hK
  obtain ⟨xs, hq, hx⟩ := hg
  obtain ⟨its, rv, p, hz⟩ := I.list hq
  obtain ⟨f0, f1, f2, f3, f4, f5⟩ := hf it (by simp)
  have hl := rv.length
  exact wpAny_pyNext_list_end (I.ok.hd hc) st p.isList (by simp; lia) fun h' eb => ⟨rfl, I.turned (t' := s.toks) (fun b o hb e => eb b o hb e) f0 f1 f3 f4 f5⟩
 self := fun _ _ _ _ _ st h => wpAny_pyIter_listiter st h
theorem Iw {P : Program} {w : World} {K : QT} {tg : Expr} (a it : Addr) : Iu P w K tg (Itt K a) [it] it (fun i h => h.IsTupleIter it a i) where
 mem := by simp
 obj := fun i h st b hb => by
  have e : b = it := by simpa using hb
  subst e
  obtain ⟨o, e, c, d⟩ := st
  exact ⟨o, e, fun v z => by rw [d] at z; cases z⟩
 keep := fun i h h' st k => st.at fun o e => k it (by simp) o e
 item := by
  intro X hP hw hK hc i pins s σ H E I hf st hg
  subst hP hw hK
  obtain ⟨xs, x, hq, hx⟩ := hg
  obtain ⟨its, rv, p, hz⟩ := I.tuple hq
  obtain ⟨u, hu, ru⟩ := rv.get hx
  obtain ⟨f0, f1, f2, f3, f4, f5⟩ := hf it (by simp)
  refine wpAny_pyNext_tuple_item st (show s.heap.IsTuple a its.toArray from p) (x := u) (by simpa using hu) fun h' st' sb => ?_
  have I1 : Inv X pins σ H { s with heap := h' } := I.turned (t' := s.toks) (fun b o hb e => (sb.2 b hb).trans e) f0 f1 f3 f4 f5
  obtain ⟨o, e, c, d⟩ := id st'
  exact ⟨u, rfl, Gk (s := { s with heap := h' }) e c d (by decide) ⟨x, H, I1, ru, ⟨rfl, fun ys hy => by rw [I.tuple_inj hy hq]; exact hx⟩, st', fun b hb => (hf b hb).1⟩⟩
 done := by
  intro X hP hw hK hc i pins s σ H E I hf st hg
  subst hP hw hK
  obtain ⟨xs, hq, hx⟩ := hg
  obtain ⟨its, rv, p, hz⟩ := I.tuple hq
  obtain ⟨f0, f1, f2, f3, f4, f5⟩ := hf it (by simp)
  have hl := rv.length
  exact wpAny_pyNext_tuple_end (I.ok.hd hc) st (show s.heap.IsTuple a its.toArray from p) (by simp; lia) fun h' eb => ⟨rfl, I.turned (t' := s.toks) (fun b o hb e => eb b o hb e) f0 f1 f3 f4 f5⟩
 self := fun _ _ _ _ _ st h => wpAny_pyIter_tupleiter st h
theorem Iy {P : Program} {w : World} {K : QT} {tg : Expr} (it : Addr) (lo : Int) (n : Nat) : Iu P w K tg (Itr lo n) [it] it (fun i h => IsRangeIter h it (lo + (i : Nat) * 1) ((n : Int) - (i : Nat)) 1) where
 mem := by simp
 obj := fun i h st b hb => by
  have e : b = it := by simpa using hb
  subst e
  exact ⟨_, st, fun v z => by
   have z' : Data.fields _ = Data.cell v := z
   cases z'⟩
 keep := fun i h h' st k => k it (by simp) _ st
 item := by
  intro X hP hw hK hc i pins s σ H E I hf st hg
  subst hP hw hK
  obtain ⟨f0, f1, f2, f3, f4, f5⟩ := hf it (by simp)
  have W := Walks.range (prog := X.prog) (w := X.w) (I.ok.hd hc) it lo 1 n
  refine W.item i s _ _ hg st fun v h' tk hv st' kk => ?_
  obtain ⟨t, rfl⟩ := hv
  have I1 : Inv X pins σ H { s with heap := h', toks := tk } := I.turned (fun b o hb e => kk b o (by simpa using hb) e) f0 f1 f3 f4 f5
  refine ⟨_, rfl, Gk (s := { s with heap := h', toks := tk }) (n := "range_iterator") st' rfl rfl (by decide) ⟨.int (lo + i), H, I1, ⟨t, ?_⟩, ⟨rfl, rfl⟩, st', fun b hb => (hf b hb).1⟩⟩
  rw [Int.mul_one]
 done := by
  intro X hP hw hK hc i pins s σ H E I hf st hg
  subst hP hw hK
  obtain ⟨f0, f1, f2, f3, f4, f5⟩ := hf it (by simp)
  exact wpAny_pyNext_range_end (I.ok.hd hc) st (by have : n ≤ i := hg; lia) fun h' eb => ⟨rfl, I.turned (t' := s.toks) (fun b o hb e => eb b o hb e) f0 f1 f3 f4 f5⟩
 self := fun _ _ _ _ _ st h => wpAny_pyIter_rangeiter st h
end L2
namespace L2
open PySem PySem.Spec PyProof.Rows
section
variable {X : Cx} {tg : Expr}
def Gj (K : QT) (tl : TE) : TI := fun σ H R => tl σ H fun x H1 => ∃ a, x = .ref a ∧ (∃ xs, SqL K H1 a xs) ∧ R (Itl K a) H1
def Oh (K : QT) (tl : TE) : TI := fun σ H R => tl σ H fun x H1 => ∃ a, x = .ref a ∧ (∃ xs, SqT K H1 a xs) ∧ R (Itt K a) H1
theorem Ji {l : Expr} {tl : TE} (hl : PE X l tl) : PI X tg l (Gj X.K tl) := by
 intro pins s σ H R I h
 refine thn (hl pins s σ H _ I h) fun v s1 ⟨x, H1, I1, r1, q1⟩ => ?_
 obtain ⟨a, e, ⟨xs, hq⟩, q⟩ := q1
 subst e
 cases r1
 obtain ⟨its, rv, p, hz⟩ := I1.list hq
 refine wpAny_pyIter_list p.isList ?_
 refine ⟨s1.heap.objs.size, [s1.heap.objs.size], _, _, H1, rfl, I1.kept (t' := s1.toks) fun b o e => Heap.get?_push_of_some _ e, G8 a _, ⟨_, Heap.get?_push_size _ rfl, rfl, rfl⟩, fun b hb => ?_, q⟩
 have e : b = s1.heap.objs.size := by simpa using hb
 subst e
 exact I1.fpOk (R8 _) (I1.hok.fresh (R8 _))
theorem N8 {l : Expr} {tl : TE} (hl : PE X l tl) : PI X tg l (Oh X.K tl) := by
 intro pins s σ H R I h
 refine thn (hl pins s σ H _ I h) fun v s1 ⟨x, H1, I1, r1, q1⟩ => ?_
 obtain ⟨a, e, ⟨xs, hq⟩, q⟩ := q1
 subst e
 cases r1
 obtain ⟨its, rv, p, hz⟩ := I1.tuple hq
 refine wpAny_pyIter_tuple (show s1.heap.IsTuple a its.toArray from p) ?_
 refine ⟨s1.heap.objs.size, [s1.heap.objs.size], _, _, H1, rfl, I1.kept (t' := s1.toks) fun b o e => Heap.get?_push_of_some _ e, Iw a _, ⟨_, Heap.get?_push_size _ rfl, rfl, rfl⟩, fun b hb => ?_, q⟩
 have e : b = s1.heap.objs.size := by simpa using hb
 subst e
 exact I1.fpOk (R8 _) (I1.hok.fresh (R8 _))
theorem HN {pins : List (Addr × Obj)} {σ : St} {H : Hp} {s : Shared} {R : It → Hp → Prop} {E : Value → Shared → Prop} {lo hi : Int} {t u v : Tok} {tk : Nat} (I : Inv X pins σ H s) (h1 : -(2 ^ 62) ≤ lo) (h2 : lo < 2 ^ 62) (h3 : -(2 ^ 62) ≤ hi) (h4 : hi < 2 ^ 62)
 (q : R (Itr lo (hi - lo).toNat) H) : wpAny (model X.prog X.w) X.A (pyIter (.ref s.heap.objs.size)) (PIE X pins σ tg R) E { s with heap := s.heap.push { cls := .type "range", data := .fields #[.int lo t, .int hi u, .int 1 v] }, toks := tk } := by
 refine wpAny_pyIter_range (IsRange.new ..) (small_one h1 h2 h3 h4) ?_
 have I1 : Inv X pins σ H { s with heap := s.heap.push { cls := .type "range", data := .fields #[.int lo t, .int hi u, .int 1 v] }, toks := tk } := I.kept fun b o e => Heap.get?_push_of_some _ e
 refine ⟨(s.heap.push { cls := .type "range", data := .fields #[.int lo t, .int hi u, .int 1 v] }).objs.size, [(s.heap.push { cls := .type "range", data := .fields #[.int lo t, .int hi u, .int 1 v] }).objs.size], _, _, H, rfl,
  I1.kept (t' := tk) fun b o e => Heap.get?_push_of_some _ e, Iy _ lo (hi - lo).toNat, ?_, fun b hb => ?_, q⟩
 ·have e1 : lo + ((0 : Nat) : Int) * 1 = lo := by simp
  have e2 : (((hi - lo).toNat : Nat) : Int) - ((0 : Nat) : Int) = Builtin.Range.rangeSize lo hi 1 := by rw [rangeSize_one]; split <;> lia
  show IsRangeIter _ _ (lo + ((0 : Nat) : Int) * 1) ((((hi - lo).toNat : Nat) : Int) - ((0 : Nat) : Int)) 1
  rw [e1, e2]
  exact Heap.get?_push_size _ rfl
 ·have e : b = (s.heap.push { cls := .type "range", data := .fields #[.int lo t, .int hi u, .int 1 v] }).objs.size := by simpa using hb
  subst e
  exact I1.fpOk (R8 _) (I1.hok.fresh (R8 _))
def Oj (ta : TA) : TI := fun σ H R => ta σ H fun vs H1 => ∃ j : Int, vs = [.int j] ∧ -(2 ^ 62) ≤ j ∧ j < 2 ^ 62 ∧ R (Itr 0 j.toNat) H1
def Oi (ta : TA) : TI := fun σ H R => ta σ H fun vs H1 => ∃ i j : Int, vs = [.int i, .int j] ∧ (-(2 ^ 62) ≤ i ∧ i < 2 ^ 62 ∧ -(2 ^ 62) ≤ j ∧ j < 2 ^ 62) ∧ R (Itr i (j - i).toNat) H1
theorem BA {a : Expr} {ta : TA} {p pos : Pos} (hg : Gl X "range") (hm : X.mg "range" = none) (ha : PA X [a] ta) (hs : starEach [a] X.env = [(false, eval a X.env)] := by rfl) : PI X tg (.Call (.Name "range" p) [a] [] pos) (Oj ta) := by
 intro pins s σ H R I h
 refine Call_ (DM I hg hm boot_range (PyProof.Rows.callWith_type1 (thn (ha pos pins s σ H _ I h) fun us s1 ⟨vs, H1, I1, r1, q1⟩ => ?_) hs rfl))
 obtain ⟨j, e, q1, q2, q⟩ := q1
 subst e
 cases r1 with
 | cons r rr =>
   cases rr
   obtain ⟨t, rfl⟩ := r
   exact call_range_1 (HN I1 (by lia) (by lia) q1 q2 (by simpa using q))
theorem Ep {a b : Expr} {ta : TA} {p pos : Pos} (hg : Gl X "range") (hm : X.mg "range" = none) (ha : PA X [a, b] ta) (hs : starEach [a, b] X.env = [(false, eval a X.env), (false, eval b X.env)] := by rfl) (hs2 : starEach [b] X.env = [(false, eval b X.env)] := by rfl) :
 PI X tg (.Call (.Name "range" p) [a, b] [] pos) (Oi ta) := by
 intro pins s σ H R I h
 refine Call_ (DM I hg hm boot_range (PyProof.Rows.callWith_type1 (thn (ha pos pins s σ H _ I h) fun us s1 ⟨vs, H1, I1, r1, q1⟩ => ?_) (by rw [hs, hs2]) (by rw [hs2]; rfl)))
 obtain ⟨i, j, e, ⟨q1, q2, q3, q4⟩, q⟩ := q1
 subst e
 cases r1 with
 | cons r rr =>
   cases rr with
   | cons r' rr =>
     cases rr
     obtain ⟨t, rfl⟩ := r
     obtain ⟨t', rfl⟩ := r'
     exact call_range_2 (HN I1 q1 q2 q3 q4 q)
def MU (wi : TI) (g : TG) (tb : TS) : TS := fun D σ H => wi σ H fun J H1 => ∃ W : Nat → Nat → St → Hp → Prop, (∃ m, W 0 m σ H1) ∧ ∀ i m σ H, W i m σ H →
 (J.stop i H ∧ D.nx σ H) ∨ (J.go i H ∧ ∃ N : St → Hp → Prop, (∀ σ' H', N σ' H' → ∃ m', m' < m ∧ W (i + 1) m' σ' H') ∧ ∀ x H', J.yld i H x H' → g x σ H' fun σ2 H2 => tb { D with nx := N, ct := N, bk := D.nx } σ2 H2)
def Eo (fp : List Addr) (h : Heap) : List (Addr × Obj) := fp.filterMap fun b => (h.get? b).map fun o => (b, o)
theorem C5 {fp : List Addr} {h : Heap} {b : Addr} {o : Obj} (hb : b ∈ fp) (e : h.get? b = some o) : (b, o) ∈ Eo fp h := R9.mpr ⟨b, hb, by rw [e]; rfl⟩
theorem JW {fp : List Addr} {h : Heap} {p : Addr × Obj} (hp : p ∈ Eo fp h) : p.1 ∈ fp ∧ h.get? p.1 = some p.2 := by
 obtain ⟨b, hb, e⟩ := R9.mp hp
 cases q : h.get? b with
 | none => rw [q] at e; cases e
 | some o =>
   rw [q] at e
   have e' : (b, o) = p := QK.inj e
   subst e'
   exact ⟨hb, q⟩
theorem Inv.pinned {pins : List (Addr × Obj)} {σ : St} {H : Hp} {s : Shared} {fp : List Addr} (I : Inv X pins σ H s) (hf : ∀ b ∈ fp, DP X pins H b) (ho : ∀ b ∈ fp, ∃ o, s.heap.get? b = some o ∧ ∀ v, o.data ≠ .cell v) : Inv X (pins ++ Eo fp s.heap) σ H s :=
 I.pins_of fun p hp => (R0.mp hp).elim (fun z => I.pin p (Ra _ z)) fun z => by
  obtain ⟨hb, e⟩ := JW z
  obtain ⟨f0, f1, f2, _⟩ := hf p.1 hb
  obtain ⟨o, e', d⟩ := ho p.1 hb
  rw [e] at e'; cases e'
  exact ⟨e, f0, f1, f2, d⟩
theorem Inv.unpinned {pins pl : List (Addr × Obj)} {σ : St} {H : Hp} {s : Shared} (I : Inv X (pins ++ pl) σ H s) : Inv X pins σ H s := I.pins_of fun p hp => I.pin p (Ra _ (R1 _ hp))
theorem N7 {iter : Expr} {body : List Stmt} {wi : TI} {g : TG} {tb : TS} {pos : Pos} (hp : PassesOwn (model X.prog X.w) X.A X.env X.xe) (hc : X.calm = true) (hi : PI X tg iter wi) (hg : PG X tg g) (hb : PSs X body tb)
 (hs : ∀ x, foldedSetIterable iter X.env x = pure x := by intro _; rfl) : PS X (.For tg iter body [] pos) (MU wi g tb) := by
 intro pins s σ H D I h
 refine wpAny_For (thn (hi pins s σ H _ I h) fun v s1 h1 => thn h1 fun itv s2 h2 => ?_) hs
 obtain ⟨it, fp, tn, J, H2, e, I2, T, st2, f2, W, ⟨m0, w0⟩, turn⟩ := h2
 subst e
 -- what stays true of the iterator's objects through the loop
 have stat : ∀ {H' : Hp}, (∀ b ∈ fp, H' b = none) → ∀ b ∈ fp, DP X pins H' b := fun hn b hb => ⟨hn b hb, (f2 b hb).2⟩
 refine codeAny_forLoop_any (fun n s' => ∃ i σ' H', Inv X pins σ' H' s' ∧ tn i s'.heap ∧ (∀ b ∈ fp, H' b = none) ∧ W i n σ' H') ?_ m0 ⟨0, σ, H2, I2, st2, fun b hb => (f2 b hb).1, w0⟩
 rintro n s3 ⟨i, σ3, H3, I3, st3, fr3, w3⟩
 rcases turn i n σ3 H3 w3 with ⟨stop, qn⟩ | ⟨go, N, hN, step⟩
 ·refine wpAny_passesOwn hp (thn (T.done X rfl rfl rfl hc i pins s3 σ3 H3 X.xe I3 (stat fr3) st3 stop) fun r s4 ⟨hr, I4⟩ => ?_)
  subst hr
  exact wpAny_execs_nil ⟨σ3, H3, I4, qn⟩
 ·refine wpAny_passesOwn hp (thn (T.item X rfl rfl rfl hc i pins s3 σ3 H3 X.xe I3 (stat fr3) st3 go) fun r s4 ⟨u, hr, h4⟩ => ?_)
  subst hr
  refine wpAny_passesOwn hp (thn h4 fun _ s5 ⟨x, H5, I5, r5, y5, st5, fr5⟩ => ?_)
  have I5' := I5.pinned (stat fr5) (T.obj _ _ st5)
  refine wpAny_passesOwn hp (thn (hg _ s5 σ3 H5 x u _ I5' r5 (step x H5 y5)) fun _ s6 ⟨σ6, H6, I6, q6⟩ => ?_)
  refine wpAny_passesOwn hp (thn (hb _ s6 σ6 H6 _ I6 q6) fun f s7 q7 => ?_)
  have again : ∀ {σ7 : St} {H7 : Hp}, Inv X (pins ++ Eo fp s5.heap) σ7 H7 s7 → N σ7 H7 → ∃ m, m < n ∧ ∃ i σ' H', Inv X pins σ' H' s7 ∧ tn i s7.heap ∧ (∀ b ∈ fp, H' b = none) ∧ W i m σ' H' := fun {σ7 H7} I7 n7 => by
   obtain ⟨m', hm, w7⟩ := hN σ7 H7 n7
   refine ⟨m', hm, i + 1, σ7, H7, I7.unpinned, T.keep _ _ _ st5 fun b hb o e => (I7.pin (b, o) (Ra _ (Ra _ (C5 hb e)))).1, fun b hb => ?_, w7⟩
   obtain ⟨o, e, d⟩ := T.obj _ _ st5 b hb
   exact (I7.pin (b, o) (Ra _ (Ra _ (C5 hb e)))).2.1
  cases f with
  | next => obtain ⟨σ7, H7, I7, n7⟩ := q7; exact again I7 n7
  | cont => obtain ⟨σ7, H7, I7, n7⟩ := q7; exact again I7 n7
  | brk => obtain ⟨σ7, H7, I7, q7⟩ := q7; exact ⟨σ7, H7, I7.unpinned, q7⟩
  | ret v => obtain ⟨x7, σ7, H7, I7, r7, q7⟩ := q7; exact ⟨x7, σ7, H7, I7.unpinned, r7, q7⟩
end
theorem Lp {K : QT} {a : Addr} {xs : List V} {g : TG} {tb : TS} {D : CZ} {σ : St} {H : Hp} (Pv : Nat → St → Hp → Prop) (h0 : Pv 0 σ H) (hl : ∀ i σ H, i ≤ xs.length → Pv i σ H → SqL K H a xs)
 (hs : ∀ i x σ H, xs[i]? = some x → Pv i σ H → g x σ H fun σ2 H2 => tb { D with nx := Pv (i + 1), ct := Pv (i + 1), bk := D.nx } σ2 H2) (hd : ∀ σ H, Pv xs.length σ H → D.nx σ H) :
 ∃ W : Nat → Nat → St → Hp → Prop, (∃ m, W 0 m σ H) ∧ ∀ i m σ H, W i m σ H →
   ((Itl K a).stop i H ∧ D.nx σ H) ∨ ((Itl K a).go i H ∧ ∃ N : St → Hp → Prop, (∀ σ' H', N σ' H' → ∃ m', m' < m ∧ W (i + 1) m' σ' H') ∧ ∀ x H', (Itl K a).yld i H x H' → g x σ H' fun σ2 H2 => tb { D with nx := N, ct := N, bk := D.nx } σ2 H2) := by
 refine ⟨fun i m σ H => m = xs.length - i ∧ i ≤ xs.length ∧ Pv i σ H, ⟨xs.length, by simp, Rb _, h0⟩, ?_⟩
 rintro i m σ H ⟨rfl, hi, p⟩
 have q := hl i σ H hi p
 by_cases hlt : i < xs.length
 ·refine .inr ⟨⟨xs, xs[i], q, by simp [hlt]⟩, Pv (i + 1), fun σ' H' p' => ⟨xs.length - (i + 1), by lia, rfl, hlt, p'⟩, fun x H' y => ?_⟩
  obtain ⟨e, y⟩ := y
  subst e
  exact hs i x σ _ (y xs q) p
 ·have e : i = xs.length := by lia
  subst e
  exact .inl ⟨⟨xs, q, R8 _⟩, hd σ H p⟩
theorem Mp {K : QT} {a : Addr} {xs : List V} {g : TG} {tb : TS} {D : CZ} {σ : St} {H : Hp} (Pv : Nat → St → Hp → Prop) (h0 : Pv 0 σ H) (hl : ∀ i σ H, i ≤ xs.length → Pv i σ H → SqT K H a xs)
 (hs : ∀ i x σ H, xs[i]? = some x → Pv i σ H → g x σ H fun σ2 H2 => tb { D with nx := Pv (i + 1), ct := Pv (i + 1), bk := D.nx } σ2 H2) (hd : ∀ σ H, Pv xs.length σ H → D.nx σ H) :
 ∃ W : Nat → Nat → St → Hp → Prop, (∃ m, W 0 m σ H) ∧ ∀ i m σ H, W i m σ H →
   ((Itt K a).stop i H ∧ D.nx σ H) ∨ ((Itt K a).go i H ∧ ∃ N : St → Hp → Prop, (∀ σ' H', N σ' H' → ∃ m', m' < m ∧ W (i + 1) m' σ' H') ∧ ∀ x H', (Itt K a).yld i H x H' → g x σ H' fun σ2 H2 => tb { D with nx := N, ct := N, bk := D.nx } σ2 H2) := by
 refine ⟨fun i m σ H => m = xs.length - i ∧ i ≤ xs.length ∧ Pv i σ H, ⟨xs.length, by simp, Rb _, h0⟩, ?_⟩
 rintro i m σ H ⟨rfl, hi, p⟩
 have q := hl i σ H hi p
 by_cases hlt : i < xs.length
 ·refine .inr ⟨⟨xs, xs[i], q, by simp [hlt]⟩, Pv (i + 1), fun σ' H' p' => ⟨xs.length - (i + 1), by lia, rfl, hlt, p'⟩, fun x H' y => ?_⟩
  obtain ⟨e, y⟩ := y
  subst e
  exact hs i x σ _ (y xs q) p
 ·have e : i = xs.length := by lia
  subst e
  exact .inl ⟨⟨xs, q, R8 _⟩, hd σ H p⟩
theorem BN {lo : Int} {n : Nat} {g : TG} {tb : TS} {D : CZ} {σ : St} {H : Hp} (Pv : Nat → St → Hp → Prop) (h0 : Pv 0 σ H)
 (hs : ∀ i σ H, i < n → Pv i σ H → g (.int (lo + i)) σ H fun σ2 H2 => tb { D with nx := Pv (i + 1), ct := Pv (i + 1), bk := D.nx } σ2 H2) (hd : ∀ σ H, Pv n σ H → D.nx σ H) :
 ∃ W : Nat → Nat → St → Hp → Prop, (∃ m, W 0 m σ H) ∧ ∀ i m σ H, W i m σ H →
   ((Itr lo n).stop i H ∧ D.nx σ H) ∨ ((Itr lo n).go i H ∧ ∃ N : St → Hp → Prop, (∀ σ' H', N σ' H' → ∃ m', m' < m ∧ W (i + 1) m' σ' H') ∧ ∀ x H', (Itr lo n).yld i H x H' → g x σ H' fun σ2 H2 => tb { D with nx := N, ct := N, bk := D.nx } σ2 H2) := by
 refine ⟨fun i m σ H => m = n - i ∧ i ≤ n ∧ Pv i σ H, ⟨n, by simp, Rb _, h0⟩, ?_⟩
 rintro i m σ H ⟨rfl, hi, p⟩
 by_cases hlt : i < n
 ·refine .inr ⟨hlt, Pv (i + 1), fun σ' H' p' => ⟨n - (i + 1), by lia, rfl, hlt, p'⟩, fun x H' y => ?_⟩
  obtain ⟨e, y⟩ := y
  subst e y
  exact hs i σ _ hlt p
 ·have e : i = n := by lia
  subst e
  exact .inl ⟨R8 _, hd σ H p⟩
theorem HG {c : TT} {tb : TS} {D : CZ} {σ : St} {H : Hp} (Pv : St → Hp → Prop) (μ : St → Hp → Nat) (h0 : Pv σ H)
 (hs : ∀ σ H, Pv σ H → c σ H fun b H1 => if b = true then tb { D with nx := fun σ' H' => Pv σ' H' ∧ μ σ' H' < μ σ H, ct := fun σ' H' => Pv σ' H' ∧ μ σ' H' < μ σ H, bk := D.nx } σ H1 else D.nx σ H1)
 (mono : ∀ σ H Q Q', (∀ b H1, Q b H1 → Q' b H1) → c σ H Q → c σ H Q') : IB c tb D σ H := by
 refine ⟨fun m σ H => m = μ σ H ∧ Pv σ H, ⟨_, rfl, h0⟩, ?_⟩
 rintro m σ H ⟨rfl, p⟩
 refine mono σ H _ _ (fun b H1 q => ?_) (hs σ H p)
 cases b with
 | true => exact ⟨_, fun σ' H' ⟨p', l⟩ => ⟨_, l, rfl, p'⟩, q⟩
 | false => exact q
end L2
namespace L2
open PySem PySem.Spec PyProof.Rows
abbrev R2 := V → V → Hp → VK → Prop
def OpR (X : Cx) (f : Value → Value → Sem Value) (r : R2) : Prop :=
 ∀ (pins : List (Addr × Obj)) (s : Shared) (σ : St) (H : Hp) (x y : V) (v u : Value) (Q : VK), Inv X pins σ H s → Bh x v → Bh y u → r x y H Q →
   wpAny (model X.prog X.w) X.A (f v u) (EP X pins σ Q) X.xe s
def UnR (X : Cx) (f : Value → Sem Value) (r : V → Hp → VK → Prop) : Prop :=
 ∀ (pins : List (Addr × Obj)) (s : Shared) (σ : St) (H : Hp) (x : V) (v : Value) (Q : VK), Inv X pins σ H s → Bh x v → r x H Q →
   wpAny (model X.prog X.w) X.A (f v) (EP X pins σ Q) X.xe s
def CG (X : Cx) (f : Value) (r : List V → Hp → VK → Prop) : Prop :=
 ∀ (pins : List (Addr × Obj)) (s : Shared) (σ : St) (H : Hp) (xs : List V) (us : List Value) (Q : VK), Inv X pins σ H s → AK xs us → r xs H Q →
   wpAny (model X.prog X.w) X.A (call f us) (EP X pins σ Q) X.xe s
def tOp (r : R2) (ta tb : TE) : TE := fun σ H Q => ta σ H fun x H1 => tb σ H1 fun y H2 => r x y H2 Q
def tUn (r : V → Hp → VK → Prop) (ta : TE) : TE := fun σ H Q => ta σ H fun x H1 => r x H1 Q
inductive rI (C : Int → Int → Prop) (g : Int → Int → V) (x : V) (y : V) (H : Hp) (Q : VK) : Prop
 | mk (i : _) (j : _) (h1 : x = .int i) (h2 : y = .int j) (h3 : C i j) (h4 : Q (g i j) H) : rI C g x y H Q
inductive rI0 (g : Int → Int → V) (x : V) (y : V) (H : Hp) (Q : VK) : Prop
 | mk (i : _) (j : _) (h1 : x = .int i) (h2 : y = .int j) (h3 : Q (g i j) H) : rI0 g x y H Q
inductive rU (g : Int → V) (x : V) (H : Hp) (Q : VK) : Prop
 | mk (i : _) (h1 : x = .int i) (h2 : Q (g i) H) : rU g x H Q
section
variable {X : Cx} {a b c : Expr} {ta tb tc : TE} {pos : Pos}
theorem NN (ha : PE X a ta) (hb : PE X b tb) {pins : List (Addr × Obj)} {s : Shared} {σ : St} {H : Hp} {R : V → V → Hp → Prop} (I : Inv X pins σ H s)
 (h : ta σ H fun x H1 => tb σ H1 fun y H2 => R x y H2) {Q : Value → Shared → Prop} {f : Value → Value → Sem Value}
 (hf : ∀ v u s2 x y H2, Inv X pins σ H2 s2 → Bh x v → Bh y u → R x y H2 → wpAny (model X.prog X.w) X.A (f v u) Q X.xe s2) :
 wpAny (model X.prog X.w) X.A (eval a X.env) (fun v s₁ => wpAny (model X.prog X.w) X.A (eval b X.env) (fun u s₂ => wpAny (model X.prog X.w) X.A (f v u) Q X.xe s₂) X.xe s₁) X.xe s := by
 refine thn (ha pins s σ H _ I h) fun v s1 ⟨x, H1, I1, r1, q1⟩ => ?_
 refine thn (hb pins s1 σ H1 _ I1 q1) fun u s2 ⟨y, H2, I2, r2, q2⟩ => ?_
 exact hf v u s2 x y H2 I2 r1 r2 q2
theorem Ah {op : Operator} {r : R2} (ho : OpR X (binaryOp op) r) (ha : PE X a ta) (hb : PE X b tb) : PE X (.BinOp a op b pos) (tOp r ta tb) := by
 intro pins s σ H Q I h
 exact wpAny_BinOp (NN ha hb I h fun v u s2 x y H2 I2 rx ry q => ho pins s2 σ H2 x y v u Q I2 rx ry q)
theorem CM {op : UnaryOp} {r : V → Hp → VK → Prop} (ho : UnR X (unaryOp op) r) (ha : PE X a ta) : PE X (.UnaryOp op a pos) (tUn r ta) := by
 intro pins s σ H Q I h
 exact UnaryOp_ (thn (ha pins s σ H _ I h) fun v s1 ⟨x, H1, I1, r1, q1⟩ => ho pins s1 σ H1 x v Q I1 r1 q1)
theorem opI {f : Value → Value → Sem Value} {C : Int → Int → Prop} {g : Int → Int → Int}
 (rule : ∀ (i j : Int) (t u : Tok) (s : Shared) (Q : Value → Shared → Prop) (E : Value → Shared → Prop), C i j → Q (.int (g i j) s.toks) { s with toks := s.toks + 1 } → wpAny (model X.prog X.w) X.A (f (.int i t) (.int j u)) Q E s) :
 OpR X f (rI C fun i j => .int (g i j)) := by
 intro pins s σ H x y v u Q I rx ry h
 obtain ⟨i, j, rfl, rfl, hc, q⟩ := h
 obtain ⟨t, rfl⟩ := rx
 obtain ⟨t', rfl⟩ := ry
 exact rule i j t t' s _ _ hc ⟨.int (g i j), H, I.tok _, ⟨_, rfl⟩, q⟩
theorem Of {f : Value → Value → Sem Value} {g : Int → Int → Int}
 (rule : ∀ (i j : Int) (t u : Tok) (s : Shared) (Q : Value → Shared → Prop) (E : Value → Shared → Prop), Q (.int (g i j) s.toks) { s with toks := s.toks + 1 } → wpAny (model X.prog X.w) X.A (f (.int i t) (.int j u)) Q E s) :
 OpR X f (rI0 fun i j => .int (g i j)) := by
 intro pins s σ H x y v u Q I rx ry h
 obtain ⟨i, j, rfl, rfl, q⟩ := h
 obtain ⟨t, rfl⟩ := rx
 obtain ⟨t', rfl⟩ := ry
 exact rule i j t t' s _ _ ⟨.int (g i j), H, I.tok _, ⟨_, rfl⟩, q⟩
theorem Nk {f : Value → Value → Sem Value} {g : Int → Int → Bool}
 (rule : ∀ (i j : Int) (t u : Tok) (s : Shared) (Q : Value → Shared → Prop) (E : Value → Shared → Prop), Q (.bool (g i j)) s → wpAny (model X.prog X.w) X.A (f (.int i t) (.int j u)) Q E s) :
 OpR X f (rI0 fun i j => .bl (g i j)) := by
 intro pins s σ H x y v u Q I rx ry h
 obtain ⟨i, j, rfl, rfl, q⟩ := h
 obtain ⟨t, rfl⟩ := rx
 obtain ⟨t', rfl⟩ := ry
 exact rule i j t t' s _ _ ⟨.bl (g i j), H, I, rfl, q⟩
def FF (i j : Int) : Prop := 0 ≤ j ∧ j ≤ 1000000 ∧ i.natAbs < 2 ^ 64
theorem AF : OpR X (binaryOp .Add) (rI0 fun i j => .int (i + j)) := Of fun _ _ _ _ _ _ _ q => add_int q
theorem Bo : OpR X (binaryOp .Sub) (rI0 fun i j => .int (i - j)) := Of fun _ _ _ _ _ _ _ q => sub_int q
theorem BR : OpR X (binaryOp .Mod) (rI (fun _ j => 0 < j) fun i j => .int (i % j)) := opI fun i j _ _ _ _ _ hc q => by
 have h1 : (0 : Int) < j := hc
 exact mod_int' (by lia) (by rw [Int.fmod_eq_emod_of_nonneg i (by lia)]; exact q)
theorem CW : OpR X (binaryOp .Pow) (rI FF fun i j => .int (i ^ j.toNat)) := opI fun _ _ _ _ _ _ _ hc q => pow_int_small hc.1 hc.2.1 hc.2.2 q
theorem unI {f : Value → Sem Value} {g : Int → Int}
 (rule : ∀ (i : Int) (t : Tok) (s : Shared) (Q : Value → Shared → Prop) (E : Value → Shared → Prop), Q (.int (g i) s.toks) { s with toks := s.toks + 1 } → wpAny (model X.prog X.w) X.A (f (.int i t)) Q E s) :
 UnR X f (rU fun i => .int (g i)) := by
 intro pins s σ H x v Q I rx h
 obtain ⟨i, rfl, q⟩ := h
 obtain ⟨t, rfl⟩ := rx
 exact rule i t s _ _ ⟨.int (g i), H, I.tok _, ⟨_, rfl⟩, q⟩
theorem BX : UnR X (unaryOp .USub) (rU fun i => .int (-i)) := unI fun _ _ _ _ _ q => neg_int q
end
def Kz : V → V → Bool
 | .non, .non => true | .non, .int _ => true | .int _, .non => true | .non, .bl _ => true | .bl _, .non => true | .non, .str _ => true | .str _, .non => true
 | .int _, .int _ => true | .bl _, .bl _ => true | .str _, .str _ => true | .byt _, .byt _ => true
 | .int _, .str _ => true | .str _, .int _ => true | .bl _, .str _ => true | .str _, .bl _ => true
 | _, _ => false
def rEq : R2 := fun x y H Q => Kz x y = true ∧ Q (.bl (decide (x = y))) H
def rNe : R2 := fun x y H Q => Kz x y = true ∧ Q (.bl (!decide (x = y))) H
theorem JC {i j : Int} : decide (V.int i = V.int j) = (i == j) := by
 rw [Bool.eq_iff_iff]
 simp
theorem Lw {i j : Bool} : decide (V.bl i = V.bl j) = (i == j) := by
 rw [Bool.eq_iff_iff]
 simp
theorem JB {i j : Str} : decide (V.str i = V.str j) = (i == j) := by
 rw [Bool.eq_iff_iff]
 simp
theorem JD {i j : Array UInt8} : decide (V.byt i = V.byt j) = (i.toList == j.toList) := by
 rw [Bool.eq_iff_iff]
 cases i
 cases j
 simp
section
variable {X : Cx} {a b c : Expr} {ta tb tc : TE} {pos : Pos}
theorem AQ {pins : List (Addr × Obj)} {σ : St} {H : Hp} {s : Shared} {Q : VK} {k k' : Bool} (I : Inv X pins σ H s) (q : Q (.bl k) H) (e : k = k') : EP X pins σ Q (.bool k') s := by
 subst e
 exact ⟨.bl k, H, I, rfl, q⟩
theorem Cz : OpR X (compareOp .Eq) rEq := by
 intro pins s σ H x y v u Q I rx ry h
 obtain ⟨hs, q⟩ := h
 cases x with
 | non =>
   cases rx
   cases y with
   | non => cases ry; exact PySem.EqNone.eq_none_none (AQ I q (by simp))
   | bl j => cases ry; exact PySem.EqNone.eq_none_bool (AQ I q (by simp))
   | int j => obtain ⟨t', rfl⟩ := ry; exact PySem.EqNone.eq_none_int (AQ I q (by simp))
   | str j => obtain ⟨t', rfl⟩ := ry; exact PySem.EqNone.eq_none_str (AQ I q (by simp))
   | _ => exact absurd (show false = true from hs) Bool.false_ne_true
 | bl i =>
   cases rx
   cases y with
   | non => cases ry; exact PySem.EqNone.eq_bool_none (AQ I q (by simp))
   | bl j => cases ry; exact eq_bool (AQ I q Lw)
   | str j => obtain ⟨t', rfl⟩ := ry; exact PySem.EqMixed.eq_bool_str (AQ I q (by simp))
   | _ => exact absurd (show false = true from hs) Bool.false_ne_true
 | int i =>
   obtain ⟨t, rfl⟩ := rx
   cases y with
   | non => cases ry; exact PySem.EqNone.eq_int_none (AQ I q (by simp))
   | int j => obtain ⟨t', rfl⟩ := ry; exact eq_int (AQ I q JC)
   | str j => obtain ⟨t', rfl⟩ := ry; exact PySem.EqMixed.eq_int_str (AQ I q (by simp))
   | _ => exact absurd (show false = true from hs) Bool.false_ne_true
 | str i =>
   obtain ⟨t, rfl⟩ := rx
   cases y with
   | non => cases ry; exact PySem.EqNone.eq_str_none (AQ I q (by simp))
   | bl j => cases ry; exact PySem.EqMixed.eq_str_bool (AQ I q (by simp))
   | int j => obtain ⟨t', rfl⟩ := ry; exact PySem.EqMixed.eq_str_int (AQ I q (by simp))
   | str j => obtain ⟨t', rfl⟩ := ry; exact eq_str (AQ I q JB)
   | _ => exact absurd (show false = true from hs) Bool.false_ne_true
 | byt i =>
   obtain ⟨t, rfl⟩ := rx
   cases y with
   | byt j => obtain ⟨t', rfl⟩ := ry; exact PySem.W.eq_bytes (AQ I q JD)
   | _ => exact absurd (show false = true from hs) Bool.false_ne_true
 | _ => cases y <;> exact absurd (show false = true from hs) Bool.false_ne_true
theorem DI : OpR X (compareOp .NotEq) rNe := by
 intro pins s σ H x y v u Q I rx ry h
 obtain ⟨hs, q⟩ := h
 cases x with
 | non =>
   cases rx
   cases y with
   | non => cases ry; exact PySem.EqNone.ne_none_none (AQ I q (by simp))
   | bl j => cases ry; exact PySem.EqNone.ne_none_bool (AQ I q (by simp))
   | int j => obtain ⟨t', rfl⟩ := ry; exact PySem.EqNone.ne_none_int (AQ I q (by simp))
   | str j => obtain ⟨t', rfl⟩ := ry; exact PySem.EqNone.ne_none_str (AQ I q (by simp))
   | _ => exact absurd (show false = true from hs) Bool.false_ne_true
 | bl i =>
   cases rx
   cases y with
   | non => cases ry; exact PySem.EqNone.ne_bool_none (AQ I q (by simp))
   | bl j => cases ry; exact ne_bool (AQ I q (congrArg not Lw))
   | str j => obtain ⟨t', rfl⟩ := ry; exact PySem.EqMixed.ne_bool_str (AQ I q (by simp))
   | _ => exact absurd (show false = true from hs) Bool.false_ne_true
 | int i =>
   obtain ⟨t, rfl⟩ := rx
   cases y with
   | non => cases ry; exact PySem.EqNone.ne_int_none (AQ I q (by simp))
   | int j => obtain ⟨t', rfl⟩ := ry; exact ne_int (AQ I q (congrArg not JC))
   | str j => obtain ⟨t', rfl⟩ := ry; exact PySem.EqMixed.ne_int_str (AQ I q (by simp))
   | _ => exact absurd (show false = true from hs) Bool.false_ne_true
 | str i =>
   obtain ⟨t, rfl⟩ := rx
   cases y with
   | non => cases ry; exact PySem.EqNone.ne_str_none (AQ I q (by simp))
   | bl j => cases ry; exact PySem.EqMixed.ne_str_bool (AQ I q (by simp))
   | int j => obtain ⟨t', rfl⟩ := ry; exact PySem.EqMixed.ne_str_int (AQ I q (by simp))
   | str j => obtain ⟨t', rfl⟩ := ry; exact ne_str (AQ I q (congrArg not JB))
   | _ => exact absurd (show false = true from hs) Bool.false_ne_true
 | byt i =>
   obtain ⟨t, rfl⟩ := rx
   cases y with
   | byt j => obtain ⟨t', rfl⟩ := ry; exact PySem.W.ne_bytes (AQ I q (congrArg not JD))
   | _ => exact absurd (show false = true from hs) Bool.false_ne_true
 | _ => cases y <;> exact absurd (show false = true from hs) Bool.false_ne_true
theorem Ff : OpR X (compareOp .Lt) (rI0 fun i j => .bl (decide (i < j))) := Nk fun _ _ _ _ _ _ _ q => lt_int q
theorem CN : OpR X (compareOp .Gt) (rI0 fun i j => .bl (decide (j < i))) := Nk fun _ _ _ _ _ _ _ q => gt_int q
theorem Oe : OpR X (compareOp .GtE) (rI0 fun i j => .bl (decide (j ≤ i))) := Nk fun _ _ _ _ _ _ _ q => ge_int q
theorem Ma : OpR X (compareOp .IsNot) (fun x y H Q => y = .non ∧ Q (.bl (!decide (x = .non))) H) := by
 intro pins s σ H x y v u Q I rx ry h
 obtain ⟨rfl, q⟩ := h
 cases ry
 refine isnot_none_gen (AQ I q ?_)
 cases x <;> first
  | (cases rx; rfl)
  | (obtain ⟨t, rfl⟩ := rx; rfl)
theorem Ay (b : Expr) {op : CmpOp} (h : op ≠ .In := by decide) (h2 : op ≠ .NotIn := by decide) : behindInMarks op b = false := by
 have e1 : (op == CmpOp.In) = false := by cases op <;> first | rfl | exact absurd rfl h
 have e2 : (op == CmpOp.NotIn) = false := by cases op <;> first | rfl | exact absurd rfl h2
 cases b <;> simp [behindInMarks, e1, e2]
theorem Dx {op : CmpOp} {r : R2} (ho : OpR X (compareOp op) r) (ha : PE X a ta) (hb : PE X b tb) (hm : behindInMarks op b = false) : PE X (.Compare a [op] [b] pos) (tOp r ta tb) := by
 intro pins s σ H Q I h
 exact wpAny_Compare1 (NN ha hb I h fun v u s2 x y H2 I2 rx ry q => ho pins s2 σ H2 x y v u Q I2 rx ry q) hm
def NV (t : TE) : TT := fun σ H Q => t σ H fun x H' => ∃ k, x = .bl k ∧ Q k H'
theorem Av {op : CmpOp} {r : R2} (ho : OpR X (compareOp op) r) (ha : PE X a ta) (hb : PE X b tb) (hm : behindInMarks op b = false) : PT X (.Compare a [op] [b] pos) (NV (tOp r ta tb)) := by
 intro pins s σ H Q I h
 refine wpAny_isTrue_Compare1 (thn (ha pins s σ H _ I h) fun v s1 ⟨x, H1, I1, r1, q1⟩ => thn (hb pins s1 σ H1 _ I1 q1) fun u s2 ⟨y, H2, I2, r2, q2⟩ =>
  thn (ho pins s2 σ H2 x y v u _ I2 r1 r2 q2) fun c s3 ⟨z, H3, I3, r3, k, e, q3⟩ => ?_) hm
 subst e
 cases r3
 exact wpAny_truthy_bool ⟨H3, I3, q3⟩
theorem Hi : (sizeLine : Nat) < 2 ^ 63 := by rw [sizeLine_eq]; decide
theorem DQ {x : V} {us : List Value} (r : AK [x] us) : ∃ u, us = [u] ∧ Bh x u := by
 cases r with
 | cons r1 r2 => cases r2; exact ⟨_, rfl, r1⟩
theorem NS {x y : V} {us : List Value} (r : AK [x, y] us) : ∃ u w', us = [u, w'] ∧ Bh x u ∧ Bh y w' := by
 cases r with
 | cons r1 r2 =>
   cases r2 with
   | cons r3 r4 => cases r4; exact ⟨_, _, rfl, r1, r3⟩
theorem Eb : CG X (.builtin "abs") (fun xs H Q => ∃ i, xs = [.int i] ∧ Q (.int (if i < 0 then -i else i)) H) := by
 intro pins s σ H xs us Q I r h
 obtain ⟨i, rfl, q⟩ := h
 obtain ⟨u, rfl, t, rfl⟩ := DQ r
 exact call_abs_int fun u tk => ⟨.int (if i < 0 then -i else i), H, I.tok _, ⟨_, rfl⟩, q⟩
theorem Kh : CG X (.type "int") (fun xs H Q => (∃ i, xs = [.int i] ∧ Q (.int i) H) ∨ ∃ k, xs = [.bl k] ∧ Q (.int (if k then 1 else 0)) H) := by
 intro pins s σ H xs us Q I r h
 rcases h with ⟨i, rfl, q⟩ | ⟨k, rfl, q⟩
 ·obtain ⟨u, rfl, t, rfl⟩ := DQ r
  exact call_int_int ⟨.int i, H, I, ⟨_, rfl⟩, q⟩
 ·obtain ⟨u, rfl, r1⟩ := DQ r
  cases r1
  exact call_int_bool ⟨.int (if k then 1 else 0), H, I.tok _, ⟨_, rfl⟩, q⟩
end
end L2
namespace L2
open PySem PySem.Spec PyProof.Rows
structure ObjM (h : Heap) (x dx C : Addr) (mA : Str → Option Value) : Prop where
 obj : h.get? x = some (PySem.W.instObj C dx)
 ns : h.Ns1 dx mA
 ne : dx ≠ x
section
variable {prog : Program} {w : World} {A : Around} {E : Value → Shared → Prop} {s : Shared} {K : QT} {x dx C f : Addr} {mA : Str → Option Value} {name : Str} {v : Value}
end
section
variable {P : Program} {w : World} {H H' : Hp} {h h' : Heap} {a C dx : Addr} {fs fs' : List (Str × V)}
end
structure Cls (K : QT) (C : Addr) : Prop where
 pg : PySem.W.plainGet K C Str.empty = true
 hd : PySem.W.hasDictIn K C = true
 po : PySem.W.plainOver K C = true
 sa : Rc K (.ref C) "__setattr__" = some (some (.builtin "object.__setattr__"))
structure Con (K : QT) (C : Addr) (f : Str) (v : V) (u : Value) : Prop where
 at_ : Rc K (.ref C) f = some (some u)
 rel : Bh v u
 get : Rf K u "__get__" = some none
 cp : PySem.W.copiedNames.contains f = false
structure Meth (K : QT) (C : Addr) (m : Str) (f : Addr) : Prop where
 at_ : Rc K (.ref C) m = some (some (.ref f))
 fn : PySem.W.isFn K (.ref f) = true
 kp : Rg K (.ref f) = true
section
variable {X : Cx} {pins : List (Addr × Obj)} {σ : St} {H : Hp} {s : Shared} {a C dx : Addr} {fs : List (Str × V)} {f : Str} {v : V} {A : Around} {E : Value → Shared → Prop}
end
section
variable {X : Cx} {o e value : Expr} {f : Str} {pos pos' tpos : Pos} {ta tv : TE}
end
section
variable {X : Cx} {pins : List (Addr × Obj)} {σ : St} {H : Hp} {s : Shared} {A : Around} {E : Value → Shared → Prop} {Q : Value → Shared → Prop} {c : Value} {b : Bool}
inductive ED (K : QT) (H : Hp) : V → Value → Prop where
 | non : ED K H .non (.type "NoneType")
 | bl (x : Bool) : ED K H (.bl x) (.type "bool")
 | int (i : Int) : ED K H (.int i) (.type "int")
 | str (x : Str) : ED K H (.str x) (.type "str")
 | flt (x : UInt64) : ED K H (.flt x) (.type "float")
 | lst {a : Addr} {xs : List V} (e : H a = some (.lst xs)) : ED K H (.ref a) (.type "list")
 | frz {a : Addr} {o : Obj} {xs : List V} (e : H a = some (.frz o (.lst xs))) : ED K H (.ref a) (.type "list")
 | tup {a : Addr} {xs : List V} (e : H a = some (.tup xs)) : ED K H (.ref a) (.type "tuple")
 | dK {a : Addr} {kvs : List (Key × V)} (e : H a = some (.dK kvs)) : ED K H (.ref a) (.type "dict")
 | dT {a : Addr} {kvs : List (List Key × V)} (e : H a = some (.dT kvs)) : ED K H (.ref a) (.type "dict")
 | ins {a C dx : Addr} {fs : List (Str × V)} (e : H a = some (.ins C dx fs)) (cl : Cls K C) (ha : Rc K (.ref C) "__class__" = some (some (.builtin "object.__class__")))
  (hn : Rf K (.builtin "object.__class__") "__get__" = some (some (.builtin "getset_descriptor.__get__"))) (htk : PySem.W.takesIn K (.builtin "object.__class__") = some true)
  (hm : Rh K C (.type "object") = some true) : ED K H (.ref a) (.ref C)
end
end L2
namespace L2
open PySem PySem.Spec PyProof.Rows
structure C7 (k : Nat) (A : Around) : Prop where
 hd : A.handled = none
 dp : A.depth + 3 * k + 5 < recursionLimit
 un : A.units + 16 * k + 200 < cLine
theorem C7.mono {j k : Nat} {A : Around} (r : C7 k A) (h : j ≤ k) : C7 j A := ⟨r.hd, by have := r.dp; lia, by have := r.un; lia⟩
theorem C7.deeper {k : Nat} {A : Around} (r : C7 (k + 1) A) (env : Env) : C7 k (A.deeper env) :=
 ⟨r.hd, by have := r.dp; show A.depth + 1 + 3 * k + 5 < _; lia, by have := r.un; show A.units + 3 + 16 * k + 200 < _; lia⟩
theorem C7.depth {k : Nat} {A : Around} (r : C7 k A) : A.depth < recursionLimit := by have := r.dp; lia
theorem C7.units {k : Nat} {A : Around} (r : C7 k A) : A.units + 64 < cLine := by have := r.un; lia
def FH : TA := fun _ H Q => Q [] H
def BV (ta : TE) (tr : TA) : TA := fun σ H Q => ta σ H fun x H1 => tr σ H1 fun xs H2 => Q (x :: xs) H2
section
variable {X : Cx} {e : Expr} {es : List Expr} {te : TE} {t : TA} {pos : Pos}
theorem Ac : PA X [] FH := fun _ _ _ _ H Q I h => Calls.spliced_nil ⟨[], H, I, .nil, h⟩
theorem Aa (ha : PE X e te) (hr : PA X es t) (hs : starEach (e :: es) X.env = (false, eval e X.env) :: starEach es X.env := by rfl) : PA X (e :: es) (BV te t) := by
 intro pos pins s σ H Q I h
 rw [hs]
 show wpAny _ _ (spliced ((false, eval e X.env) :: backTo pos (starEach es X.env))) _ _ s
 refine Calls.spliced_cons (thn (ha pins s σ H _ I h) fun u s1 ⟨x, H1, I1, r1, q1⟩ => ?_)
 exact thn (hr pos pins s1 σ H1 _ I1 q1) fun us s2 ⟨xs, H2, I2, r2, q2⟩ => ⟨x :: xs, H2, I2, .cons r1 r2, q2⟩
def Ks (t : TA) : TE := fun σ H Q => t σ H fun xs H1 => xs.length ≤ sizeLine ∧ ∀ p, H1 p = none → Q (.ref p) (upd H1 p (.tup xs))
def OG (t : TA) : TE := fun σ H Q => t σ H fun xs H1 => xs.length ≤ sizeLine ∧ ∀ p, H1 p = none → Q (.ref p) (upd H1 p (.lst xs))
theorem Ax {x1} (h : PA X es t) : PE X (.Tuple es x1 pos) (Ks t) := by
 intro pins s σ H Q I hq
 refine wpAny_Tuple_spliced (thn (h pos pins s σ H _ I hq) fun us s1 ⟨xs, H1, I1, r, z, q⟩ => ⟨by rw [← r.length]; exact z, ?_⟩)
 have hf : H1 s1.heap.objs.size = none := I1.hok.fresh (R8 _)
 refine ⟨.ref s1.heap.objs.size, upd H1 s1.heap.objs.size (.tup xs), I1.laid (t' := s1.toks) (fun b u e => Heap.get?_push_of_some _ e) (R8 _) ?_, rfl, q _ hf⟩
 exact ⟨z, us, r, ⟨_, Heap.get?_push_size _ rfl, rfl, _, rfl⟩⟩
theorem AU (h : PA X es t) : PE X (.List es pos) (OG t) := by
 intro pins s σ H Q I hq
 refine wpAny_List_spliced (thn (h pos pins s σ H _ I hq) fun us s1 ⟨xs, H1, I1, r, z, q⟩ => ⟨by rw [← r.length]; exact z, ?_⟩)
 have hf : H1 s1.heap.objs.size = none := I1.hok.fresh (R8 _)
 refine ⟨.ref s1.heap.objs.size, upd H1 s1.heap.objs.size (.lst xs), I1.laid (t' := s1.toks) (fun b u e => Heap.get?_push_of_some _ e) (R8 _) ?_, rfl, q _ hf⟩
 exact ⟨z, us, 0, r, Heap.get?_push_size _ rfl⟩
end
abbrev Sp := List V → Hp → VK → XK → Prop
abbrev CXT := List Env → Hp → Shared → XK → Value → Shared → Prop
structure Kj (P : Program) (w : World) (K : QT) (mg : Str → Option Value) (base : Heap) (A : Around) (outer : List Env) (s : Shared) (H : Hp) : Prop where
 frames : A.frames = some outer
 mod : Mod K mg base
 bs : ∀ b o, base.get? b = some o → s.heap.get? b = some o ∧ H b = none
 bsz : base.objs.size ≤ s.heap.objs.size
 funs : s.heap.FunFrames base outer
 frf : ∀ b ∈ frs outer, H b = none
 hok : HOk P w H s.heap
 bare : AllBare s.gens
def CE (outer : List Env) (P : Program) (w : World) (H : Hp) (s : Shared) (Q : VK) (u : Value) (s' : Shared) : Prop :=
 ∃ v H', s'.os = s.os ∧ AllBare s'.gens ∧ Un (frs outer) [] H H' s.heap s'.heap ∧ HOk P w H' s'.heap ∧ Bh v u ∧ Q v H'
def CR (CX : CXT) (outer : List Env) (P : Program) (w : World) (H : Hp) (s : Shared) (Q : VK) (E : XK) (r : Result) (s' : Shared) : Prop :=
 match r with
 | .ok (.ret u) => CE outer P w H s Q u s'
 | .ok _ => False
 | .error e => CX outer H s E e s'
structure AI (P : Program) (w : World) (K : QT) (mg : Str → Option Value) (base : Heap) (CX : CXT) (k : Nat) (f : Addr) (fd : FuncData) (ps : List Str) (sp : Sp) : Prop where
 len : ∀ vs H Q E, sp vs H Q E → vs.length = ps.length
 run : ∀ (A : Around) (outer : List Env) (s : Shared) (H : Hp) (args : Args) (us : List Value) (vs : List V) (Q : VK) (E : XK), C7 k A → Kj P w K mg base A outer s H → BindsTo s fd args (ps.zip us) → AK vs us → sp vs H Q E →
  codeAny (model P w) A (.call (.ref f) args) (CR CX outer P w H s Q E) s
section
variable {X : Cx} {pins : List (Addr × Obj)} {σ : St} {H : Hp} {s s' : Shared}
theorem Inv.env0 (I : Inv X pins σ H s) : Kj X.prog X.w X.K X.mg X.base X.A X.stack s H :=
 ⟨I.ok.frames, I.ok.mod, I.bs, QU I.ok.bsz I.sz, I.stack, I.stkFree, I.hok, I.bare⟩
theorem Inv.after {Q : VK} {u : Value} (I : Inv X pins σ H s) (h : CE X.stack X.prog X.w H s Q u s') : EP X pins σ Q u s' := by
 obtain ⟨v, H', os, bare, un, hok, r, q⟩ := h
 obtain ⟨hh, g, d, t, os'⟩ := s'
 obtain rfl : os' = s.os := os
 exact ⟨v, H', I.call (h' := hh) (g' := g) (d' := d) (t' := t) (ch := []) un hok bare (fun b z => absurd z (by simp)), r, q⟩
end
def G9 (sp : Sp) (dvs : List V) (E : XK) (t : TA) : TE := fun σ H Q => t σ H fun vs H1 => sp (vs ++ dvs) H1 Q E
def CH (K : QT) (fd : FuncData) (ps : List Str) (ds : List Value) : Prop :=
 ∀ (s : Shared) (us : List Value), K.In s.heap → (us ++ ds).length = ps.length → BindsTo s fd ⟨us, []⟩ (ps.zip (us ++ ds))
theorem CH.all {K : QT} {fd : FuncData} {ps : List Str} (h : ∀ us : List Value, us.length = ps.length → bindArgs fd ⟨us, []⟩ = pure (ps.zip us)) : CH K fd ps [] := fun s us _ hl => by
 rw [Ri] at hl ⊢
 exact .of_eq (h us hl)
def FD (CX : CXT) (X : Cx) (E : XK) : Prop := ∀ (pins : List (Addr × Obj)) (σ : St) (H : Hp) (s : Shared) (e : Value) (s' : Shared), Inv X pins σ H s → CX X.stack H s E e s' → X.xe e s'
section
variable {X : Cx} {CX : CXT} {k : Nat} {f C : Addr} {fd : FuncData} {ps : List Str} {sp : Sp} {dvs : List V} {ds : List Value} {E : XK} {x m : Str} {p pos apos : Pos} {e o : Expr} {es : List Expr} {ta : TE} {t : TA}
theorem MY {pins : List (Addr × Obj)} {σ : St} {H : Hp} {s : Shared} {Q : VK} {us : List Value} {vs : List V} (F : AI X.prog X.w X.K X.mg X.base CX k f fd ps sp) (hr : C7 k X.A) (hb : CH X.K fd ps ds) (hd : AK dvs ds) (hx : FD CX X E)
 (I : Inv X pins σ H s) (r : AK vs us) (h : sp (vs ++ dvs) H Q E) : wpAny (model X.prog X.w) X.A (call (.ref f) us) (EP X pins σ Q) X.xe s := by
 have r2 : AK (vs ++ dvs) (us ++ ds) := r.append hd
 have hl : (us ++ ds).length = ps.length := by rw [← r2.length]; exact F.len _ _ _ _ h
 refine wpAny_call (codeAny_mono (F.run X.A X.stack s H ⟨us, []⟩ (us ++ ds) (vs ++ dvs) Q E hr I.env0 (hb s us I.kIn hl) r2 h) fun r s' hq => ?_)
 cases r with
 | error e => exact hx pins σ H s e s' I hq
 | ok fl =>
   cases fl with
   | ret u => exact I.after hq
   | next => exact False.elim hq
   | brk => exact False.elim hq
   | cont => exact False.elim hq
theorem Jk (F : AI X.prog X.w X.K X.mg X.base CX k f fd ps sp) (hr : C7 k X.A) (hg : Gl X x) (hm : X.mg x = some (.ref f)) (hk : Rg X.K (.ref f) = true) (hb : CH X.K fd ps ds) (hd : AK dvs ds) (hx : FD CX X E)
 (ha : PA X (e :: es) t) (hdb : (x == ("__debug__" : Str)) = false := by decide) (he : starEach (e :: es) X.env = (false, eval e X.env) :: starEach es X.env := by rfl) (hpl : (backTo pos (starEach es X.env)).any (·.1) = false := by rfl) :
 PE X (.Call (.Name x p) (e :: es) [] pos) (G9 sp dvs E t) := by
 intro pins s σ H Q I h
 refine wpAny_Call_Name_kw (DA I hg hm ?_ hdb)
 refine Rj (h₀ := X.base) I.ok.mod.kin hk (thn (ha pos pins s σ H _ I h) fun us s1 ⟨vs, H1, I1, r, q⟩ => ⟨I1.kIn, ?_⟩) he hpl
 exact MY F hr hb hd hx I1 r q
structure Mk (K : QT) (C f : Addr) : Prop where
 makes : PySem.W.makesIn K C = true
 init : Rc K (.ref C) "__init__" = some (some (.ref f))
 fn : PySem.W.isFn K (.ref f) = true
 kp : Rg K (.ref C) = true
end
section
variable {X : Cx} {CX : CXT} {k : Nat} {f C : Addr} {fd : FuncData} {ps ks : List Str} {sp : Sp} {E : XK} {x m : Str} {p pos apos kpos : Pos} {e o : Expr} {es : List Expr} {kws : List Keyword} {te ta : TE} {t tk : TA} {nm : Option Str}
structure OV (K : QT) (fd : FuncData) (ps ks : List Str) (g : List Value → List Value → List Value) (gV : List V → List V → List V) : Prop where
 to : ∀ (s : Shared) (us ws : List Value), K.In s.heap → (g us ws).length = ps.length → BindsTo s fd ⟨us, ks.zip ws⟩ (ps.zip (g us ws))
 rel : ∀ {vs : List V} {us : List Value} {zs : List V} {ws : List Value}, AK vs us → AK zs ws → AK (gV vs zs) (g us ws)
variable {g : List Value → List Value → List Value} {gV : List V → List V → List V}
end
structure As (N P : List Str) (sc : Scope) : Prop where
 kind : sc.kind = .function
 co : sc.isCoroutine = false
 gen : sc.isGenerator = false
 nd : N.Nodup
 pre : N.take P.length = P
 par : ∀ x ∈ P, sc.names.lookup x = some .local ∨ sc.names.lookup x = some .cell
 nofree : ∀ y ∈ sc.names, y.2 ≠ .free
theorem Gr {kindOf : Str → Option NameKind} {x : Str} : ∀ {binds : List (Str × Value)} {m : Str → Option Value}, (∀ v, (x, v) ∉ binds) → bindL kindOf binds m x = m x
 | [], _, _ => rfl
 | (n, v) :: r, m, h => by
   unfold bindL
   rw [Gr fun w hw => h w (QY _ hw)]
   split
   ·have : x ≠ n := by rintro rfl; exact h v QX
    simp [this]
   ·rfl
theorem Gu {kindOf : Str → Option NameKind} {x : Str} : ∀ {binds : List (Str × Value)} {m : Str → Option Value}, (∀ v, (x, v) ∉ binds) → bindC kindOf binds m x = m x
 | [], _, _ => rfl
 | (n, v) :: r, m, h => by
   unfold bindC
   rw [Gu fun w hw => h w (QY _ hw)]
   split
   ·rfl
   ·have : x ≠ n := by rintro rfl; exact h v QX
    simp [this]
theorem Gs {kindOf : Str → Option NameKind} {x : Str} {v : Value} : ∀ {P : List Str} {vs : List Value} {i : Nat} {m : Str → Option Value}, P.Nodup → P[i]? = some x → vs[i]? = some v → kindOf x = some .local →
 bindL kindOf (P.zip vs) m x = some v
 | [], _, _, _, _, h, _, _ => by simp at h
 | _ :: _, [], _, _, _, _, h, _ => by simp at h
 | p :: P, w :: vs, 0, m, nd, h1, h2, hk => by
   simp at h1 h2; subst h1; subst h2
   show bindL kindOf ((p, w) :: P.zip vs) m p = _
   unfold bindL
   rw [Gr fun v hv => (Rk.mp nd).1 (Rl hv).1, if_pos hk]
   simp
 | p :: P, w :: vs, i + 1, m, nd, h1, h2, hk => by
   show bindL kindOf ((p, w) :: P.zip vs) m x = _
   unfold bindL
   exact Gs (i := i) (Rk.mp nd).2 (by simpa using h1) (by simpa using h2) hk
theorem Gv {kindOf : Str → Option NameKind} {x : Str} {v : Value} : ∀ {P : List Str} {vs : List Value} {i : Nat} {m : Str → Option Value}, P.Nodup → P[i]? = some x → vs[i]? = some v → kindOf x ≠ some .local →
 bindC kindOf (P.zip vs) m x = some v
 | [], _, _, _, _, h, _, _ => by simp at h
 | _ :: _, [], _, _, _, _, h, _ => by simp at h
 | p :: P, w :: vs, 0, m, nd, h1, h2, hk => by
   simp at h1 h2; subst h1; subst h2
   show bindC kindOf ((p, w) :: P.zip vs) m p = _
   unfold bindC
   rw [Gu fun v hv => (Rk.mp nd).1 (Rl hv).1, if_neg hk]
   simp
 | p :: P, w :: vs, i + 1, m, nd, h1, h2, hk => by
   show bindC kindOf ((p, w) :: P.zip vs) m x = _
   unfold bindC
   exact Gv (i := i) (Rk.mp nd).2 (by simpa using h1) (by simpa using h2) hk
def D0 (N : List Str) (vs : List V) : St := vs.map some ++ Rm (N.length - vs.length) none
def Dd (CX : CXT) (P : Program) (w : World) (K : QT) (mg : Str → Option Value) (base : Heap) (N : List Str) (qual : Str) (scope : Scope) (f : Addr) (cd : Value) (A : Around) (outer : List Env) (s : Shared) (H : Hp) (E : XK) : Cx where
 prog := P
 w := w
 K := K
 mg := mg
 base := base
 A := A.deeper (envOfC qual scope s.heap.objs.size f cd)
 N := N
 s₀ := s
 H₀ := H
 env := envOfC qual scope s.heap.objs.size f cd
 outer := outer
 stack := envOfC qual scope s.heap.objs.size f cd :: outer
 ex := []
 calm := true
 fn := fun _ => true
 pn := []
 xe := fun e s' => wpAny (model P w) (A.deeper (envOfC qual scope s.heap.objs.size f cd)) (leaving (envOfC qual scope s.heap.objs.size f cd) e) (fun _ s'' => CX outer H s E e s'') (fun e' s'' => CX outer H s E e' s'') s'
theorem Il {sc : Scope} {n : Nat} {x : Str} (h : sc.names.lookup x = some .cell) : ∃ c, (cellsFrom n sc.names []).lookup x = some c := by
 have q := Rn sc.names n [] (.inl h)
 exact Option.isSome_iff_exists.mp q
theorem Gi {CX : CXT} {P : Program} {w : World} {K : QT} {mg : Str → Option Value} {base : Heap} {N ps : List Str} {qual : Str} {scope : Scope} {f : Addr} {cd : Value} {A : Around} {outer : List Env} {s s1 : Shared} {H : Hp} {E : XK} {us : List Value} {vs : List V}
 (S : As N ps scope) (hd : A.handled = none) (e0 : Kj P w K mg base A outer s H) (hl : vs.length = ps.length) (r : AK vs us)
 (x : InCallC s s.heap.objs.size (bindL (envOfC qual scope s.heap.objs.size f cd).kindOf (ps.zip us) fun _ => none) (cellsFrom (s.heap.objs.size + 1) scope.names []) (bindC (envOfC qual scope s.heap.objs.size f cd).kindOf (ps.zip us) fun _ => none) s1) :
 Inv (Dd CX P w K mg base N qual scope f cd A outer s H E) [] (D0 N vs) H s1 := by
 have hpl : ps.length ≤ N.length := by have := congrArg Ro S.pre; rw [Rp] at this; lia
 obtain ⟨h1, tk, rfl, hk⟩ := x.done
 have noA : ∀ b : Addr, b ∉ (Dd CX P w K mg base N qual scope f cd A outer s H E).ex := fun b z => absurd (show b ∈ ([] : List Addr) from z) (by simp)
 refine ⟨⟨e0.mod, S.kind, rfl, rfl, R8 _, fun y z c h1 h2 => ?_, fun y hy => ?_, fun y c _ h => ?_, fun _ => hd, Around.frames_deeper e0.frames, .inr ⟨rfl, rfl⟩, fun b z => absurd z (noA b), e0.bs, e0.bsz, fun b _ _ => noA b, fun b z => absurd z (noA b), e0.funs, e0.frf⟩,
  rfl, e0.bare, Un.kept hk, ⟨_, x.toInCall.ns, fun i y v h1 h2 h3 => ?_⟩, fun y c h => ⟨_, x.cell y c h⟩, e0.hok.fresh (R8 _), fun y c h => ?_, fun p hp => absurd (show p ∈ ([] : List (Addr × Obj)) from hp) (by simp), e0.hok.kept hk, ?_⟩
 ·exact name_of_addr x.apart (PySem.mem_of_lookup h1) (PySem.mem_of_lookup h2)
 ·have hy : scope.names.lookup y = some .cell ∨ scope.names.lookup y = some .free := hy
  rcases hy with hy | hy
  ·exact Il hy
  ·exact absurd rfl (S.nofree _ (PySem.mem_of_lookup hy))
 ·exact QV (x.above y c (PySem.mem_of_lookup h))
 ·have hi : i < vs.length := by
   unfold D0 at h2
   by_cases hi : i < vs.length
   ·exact hi
   ·rw [Rq (by simpa using hi)] at h2
    rw [Rr] at h2
    split at h2 <;> cases h2
  have ha : vs[i]? = some v := by
   unfold D0 at h2
   rw [Rt (by simpa using hi), Ru] at h2
   cases e : vs[i]? with
   | none => rw [e] at h2; cases h2
   | some a => rw [e] at h2; cases h2; rfl
  obtain ⟨u, hu, rv⟩ := r.get ha
  have hp : ps[i]? = some y := by
   rw [← S.pre, List.getElem?_take_of_lt (by lia)]; exact h1
  have ndP : ps.Nodup := by rw [← S.pre]; exact S.nd.sublist (List.take_sublist _ _)
  refine ⟨u, rv, ?_⟩
  rcases S.par y (Rv hp) with k | k
  ·exact .inl ⟨k, Gs ndP hp hu k⟩
  ·obtain ⟨c, e⟩ := Il (n := s.heap.objs.size + 1) k
   refine .inr ⟨.inl k, c, e, ?_⟩
   have q := x.cell y c e
   rw [Gv ndP hp hu (by show scope.names.lookup y ≠ _; rw [k]; decide)] at q
   exact q
 ·exact e0.hok.fresh (QV (x.above y c (PySem.mem_of_lookup h)))
 ·unfold D0
  show _ = N.length
  rw [Rw, Rx, Ry]
  lia
theorem MI {CX : CXT} {P : Program} {w : World} {K : QT} {mg : Str → Option Value} {base : Heap} {k : Nat} {f : Addr} {name qual : Str} {params : Arguments} {body : List Stmt} {scope : Scope} {dV kV doc pm cdv ct oc : Value} {an od : Option Addr}
 {osl : Array (Option Value)} {N ps : List Str} {sp : Sp} (lk : K.lookup f = some ⟨oc, od, .func (Rz name qual params body scope dV kV doc pm an cdv ct), osl⟩) (hcd : RA K cdv qual = true) (S : As N ps scope)
 (len : ∀ vs H Q E, sp vs H Q E → vs.length = ps.length)
 (hbody : ∀ (A : Around) (outer : List Env) (s : Shared) (H : Hp) (vs : List V) (Q : VK) (E : XK), C7 k (A.deeper (envOfC qual scope s.heap.objs.size f cdv)) → sp vs H Q E →
  ∃ t, PSs (Dd CX P w K mg base N qual scope f cdv A outer s H E) body t ∧ t { nx := fun _ H' => Q .non H', rt := Q } (D0 N vs) H) :
 AI P w K mg base CX (k + 1) f (Rz name qual params body scope dV kV doc pm an cdv ct) ps sp := by
 refine ⟨len, fun A outer s H args us vs Q E hr e0 hb r hsp => ?_⟩
 have hl := len _ _ _ _ hsp
 have KX : K.In s.heap := e0.mod.kin.keeps fun b o e => (e0.bs b o e).1
 have lim : s.heap.NoLimit := e0.mod.nolimit.keeps fun b o e => (e0.bs b o e).1
 have hkind : ∀ y ∈ ps.zip us, scope.names.lookup y.1 = some .local ∨ (scope.names.lookup y.1 = some .cell ∧ ((cellsFrom (s.heap.objs.size + 1) scope.names []).lookup y.1).isSome = true) := fun ⟨n, v⟩ hy => by
  rcases S.par n (Rl hy).1 with q | q
  ·exact .inl q
  ·exact .inr ⟨q, Rn _ _ _ (.inl q)⟩
 refine codeAny_call_function hr.depth (KX _ _ lk) rfl S.co S.gen rfl (PySem.W.codeRec_of KX hcd) (hb _ _ _ _ ?_)
 refine wpAny_newFunctionEnv_cells S.kind hkind fun env he s1 x => ?_
 subst he
 refine ⟨lim.keeps x.toInCall.keep, codeAny_func ?_⟩
 obtain ⟨t, ht, hq⟩ := hbody A outer s H vs Q E (hr.deeper _) hsp
 have I : Inv (Dd CX P w K mg base N qual scope f cdv A outer s H E) [] (D0 N vs) H s1 := Gi S hr.hd e0 hl r x
 refine wpAny_mono (ht [] s1 (D0 N vs) H _ I hq) (fun fl s' hs => ?_) fun e s' hs => hs
 have fin : ∀ {σ' : St} {H' : Hp} {v : V} {u : Value}, Inv (Dd CX P w K mg base N qual scope f cdv A outer s H E) [] σ' H' s' → Bh v u → Q v H' → CE outer P w H s Q u s' :=
  fun {σ' H' v u} J rv q => ⟨v, H', J.os, J.bare, J.base, J.hok, rv, q⟩
 cases fl with
 | ret u =>
   obtain ⟨v, σ', H', J, rv, q⟩ := hs
   exact fin J rv q
 | next =>
   obtain ⟨σ', H', J, q⟩ := hs
   exact fin (v := V.non) (u := Value.none) J rfl q
 | brk =>
   obtain ⟨_, _, _, q⟩ := hs
   exact False.elim q
 | cont =>
   obtain ⟨_, _, _, q⟩ := hs
   exact False.elim q
end L2
namespace L2
open PySem PySem.Spec PyProof.Rows
section
variable {X : Cx} {x : Str} {p pos : Pos} {e : Expr} {es : List Expr} {t : TA} {id T : String} {r : List V → Hp → VK → Prop}
def tCB (r : List V → Hp → VK → Prop) (t : TA) : TE := fun σ H Q => t σ H fun vs H1 => r vs H1 Q
theorem Al (hc : CG X (.builtin id) r) (hg : Gl X x) (hm : X.mg x = none) (hv : bootBuiltins x = some (.builtin id)) (ha : PA X (e :: es) t) (hn : x ≠ "__name__" := by decide) (hdb : (x == ("__debug__" : Str)) = false := by decide)
 (he : starEach (e :: es) X.env = (false, eval e X.env) :: starEach es X.env := by rfl) (hpl : (backTo pos (starEach es X.env)).any (·.1) = false := by rfl) : PE X (.Call (.Name x p) (e :: es) [] pos) (tCB r t) := by
 intro pins s σ H Q I h
 refine wpAny_Call_Name_kw (DM I hg hm hv ?_ hn hdb)
 exact PyProof.Rows.callWith_builtin1 (thn (ha pos pins s σ H _ I h) fun us s1 ⟨vs, H1, I1, r1, q1⟩ => hc pins s1 σ H1 vs us Q I1 r1 q1) he hpl
theorem Ct (hc : CG X (.type T) r) (hg : Gl X x) (hm : X.mg x = none) (hv : bootBuiltins x = some (.type T)) (ha : PA X (e :: es) t) (hn : x ≠ "__name__" := by decide) (hdb : (x == ("__debug__" : Str)) = false := by decide)
 (he : starEach (e :: es) X.env = (false, eval e X.env) :: starEach es X.env := by rfl) (hpl : (backTo pos (starEach es X.env)).any (·.1) = false := by rfl) : PE X (.Call (.Name x p) (e :: es) [] pos) (tCB r t) := by
 intro pins s σ H Q I h
 refine wpAny_Call_Name_kw (DM I hg hm hv ?_ hn hdb)
 exact PyProof.Rows.callWith_type1 (thn (ha pos pins s σ H _ I h) fun us s1 ⟨vs, H1, I1, r1, q1⟩ => hc pins s1 σ H1 vs us Q I1 r1 q1) he hpl
end
end L2
namespace HT
open PySem PyProof.Rows
section
open PySem.SeqAt
open PySem.AutoSeq1 (wpAny_loadPart')
open PySem.MeetsSeq PySem.MeetsSeq2 PySem.MeetsSeq3
end
section
variable {prog : Program} {w : World} {A : Around} {E : Value → Shared → Prop} {s : Shared}
theorem cat_tup {t b : Addr} {vs ws : List Value} {Q : Value → Shared → Prop} (ht : IsTup s.heap t vs.toArray) (hb : IsTup s.heap b ws.toArray) (hv : vs ≠ [])
 (h1 : ws = [] → Q (.ref t) s) (h2 : ws ≠ [] → Q (.ref s.heap.objs.size) { s with heap := s.heap.push { cls := .type "tuple", data := .seq (vs ++ ws).toArray } })
 (hsz : vs.length + ws.length ≤ sizeLine) : wpAny (model prog w) A (binaryOp .Add (.ref t) (.ref b)) Q E s := by
 obtain ⟨⟨cls, dd, data, sl⟩, ho, hc, n, hd⟩ := id ht
 obtain ⟨⟨cls2, dd2, data2, sl2⟩, ho2, hc2, n2, hd2⟩ := id hb
 simp only at hc hd hc2 hd2
 subst hc hd hc2 hd2
 have e : vs.toArray ++ ws.toArray = (vs ++ ws).toArray := by simp
 by_cases hw : ws = []
 ·exact concat_meets ⟨_, ho, rfl⟩ ⟨_, ho2, rfl⟩ noFill_tuple_add seq_tuple_add PySem.F.slot_tuple_add PySem.F.entry_tuple_add (PySem.F.args_tuple_add_2 _ _)
   (tuple_addW1 t b vs.toArray ws.toArray n n2 dd dd2 sl sl2 (by simpa using hv) (by simp [hw])) ⟨ho, ho2, h1 hw⟩
 ·refine concat_meets ⟨_, ho, rfl⟩ ⟨_, ho2, rfl⟩ noFill_tuple_add seq_tuple_add PySem.F.slot_tuple_add PySem.F.entry_tuple_add (PySem.F.args_tuple_add_2 _ _)
   (tuple_addW2 t b vs.toArray ws.toArray n n2 dd dd2 sl sl2 (by simpa using hv) (by simpa using hw) (by rw [RC, RC]; exact hsz)) ⟨ho, ho2, ?_⟩
  rw [e]
  exact h2 hw
def sIx (n d : Nat) : Option Int → Nat
 | none => d
 | some v => if v < 0 then (v + (n : Int)).toNat else min v.toNat n
theorem sIx_nat (n d k : Nat) : sIx n d (some (k : Int)) = min k n := by
 show (if (k : Int) < 0 then ((k : Int) + (n : Int)).toNat else min (k : Int).toNat n) = min k n
 rw [if_neg (by lia), RD]
theorem clip_eq (v : Int) (n d : Nat) : (if v < 0 then max (v + (n : Int)) 0 else min v (n : Int)) = ((sIx n d (some v) : Nat) : Int) := by
 show (if v < 0 then max (v + (n : Int)) 0 else min v (n : Int)) = (((if v < 0 then (v + (n : Int)).toNat else min v.toNat n) : Nat) : Int)
 by_cases hv : v < 0
 ·rw [if_pos hv, if_pos hv, Int.toNat_eq_max]
 ·rw [if_neg hv, if_neg hv]
  obtain ⟨k, rfl⟩ := Int.eq_ofNat_of_zero_le (Int.not_lt.mp hv)
  rw [RD]
  rcases Nat.le_total k n with h | h
  ·rw [RE h, Int.min_eq_left (Int.ofNat_le.mpr h)]
  ·rw [Nat.min_eq_right h, Int.min_eq_right (Int.ofNat_le.mpr h)]
end
end HT
namespace L2
open PySem PySem.Spec PyProof.Rows
abbrev TO := St → Hp → (Option Int → Hp → Prop) → Prop
def PO (X : Cx) (e : Option Expr) (t : TO) : Prop :=
 ∀ (pins : List (Addr × Obj)) (s : Shared) (σ : St) (H : Hp) (Q : Option Int → Hp → Prop), Inv X pins σ H s → t σ H Q →
   wpAny (model X.prog X.w) X.A (evalPart e X.env) (fun u s' => ∃ o H', Inv X pins σ H' s' ∧ IsPart u o ∧ Q o H') X.xe s
def LZ : TO := fun _ H Q => Q none H
def NZ (t : TE) : TO := fun σ H Q => t σ H fun x H1 => ∃ i, x = .int i ∧ Q (some i) H1
section
variable {X : Cx} {e : Expr} {te : TE} {lo hi : Option Expr} {tl th : TO} {pos p2 : Pos}
theorem GU : PO X none LZ := by
 intro pins s σ H Q I h
 rw [evalPart_none]
 exact wpAny_pure ⟨none, H, I, .none, h⟩
theorem GS (h : PE X e te) : PO X (some e) (NZ te) := by
 intro pins s σ H Q I hw
 rw [evalPart_some]
 refine thn (h pins s σ H _ I hw) fun u s1 ⟨x, H1, I1, r1, q1⟩ => ?_
 obtain ⟨i, rfl, q⟩ := q1
 obtain ⟨t, rfl⟩ := r1
 exact ⟨some i, H1, I1, .int i t, q⟩
def SlR (X : Cx) (r : V → Option Int → Option Int → Hp → VK → Prop) : Prop :=
 ∀ (pins : List (Addr × Obj)) (s : Shared) (σ : St) (H : Hp) (x : V) (v vl vu : Value) (lo hi : Option Int) (sl : Addr) (Q : VK), Inv X pins σ H s → Bh x v → s.heap.IsSliceOf sl vl vu .none → IsPart vl lo → IsPart vu hi → r x lo hi H Q →
   ∃ T id, typeLookup (.type T) "__getitem__" = pure (some (.builtin id)) ∧ s.TypeIs v T ∧ wpAny (model X.prog X.w) X.A (getItem v (.ref sl)) (EP X pins σ Q) X.xe s
def tSl (r : V → Option Int → Option Int → Hp → VK → Prop) (te : TE) (tl th : TO) : TE := fun σ H Q => te σ H fun x H1 => tl σ H1 fun l H2 => th σ H2 fun u H3 => r x l u H3 Q
theorem F0 {r : V → Option Int → Option Int → Hp → VK → Prop} (hr : SlR X r) (he : PE X e te) (hl : PO X lo tl) (hu : PO X hi th) : PE X (.Subscript e (.Slice lo hi none p2) pos) (tSl r te tl th) := by
 intro pins s σ H Q I h
 refine Subscript_ (thn (he pins s σ H _ I h) fun v s1 ⟨x, H1, I1, r1, q1⟩ => ?_)
 refine wpAny_Slice (thn (hl pins s1 σ H1 _ I1 q1) fun vl s2 ⟨l, H2, I2, pl, q2⟩ => thn (hu pins s2 σ H2 _ I2 q2) fun vu s3 ⟨u, H3, I3, pu, q3⟩ => ?_)
 rw [evalPart_none]
 refine wpAny_pure ?_
 have I4 : Inv X pins σ H3 { s3 with heap := s3.heap.push { cls := .type "slice", data := .fields #[vl, vu, .none] } } := I3.kept (t' := s3.toks) fun b ob q => Heap.get?_push_of_some _ q
 obtain ⟨T, id, hT, ht, hg⟩ := hr pins { s3 with heap := s3.heap.push { cls := .type "slice", data := .fields #[vl, vu, .none] } } σ H3 x v vl vu l u s3.heap.objs.size Q I4 r1 (Heap.IsSliceOf.new ..) pl pu q3
 show wpAny (model X.prog X.w) X.A (subscriptTail e (.Slice lo hi none p2) v (.ref s3.heap.objs.size)) (EP X pins σ Q) X.xe { s3 with heap := s3.heap.push { cls := .type "slice", data := .fields #[vl, vu, .none] } }
 exact tail_any (ops := [.ref s3.heap.objs.size, v]) ht hT hg (by with_unfolding_all rfl)
def DE (xs : List V) (lo hi : Option Int) : List V := (xs.drop (HT.sIx xs.length 0 lo)).take (HT.sIx xs.length xs.length hi - HT.sIx xs.length 0 lo)
theorem Ij (xs : List V) (lo hi : Option Int) : (DE xs lo hi).length ≤ xs.length := by
 unfold DE
 rw [Rp, List.length_drop]
 exact QU (Nat.min_le_right _ _) (Nat.sub_le _ _)
inductive KH (K : QT) (x : V) (y : V) (H : Hp) (Q : VK) : Prop
 | mk (a : _) (b : _) (xs : _) (ys : _) (h1 : x = .ref a) (h2 : y = .ref b) (h3 : SqT K H a xs) (h4 : SqT K H b ys) (h5 : xs ≠ []) (h6 : xs.length + ys.length ≤ sizeLine) (h7 : (ys = [] → Q (.ref a) H)) (h8 : (ys ≠ [] → ∀ p, H p = none → Q (.ref p) (upd H p (.tup (xs ++ ys))))) : KH K x y H Q
theorem AK.nil_iff {xs : List V} {us : List Value} (r : AK xs us) : us = [] ↔ xs = [] := by
 cases r with
 | nil => simp
 | cons _ _ => simp
theorem Mb : OpR X (binaryOp .Add) (KH X.K) := by
 intro pins s σ H x y v u Q I rx ry h
 obtain ⟨a, b, xs, ys, rfl, rfl, ha, hb, hx, hz, q1, q2⟩ := h
 cases rx
 cases ry
 obtain ⟨its, r1, p1, _⟩ := I.tuple ha
 obtain ⟨its2, r2, p2, _⟩ := I.tuple hb
 refine HT.cat_tup p1 p2 (fun z => hx (r1.nil_iff.mp z)) (fun z => ⟨.ref a, H, I, rfl, q1 (r2.nil_iff.mp z)⟩) (fun z => ?_) (by rw [← r1.length, ← r2.length]; exact hz)
 refine ⟨.ref s.heap.objs.size, _, I.laid (t' := s.toks) (o := .tup (xs ++ ys)) (fun b ob q => Heap.get?_push_of_some _ q) (R8 _) ?_, rfl, q2 (fun w => z (r2.nil_iff.mpr w)) _ (I.hok.fresh (R8 _))⟩
 exact ⟨by rw [Rw]; exact hz, _, r1.append r2, IsTup.new _ _⟩
end
end L2
namespace L2
open PySem PySem.Spec PyProof.Rows
def ixN (n : Nat) (i : Int) : Option Nat := if 0 ≤ i then (if i < n then some i.toNat else none) else if -(n : Int) ≤ i then some (i + n).toNat else none
def atI {α : Type} (xs : List α) (i : Int) : Option α := (ixN xs.length i).bind fun j => xs[j]?
theorem Ju {n : Nat} {i : Int} {j : Nat} (h : ixN n i = some j) : seqIndex? i n = some j ∧ j < n ∧ -(n : Int) ≤ i ∧ i < n := by
 unfold ixN at h
 by_cases h0 : 0 ≤ i
 ·rw [if_pos h0] at h
  by_cases h1 : i < n
  ·rw [if_pos h1] at h
   have e : i.toNat = j := QK.inj h
   exact ⟨by rw [seqIndex_of h0 h1, e], by lia, by lia, h1⟩
  ·rw [if_neg h1] at h; cases h
 ·rw [if_neg h0] at h
  by_cases h1 : -(n : Int) ≤ i
  ·rw [if_pos h1] at h
   have e : (i + n).toNat = j := QK.inj h
   exact ⟨by rw [seqIndex_neg (by lia) h1, e], by lia, h1, by lia⟩
  ·rw [if_neg h1] at h; cases h
theorem JL {α : Type} {xs : List α} {i : Int} {v : α} (h : atI xs i = some v) : ∃ j, seqIndex? i xs.length = some j ∧ xs[j]? = some v ∧ j < xs.length ∧ -(xs.length : Int) ≤ i ∧ i < xs.length := by
 unfold atI at h
 cases e : ixN xs.length i with
 | none => rw [e] at h; cases h
 | some j =>
   rw [e] at h
   obtain ⟨h1, h2, h3, h4⟩ := Ju e
   exact ⟨j, h1, h, h2, h3, h4⟩
theorem AA {α : Type} {xs : List α} {j : Nat} {v : α} (h : xs[j]? = some v) : atI xs (j : Int) = some v := by
 have hj : j < xs.length := (R3.mp h).1
 have e : ixN xs.length (j : Int) = some j := by
  unfold ixN
  rw [if_pos (by lia), if_pos (by lia)]; simp
 unfold atI; rw [e]; exact h
def MA (b : Expr) : Prop := ∀ o i, subscripted b false o i = operate [o, i] (getItem o i)
def IxR (X : Cx) (r : R2) : Prop :=
 ∀ (value slice : Expr) (pins : List (Addr × Obj)) (s : Shared) (σ : St) (H : Hp) (x y : V) (v u : Value) (Q : VK), Inv X pins σ H s → Bh x v → Bh y u → r x y H Q →
   subscripted slice false v u = operate [v, u] (getItem v u) → wpAny (model X.prog X.w) X.A (subscriptTail value slice v u) (EP X pins σ Q) X.xe s
def MtR (X : Cx) (id : String) (r : V → List V → Hp → VK → Prop) : Prop :=
 ∀ (pins : List (Addr × Obj)) (s : Shared) (σ : St) (H : Hp) (x : V) (xs : List V) (v : Value) (us : List Value) (Q : VK), Inv X pins σ H s → Bh x v → AK xs us → r x xs H Q →
   wpAny (model X.prog X.w) X.A (call (.builtin id) (v :: us)) (EP X pins σ Q) X.xe s
section
variable {X : Cx} {a b : Expr} {ta tb : TE} {pos : Pos}
theorem Ak {r : R2} (hr : IxR X r) (ha : PE X a ta) (hb : PE X b tb) (hs : MA b) : PE X (.Subscript a b pos) (tOp r ta tb) := by
 intro pins s σ H Q I h
 exact Subscript_ (NN ha hb I h fun v u s2 x y H2 I2 rx ry q => hr a b pins s2 σ H2 x y v u Q I2 rx ry q (hs _ _))
inductive N3 (K : QT) (x : V) (y : V) (H : Hp) (Q : VK) : Prop
 | mk (p : _) (xs : _) (i : _) (v : _) (h1 : x = .ref p) (h2 : y = .int i) (h3 : SqL K H p xs) (h4 : atI xs i = some v) (h5 : Q v H) : N3 K x y H Q
inductive N2 (K : QT) (x : V) (y : V) (H : Hp) (Q : VK) : Prop
 | mk (p : _) (xs : _) (i : _) (v : _) (h1 : x = .ref p) (h2 : y = .int i) (h3 : SqT K H p xs) (h4 : atI xs i = some v) (h5 : Q v H) : N2 K x y H Q
theorem Mm : IxR X (N3 X.K) := by
 intro value slice pins s σ H x y v u Q I rx ry h hs
 obtain ⟨p, xs, i, z, rfl, rfl, hq, he, q⟩ := h
 cases rx
 obtain ⟨t, rfl⟩ := ry
 obtain ⟨its, r, pl, hz⟩ := I.list hq
 obtain ⟨j, h1, h2, h3, h4, h5⟩ := JL he
 obtain ⟨w, ew, rw'⟩ := r.get h2
 have hl := r.length
 have hn := Hi
 have fin : EP X pins σ Q w s := ⟨z, H, I, rw', q⟩
 by_cases h0 : 0 ≤ i
 ·have hj : i.toNat = j := by
   rw [seqIndex_of h0 h5] at h1
   exact QK.inj h1
  exact item_listR pl.isList h0 (by lia) (by rw [hj]; simpa using ew) fin hs
 ·have hj : (i + (its.toArray.size : Int)).toNat = j := by
   rw [seqIndex_neg (by lia) h4] at h1
   rw [RC, ← hl]
   exact QK.inj h1
  exact subscriptTail_builtinR (x := w) pl.isList.typeIs slot_list_getitem.lookup
   (wpAny_getItem_list_neg (Q := fun r s' => r = w ∧ EP X pins σ Q r s') pl.isList (by lia) (by rw [RC] <;> lia) (by lia) (by rw [hj]; simpa using ew) ⟨rfl, fin⟩) hs
theorem Nx : IxR X (N2 X.K) := by
 intro value slice pins s σ H x y v u Q I rx ry h hs
 obtain ⟨p, xs, i, z, rfl, rfl, hq, he, q⟩ := h
 cases rx
 obtain ⟨t, rfl⟩ := ry
 obtain ⟨its, r, pl, hz⟩ := I.tuple hq
 obtain ⟨j, h1, h2, h3, h4, h5⟩ := JL he
 obtain ⟨w, ew, rw'⟩ := r.get h2
 have hl := r.length
 have hn := Hi
 have fin : EP X pins σ Q w s := ⟨z, H, I, rw', q⟩
 exact subscriptTail_builtinR (x := w) pl.typeIs slot_tuple_getitem.lookup
  (getItem_tuple (j := j) (Q := fun r s' => r = w ∧ EP X pins σ Q r s') pl (by lia) (by lia) (by rw [RC, ← hl]; exact h1) (by simpa using ew) ⟨rfl, fin⟩) hs
theorem IM (its : List Value) (n j : Nat) (u : Value) : Obj.mapSeq (·.setIfInBounds j u) { cls := .type "list", data := .seq its.toArray n } = { cls := .type "list", data := .seq (its.set j u).toArray n } := by
 simp [Obj.mapSeq]
theorem Inv.lst {pins : List (Addr × Obj)} {σ : St} {H : Hp} {s : Shared} {p : Addr} {xs : List V} (I : Inv X pins σ H s) (h : H p = some (.lst xs)) :
 ∃ (its : List Value) (n : Nat), AK xs its ∧ s.heap.get? p = some { cls := .type "list", data := .seq its.toArray n } ∧ xs.length ≤ sizeLine := by
 obtain ⟨z, its, n, r, e⟩ := I.hok p _ h
 exact ⟨its, n, r, e, z⟩
theorem Inv.lstUpd {pins : List (Addr × Obj)} {σ : St} {H : Hp} {s : Shared} {p : Addr} {xs ys : List V} {its its' : List Value} {n n' : Nat} {f : Obj → Obj} (I : Inv X pins σ H s) (h : H p = some (.lst xs))
 (ho : s.heap.get? p = some { cls := .type "list", data := .seq its.toArray n }) (hf : f { cls := .type "list", data := .seq its.toArray n } = { cls := .type "list", data := .seq its'.toArray n' }) (r : AK ys its') (hz : ys.length ≤ sizeLine) (t : Nat) :
 Inv X pins σ (upd H p (.lst ys)) { s with heap := s.heap.update p f, toks := t } := by
 have e : (s.heap.update p f).get? p = some { cls := .type "list", data := .seq its'.toArray n' } := by
  rw [Heap.get?_update_self f ho (by rw [hf] <;> rfl), hf]
 refine I.write (x := p) (e := p) (by rw [h]; trivial) (.inl rfl) (fun b u hb q => (Heap.get?_update_other _ _ (Ne.symm hb)).trans q) ⟨_, e⟩ ?_
 exact ⟨hz, its', n', r, e⟩
inductive MC (o : V) (i : V) (v : V) (H : Hp) (Q : (Hp → Prop)) : Prop
 | mk (p : _) (xs : _) (k : _) (j : _) (h1 : o = .ref p) (h2 : i = .int k) (h3 : H p = some (.lst xs)) (h4 : ixN xs.length k = some j) (h5 : Q (upd H p (.lst (xs.set j v)))) : MC o i v H Q
theorem Df : Oz X MC := by
 intro pins s σ H o i v ov iv u Q I ro ri rv h
 obtain ⟨p, xs, k, j, rfl, rfl, hp, hj, q⟩ := h
 cases ro
 obtain ⟨t, rfl⟩ := ri
 obtain ⟨its, n, r, ho, hz⟩ := I.lst hp
 obtain ⟨h1, h2, h3, h4⟩ := Ju hj
 have hl := r.length
 have hn := Hi
 have I' : Inv X pins σ (upd H p (.lst (xs.set j v))) { s with heap := s.heap.update p (Obj.mapSeq (·.setIfInBounds j u)) } :=
  I.lstUpd hp ho (IM its n j u) (r.set rv j) (by rw [RF]; exact hz) s.toks
 by_cases h0 : 0 ≤ k
 ·have hk : k.toNat = j := by
   rw [seqIndex_of h0 h4] at h1
   exact QK.inj h1
  exact PySem.W.ki_setAt ho h0 (by lia) (by rw [RC, ← hl]; exact h4) (by rw [hk]; exact ⟨_, I', q⟩)
 ·have hk : (k + (its.toArray.size : Int)).toNat = j := by
   rw [seqIndex_neg (by lia) h3] at h1
   rw [RC, ← hl]
   exact QK.inj h1
  exact PySem.W.ki_setBack ho (by lia) (by rw [RC, ← hl]; exact h3) (by lia) (by rw [hk]; exact ⟨_, I', q⟩)
theorem GK (lo hi : Option Int) (n : Nat) : (sliceBounds lo hi none n).1 = ((HT.sIx n 0 lo : Nat) : Int) ∧ (sliceBounds lo hi none n).2.1 = ((HT.sIx n n hi : Nat) : Int) ∧ (sliceBounds lo hi none n).2.2 = 1 := by
 have key : ∀ (i : Int) (d : Nat), max 0 (min (if i < 0 then i + (n : Int) else i) (n : Int)) = ((HT.sIx n d (some i) : Nat) : Int) := by
  intro i d
  rw [← HT.clip_eq]
  by_cases h : i < 0
  ·rw [if_pos h, if_pos h, Int.min_eq_left (by lia), Int.max_comm]
  ·rw [if_neg h, if_neg h, Int.max_eq_right (Int.le_min.mpr ⟨by lia, by lia⟩)]
 refine ⟨?_, ?_, rfl⟩
 ·cases lo with
  | none => simp [sliceBounds, HT.sIx]
  | some i => exact key i 0
 ·cases hi with
  | none => simp [sliceBounds, HT.sIx]
  | some i => exact key i n
theorem FI (its : List Value) (lo hi : Option Int) : slicePick its.toArray lo hi none = ((its.drop (HT.sIx its.length 0 lo)).take (HT.sIx its.length its.length hi - HT.sIx its.length 0 lo)).toArray := by
 obtain ⟨h1, h2, h3⟩ := GK lo hi its.toArray.size
 unfold slicePick
 rw [h1, h2, h3]
 simp only [sliceRange_one, pick_run, RC] <;> rfl
inductive N1 (K : QT) (x : V) (lo : Option Int) (hi : Option Int) (H : Hp) (Q : VK) : Prop
 | mk (a : _) (xs : _) (h1 : x = .ref a) (h2 : SqL K H a xs) (h3 : ∀ p, H p = none → Q (.ref p) (upd H p (.lst (DE xs lo hi)))) : N1 K x lo hi H Q
theorem M3 : SlR X (N1 X.K) := by
 intro pins s σ H x v vl vu lo hi sl Q I rx hs pl pu h
 obtain ⟨a, xs, rfl, hx, q⟩ := h
 cases rx
 obtain ⟨its, r, ht, hz⟩ := I.list hx
 have hlen := r.length
 refine ⟨"list", _, slot_list_getitem.lookup, ht.isList.typeIs, ?_⟩
 refine wpAny_getItem_list_slice ht.isList hs pl pu .none (by simp) ?_ (by rw [RC] <;> lia)
 rw [FI, ← hlen]
 refine ⟨.ref s.heap.objs.size, _, I.laid (t' := s.toks) (o := .lst (DE xs lo hi)) (fun b ob q => Heap.get?_push_of_some _ q) (R8 _) ?_, rfl, q _ (I.hok.fresh (R8 _))⟩
 exact ⟨QU (Ij xs lo hi) hz, _, 0, (r.drop (HT.sIx xs.length 0 lo)).take (HT.sIx xs.length xs.length hi - HT.sIx xs.length 0 lo), Heap.get?_push_size _ rfl⟩
theorem Hw : CG X (.builtin "len") (fun xs H Q => ∃ p ys, xs = [.ref p] ∧ (SqL X.K H p ys ∨ SqT X.K H p ys) ∧ Q (.int ys.length) H) := by
 intro pins s σ H xs us Q I r h
 obtain ⟨p, ys, rfl, hq, q⟩ := h
 obtain ⟨u, rfl, rx⟩ := DQ r
 cases rx
 have hn := Hi
 rcases hq with hq | hq
 ·obtain ⟨its, r', pl, hz⟩ := I.list hq
  have hlen := r'.length
  exact Calls.call_len_list pl.isList (by simp only [RC] <;> lia) ⟨.int ys.length, H, I.tok _, ⟨s.toks + 1, by rw [RC, hlen]⟩, q⟩
 ·obtain ⟨its, r', pl, hz⟩ := I.tuple hq
  have hlen := r'.length
  exact len_tuple pl (by simp only [RC] <;> lia) ⟨.int ys.length, H, I.tok _, ⟨s.toks + 1, by rw [RC, hlen]⟩, q⟩
theorem Hv : CG X (.type "list") (fun xs H Q => ∃ p ys, xs = [.ref p] ∧ (SqL X.K H p ys ∨ SqT X.K H p ys) ∧ ∀ l, H l = none → Q (.ref l) (upd H l (.lst ys))) := by
 intro pins s σ H xs us Q I r h
 obtain ⟨p, ys, rfl, hq, q⟩ := h
 obtain ⟨u, rfl, rx⟩ := DQ r
 cases rx
 have fin : ∀ (its : List Value), AK ys its → ys.length ≤ sizeLine → ∀ (h' : Heap) (c' : Nat), (∀ b o', s.heap.get? b = some o' → h'.get? b = some o') →
  h'.get? s.heap.objs.size = some { cls := .type "list", dict := none, data := .seq its.toArray c', slots := #[] } → EP X pins σ Q (.ref s.heap.objs.size) { s with heap := h' } := fun its r' hz h' c' kp e =>
  ⟨.ref s.heap.objs.size, _, I.laid (t' := s.toks) kp (R8 _) (show Cg X.prog X.w _ h' _ (.lst ys) from ⟨hz, its, c', r', e⟩), rfl, q _ (I.hok.fresh (R8 _))⟩
 rcases hq with hq | hq
 ·obtain ⟨its, r', pl, hz⟩ := I.list hq
  have hlen := r'.length
  obtain ⟨o, ho, hc, n, hd⟩ := pl.isList
  exact call_list_seq p (.inl rfl) ho hc hd (fun h' c' kp e => fin its r' hz h' c' kp e) (by simp only [RC] <;> lia)
 ·obtain ⟨its, r', pl, hz⟩ := I.tuple hq
  have hlen := r'.length
  obtain ⟨o, ho, hc, n, hd⟩ := pl
  exact call_list_seq p (.inr rfl) ho hc hd (fun h' c' kp e => fin its r' hz h' c' kp e) (by simp only [RC] <;> lia)
theorem G5 : CG X (.type "tuple") (fun xs H Q => ∃ p ys, xs = [.ref p] ∧ ((SqL X.K H p ys ∧ ∀ l, H l = none → Q (.ref l) (upd H l (.tup ys))) ∨ (SqT X.K H p ys ∧ Q (.ref p) H))) := by
 intro pins s σ H xs us Q I r h
 obtain ⟨p, ys, rfl, h⟩ := h
 obtain ⟨u, rfl, rx⟩ := DQ r
 cases rx
 rcases h with ⟨hq, q⟩ | ⟨hq, q⟩
 ·obtain ⟨its, r', pl, hz⟩ := I.list hq
  have hlen := r'.length
  refine call_tuple_list pl.isList (fun h' kp => ?_) (by simp only [RC] <;> lia)
  have I1 : Inv X pins σ H { s with heap := h' } := I.kept (t' := s.toks) kp
  have I2 : Inv X pins σ (upd H h'.objs.size (.tup ys)) { s with heap := h'.push { cls := .type "tuple", data := .seq its.toArray } } :=
   I1.laid (t' := s.toks) (fun b o e => Heap.get?_push_of_some _ e) (R8 _) (show Cg X.prog X.w _ _ _ (.tup ys) from ⟨hz, its, r', IsTup.new _ _⟩)
  exact ⟨.ref h'.objs.size, _, I2, rfl, q _ (I1.hok.fresh (R8 _))⟩
 ·obtain ⟨its, r', pl, hz⟩ := I.tuple hq
  exact call_tuple_same pl ⟨.ref p, H, I, rfl, q⟩
def tyV (K : QT) (T : String) (x : V) (H : Hp) : Prop := match x with
 | .str _ => T = "str"
 | .int _ => T = "int"
 | .ref p => (T = "list" ∧ ∃ xs, SqL K H p xs) ∨ (T = "tuple" ∧ ∃ o, K.lookup p = some o ∧ o.cls = .type "tuple" ∧ o.dict = none) ∨
  (T = "dict" ∧ ((∃ kvs, H p = some (.dK kvs)) ∨ ∃ kvs, H p = some (.dT kvs))) ∨ (T = "set" ∧ ∃ S n, H p = some (.set S n))
 | _ => False
theorem Kl {pins : List (Addr × Obj)} {σ : St} {H : Hp} {s : Shared} {T : String} {x : V} {v : Value} (I : Inv X pins σ H s) (r : Bh x v) (ty : tyV X.K T x H) :
 s.TypeIs v T ∧ ∀ a, v = .ref a → ∃ ob, s.heap.get? a = some ob ∧ ob.dict = none := by
 cases x with
 | str z =>
   obtain ⟨t, rfl⟩ := r
   cases (show T = "str" from ty)
   exact ⟨typeIs_str s z t, fun _ e => nomatch e⟩
 | int i =>
   obtain ⟨t, rfl⟩ := r
   cases (show T = "int" from ty)
   exact ⟨typeIs_int s i t, fun _ e => nomatch e⟩
 | ref p =>
   cases r
   rcases ty with ⟨rfl, xs, hq⟩ | ⟨rfl, o, hk, hc, hd⟩ | ⟨rfl, hk⟩ | ⟨rfl, S, n, hk⟩
   ·obtain ⟨its, _, pl, _⟩ := I.list hq
    refine ⟨pl.isList.typeIs, fun a e => ?_⟩
    cases e
    obtain ⟨o, n, e, c, hd, _⟩ := pl
    exact ⟨o, e, hd⟩
   ·refine ⟨⟨o, I.kIn p o hk, hc⟩, fun a e => ?_⟩
    cases e
    exact ⟨o, I.kIn _ o hk, hd⟩
   ·have z : ∃ o, s.heap.get? p = some o ∧ o.ExactDict := by
     rcases hk with ⟨kvs, hk⟩ | ⟨kvs, hk⟩
     ·obtain ⟨_, _, _, _, o, _, _, e, ex, _⟩ := I.hok p _ hk
      exact ⟨o, e, ex⟩
     ·obtain ⟨_, _, _, _, o, _, _, e, ex, _⟩ := I.hok p _ hk
      exact ⟨o, e, ex⟩
    obtain ⟨o, e, ex⟩ := z
    refine ⟨⟨o, e, ex.1⟩, fun a e2 => ?_⟩
    cases e2
    exact ⟨o, e, ex.2.1⟩
   ·obtain ⟨o, _, _, _, e, ex, _⟩ := I.hok p _ hk
    refine ⟨⟨o, e, ex.1⟩, fun a e2 => ?_⟩
    cases e2
    exact ⟨o, e, ex.2.1⟩
 | _ => exact False.elim ty
def O2 (K : QT) (T : String) (r : V → List V → Hp → VK → Prop) (to : TE) : TE := fun σ H Q => to σ H fun x H1 => tyV K T x H1 ∧ r x [] H1 Q
def tBM (K : QT) (T : String) (r : V → List V → Hp → VK → Prop) (to : TE) (t : TA) : TE := fun σ H Q => to σ H fun x H1 => tyV K T x H1 ∧ t σ H1 fun xs H2 => r x xs H2 Q
variable {o e : Expr} {es : List Expr} {to : TE} {t : TA} {name : Str} {apos cpos : Pos} {T id : String} {r : V → List V → Hp → VK → Prop}
theorem Nd (pa : PlainAttrs T) (slot : Slot T name id) (hty : typeOf (.builtin id) = pure (.type "method_descriptor")) (hm : MtR X id r) (ho : PE X o to)
 (hbase : attributeBase o name X.env (eval o X.env) = eval o X.env := by rfl) (hline : (apos.endLine == cpos.line) = true := by rfl) {K : QT} (eK : X.K = K := by rfl) : PE X (.Call (.Attribute o name apos) [] [] cpos) (O2 K T r to) := by
 subst eK
 intro pins s σ H Q I h
 refine wpAny_Call_method0_late hbase hline (thn (ho pins s σ H _ I h) fun v s1 ⟨x, H1, I1, r1, ty, q1⟩ => ?_)
 obtain ⟨h1, h2⟩ := Kl I1 r1 ty
 exact ⟨T, id, pa, slot, hty, h1, h2, Calls.callWith_builtin rfl (PySem.evalArgs_none (hm pins s1 σ H1 x [] v [] Q I1 r1 .nil q1))⟩
theorem Oc (pa : PlainAttrs T) (slot : Slot T name id) (hty : typeOf (.builtin id) = pure (.type "method_descriptor")) (hm : MtR X id r) (ho : PE X o to) (ha : PA X (e :: es) t)
 (hbase : attributeBase o name X.env (eval o X.env) = eval o X.env := by rfl)
 (hfew : ((backTo cpos (starEach (e :: es) X.env)).all (fun x => !x.1) && (backToKw cpos (keywordEach [] X.env)).all (fun x => x.1.isSome)
  && decide ((e :: es).length + ([] : List Keyword).length + (if ([] : List Keyword).isEmpty then 0 else 1) < 30)) = true := by rfl)
 (hline : (apos.endLine == cpos.line) = true := by rfl) (hs : starEach (e :: es) X.env = (false, eval e X.env) :: starEach es X.env := by rfl) (hplain : (backTo cpos (starEach es X.env)).any (·.1) = false := by rfl) {K : QT} (eK : X.K = K := by rfl) :
 PE X (.Call (.Attribute o name apos) (e :: es) [] cpos) (tBM K T r to t) := by
 subst eK
 intro pins s σ H Q I h
 refine wpAny_Call_method_late hbase hfew hline rfl (thn (ho pins s σ H _ I h) fun v s1 ⟨x, H1, I1, r1, ty, q1⟩ => ?_)
 obtain ⟨h1, h2⟩ := Kl I1 r1 ty
 refine ⟨T, id, pa, slot, hty, h1, h2, ?_⟩
 have hA := ha cpos pins s1 σ H1 _ I1 q1
 rw [hs] at hA ⊢
 refine Calls.callWith_builtin (by show (false || (backTo cpos (starEach es X.env)).any (·.1)) = false; rw [hplain] <;> rfl) (Calls.evalArgs_plain ?_)
 exact thn hA fun us s2 ⟨vs, H2, I2, r2, q2⟩ => hm pins s2 σ H2 x vs v us Q I2 r1 r2 q2
end
end L2
namespace L2
open PySem PySem.Spec PyProof.Rows
def MtM (X : Cx) (id : String) (r : V → List V → Hp → VK → Prop) : Prop :=
 ∀ (pins : List (Addr × Obj)) (s : Shared) (σ : St) (H : Hp) (x : V) (xs : List V) (v : Value) (us : List Value) (Q : VK), Inv X pins σ H s → Bh x v → AK xs us → r x xs H Q →
   wpAny (model X.prog X.w) X.A (call (.builtin id) (v :: us)) (EP X pins σ Q) X.xe s
theorem AK.one {x : V} {us : List Value} (h : AK [x] us) : ∃ u, us = [u] ∧ Bh x u := by
 cases h with
 | cons r t => cases t; exact ⟨_, rfl, r⟩
theorem AK.zero : ∀ {us : List Value}, AK [] us → us = []
 | _, .nil => rfl
theorem AK.dropLast {xs : List V} {us : List Value} (h : AK xs us) : AK xs.dropLast us.dropLast := by
 induction h with
 | nil => exact .nil
 | cons r t ih =>
   cases t with
   | nil => exact .nil
   | cons q t' => exact .cons r ih
theorem AK.rep {xs : List V} {us : List Value} (h : AK xs us) : ∀ k : Nat, AK (Rm k xs).flatten (Rm k us).flatten
 | 0 => .nil
 | k + 1 => by
   rw [RG, RG, RH, RH]
   exact AK.append h (AK.rep h k)
theorem IX {α : Type} (l : List α) : l.eraseIdx (l.length - 1) = l.dropLast := by
 induction l with
 | nil => rfl
 | cons a r ih =>
   cases r with
   | nil => rfl
   | cons b r =>
     have e : (a :: b :: r).length - 1 = ((b :: r).length - 1) + 1 := by
      have h1 : (a :: b :: r).length = r.length + 2 := rfl
      have h2 : (b :: r).length = r.length + 1 := rfl
      lia
     rw [e, List.eraseIdx_cons_succ, ih]
     all_goals rfl
theorem Gn (its : List Value) : ∀ (k : Nat) (acc : List Value),
 List.foldl (fun x1 x2 => x1 ++ x2) acc.toArray (Rm k its.toArray) = (acc ++ (Rm k its).flatten).toArray
 | 0, acc => by simp
 | k + 1, acc => by
   have e : acc.toArray ++ its.toArray = (acc ++ its).toArray := by simp
   have e2 : (acc ++ its) ++ (Rm k its).flatten = acc ++ (Rm (k + 1) its).flatten := by
    rw [RG, RH, RI]
   rw [← e2, ← Gn its k (acc ++ its), ← e, RG, List.foldl_cons]
section
variable {X : Cx} {pins : List (Addr × Obj)} {σ : St} {H : Hp} {s : Shared} {l b : Addr} {xs ys zs : List V}
theorem Inv.lset {its its' : List Value} {n : Nat} {f : Array Value → Array Value} {t' : Nat} (I : Inv X pins σ H s) (hH : H l = some (.lst xs))
 (e : s.heap.get? l = some { cls := .type "list", data := .seq its.toArray n }) (hf : f its.toArray = its'.toArray) (hv : AK ys its') (hz : ys.length ≤ sizeLine) :
 Inv X pins σ (upd H l (.lst ys)) { s with heap := s.heap.update l (Obj.mapSeq f), toks := t' } := by
 have q := PySem.IsL.update e f
 rw [hf] at q
 refine I.write (x := l) (e := l) (by rw [hH]; exact trivial) (.inl rfl) (fun b' u hb hu => (Heap.get?_update_other s.heap (Obj.mapSeq f) (Ne.symm hb)).trans hu) ⟨_, q⟩ ?_
 exact ⟨hz, its', _, hv, q⟩
theorem Inv.lnew {its : List Value} {t' : Nat} (I : Inv X pins σ H s) (hv : AK ys its) (hz : ys.length ≤ sizeLine) :
 Inv X pins σ (upd H s.heap.objs.size (.lst ys)) { s with heap := s.heap.push { cls := .type "list", data := .seq its.toArray }, toks := t' } :=
 I.laid (fun _ _ q => Heap.get?_push_of_some _ q) (R8 _) ⟨hz, its, 0, hv, Heap.get?_push_size _ rfl⟩
theorem Inv.fresh (I : Inv X pins σ H s) : H s.heap.objs.size = none := I.hok.fresh (R8 _)
theorem Inv.lstM (I : Inv X pins σ H s) (hH : H l = some (.lst xs)) : xs.length ≤ sizeLine ∧ ∃ (its : List Value) (n : Nat), AK xs its ∧ xs.length = its.length ∧ s.heap.get? l = some { cls := .type "list", data := .seq its.toArray n } := by
 obtain ⟨z, its, n, r, e⟩ := I.hok l _ hH
 exact ⟨z, its, n, r, r.length, e⟩
theorem HX {n : Nat} (h : n ≤ sizeLine) : Builtin.List.listTooLong n = false := by
 unfold Builtin.List.listTooLong
 exact decide_eq_false (by lia)
end
section
variable {X : Cx}
inductive Jg (x : V) (vs : List V) (H : Hp) (Q : VK) : Prop
 | mk (l : _) (xs : _) (y : _) (h1 : x = .ref l) (h2 : vs = [y]) (h3 : H l = some (.lst xs)) (h4 : xs.length < sizeLine) (h5 : Q .non (upd H l (.lst (xs ++ [y])))) : Jg x vs H Q
theorem Ew : MtM X "list.append" Jg := by
 intro pins s σ H x vs v us Q I rx rv h
 obtain ⟨l, xs, y, rfl, rfl, hH, hz, q⟩ := h
 cases rx
 obtain ⟨u, rfl, ru⟩ := rv.one
 obtain ⟨z, its, n, r, hl, e⟩ := I.lstM hH
 refine call_meets F.slot_list_append ⟨_, e, rfl⟩ F.entry_list_append (F.args_list_append_2 _ _) (PySem.list_append l its.toArray n u (by rw [RC]; lia)) ⟨e, ?_⟩
 refine ⟨.non, _, I.lset (its' := its ++ [u]) hH e (by simp) (r.append (.cons ru .nil)) ?_, rfl, q⟩
 rw [Rw, RJ]
 lia
inductive Jf (x : V) (vs : List V) (H : Hp) (Q : VK) : Prop
 | mk (l : _) (b : _) (xs : _) (zs : _) (h1 : x = .ref l) (h2 : vs = [.ref b]) (h3 : H l = some (.lst xs)) (h4 : H b = some (.lst zs)) (h5 : xs.length + zs.length ≤ sizeLine) (h6 : Q .non (upd H l (.lst (xs ++ zs)))) : Jf x vs H Q
theorem JZ : MtM X "list.extend" Jf := by
 intro pins s σ H x vs v us Q I rx rv h
 obtain ⟨l, b, xs, zs, rfl, rfl, hH, hB, hz, q⟩ := h
 cases rx
 obtain ⟨u, rfl, ru⟩ := rv.one
 cases ru
 obtain ⟨z, its, n, r, hl, e⟩ := I.lstM hH
 obtain ⟨z2, its2, n2, r2, hl2, e2⟩ := I.lstM hB
 have hsz : its.toArray.size + its2.toArray.size ≤ sizeLine := by rw [RC, RC]; lia
 have hlong : ¬ (!its.toArray.isEmpty && Builtin.List.listTooLong (its.toArray.size + its2.toArray.size)) = true := by
  rw [HX hsz, Bool.and_false]
  exact Bool.false_ne_true
 refine call_meets F.slot_list_extend ⟨_, e, rfl⟩ F.entry_list_extend (F.args_list_extend_2 _ _)
  (AutoSeq1.list_extend_list_list_0 l its.toArray n b its2.toArray n2 hlong (by rw [RC]; lia) (by lia)) ⟨e, e2, ?_⟩
 refine ⟨.non, _, I.lset (its' := its ++ its2) hH e (by simp) (r.append r2) ?_, rfl, q⟩
 rw [Rw]
 lia
inductive O6 (x : V) (vs : List V) (H : Hp) (Q : VK) : Prop
 | mk (l : _) (xs : _) (y : _) (h1 : x = .ref l) (h2 : vs = []) (h3 : H l = some (.lst xs)) (h4 : xs[xs.length - 1]? = some y) (h5 : Q y (upd H l (.lst xs.dropLast))) : O6 x vs H Q
theorem La : MtM X "list.pop" O6 := by
 intro pins s σ H x vs v us Q I rx rv h
 obtain ⟨l, xs, y, rfl, rfl, hH, hy, q⟩ := h
 cases rx
 have hus := rv.zero
 subst hus
 obtain ⟨z, its, n, r, hl, e⟩ := I.lstM hH
 obtain ⟨u, hu, ru⟩ := r.get hy
 have hy' : its.toArray[its.toArray.size - 1]? = some u := by
  show its.toArray[its.length - 1]? = some u
  rw [← Array.getElem?_toList, ← hl]
  exact hu
 refine call_meets F.slot_list_pop ⟨_, e, rfl⟩ F.entry_list_pop (F.args_list_pop_1 _) (MeetsSeq.list_pop_last l its.toArray n u hy' (by rw [RC]; lia)) ⟨e, ?_⟩
 refine ⟨y, _, I.lset (its' := its.dropLast) hH e ?_ r.dropLast ?_, ru, q⟩
 ·show its.toArray.eraseIdxIfInBounds (its.toArray.size - 1) = its.dropLast.toArray
  rw [RC, List.eraseIdxIfInBounds_toArray, IX]
 ·rw [List.length_dropLast]
  lia
inductive O8 (x : V) (y : V) (H : Hp) (Q : VK) : Prop
 | mk (l : _) (b : _) (xs : _) (zs : _) (h1 : x = .ref l) (h2 : y = .ref b) (h3 : H l = some (.lst xs)) (h4 : H b = some (.lst zs)) (h5 : xs.length + zs.length ≤ sizeLine) (h6 : ∀ p, H p = none → Q (.ref p) (upd H p (.lst (xs ++ zs)))) : O8 x y H Q
theorem Dl : OpR X (binaryOp .Add) O8 := by
 intro pins s σ H x y v u Q I rx ry h
 obtain ⟨l, b, xs, zs, rfl, rfl, hH, hB, hz, q⟩ := h
 cases rx
 cases ry
 obtain ⟨z, its, n, r, hl, e⟩ := I.lstM hH
 obtain ⟨z2, its2, n2, r2, hl2, e2⟩ := I.lstM hB
 refine PySem.P.add_list e e2 ?_ (by rw [RC, RC]; lia)
 have ea : its.toArray ++ its2.toArray = (its ++ its2).toArray := by simp
 rw [ea]
 exact ⟨.ref _, _, I.lnew (t' := s.toks) (r.append r2) (by rw [Rw]; lia), rfl, q _ I.fresh⟩
inductive O5 (x : V) (y : V) (H : Hp) (Q : VK) : Prop
 | mk (l : _) (k : _) (xs : _) (h1 : x = .ref l) (h2 : y = .int k) (h3 : H l = some (.lst xs)) (h4 : -(2 ^ 63) ≤ k) (h5 : k < 2 ^ 63) (h6 : xs.length * k.toNat ≤ sizeLine) (h7 : ∀ p, H p = none → Q (.ref p) (upd H p (.lst (Rm k.toNat xs).flatten))) : O5 x y H Q
theorem Mi {α : Type} (xs : List α) (k : Nat) : (Rm k xs).flatten.length = k * xs.length := by
 induction k with
 | zero => simp
 | succ k ih => rw [RG, RH, Rw, ih, Nat.succ_mul, Nat.add_comm]
theorem Nh : OpR X (binaryOp .Mult) O5 := by
 intro pins s σ H x y v u Q I rx ry h
 obtain ⟨l, k, xs, rfl, rfl, hH, h1, h2, hz, q⟩ := h
 cases rx
 obtain ⟨t, rfl⟩ := ry
 obtain ⟨z, its, n, r, hl, e⟩ := I.lstM hH
 have hlen : its.toArray.size * k.toNat ≤ sizeLine := by rw [RC, ← hl]; exact hz
 have hcap : ¬ its.toArray.size * k.toNat > (2 ^ 63 - 1) / 8 := by
  have : (sizeLine : Nat) ≤ (2 ^ 63 - 1) / 8 := by decide
  lia
 have hfit : ¬ (!Builtin.List.listFitsIndex k) = true := by
  rw [fitsIndex_both h1 h2]
  exact Bool.false_ne_true
 have hlong : ¬ Builtin.List.listTooLong (its.toArray.size * k.toNat) = true := by
  rw [HX hlen]
  exact Bool.false_ne_true
 have hnew : List.foldl (fun x1 x2 => x1 ++ x2) #[] (Rm (if its.toArray.isEmpty = true then 0 else k.toNat) its.toArray) = (Rm k.toNat its).flatten.toArray := by
  have f0 : ∀ m : Nat, List.foldl (fun x1 x2 => x1 ++ x2) #[] (Rm m its.toArray) = (Rm m its).flatten.toArray := fun m => by
   have := Gn its m []
   rw [List.nil_append] at this
   exact this
  rw [f0]
  cases its with
  | nil => simp
  | cons a r' => rw [if_neg (by simp)]
 refine wpAny_binaryOp_repeat_ref (T := "list") (U := "int") (by decide) ⟨_, e, rfl⟩ (fun s' => typeIs_int s' k t) noFill_list_mul F.fills_int_mul F.slot_int_rmul repeat_list F.slot_int_index.lookup
  (call_meets F.slot_int_rmul (typeIs_int s k t) F.entry_int_rmul (F.args_int_rmul_2 _ _) (int___rmul___int_list k t l its.toArray n)
   ⟨e, rfl, ⟨_, e, rfl⟩, call_meets F.slot_list_mul ⟨_, e, rfl⟩ F.entry_list_mul (F.args_list_mul_2 _ _) (AutoListH.list___mul___list_int_3 l its.toArray n k t hfit hcap hlong) ⟨e, ?_⟩⟩)
 rw [hnew]
 exact ⟨.ref _, _, I.lnew (t' := s.toks) (r.rep k.toNat) (by rw [Mi, RK]; exact hz), rfl, q _ I.fresh⟩
end
section
variable {prog : Program} {w : World} {A : Around} {E : Value → Shared → Prop} {s : Shared}
set_option maxRecDepth 100000 in
end
section
variable {X : Cx}
end
end L2
namespace Att
open PySem PySem.W PySem.Calls PyProof.Rows
theorem ints_of_wellAll {P : Params} {h : Heap} : ∀ (ns : List Int) (vs : List Value), WellAll P h vs (ns.map WData.int) → IntsAre vs ns := by
 intro ns
 induction ns with
 | nil =>
   intro vs w
   rw [List.map_nil] at w
   cases w
   exact .nil
 | cons n ns ih =>
   intro vs w
   rw [RL] at w
   cases w with
   | cons a b =>
     cases a
     exact .cons _ _ (ih _ b)
theorem script_of {l : OpenLaw} {n : Nat} (hn : l.most = some n) {P : Params} {h : Heap} {args : List WData} {vals : List Value}
 (hpre : l.row.toRowW.claim.pre args = true) (hwl : WellAll P h vals args) :
 ∃ a vs ns, vals = [Value.ref a] ∧ args = [WData.list (ns.map WData.int)] ∧ h.get? a = some { cls := .type "list", data := .seq vs.toArray } ∧ IntsAre vs ns ∧ ns.length ≤ n := by
 have hsh : WShape.hasAll [] args [.list .int] = true := (pre_splitW hpre).1
 have hc : l.pre.holds [] { args := args } = true := (pre_splitW hpre).2
 obtain ⟨d, r, rfl, h1, h2⟩ := hasAllW_cons hsh
 obtain rfl := hasAllW_nil h2
 obtain ⟨xs, rfl, h3⟩ := hasW_list h1
 obtain ⟨ns, rfl⟩ := items_int h3
 have hlen : ns.length ≤ n := by
  unfold OpenLaw.pre at hc
  have h4 : (WTm.not (.lt (.lit (.int (n : Int))) (.len (.arg 0)))).holds [] { args := [.list (ns.map .int)] } = true := by
   have h4 := (holds_andW hc).1
   rw [hn] at h4
   exact h4
  have h5 := condW_of h4 (w_not (w_lt w_lit (w_len_list (w_arg rfl))))
  rw [Rx] at h5
  refine Nat.le_of_not_lt fun q => ?_
  have q' : (n : Int) < ((ns.length : Nat) : Int) := by lia
  first
   | (rw [decide_eq_true q'] at h5; exact absurd h5 (by decide))
   | (simp at h5; lia)
 cases hwl with
 | cons w1 w2 =>
   cases w2
   cases w1 with
   | list ho hall => exact ⟨_, _, ns, rfl, rfl, ho, ints_of_wellAll ns _ hall, hlen⟩
theorem post_true (l : OpenLaw) (args : List WData) : l.row.toRowW.claim.post args (.bool true) args = true :=
 postW_of (r := l.row.toRowW) (X := (true == true))
  (show WShape.has [] (.bool true) .bool = true by first | rfl | decide | simp [WShape.has, WShape.arms, WShape.armsAll])
  (show (WTm.eq .res (.lit (.bool true))).value [] { args := args, res := some (.bool true), after := args } = some (.bool (true == true)) from w_eq_bool (w_res rfl) w_lit) rfl
theorem attach_call {l : OpenLaw} {n : Nat} {q : Program} {loose : List Str} {XP : (Str → Option Value) → Heap → Prop} {YP : World → Heap → Prop} {d : DefRec}
 (hn : l.most = some n) (hdf : d.params.defaults = [])
 (call : ∀ (w : World) (s₀ s₁ : Shared) (mg mb : Str → Option Value) (fa : Addr) (o : Obj) (pm cd doc : Value) (a : Addr) (vs : List Value) (ns : List Int),
  Ground q loose [] XP w s₀ mg mb s₁.heap → YP w s₁.heap →
  s₁.heap.get? fa = some o → o.data = .func (docDef d.name d.params d.body d.scope pm cd doc) → s₁.heap.CodeRec cd d.name → mg d.name = some (.ref fa) →
  s₁.heap.get? a = some { cls := .type "list", data := .seq vs.toArray } → IntsAre vs ns → ns.length ≤ n → s₁.gens = #[] →
  codeAny (model l.prog w) callerA (.call (.ref fa) ⟨[.ref a], []⟩) (fun r s' => r = .ok (.ret (.bool true)) ∧ OldK s₁.heap s'.heap ∧ s'.os = s₁.os ∧ AllBare s'.gens) s₁) :
 WalkO q loose XP YP l.row.toRowW d [] (fun f vs => PySem.call f vs) := by
 intro w s₀ s₁ mg mb G Y fa o pm cd doc dV kV ho hd hcd hD hmg hg args vals as hpre hlay hrd hwl hlo
 obtain rfl : dV = .none := Dflts.none hD hdf
 obtain rfl : kV = .none := Dflts.noKw hD
 obtain ⟨a, vs, ns, rfl, rfl, hobj, hints, hlen⟩ := script_of hn hpre hwl
 refine enter_call (codeAny_mono (call w s₀ s₁ mg mb fa o pm cd doc a vs ns G Y ho (fd_plain hd) hcd hmg hobj hints hlen hg) fun r s' hq => ?_)
 obtain ⟨rfl, h2, h3, h4⟩ := hq
 exact ⟨.inl ⟨.bool true, .bool true, [], rfl, fun _ => rfl, .bool true, post_true l _, fun _ => ⟨List.Pairwise.nil, fun _ hm => (nomatch hm)⟩⟩, h2, h3, h4⟩
section
variable {prog : Program} {w : World} {A : Around} {E : Value → Shared → Prop} {s : Shared} {K : Frag}
end
end Att
namespace L2
open PySem PySem.Spec PyProof.Rows
theorem JP {vs : List Value} {ns : List Int} (h : IntsAre vs ns) : AK (ns.map V.int) vs := by
 induction h with
 | nil => exact .nil
 | cons n t h ih => exact .cons ⟨t, rfl⟩ ih
def NQ (H : Hp) : Prop := ∀ b, H b = none ∨ ∃ o xs, H b = some (.frz o (.lst xs))
theorem Lf {P : Program} {w : World} {K : QT} {mg mb : Str → Option Value} {CX : CXT} {k : Nat} {fa a : Addr} {fd : FuncData} {x : Str} {sp : Sp} {s₁ : Shared} {vs : List Value} {ns : List Int}
 (KX : K.In s₁.heap) (hns : s₁.heap.Ns mainGlobals mg) (hb : s₁.heap.Ns builtinsNs mb) (hbb : ∀ x : Str, x ≠ "__name__" → mb x = bootBuiltins x) (hlim : s₁.heap.NoLimit) (hsee : s₁.heap.NoSeer) (hg : s₁.gens = #[])
 (ha : s₁.heap.get? a = some { cls := .type "list", data := .seq vs.toArray }) (hi : IntsAre vs ns) (hl : ns.length ≤ sizeLine) (hr : C7 k callerA)
 (F : ∀ base : Heap, K.In base → base.Ns mainGlobals mg → AI P w K mg base CX k fa fd [x] sp) (hbind : ∀ (s : Shared) (u : Value), BindsTo s fd ⟨[u], []⟩ [(x, u)])
 (hsp : ∀ H : Hp, NQ H → SqL K H a (ns.map V.int) → sp [.ref a] H (fun v _ => v = .bl true) fun _ _ _ => False)
 (hCX : ∀ H e s', CX [] H s₁ (fun _ _ _ => False) e s' → False) :
 codeAny (model P w) callerA (.call (.ref fa) ⟨[.ref a], []⟩) (fun r s' => r = .ok (.ret (.bool true)) ∧ OldK s₁.heap s'.heap ∧ s'.os = s₁.os ∧ AllBare s'.gens) s₁ := by
 have rv := JP hi
 have lenV := hi.length
 -- from an abstract heap in which nothing but the script may be tracked
 have core : ∀ H : Hp, NQ H → SqL K H a (ns.map V.int) → HOk P w H s₁.heap → (∀ b, H b ≠ none → b = a) → (H a ≠ none → K.lookup a = none) →
  codeAny (model P w) callerA (.call (.ref fa) ⟨[.ref a], []⟩) (fun r s' => r = .ok (.ret (.bool true)) ∧ OldK s₁.heap s'.heap ∧ s'.os = s₁.os ∧ AllBare s'.gens) s₁ := by
  intro H hO hS hok hA hK
  have base_of : ∀ {b : Addr} {o : Obj}, s₁.heap.get? b = some o → H b = none → (FZ s₁.heap H).get? b = some o := fun e n => Lm e n
  have noA : ∀ {b : Addr} {o : Obj} {es : Array DictEntry} {ep : Nat}, s₁.heap.get? b = some o → o.data = .dict es ep → H b = none := fun {b o es ep} e d => by
   cases q : H b with
   | none => rfl
   | some u =>
     have e' : b = a := hA b (by rw [q]; simp)
     subst e'
     rw [ha] at e; cases e
     have d' : Data.seq vs.toArray _ = Data.dict es ep := d
     cases d'
  have nsK : ∀ {b : Addr} {m : Str → Option Value}, s₁.heap.Ns b m → (FZ s₁.heap H).Ns b m := fun {b m} ⟨o, es, ep, e, d, r⟩ => ⟨o, es, ep, base_of e (noA e d), d, r⟩
  have hKb : K.In (FZ s₁.heap H) := fun b o e => base_of (KX b o e) (by
   cases q : H b with
   | none => rfl
   | some u =>
     have e' : b = a := hA b (by rw [q]; simp)
     subst e'
     rw [hK (by rw [q]; simp)] at e; cases e)
  have seerK : (FZ s₁.heap H).NoSeer := ⟨let ⟨mc, x, y⟩ := hsee.statics; ⟨mc, nsK x, y⟩, let ⟨mm, x, y⟩ := hsee.mods; ⟨mm, nsK x, y⟩, let ⟨mi, x, y⟩ := hsee.imp; ⟨mi, nsK x, y⟩, by
   obtain ⟨mg', bm, ob, x, y, z, u, v⟩ := hsee.main
   refine ⟨mg', bm, ob, nsK x, y, base_of z ?_, u, v⟩
   cases q : H bm with
   | none => rfl
   | some o =>
     have e' : bm = a := hA bm (by rw [q]; simp)
     subst e'
     rw [ha] at z
     cases z
     have u' : Value.type "list" = Value.type "module" := u
     exact absurd u' (by decide)⟩
  have hM : Mod K mg (FZ s₁.heap H) := ⟨hKb, nsK hns, ⟨mb, nsK hb, hbb⟩, let ⟨mc, h1, h2⟩ := hlim; ⟨mc, nsK h1, h2⟩, seerK⟩
  have e0 : Kj P w K mg (FZ s₁.heap H) callerA [] s₁ H := ⟨rfl, hM, fun b o e => Me e, Nat.le_of_eq (K6 _ _), trivial, fun b hb => absurd (show b ∈ ([] : List Addr) from hb) (by simp), hok, .of_eq hg⟩
  refine codeAny_mono ((F _ hKb (nsK hns)).run callerA [] s₁ H ⟨[.ref a], []⟩ [.ref a] [.ref a] _ _ hr e0 (hbind s₁ (.ref a)) (.cons rfl .nil) (hsp H hO hS)) fun r s' h => ?_
  cases r with
  | error e => exact (hCX H e s' h).elim
  | ok fl =>
    cases fl with
    | next => exact False.elim h
    | brk => exact False.elim h
    | cont => exact False.elim h
    | ret u =>
      obtain ⟨v, H', os, bare, un, hok', r', q⟩ := h
      have q' : v = .bl true := q
      subst q'
      obtain rfl : u = Value.bool true := r'
      refine ⟨rfl, OldK.of_keep fun b o e => ?_, os, bare⟩
      cases q : H b with
      | none => exact un.keep b o e q (by intro z; exact absurd (show b ∈ ([] : List Addr) from z) (by simp)) (by simp)
      | some u =>
        rcases hO b with z | ⟨ob, xs, z⟩
        ·rw [q] at z; cases z
        ·have z2 := un.frzs b ob _ z
         obtain ⟨e1, _⟩ := hok b _ z
         obtain ⟨e2, _⟩ := hok' b _ z2
         rw [e] at e1; cases e1
         exact e2
 cases hk : K.lookup a with
 | some o =>
   -- the script is one of the module's own objects
   have e := KX a o hk
   rw [ha] at e
   cases e
   refine core (fun _ => none) (fun _ => .inl rfl) (.inr ⟨_, vs.toArray, _, hk, rfl, rfl, rfl, by rw [RC, lenV]; exact hl, by simpa using rv⟩) (fun b u z => by have z' : (none : Option HO) = some u := z; cases z') (fun b z => absurd rfl z) fun z => absurd rfl z
 | none =>
   refine core (fun b => if b = a then some (.frz { cls := .type "list", data := .seq vs.toArray } (.lst (ns.map V.int))) else none) (fun b => ?_) (.inl (.inr ⟨{ cls := .type "list", data := .seq vs.toArray }, if_pos rfl⟩)) (fun b u z => ?_) (fun b z => ?_) fun _ => hk
   ·by_cases hb : b = a
    ·exact .inr ⟨_, _, if_pos hb⟩
    ·exact .inl (if_neg hb)
   ·by_cases hb : b = a
    ·have z' := (if_pos hb).symm.trans z
     cases z'
     subst hb
     exact ⟨ha, by rw [Rx]; exact hl, vs, _, rv, ha⟩
    ·have z' := (if_neg hb).symm.trans z
     cases z'
   ·by_cases hb : b = a
    ·exact hb
    ·exact absurd (if_neg hb) z
end L2
namespace L2
open PySem PySem.Spec PyProof.Rows
theorem LU {l : RM} {n k : Nat} {q : Program} {loose : List Str} {XP : (Str → Option Value) → Heap → Prop} {YP : World → Heap → Prop} {d : DefRec} {K : Params → QT} {CX : World → CXT} {sp : World → Sp} {x : Str}
 (hI : importsNone q = true) (hn : l.most = some n) (hn2 : n ≤ sizeLine) (hdf : d.params.defaults = []) (hr : C7 k callerA)
 (hY : ∀ (w : World) (h : Heap), YP w h → (K w.params).In h)
 (F : ∀ (w : World) (mg : Str → Option Value) (fa : Addr) (h : Heap), (K w.params).In h → h.Ns mainGlobals mg → mg d.name = some (.ref fa) →
  ∃ fd : FuncData, (∀ (s : Shared) (u : Value), BindsTo s fd ⟨[u], []⟩ [(x, u)]) ∧
    ∀ base : Heap, (K w.params).In base → base.Ns mainGlobals mg → AI l.prog w (K w.params) mg base (CX w) k fa fd [x] (sp w))
 (hsp : ∀ (w : World) (H : Hp) (a : Addr) (ns : List Int), ns.length ≤ n → NQ H → SqL (K w.params) H a (ns.map V.int) → sp w [.ref a] H (fun v _ => v = .bl true) fun _ _ _ => False)
 (hCX : ∀ (w : World) (H : Hp) (s : Shared) (e : Value) (s' : Shared), CX w [] H s (fun _ _ _ => False) e s' → False) :
 PySem.W.WalkO q loose XP YP l.row.toRowW d [] (fun f vs => PySem.call f vs) := by
 refine Att.attach_call hn hdf fun w s₀ s₁ mg mb fa o pm cd doc a vs ns G Y ho hd hcd hmg hobj hints hlen hg => ?_
 have KX := hY w _ Y
 obtain ⟨fd, hb, hF⟩ := F w mg fa _ KX G.T.g hmg
 exact Lf KX G.T.g G.T.b G.T.builtins G.T.nolimit (G.T.seer hI) hg hobj hints (QU hlen hn2) hr hF hb (fun H hO hS => hsp w H a ns hlen hO hS) fun H e s' => hCX w H s₁ e s'
end L2
namespace L2
open PySem PySem.Spec PyProof.Rows
def Ar (s : Stmt) : Arguments := match s with
 | .FunctionDef _ a _ _ _ _ _ _ _ _ => a
 | _ => { posonlyargs := [], args := [], vararg := none, kwonlyargs := [], kw_defaults := [], kwarg := none, defaults := [] }
def Aq (s : Stmt) : List Stmt := match s with
 | .FunctionDef _ _ b _ _ _ _ _ _ _ => b
 | _ => []
def Af (s : Stmt) : Scope := match s with
 | .FunctionDef _ _ _ _ _ _ sc _ _ _ => sc
 | _ => { kind := .function, names := [], isGenerator := false, isCoroutine := false }
abbrev CX0 : CXT := fun _ _ _ _ _ _ => False
abbrev E0 : XK := fun _ _ _ => False
theorem Od {X : Cx} : FD CX0 X E0 := fun _ _ _ _ _ _ _ h => h.elim
structure Fun (K : QT) (x qual : Str) (st : Stmt) (f : Addr) (fd : FuncData) : Prop where
 ex : ∃ (oc : Value) (od : Option Addr) (kV doc pm : Value) (an : Option Addr) (cdv ct : Value) (osl : Array (Option Value)),
  fd = Rz x qual (Ar st) (Aq st) (Af st) .none kV doc pm an cdv ct ∧ K.lookup f = some ⟨oc, od, .func fd, osl⟩ ∧ RA K cdv qual = true
 kp : Rg K (.ref f) = true
section
variable {P : Program} {w : World} {K : QT} {mg : Str → Option Value} {base : Heap}
theorem Fun.ok {x qual : Str} {st : Stmt} {f : Addr} {fd : FuncData} {N ps : List Str} {k : Nat} {sp : Sp} (F : Fun K x qual st f fd) (S : As N ps (Af st)) (len : ∀ vs H Q E, sp vs H Q E → vs.length = ps.length)
 (hbody : ∀ (cdv : Value) (A : Around) (outer : List Env) (s : Shared) (H : Hp) (vs : List V) (Q : VK) (E : XK), C7 k (A.deeper (envOfC qual (Af st) s.heap.objs.size f cdv)) → sp vs H Q E →
  ∃ t, PSs (Dd CX0 P w K mg base N qual (Af st) f cdv A outer s H E).nox (Aq st) t ∧ t { nx := fun _ H' => Q .non H', rt := Q } (D0 N vs) H) : AI P w K mg base CX0 (k + 1) f fd ps sp := by
 obtain ⟨oc, od, kV, doc, pm, an, cdv, ct, osl, rfl, lk, hcd⟩ := F.ex
 refine MI lk hcd S len fun A outer s H vs Q E hr hsp => ?_
 obtain ⟨t, h, q⟩ := hbody cdv A outer s H vs Q E hr hsp
 exact ⟨t, h.nox, q⟩
theorem Fun.binds {x qual : Str} {st : Stmt} {f : Addr} {fd : FuncData} {ps : List Str} (F : Fun K x qual st f fd)
 (h : ∀ (kV doc pm : Value) (an : Option Addr) (cdv ct : Value) (us : List Value), us.length = ps.length → bindArgs (Rz x qual (Ar st) (Aq st) (Af st) .none kV doc pm an cdv ct) ⟨us, []⟩ = pure (ps.zip us)) : CH K fd ps [] := by
 obtain ⟨oc, od, kV, doc, pm, an, cdv, ct, osl, rfl, lk, hcd⟩ := F.ex
 exact .all (h kV doc pm an cdv ct)
theorem AD {x qual : Str} {st : Stmt} {f : Addr} {oc : Value} {od an : Option Addr} {osl : Array (Option Value)} {kV doc pm cdv ct : Value} (l : K.lookup f = some ⟨oc, od, .func (Rz x qual (Ar st) (Aq st) (Af st) .none kV doc pm an cdv ct), osl⟩)
 (c : RA K cdv qual = true) (k : Rg K (.ref f) = true) : Fun K x qual st f (Rz x qual (Ar st) (Aq st) (Af st) .none kV doc pm an cdv ct) := ⟨⟨oc, od, kV, doc, pm, an, cdv, ct, osl, rfl, l, c⟩, k⟩
end
theorem AW {n : Nat} (h : n ≤ 1000) : n < sizeLine := RN h (by decide)
section
variable {X : Cx}
theorem pv (i : Nat) {x : Str} {pos : Pos} (hN : X.N[i]? = some x := by rfl) (hv : Vis X.env.scope x := by first | exact Or.inl rfl | exact Or.inr (Or.inl rfl) | exact Or.inr (Or.inr rfl)) (hd : (x == ("__debug__" : Str)) = false := by decide)
 (hcd : (x == ("__classdict__" : Str)) = false := by decide) : PE X (.Name x pos) (DD i) := KJ hN hv hd hcd
end
theorem Dc {A B : Prop} (h : B) : if false = true then A else B := by
 rw [if_neg Bool.false_ne_true]
 exact h
theorem Li {A B : Prop} (h : A) : if true = true then A else B := by
 rw [if_pos rfl]
 exact h
theorem FX {c A B : Prop} [Decidable c] (h1 : c → A) (h2 : ¬ c → B) : if c then A else B := by
 by_cases h : c
 ·rw [if_pos h]
  exact h1 h
 ·rw [if_neg h]
  exact h2 h
def Ag (H H' : Hp) : Prop := ∀ b o, H b = some o → H' b = some o
theorem Ag.refl (H : Hp) : Ag H H := fun _ _ h => h
theorem Ag.trans {H H1 H2 : Hp} (a : Ag H H1) (b : Ag H1 H2) : Ag H H2 := fun c o h => b c o (a c o h)
theorem Ag.free {H H' : Hp} (e : Ag H H') {l : Addr} (h : H' l = Option.none) : H l = Option.none := by
 cases q : H l with
 | none => rfl
 | some o =>
   rw [e l o q] at h
   cases h
theorem Ag.seq {K : QT} {H H' : Hp} {a : Addr} {xs : List V} (e : Ag H H') (h : SqL K H a xs) : SqL K H' a xs := by
 rcases h with (h | ⟨o, h⟩) | h
 ·exact .inl (.inl (e _ _ h))
 ·exact .inl (.inr ⟨o, e _ _ h⟩)
 ·exact .inr h
end L2
namespace L2
open PySem PySem.Spec PyProof.Rows
section
variable {κ : Type} [DecidableEq κ]
end
section
variable {P : Program} {w : World} {H : Hp} {h : Heap} {a : Addr}
end
section
variable {X : Cx} {pins : List (Addr × Obj)} {σ : St} {H : Hp} {s : Shared} {a : Addr} {y v : V} {u r : Value} {o : Option V} {A : Around} {E : Value → Shared → Prop}
end
section
variable {X : Cx} {pins : List (Addr × Obj)} {σ : St} {H : Hp} {s : Shared} {a : Addr} {kvs : List (Key × V)} {k : Key} {u : Value} {A : Around} {E : Value → Shared → Prop}
end
section
variable {X : Cx} {o i e value : Expr} {pos pos' tpos : Pos} {td ty tv : TE}
end
section
variable {X : Cx} {pos : Pos}
end
structure M1 (X : Cx) (o : Expr) (m : Str) (apos : Pos) (e : Expr) (cpos : Pos) : Prop where
 base : attributeBase o m X.env (eval o X.env) = eval o X.env
 few : ((backTo cpos (starEach [e] X.env)).all (fun x => !x.1) && (backToKw cpos (keywordEach [] X.env)).all (fun x => x.1.isSome)
  && decide (([e] : List Expr).length + ([] : List Keyword).length + (if ([] : List Keyword).isEmpty then 0 else 1) < 30)) = true
 line : (apos.endLine == cpos.line) = true
 trees : backTo cpos (starEach [e] X.env) = [(false, eval e X.env)]
structure M2 (X : Cx) (o : Expr) (m : Str) (apos : Pos) (e f : Expr) (cpos : Pos) : Prop where
 base : attributeBase o m X.env (eval o X.env) = eval o X.env
 few : ((backTo cpos (starEach [e, f] X.env)).all (fun x => !x.1) && (backToKw cpos (keywordEach [] X.env)).all (fun x => x.1.isSome)
  && decide (([e, f] : List Expr).length + ([] : List Keyword).length + (if ([] : List Keyword).isEmpty then 0 else 1) < 30)) = true
 line : (apos.endLine == cpos.line) = true
 trees : backTo cpos (starEach [e, f] X.env) = [(false, eval e X.env), (false, eval f X.env)]
section
variable {X : Cx} {pins : List (Addr × Obj)} {σ : St} {H : Hp} {s : Shared} {a : Addr} {y d : V} {u r : Value} {o : Option V} {A : Around} {E : Value → Shared → Prop}
end
section
variable {X : Cx} {o e f : Expr} {apos cpos : Pos} {td ty tx : TE}
end
section
variable {X : Cx} {pins : List (Addr × Obj)} {σ : St} {H : Hp} {s : Shared} {a : Addr} {kvs : List (Key × V)} {A : Around} {E : Value → Shared → Prop}
end
section
variable {X : Cx} {pins : List (Addr × Obj)} {σ : St} {H : Hp} {s : Shared} {a : Addr} {y : V} {u : Value} {A : Around} {E : Value → Shared → Prop}
end
end L2
namespace Nm
def msr (a b : Int) : Int := if b < 0 then -(RO a b : Int) else (RO a b : Int)
theorem gcd_pos {a b : Int} (hb : b ≠ 0) : 0 < RO a b := RP fun h => hb (Int.gcd_eq_zero_iff.mp h).2
theorem msr_ne {a b : Int} (hb : b ≠ 0) : msr a b ≠ 0 := by
 have := gcd_pos (a := a) hb
 unfold msr; split <;> lia
theorem fdiv_neg_dvd {a g : Int} (h : g ∣ a) : a.fdiv (-g) = -(a / g) := by
 obtain ⟨k, rfl⟩ := h
 by_cases hg : g = 0
 ·subst hg; simp
 ·rw [Int.mul_ediv_cancel_left _ hg, show g * k = -g * -k by rw [Int.neg_mul_neg], RQ _ (by lia)]
theorem fdiv_dvd {a g : Int} (h : g ∣ a) : a.fdiv g = a / g := by
 obtain ⟨k, rfl⟩ := h
 by_cases hg : g = 0
 ·subst hg; simp
 ·rw [Int.mul_ediv_cancel_left _ hg, RQ _ hg]
theorem top_msr {a b : Int} (hb : b ≠ 0) : a.fdiv (msr a b) = (RS a b).num := by
 rw [Rat.num_divInt, Int.gcd_comm b a]
 have d : (RO a b : Int) ∣ a := Int.gcd_dvd_left ..
 unfold msr
 split
 ·rename_i h
  rw [fdiv_neg_dvd d, RT h, Int.neg_mul, RU, Int.neg_ediv_of_dvd d]
 ·rw [fdiv_dvd d, RV (by lia), RU]
theorem bottom_msr {a b : Int} (hb : b ≠ 0) : b.fdiv (msr a b) = (RS a b).den := by
 rw [Rat.den_divInt, if_neg hb, Int.gcd_comm b a]
 have d : (RO a b : Int) ∣ b := Int.gcd_dvd_right ..
 rw [Int.natCast_ediv]
 unfold msr
 split
 ·rename_i h
  rw [fdiv_neg_dvd d, ← Int.neg_ediv_of_dvd d, Int.ofNat_natAbs_of_nonpos (by lia)]
 ·rw [fdiv_dvd d, Int.natAbs_of_nonneg (by lia)]
theorem gcd_turn (x y : Int) : RO y (x % y) = RO x y := by
 have e : x % y + y * (x / y) = x := Int.emod_add_mul_ediv x y
 have h : RO (x % y + y * (x / y)) y = RO (x % y) y := Int.gcd_add_mul_left_left ..
 rw [e] at h
 rw [h, Int.gcd_comm]
theorem abs_if (i : Int) : (if i < 0 then -i else i) = (i.natAbs : Int) := by split <;> lia
theorem num_mul (q : Rat) : ((q.num : Int) : Rat) = q * ((q.den : Int) : Rat) := by
 have hd : ((q.den : Nat) : Int) ≠ 0 := by have := q.den_pos; lia
 have h1 : q = (q.num : Rat) / ((q.den : Int) : Rat) := by
  have := Rat.num_divInt_den q
  rw [RW] at this
  exact this.symm
 have h0 : (((q.den : Int)) : Rat) ≠ 0 := fun z => hd (by exact_mod_cast z)
 conv => rhs; lhs; rw [h1]
 rw [RX h0]
theorem den_ne (q : Rat) : ((q.den : Nat) : Int) ≠ 0 := by have := q.den_pos; lia
theorem cast_ne {a : Int} (h : a ≠ 0) : (a : Rat) ≠ 0 := fun z => h (by exact_mod_cast z)
theorem div_eq {t b : Int} {q : Rat} (hb : b ≠ 0) (h : (t : Rat) = q * (b : Rat)) : RS t b = q := by
 rw [RW, h, Rat.mul_div_cancel (cast_ne hb)]
theorem plus_eq (p q : Rat) : RS (p.num * q.den + q.num * p.den) (p.den * q.den) = p + q :=
 div_eq (RY (den_ne p) (den_ne q)) (by rw [RZ, S5, S5, S5, num_mul p, num_mul q]; grind)
theorem minus_eq (p q : Rat) : RS (p.num * q.den - q.num * p.den) (p.den * q.den) = p - q :=
 div_eq (RY (den_ne p) (den_ne q)) (by rw [Rat.intCast_sub, S5, S5, S5, num_mul p, num_mul q]; grind)
theorem times_eq (p q : Rat) : RS (p.num * q.num) (p.den * q.den) = p * q :=
 div_eq (RY (den_ne p) (den_ne q)) (by rw [S5, S5, num_mul p, num_mul q]; grind)
theorem pow_add (x : Rat) (m : Nat) : ∀ n : Nat, x ^ (m + n) = x ^ m * x ^ n
 | 0 => by rw [Nat.add_zero, S6]; grind
 | n + 1 => by rw [← Nat.add_assoc, S7, S7, pow_add x m n]; grind
end Nm
namespace Cv
def ev : List Rat → Rat → Rat
 | [], _ => 0
 | q :: r, x => q + x * ev r x
def strip : List Rat → List Rat
 | [] => []
 | q :: r => if strip r = [] ∧ q = 0 then [] else q :: strip r
theorem ev_strip (x : Rat) : ∀ qs, ev (strip qs) x = ev qs x
 | [] => rfl
 | q :: r => by
   have ih := ev_strip x r
   unfold strip
   split
   ·rename_i h
    rw [h.1] at ih
    show (0 : Rat) = q + x * ev r x
    rw [← ih, h.2]; show (0 : Rat) = 0 + x * 0; grind
   ·show q + x * ev (strip r) x = _
    rw [ih]; rfl
theorem strip_length : ∀ qs, (strip qs).length ≤ qs.length
 | [] => R8 _
 | q :: r => by
   have ih := strip_length r
   unfold strip
   split
   ·exact Rb _
   ·exact Nat.succ_le_succ ih
theorem strip_last : ∀ qs, strip qs ≠ [] → (strip qs)[(strip qs).length - 1]? ≠ some 0
 | [], h => absurd rfl h
 | q :: r, h => by
   have ih := strip_last r
   unfold strip at h ⊢
   split at h
   ·exact absurd rfl h
   ·rename_i hc
    rw [if_neg hc]
    by_cases e : strip r = []
    ·rw [e]
     intro z
     have z' : q = 0 := by simpa using z
     exact hc ⟨e, z'⟩
    ·have hl : 0 < (strip r).length := S8.mpr e
     rw [S9, show (strip r).length + 1 - 1 = ((strip r).length - 1) + 1 by lia, Sa]
     exact ih e
theorem strip_mem : ∀ qs q, q ∈ strip qs → q ∈ qs
 | [], _, h => h
 | p :: r, q, h => by
   unfold strip at h
   split at h
   ·cases h
   ·rcases QZ.mp h with e | e
    ·exact e ▸ QX
    ·exact QY _ (strip_mem r q e)
theorem take_strip : ∀ (qs : List Rat) (w : Nat), (∀ j q, w ≤ j → qs[j]? = some q → q = 0) → (w = 0 ∨ ∃ q, qs[w - 1]? = some q ∧ q ≠ 0) → qs.take w = strip qs
 | [], w, _, _ => by simp [strip]
 | p :: r, 0, h, _ => by
   have ih := take_strip r 0 (fun j q _ e => h (j + 1) q (by lia) (by simpa using e)) (.inl rfl)
   have hp : p = 0 := h 0 p (R8 _) rfl
   unfold strip
   rw [← ih, if_pos ⟨rfl, hp⟩]; rfl
 | p :: r, w + 1, h, h2 => by
   have hz : ∀ j q, w ≤ j → r[j]? = some q → q = 0 := fun j q hj e => h (j + 1) q (by lia) (by simpa using e)
   by_cases hw : w = 0
   ·subst hw
    have ih := take_strip r 0 hz (.inl rfl)
    rcases h2 with z | ⟨q, e, hq⟩
    ·exact absurd z (by lia)
    ·have e' : p = q := by simpa using e
     subst e'
     unfold strip
     rw [← ih, if_neg (fun z => hq z.2)]; rfl
   ·have ih := take_strip r w hz (by
     rcases h2 with z | ⟨q, e, hq⟩
     ·exact absurd z (by lia)
     ·refine .inr ⟨q, ?_, hq⟩
      rw [show w + 1 - 1 = (w - 1) + 1 by lia, Sa] at e
      exact e)
    have hne : strip r ≠ [] := by
     rw [← ih]
     rcases h2 with z | ⟨q, e, hq⟩
     ·exact absurd z (by lia)
     ·rw [show w + 1 - 1 = (w - 1) + 1 by lia, Sa] at e
      intro z
      have hl : 0 < (r.take w).length := by
       rw [Rp]
       have := (R3.mp e).1
       lia
      rw [z] at hl; simp at hl
    unfold strip
    rw [← ih, if_neg (fun z => hne (by rw [← ih]; exact z.1))]; rfl
def pw : List Rat → Rat → Rat → Rat
 | [], _, _ => 0
 | q :: r, x, p => q * p + pw r x (p * x)
theorem ev_scale (c x : Rat) : ∀ qs, ev (qs.map (· * c)) x = ev qs x * c
 | [] => by show (0 : Rat) = 0 * c; grind
 | q :: r => by
   show q * c + x * ev (r.map (· * c)) x = (q + x * ev r x) * c
   rw [ev_scale c x r]; grind
theorem ev_snoc (x q : Rat) : ∀ l : List Rat, ev (l ++ [q]) x = ev l x + q * x ^ l.length
 | [] => by show q + x * 0 = 0 + q * x ^ 0; rw [S6]; grind
 | p :: r => by
   show p + x * ev (r ++ [q]) x = (p + x * ev r x) + q * x ^ (r.length + 1)
   rw [ev_snoc x q r, S7]; grind
theorem strip_zeros : ∀ (qs : List Rat) (n : Nat), strip (qs ++ Rm n 0) = strip qs
 | [], 0 => rfl
 | [], n + 1 => by
   have ih := strip_zeros [] n
   show strip (0 :: Rm n 0) = []
   unfold strip
   have e : strip (Rm n 0) = [] := by simpa [strip] using ih
   rw [if_pos ⟨e, rfl⟩]
 | q :: r, n => by
   have ih := strip_zeros r n
   show strip (q :: (r ++ Rm n 0)) = strip (q :: r)
   unfold strip
   rw [ih]
theorem ev_set (x d : Rat) : ∀ (l : List Rat) (i : Nat) (v : Rat), l[i]? = some v → ev (l.set i (v + d)) x = ev l x + d * x ^ i
 | [], _, _, h => by simp at h
 | q :: r, 0, v, h => by
   have e : q = v := by simpa using h
   subst e
   show (q + d) + x * ev r x = (q + x * ev r x) + d * x ^ 0
   rw [S6]; grind
 | q :: r, i + 1, v, h => by
   show q + x * ev (r.set i (v + d)) x = (q + x * ev r x) + d * x ^ (i + 1)
   rw [ev_set x d r i v (by simpa using h), S7]; grind
theorem ev_zeros (x : Rat) : ∀ n, ev (Rm n 0) x = 0
 | 0 => rfl
 | n + 1 => by
   show (0 : Rat) + x * ev (Rm n 0) x = 0
   rw [ev_zeros x n]; grind
def evI (ts : List Int) (x : Rat) : Rat := ev (ts.map fun t : Int => (t : Rat)) x
theorem evI_set (x : Rat) (l : List Int) (i : Nat) (v d : Int) (h : l[i]? = some v) : evI (l.set i (v + d)) x = evI l x + (d : Rat) * x ^ i := by
 unfold evI
 rw [Sb, RZ]
 exact ev_set x _ _ i _ (by rw [Ru, h]; rfl)
theorem evI_zeros (x : Rat) (n : Nat) : evI (Rm n 0) x = 0 := by
 unfold evI
 rw [List.map_replicate]
 exact ev_zeros x n
theorem evI_take_succ (x : Rat) (l : List Int) (i : Nat) (v : Int) (h : l[i]? = some v) : evI (l.take (i + 1)) x = evI (l.take i) x + (v : Rat) * x ^ i := by
 have hi : i < l.length := (R3.mp h).1
 unfold evI
 rw [Sd, h]
 show ev ((l.take i ++ [v]).map _) x = _
 rw [Se]
 show ev (_ ++ [(v : Rat)]) x = _
 rw [ev_snoc, Rx, Rp, RE (by lia)]
theorem evI_cons (x : Rat) (t : Int) (l : List Int) : evI (t :: l) x = (t : Rat) + x * evI l x := rfl
theorem evI_scale (x : Rat) (c : Int) (l : List Int) : evI (l.map (c * ·)) x = (c : Rat) * evI l x := by
 induction l with
 | nil => show (0 : Rat) = _ * 0; grind
 | cons t l ih => rw [RL, evI_cons, evI_cons, ih, S5]; grind
theorem evI_last (x : Rat) (l : List Int) (t : Int) (h : l[l.length - 1]? = some t) : evI l x = evI (l.take (l.length - 1)) x + (t : Rat) * x ^ (l.length - 1) := by
 have hl : l.length - 1 < l.length := (R3.mp h).1
 have := evI_take_succ x l (l.length - 1) t h
 rw [show l.length - 1 + 1 = l.length by lia, Sf] at this
 exact this
def quot (c : Rat) : List Rat → List Rat
 | [] => []
 | [_] => []
 | _ :: b :: l => ev (b :: l) c :: quot c (b :: l)
theorem quot_ev (c x : Rat) : ∀ l : List Rat, ev l x = ev l c + (x - c) * ev (quot c l) x
 | [] => by show (0 : Rat) = 0 + _ * 0; grind
 | [a] => by show a + x * 0 = a + c * 0 + (x - c) * 0; grind
 | a :: b :: l => by
   have h := quot_ev c x (b :: l)
   show a + x * ev (b :: l) x = a + c * ev (b :: l) c + (x - c) * (ev (b :: l) c + x * ev (quot c (b :: l)) x)
   rw [h]; grind
theorem quot_length (c : Rat) : ∀ l : List Rat, (quot c l).length = l.length - 1
 | [] => rfl
 | [_] => rfl
 | _ :: b :: l => by
   show (quot c (b :: l)).length + 1 = _
   rw [quot_length c (b :: l)]
   simp
theorem ev_none (x : Rat) : ∀ l : List Rat, (∀ q ∈ l, q = 0) → ev l x = 0
 | [], _ => rfl
 | a :: l, h => by
   show a + x * ev l x = 0
   rw [h a QX, ev_none x l fun q hq => h q (QY _ hq)]
   grind
theorem ident : ∀ (n : Nat) (l : List Rat), l.length ≤ n → ∀ s : Nat, (∀ k : Nat, s ≤ k → ev l (k : Rat) = 0) → ∀ q ∈ l, q = 0
 | 0, l, hl, _, _ => by
   have e : l = [] := Sg (by lia)
   rw [e]
   exact fun q h => nomatch h
 | n + 1, [], _, _, _ => fun q h => nomatch h
 | n + 1, a :: t, hl, s, h => by
   have hs := h s (R8 _)
   have hq : ∀ q ∈ quot (s : Rat) (a :: t), q = 0 := ident n _ (by rw [quot_length]; simp at hl ⊢; lia) (s + 1) fun k hk => by
    have e := quot_ev (s : Rat) (k : Rat) (a :: t)
    rw [h k (by lia), hs] at e
    have e2 : ((k : Rat) - (s : Rat)) * ev (quot (s : Rat) (a :: t)) (k : Rat) = 0 := by grind
    rcases Sh.mp e2 with z | z
    ·have z2 : (k : Rat) = (s : Rat) := by grind
     have z3 : k = s := by exact_mod_cast z2
     lia
    ·exact z
   have hall : ∀ x, ev (a :: t) x = 0 := fun x => by
    rw [quot_ev (s : Rat) x (a :: t), hs, ev_none x _ hq]; grind
   have ha : a = 0 := by
    have := hall 0
    show a = 0
    have e : ev (a :: t) 0 = a + 0 * ev t 0 := rfl
    rw [e] at this
    grind
   have ht : ∀ q ∈ t, q = 0 := ident n t (by simp at hl; lia) 1 fun k hk => by
    have e := hall (k : Rat)
    have e1 : ev (a :: t) (k : Rat) = a + (k : Rat) * ev t (k : Rat) := rfl
    rw [e1, ha] at e
    have e2 : (k : Rat) * ev t (k : Rat) = 0 := by grind
    rcases Sh.mp e2 with z | z
    ·have z3 : k = 0 := by exact_mod_cast z
     lia
    ·exact z
   intro q hq'
   rcases QZ.mp hq' with z | z
   ·rw [z]; exact ha
   ·exact ht q z
def dif : List Rat → List Rat → List Rat
 | [], m => m.map (· * (-1))
 | a :: l, m => (a - m.headD 0) :: dif l m.tail
theorem ev_head (x : Rat) (m : List Rat) : ev m x = m.headD 0 + x * ev m.tail x := by
 cases m with
 | nil => show (0 : Rat) = 0 + x * 0; grind
 | cons b m => rfl
theorem dif_ev (x : Rat) : ∀ l m : List Rat, ev (dif l m) x = ev l x - ev m x
 | [], m => by
   show ev (m.map (· * (-1))) x = 0 - ev m x
   rw [ev_scale]; grind
 | a :: l, m => by
   show (a - m.headD 0) + x * ev (dif l m.tail) x = (a + x * ev l x) - ev m x
   rw [dif_ev x l m.tail, ev_head x m]; grind
theorem dif_none : ∀ l m : List Rat, l.length = m.length → (∀ q ∈ dif l m, q = 0) → l = m
 | [], [], _, _ => rfl
 | [], _ :: _, e, _ => nomatch e
 | _ :: _, [], e, _ => nomatch e
 | a :: l, b :: m, e, h => by
   have h1 : a - b = 0 := h _ QX
   have h2 := dif_none l m (by simpa using e) fun q hq => h q (QY _ hq)
   rw [h2, show a = b by grind]
theorem same_of (l m : List Rat) (e : l.length = m.length) (h : ∀ x, ev l x = ev m x) : l = m :=
 dif_none l m e (ident _ _ (R8 _) 0 fun k _ => by rw [dif_ev, h]; grind)
end Cv
namespace L2
open PySem PySem.Spec PyProof.Rows
theorem DO {env : Env} : ∀ (names : List (Str × NameKind)) (acc : List (Str × Addr)), (∀ x ∈ names, x.2 = .free → ∃ c, env.cells.lookup x.1 = some c) →
 ∃ cl : List (Str × Addr), (forIn (m := Sem) names acc fun x r => do
  if x.2 == .free then pure (ForInStep.yield ((x.1, ← cellOf env x.1) :: r)) else pure (ForInStep.yield r)) = pure cl ∧
  (∀ p ∈ cl, p ∈ acc ∨ env.cells.lookup p.1 = some p.2) ∧ (∀ p ∈ acc, p ∈ cl) ∧ ∀ x ∈ names, x.2 = .free → ∃ c, (x.1, c) ∈ cl
 | [], acc, _ => ⟨acc, rfl, fun _ h => .inl h, fun _ h => h, fun _ h => nomatch h⟩
 | x :: r, acc, h => by
   by_cases hk : x.2 = .free
   ·obtain ⟨c, hc⟩ := h x QX hk
    obtain ⟨cl, e, h1, h2, h3⟩ := DO r ((x.1, c) :: acc) fun y hy => h y (QY _ hy)
    refine ⟨cl, ?_, fun p hp => ?_, fun p hp => h2 p (QY _ hp), fun y hy hf => ?_⟩
    ·rw [List.forIn_cons]
     have z : (x.2 == NameKind.free) = true := by rw [hk]; rfl
     have cell : cellOf env x.1 = pure c := by unfold cellOf; rw [hc]
     simp only [z, if_true, cell]
     exact e
    ·rcases h1 p hp with q | q
     ·rcases QZ.mp q with rfl | q
      ·exact .inr hc
      ·exact .inl q
     ·exact .inr q
    ·rcases QZ.mp hy with rfl | hy
     ·exact ⟨c, h2 _ QX⟩
     ·exact h3 y hy hf
   ·obtain ⟨cl, e, h1, h2, h3⟩ := DO r acc fun y hy => h y (QY _ hy)
    refine ⟨cl, ?_, h1, h2, fun y hy hf => ?_⟩
    ·rw [List.forIn_cons]
     have z : (x.2 == NameKind.free) = false := by
      cases e : x.2 <;> first | rfl | exact absurd e hk
     simp only [z, Bool.false_eq_true, if_false]
     exact e
    ·rcases QZ.mp hy with rfl | hy
     ·exact absurd hf hk
     ·exact h3 y hy hf
theorem DL {x : Str} {c : Addr} : ∀ {cl : List (Str × Addr)}, (x, c) ∈ cl → ∃ c', cl.lookup x = some c'
 | [], h => nomatch h
 | (y, d) :: r, h => by
   by_cases e : x = y
   ·subst e; exact ⟨d, by simp⟩
   ·rcases QZ.mp h with q | q
    ·cases q; exact absurd rfl e
    ·obtain ⟨c', q'⟩ := DL q
     refine ⟨c', ?_⟩
     have : (x == y) = false := by simpa using e
     rw [Si, this]
     exact q'
theorem CI {scope : Scope} {env : Env} (h : ∀ x ∈ scope.names, x.2 = .free → ∃ c, env.cells.lookup x.1 = some c) :
 ∃ cl : List (Str × Addr), closureFor scope env = pure cl ∧ (∀ x c, cl.lookup x = some c → env.cells.lookup x = some c) ∧ ∀ x ∈ scope.names, x.2 = .free → ∃ c, cl.lookup x.1 = some c := by
 obtain ⟨cl, e, h1, _, h3⟩ := DO scope.names [] h
 refine ⟨cl, ?_, fun x c q => ?_, fun x hx hf => ?_⟩
 ·unfold closureFor
  simp only [bind_pure]
  exact e
 ·rcases h1 _ (PySem.mem_of_lookup q) with z | z
  ·exact nomatch z
  ·exact z
 ·obtain ⟨c, hc⟩ := h3 x hx hf
  exact DL hc
theorem Co {env : Env} : ∀ {names : List (Str × NameKind)} {x : Str}, names.lookup x = some .free →
 (names.map fun (n, k) => if (k == NameKind.free && env.scope.kind == .function && env.kindOf n == some .cell) then (n, NameKind.cell) else (n, k)).lookup x = some .cell ∨
 (names.map fun (n, k) => if (k == NameKind.free && env.scope.kind == .function && env.kindOf n == some .cell) then (n, NameKind.cell) else (n, k)).lookup x = some .free
 | [], _, h => by simp at h
 | (n, k) :: r, x, h => by
   have ih := @Co env r x
   show Sj x ((if (k == NameKind.free && env.scope.kind == .function && env.kindOf n == some .cell) = true then (n, NameKind.cell) else (n, k)) :: _) = _ ∨ Sj x ((if (k == NameKind.free && env.scope.kind == .function && env.kindOf n == some .cell) = true then (n, NameKind.cell) else (n, k)) :: _) = _
   cases hx : x == n with
   | true =>
     simp only [Si, hx] at h
     cases h
     by_cases hc : (NameKind.free == NameKind.free && env.scope.kind == .function && env.kindOf n == some .cell) = true
     ·rw [if_pos hc]; simp [Si, hx]
     ·rw [if_neg hc]; simp [Si, hx]
   | false =>
     simp only [Si, hx] at h
     by_cases hc : (k == NameKind.free && env.scope.kind == .function && env.kindOf n == some .cell) = true
     ·rw [if_pos hc]; simp only [Si, hx]; exact ih h
     ·rw [if_neg hc]; simp only [Si, hx]; exact ih h
theorem DU {env : Env} {x : Str} : ∀ {names : List (Str × NameKind)}, (∀ y ∈ names, y.2 ≠ .cell) →
 ((names.map fun (n, k) => if (k == NameKind.free && env.scope.kind == .function && env.kindOf n == some .cell) then (n, NameKind.cell) else (n, k)).lookup x = some .cell ∨
  (names.map fun (n, k) => if (k == NameKind.free && env.scope.kind == .function && env.kindOf n == some .cell) then (n, NameKind.cell) else (n, k)).lookup x = some .free) → (x, NameKind.free) ∈ names
 | [], _, h => by simp at h
 | (n, k) :: r, hc, h => by
   have ih := @DU env x r fun y hy => hc y (QY _ hy)
   have hk : k ≠ .cell := hc (n, k) QX
   change Sj x ((if (k == NameKind.free && env.scope.kind == .function && env.kindOf n == some .cell) = true then (n, NameKind.cell) else (n, k)) :: _) = _ ∨ Sj x ((if (k == NameKind.free && env.scope.kind == .function && env.kindOf n == some .cell) = true then (n, NameKind.cell) else (n, k)) :: _) = _ at h
   cases hx : x == n with
   | true =>
     have e : x = n := by simpa using hx
     subst e
     by_cases hq : (k == NameKind.free && env.scope.kind == .function && env.kindOf x == some .cell) = true
     ·have : k = .free := by
       cases k <;> first | rfl | (simp at hq)
      subst this; exact QX
     ·rw [if_neg hq] at h
      simp only [Si, hx] at h
      rcases h with h | h
      ·cases h; exact absurd rfl hk
      ·cases h; exact QX
   | false =>
     refine QY _ (ih ?_)
     by_cases hq : (k == NameKind.free && env.scope.kind == .function && env.kindOf n == some .cell) = true
     ·rw [if_pos hq] at h; simpa only [Si, hx] using h
     ·rw [if_neg hq] at h; simpa only [Si, hx] using h
def AL (X : Cx) (N : List Str) (scope : Scope) (cl : List (Str × Addr)) (C : Addr) (s : Shared) (H : Hp) (fp : List Addr) : Cx :=
 { prog := X.prog, w := X.w, K := X.K, mg := X.mg, base := X.base, A := X.A, N := N, s₀ := s, H₀ := H, env := compEnvC scope cl C X.env, outer := X.stack, stack := X.stack, ex := fp,
   fn := fun _ => false, calm := X.calm, pn := [], xe := fun _ _ => False }
def cS (nt : Nat) (js : List Nat) (σ : St) : St := Rm nt none ++ js.map fun i => σ.getD i none
abbrev Cr (ys : List Value) : Obj := { cls := .type "list", data := .seq ys.toArray ys.length }
theorem Ea {prog : Program} {w : World} {A : Around} {R : Result → Shared → Prop} {s : Shared} {elt target iter : Expr} {ifs : List Expr} {scope : Scope} {pos : Pos} {it acc : Value} {env : Env} (I : Nat → Shared → Prop)
 (turn : ∀ n s, I n s → wpAny (model prog w) A (pyNext it) (fun r s₁ => match r with
  | none => R (.ok .next) s₁
  | some v => wpAny (model prog w) A (letOwnedTupleGo target it v) (fun _ s₁' => wpAny (model prog w) A (assign target env v) (fun _ s₂ =>
   wpAny (model prog w) A (forIn ifs true fun c r => if r = true then do let ok ← isTrue c env (eval c env); pure (ForInStep.yield ok) else pure (ForInStep.yield r)) (fun ok s₃ =>
    if ok = true then wpAny (model prog w) A (eval elt env) (fun x s₄ =>
     wpAny (model prog w) A (call (.builtin "list.append") [acc, x]) (fun _ s₅ => ∃ m, m < n ∧ I m s₅) (fun _ _ => False) s₄) (fun _ _ => False) s₃
    else ∃ m, m < n ∧ I m s₃) (fun _ _ => False) s₂) (fun _ _ => False) s₁') (fun _ _ => False) s₁) (fun _ _ => False) s)
 (n : Nat) (h : I n s) :
 codeAny (model prog w) A (.compLoop (.ListComp elt [⟨target, iter, ifs, 0⟩] scope pos) 0 it acc env) R s := by
 refine codeAny_loop rfl I (fun n s hI => ?_) n h
 show wpAny _ A ((compTurn (.ListComp elt [⟨target, iter, ifs, 0⟩] scope pos) 0 it acc env).onRaise (fun x => do noteFrame x env; theTreesLotGoes x)) _ _ s
 refine wpAny_noted ?_
 rw [compTurn_list]
 refine wpAny_bind (wpAny_standAt (wpAny_bind (wpAny_mono (turn n s hI) (fun r s₁ h₁ => ?_) fun _ _ h' => h'.elim)))
 cases r with
 | none => exact wpAny_pure h₁
 | some v =>
   refine wpAny_bind (wpAny_mono h₁ (fun _ s₁' h₁' => ?_) fun _ _ h' => h'.elim)
   refine wpAny_bind (wpAny_mono h₁' (fun _ s₂ h₂ => wpAny_bind (wpAny_mono h₂ (fun ok s₃ h₃ => ?_) fun _ _ h' => h'.elim)) fun _ _ h' => h'.elim)
   cases ok with
   | false => exact wpAny_pure ⟨rfl, h₃⟩
   | true =>
     exact wpAny_bind (wpAny_bind (wpAny_mono h₃ (fun x s₄ h₄ => wpAny_bind (wpAny_mono h₄ (fun _ s₅ h₅ => wpAny_pure (wpAny_pure ⟨rfl, h₅⟩)) fun _ _ h' => h'.elim)) fun _ _ h' => h'.elim))
def PTs (X : Cx) (ifs : List Expr) (t : TT) : Prop :=
 ∀ (pins : List (Addr × Obj)) (s : Shared) (σ : St) (H : Hp) (Q : Bool → Hp → Prop), Inv X pins σ H s → t σ H Q →
   wpAny (model X.prog X.w) X.A (forIn ifs true fun c r => if r = true then do let ok ← isTrue c X.env (eval c X.env); pure (ForInStep.yield ok) else pure (ForInStep.yield r)) (TP X pins σ Q) X.xe s
def Kr : TT := fun _ H Q => Q true H
theorem Bx {X : Cx} : PTs X [] Kr := fun _ _ _ H _ I h => wpAny_tests_nil ⟨H, I, h⟩
theorem EI {X : Cx} {c : Expr} {t : TT} (h : PT X c t) : PTs X [c] t := fun pins s σ H Q I q => wpAny_tests_one (h pins s σ H Q I q)
structure LcW (J : It) (n nt : Nat) (js : List Nat) (σ : St) (g : TG) (tc : TT) (te : TE) (Fin : List V → Hp → Prop) (W : Nat → List V → Hp → Prop) : Prop where
 go : ∀ i zs H, i < n → W i zs H → J.go i H ∧ zs.length < sizeLine
 step : ∀ i zs H x H', i < n → W i zs H → J.yld i H x H' → g x (cS nt js σ) H' fun σ2 H2 => tc σ2 H2 fun b H3 => if b = true then te σ2 H3 fun y H4 => W (i + 1) (zs ++ [y]) H4 else W (i + 1) zs H3
 stop : ∀ zs H, W n zs H → J.stop n H ∧ zs.length ≤ sizeLine ∧ Fin zs H
@[irreducible] def tLC (wi : TI) (nt : Nat) (js : List Nat) (g : TG) (tc : TT) (te : TE) : TE := fun σ H Q => wi σ H fun J H1 =>
 ∃ (n : Nat) (W : Nat → List V → Hp → Prop), W 0 [] H1 ∧ LcW J n nt js σ g tc te (fun zs H' => ∀ p, H' p = none → Q (.ref p) (upd H' p (.lst zs))) W
theorem Cd {wi : TI} {nt : Nat} {js : List Nat} {g : TG} {tc : TT} {te : TE} {σ : St} {H : Hp} {Q : VK}
 (h : wi σ H fun J H1 => ∃ (n : Nat) (W : Nat → List V → Hp → Prop), W 0 [] H1 ∧ LcW J n nt js σ g tc te (fun zs H' => ∀ p, H' p = none → Q (.ref p) (upd H' p (.lst zs))) W) : tLC wi nt js g tc te σ H Q := by
 unfold tLC; exact h
theorem Le {wi : TI} {nt : Nat} {js : List Nat} {g : TG} {tc : TT} {te : TE} {σ : St} {H : Hp} {Q : VK} (h : tLC wi nt js g tc te σ H Q) :
 wi σ H fun J H1 => ∃ (n : Nat) (W : Nat → List V → Hp → Prop), W 0 [] H1 ∧ LcW J n nt js σ g tc te (fun zs H' => ∀ p, H' p = none → Q (.ref p) (upd H' p (.lst zs))) W := by
 unfold tLC at h; exact h
structure AY (X : Cx) (N : List Str) (nt : Nat) (js : List Nat) (scope : Scope) : Prop where
 kind : scope.kind = .function
 nocell : ∀ y ∈ scope.names, y.2 ≠ .cell
 names : ∀ y ∈ scope.names, y.2 = .local → scope.names.lookup y.1 = some .local
 free : ∀ y ∈ scope.names, y.2 = .free → X.env.kindOf y.1 = some .cell ∨ X.env.kindOf y.1 = some .free
 len : N.length = nt + js.length
 outer : ∀ j i, js[j]? = some i → ∃ x, N[nt + j]? = some x ∧ X.N[i]? = some x ∧ scope.names.lookup x = some .free
def JE (NX : List Str) (sc : Scope) (N : List Str) (nt : Nat) (js : List Nat) (scope : Scope) : Bool :=
 decide (scope.kind = .function) && scope.names.all (fun y => decide (y.2 ≠ .cell)) && scope.names.all (fun y => decide (y.2 ≠ .local) || decide (scope.names.lookup y.1 = some .local)) &&
 scope.names.all (fun y => decide (y.2 ≠ .free) || (decide (sc.names.lookup y.1 = some .cell) || decide (sc.names.lookup y.1 = some .free))) && decide (N.length = nt + js.length) &&
 (QP js.length).all fun j => match js[j]?, N[nt + j]? with
  | some i, some x => decide (NX[i]? = some x) && decide (scope.names.lookup x = some .free)
  | _, _ => false
theorem AY.look {X : Cx} {NX N : List Str} {sc scope : Scope} {nt : Nat} {js : List Nat} (hN : X.N = NX) (hs : X.env.scope = sc) (h : JE NX sc N nt js scope = true) : AY X N nt js scope := by
 unfold JE at h
 simp only [Bool.and_eq_true, List.all_eq_true, Bool.or_eq_true, decide_eq_true_eq] at h
 obtain ⟨⟨⟨⟨⟨h1, h2⟩, h3⟩, h4⟩, h5⟩, h6⟩ := h
 refine ⟨h1, h2, fun y hy hl => (h3 y hy).resolve_left fun z => z hl, fun y hy hf => ?_, h5, fun j i e => ?_⟩
 ·have q := (h4 y hy).resolve_left fun z => z hf
  rw [← hs] at q
  exact q
 ·have hj : j < js.length := (R3.mp e).1
  have q := h6 j (QS.mpr hj)
  rw [e] at q
  cases en : N[nt + j]? with
  | none => rw [en] at q; cases q
  | some x =>
    rw [en] at q
    simp only [Bool.and_eq_true, decide_eq_true_eq] at q
    exact ⟨x, rfl, by rw [hN]; exact q.1, q.2⟩
section
variable {X : Cx} {N : List Str} {nt : Nat} {js : List Nat} {scope : Scope} {cl : List (Str × Addr)}
theorem HOk.track {P : Program} {w : World} {H : Hp} {h : Heap} {a : Addr} {o : HO} (x : HOk P w H h) (hn : H a = none) (new : Cg P w (upd H a o) h a o) : HOk P w (upd H a o) h := fun b u e => by
 by_cases hb : b = a
 ·subst hb; rw [Ad] at e; cases e; exact new
 ·rw [AB hb] at e
  exact (x b u e).stay (fun c v _ q => q) (fun c q => by rw [AB (Az q hn)]; exact q) fun c xs q => by rw [AB (Az q hn)]; exact q
theorem Ie {pins : List (Addr × Obj)} {σ : St} {H : Hp} {s : Shared} {C D : Addr} {h' : Heap} {tk : Nat} {fp : List Addr} {m : Str → Option Value} (I : Inv X pins σ H s) (ok : AY X N nt js scope)
 (hcl : ∀ x c, cl.lookup x = some c → X.env.cells.lookup x = some c) (hcl2 : ∀ x ∈ scope.names, x.2 = .free → ∃ c, cl.lookup x.1 = some c)
 (hf : ∀ b ∈ fp, DP X pins H b) (ho : ∀ b ∈ fp, ∃ o, s.heap.get? b = some o ∧ ∀ v, o.data ≠ .cell v)
 (hD : s.heap.objs.size ≤ D) (hC : s.heap.objs.size ≤ C) (hDC : D ≠ C) (k : ∀ b o, s.heap.get? b = some o → h'.get? b = some o) (hn : h'.Ns C m) (hd : h'.get? D = some (Cr [])) :
 Inv (AL X N scope cl C s H fp) [(D, Cr [])] (cS nt js σ) H { s with heap := h', toks := tk } := by
 have lt : ∀ b ∈ fp, b < s.heap.objs.size := fun b hb => by obtain ⟨o, e, _⟩ := ho b hb; exact Heap.lt_size e
 have frlt : ∀ b ∈ frs X.stack, b < s.heap.objs.size := fun b hb => by
  obtain ⟨_, o, e, _⟩ := I.stack.mem hb
  exact Heap.lt_size e
 refine ⟨⟨I.ok.mod, ok.kind, I.ok.glob, I.ok.blt, hC, fun x y c h1 h2 => I.ok.inj x y c (hcl x c h1) (hcl y c h2), fun x hx => ?_, fun x c hx => absurd hx Bool.false_ne_true, I.ok.hd, I.ok.frames, .inl rfl, fun b hb => ⟨?_, fun x c e => (hf b hb).2.2.2.2.1 x c (hcl x c e)⟩, I.bs,
  QU I.ok.bsz I.sz, fun b o e hb => ?_, fun b hb hs => ?_, I.stack, I.stkFree⟩, rfl, I.bare, Un.kept k, ⟨m, hn, fun j x v h1 h2 h3 => ?_⟩, fun x c e => ?_, I.hok.fresh hC, fun x c e => I.freeC x c (hcl x c e), fun p hp => ?_, I.hok.kept k, ?_⟩
 ·obtain ⟨c, hc⟩ := hcl2 (x, .free) (DU ok.nocell hx) rfl
  exact ⟨c, hc⟩
 ·exact QO (QM (lt b hb) hC)
 ·rcases (hf b hb).2.2.2.1 with z | z
  ·exact I.ok.noex b o e z
  ·exact absurd (QM (Heap.lt_size e) (QU I.ok.bsz z)) (QN _)
 ·rcases QZ.mp (I.stkSub b hs) with z | z
  ·exact (hf b hb).2.1 z
  ·exact (hf b hb).2.2.1 z
 ·change N[j]? = some x at h1
  unfold cS at h2
  by_cases hj : j < nt
  ·rw [Rt (by simpa using hj), Rr] at h2
   rw [if_pos hj] at h2; cases h2
  ·rw [Rq (by simpa using Sk.mp hj), Ry, Ru] at h2
   cases ei : js[j - nt]? with
   | none => rw [ei] at h2; cases h2
   | some i =>
     rw [ei] at h2
     obtain ⟨y, e1, e2, e3⟩ := ok.outer _ i ei
     rw [show nt + (j - nt) = j by lia, h1] at e1
     cases e1
     have hv : σ[i]? = some (some v) := by
      simp only [Option.map_some, QK.injEq] at h2
      rw [Sl] at h2
      cases eσ : σ[i]? with
      | none => rw [eσ] at h2; cases h2
      | some z => rw [eσ] at h2; simp at h2; rw [h2]
     obtain ⟨m₀, _, hl⟩ := I.loc
     have kf := ok.free (x, .free) (PySem.mem_of_lookup e3) rfl
     obtain ⟨u, r, l⟩ := hl i x v e2 hv (kf.elim (fun z => .inr (.inl z)) fun z => .inr (.inr z))
     refine ⟨u, r, .inr ⟨Co e3, ?_⟩⟩
     rcases l with ⟨kl, _⟩ | ⟨_, c, ec, ⟨oc, hoc, hod⟩⟩
     ·rcases kf with z | z <;> (rw [z] at kl; cases kl)
     ·obtain ⟨c', hc'⟩ := hcl2 (x, .free) (PySem.mem_of_lookup e3) rfl
      have e' := hcl x c' hc'
      rw [ec] at e'
      cases e'
      exact ⟨c, hc', oc, k _ _ hoc, hod⟩
 ·obtain ⟨v, oc, hoc, hod⟩ := I.cell x c (hcl x c e)
  exact ⟨v, oc, k _ _ hoc, hod⟩
 ·have e : p = (D, Cr []) := by
   have hp' : p ∈ [(D, Cr [])] := hp
   simpa using hp'
  subst e
  refine ⟨hd, I.hok.fresh hD, hDC, fun hb => absurd (QM (frlt D hb) hD) (QN _), fun v z => by cases z⟩
 ·show (cS nt js σ).length = N.length
  unfold cS
  rw [Rw, Ry, Rx, ok.len]
end
end L2
namespace L2
open PySem PySem.Spec PyProof.Rows
def FC (g : TG) (nt : Nat) : Prop := ∀ x σ H Q, g x σ H Q → g x σ H fun σ2 H2 => (σ2.length = σ.length ∧ σ2.drop nt = σ.drop nt) ∧ Q σ2 H2
theorem AG {i nt : Nat} (h : i < nt) : FC (BW i) nt := fun x σ H Q q => ⟨⟨RF, by
 apply Sm
 intro k
 rw [Sn, Sn, R5 (by lia)]⟩, q⟩
section
variable {X : Cx} {N : List Str} {nt : Nat} {js : List Nat} {scope : Scope} {elt iter tg : Expr} {ifs : List Expr} {pos : Pos} {g : TG} {tc : TT} {te : TE} {wi : TI}
theorem EN {σ σ2 : St} (hl : σ2.length = (cS nt js σ).length) (hd : σ2.drop nt = (cS nt js σ).drop nt) : ∀ (i : Nat) v, (cS nt js σ)[i]? = some (some v) → σ2[i]? = some (some v) := fun i v e => by
 by_cases hi : i < nt
 ·unfold cS at e
  rw [Rt (by simpa using hi), Rr, if_pos hi] at e
  cases e
 ·have q : ((cS nt js σ).drop nt)[i - nt]? = some (some v) := by rw [Sn, show nt + (i - nt) = i by lia]; exact e
  rw [← hd, Sn, show nt + (i - nt) = i by lia] at q
  exact q
set_option maxHeartbeats 4000000 in
theorem Ik {pins : List (Addr × Obj)} {σ : St} {H : Hp} {s₂ : Shared} {cl : List (Str × Addr)} {J : It} {fp : List Addr} {it : Addr} {tn : Nat → Heap → Prop} {E : Value → Shared → Prop} {Fin : List V → Hp → Prop} {W : Nat → List V → Hp → Prop} {nn : Nat}
 {RR : Value → Addr → Result → Shared → Prop} (hcalm : X.calm = true) (ok : AY X N nt js scope)
 (hcl : ∀ x c, cl.lookup x = some c → X.env.cells.lookup x = some c) (hcl2 : ∀ x ∈ scope.names, x.2 = .free → ∃ c, cl.lookup x.1 = some c)
 (hg : ∀ cl C s H fp, PG (AL X N scope cl C s H fp) tg g) (hk : FC g nt) (hc : ∀ cl C s H fp, PTs (AL X N scope cl C s H fp) ifs tc) (he : ∀ cl C s H fp, PE (AL X N scope cl C s H fp) elt te)
 (I : Inv X pins σ H s₂) (T : Iu X.prog X.w X.K tg J fp it tn) (st : tn 0 s₂.heap) (hf : ∀ b ∈ fp, DP X pins H b) (w0 : W 0 [] H) (lw : LcW J nn nt js σ g tc te Fin W)
 (hRR : ∀ D C s' H' zs m, Inv X pins σ (upd H' D (.lst zs)) s' → s'.heap.Ns C m → H' D = none → (upd H' D (.lst zs)) C = none → C ≠ X.env.locals → X.s₀.heap.objs.size ≤ C → (∀ x c, X.env.cells.lookup x = some c → c ≠ C) →
  (∀ p ∈ X.pn ++ pins, p.1 ≠ C) → Fin zs H' → RR (.ref D) C (.ok .next) s') :
 wpAny (model X.prog X.w) X.A (newList []) (fun acc s₃ => wpAny (model X.prog X.w) X.A (newFunctionEnv scope X.env.globals cl [] X.env.qual none .none (some X.env)) (fun cenv s₄ =>
  codeAny (model X.prog X.w) X.A (.compStart (.ListComp elt [⟨tg, iter, ifs, 0⟩] scope pos) 0 (.ref it) acc { cenv with scope := relabel scope X.env }) (RR acc cenv.locals) s₄) E s₃) E s₂ := by
 refine wpAny_newObj_type (wpAny_newFunctionEnv ok.nocell (by intro y hy; simp at hy) (fun h₁ hns₁ hsb₁ => ?_) ok.kind)
 dsimp only at hns₁ hsb₁ ⊢
 generalize hH2 : s₂.heap.push { cls := .type "list", dict := none, data := .seq ([] : List Value).toArray } = H2 at hns₁ hsb₁ ⊢
 have hC : H2.objs.size = s₂.heap.objs.size + 1 := by rw [← hH2, Heap.size_push]
 have hDC : s₂.heap.objs.size ≠ H2.objs.size := by rw [hC]; exact QO (So _)
 have hCle : s₂.heap.objs.size ≤ H2.objs.size := by rw [hC]; exact Sr _
 have below : ∀ b, b < s₂.heap.objs.size → b ≠ H2.objs.size ∧ b ≠ s₂.heap.objs.size := fun b hb => ⟨by rw [hC]; exact QO (Nat.lt_succ_of_lt hb), QO hb⟩
 have old : ∀ b o, s₂.heap.get? b = some o → h₁.get? b = some o := fun b o e => hsb₁.extBut b o (below b (Heap.lt_size e)).1 (Heap.get?_push_of_some _ (hH2 ▸ Heap.get?_push_of_some _ e))
 have hacc : h₁.get? s₂.heap.objs.size = some (Cr []) := hsb₁.extBut _ _ hDC (Heap.get?_push_of_some _ (hH2 ▸ Heap.get?_push_size _ rfl))
 have ho := T.obj 0 _ st
 have lt : ∀ b ∈ fp, b < s₂.heap.objs.size := fun b hb => by obtain ⟨o, e, _⟩ := ho b hb; exact Heap.lt_size e
 have loop : ∀ s₃ : Shared, s₃ = { s₂ with heap := h₁, toks := s₂.toks + ([] : List (Str × Value)).length } →
  codeAny (model X.prog X.w) X.A (.compLoop (.ListComp elt [⟨tg, iter, ifs, 0⟩] scope pos) 0 (.ref it) (.ref s₂.heap.objs.size) (compEnvC scope cl H2.objs.size X.env)) (RR (.ref s₂.heap.objs.size) H2.objs.size) s₃ := by
  rintro s₃ rfl
  have I0 : Inv (AL X N scope cl H2.objs.size s₂ H fp) [(s₂.heap.objs.size, Cr [])] (cS nt js σ) H { s₂ with heap := h₁, toks := s₂.toks + ([] : List (Str × Value)).length } :=
   Ie I ok hcl hcl2 hf ho (R8 _) hCle hDC old hns₁ hacc
  have fpy : ∀ {H' : Hp} {ys : List Value}, (∀ b ∈ fp, H' b = none) → ∀ b ∈ fp, DP (AL X N scope cl H2.objs.size s₂ H fp) [(s₂.heap.objs.size, Cr ys)] H' b := fun {H' ys} hn b hb =>
   ⟨hn b hb, (below b (lt b hb)).1, I0.ok.exfs b hb, .inl hb, (I0.ok.exf b hb).2, fun p hp => by
    have hp' : p ∈ [(s₂.heap.objs.size, Cr ys)] := hp
    have e : p = (s₂.heap.objs.size, Cr ys) := by simpa using hp'
    rw [e]; exact Ne.symm (below b (lt b hb)).2⟩
  refine Ea (fun n s' => ∃ i zs ys H', n = nn - i ∧ i ≤ nn ∧ Inv (AL X N scope cl H2.objs.size s₂ H fp) [(s₂.heap.objs.size, Cr ys)] (cS nt js σ) H' s' ∧ AK zs ys ∧ tn i s'.heap ∧ (∀ b ∈ fp, H' b = none) ∧ W i zs H') ?_ nn
   ⟨0, [], [], H, rfl, Rb _, I0, .nil, T.keep 0 _ _ st (fun b _ o e => old b o e), fun b hb => (hf b hb).1, w0⟩
  rintro n s' ⟨i, zs, ys, H', hn0, hile, I', rv, st', fr', w'⟩
  by_cases hlt : i < nn
  case neg =>
   have hie : i = nn := Nat.le_antisymm hile (Sk.mp hlt)
   rw [hie] at w' st'
   obtain ⟨stop, zl, fin⟩ := lw.stop zs H' w'
   refine thn (T.done (AL X N scope cl H2.objs.size s₂ H fp) rfl rfl rfl hcalm nn _ s' _ H' (fun _ _ => False) I' (fpy fr') st' stop) fun r s4 ⟨hr, I4⟩ => ?_
   subst hr
   have zD := (I4.pin (s₂.heap.objs.size, Cr ys) (Ra _ (Ss.mpr rfl)))
   have u := I4.base
   have u2 : Un (frs X.stack) fp H (upd H' s₂.heap.objs.size (.lst zs)) s₂.heap s4.heap :=
    ⟨u.keep, u.slot, fun b o q n hx => by rw [AB (QO (Heap.lt_size q))]; exact u.free b o q n hx, u.there, fun b xs q => by rw [AB (Az (u.tups b xs q) zD.2.1)]; exact u.tups b xs q,
     fun b o xs q => by rw [AB (Az (u.frzs b o xs q) zD.2.1)]; exact u.frzs b o xs q, fun b ps q => by
      obtain ⟨more, e⟩ := u.tbls b ps q
      exact ⟨more, by rw [AB (Az e zD.2.1)]; exact e⟩⟩
   have hok2 : HOk X.prog X.w (upd H' s₂.heap.objs.size (.lst zs)) s4.heap := HOk.track I4.hok zD.2.1 ⟨zl, ys, _, rv, zD.1⟩
   have I5 : Inv X pins σ (upd H' s₂.heap.objs.size (.lst zs)) s4 := I.call' I4.os u2 hok2 I4.bare fun b hb => ⟨(hf b hb).2.2.2.1, (hf b hb).2.1, (hf b hb).2.2.2.2.1, (hf b hb).2.2.2.2.2⟩
   obtain ⟨m, hn, _⟩ := I4.loc
   refine hRR _ _ s4 H' zs m I5 hn zD.2.1 ?_ ?_ (QU I.sz hCle) ?_ ?_ fin
   ·rw [AB (Ne.symm hDC)]; exact I4.free
   ·exact R7 (QM I.lt hCle)
   ·intro x c e z
    obtain ⟨v, q⟩ := I.cell x c e
    exact absurd (QM q.lt (by rw [z]; exact hCle)) (QN _)
   ·intro p hp z
    exact absurd (QM (Heap.lt_size (I.pin p hp).1) (by rw [z]; exact hCle)) (QN _)
  case pos =>
   obtain ⟨go, zl⟩ := lw.go i zs H' hlt w'
   have step := lw.step i zs H'
   refine thn (T.item (AL X N scope cl H2.objs.size s₂ H fp) rfl rfl rfl hcalm i _ s' _ H' (fun _ _ => False) I' (fpy fr') st' go) fun r s4 ⟨u, hr, h4⟩ => ?_
   subst hr
   refine thn h4 fun _ s5 ⟨x, H5, I5, r5, y5, st5, fr5⟩ => ?_
   have I5' := I5.pinned (fpy fr5) (T.obj _ _ st5)
   refine thn (hg cl _ s₂ H fp _ s5 _ H5 x u _ I5' r5 (hk _ _ _ _ (step x H5 hlt w' y5))) fun _ s6 ⟨σ6, H6, I6, ⟨hl6, hd6⟩, q6⟩ => ?_
   refine thn (hc cl _ s₂ H fp _ s6 σ6 H6 _ I6 q6) fun okb s7 ⟨H7, I7, q7⟩ => ?_
   have frs' : ∀ {H8 : Hp} {σ8 : St} {s8 : Shared}, Inv (AL X N scope cl H2.objs.size s₂ H fp) ([(s₂.heap.objs.size, Cr ys)] ++ Eo fp s5.heap) σ8 H8 s8 → tn (i + 1) s8.heap ∧ ∀ b ∈ fp, H8 b = none := fun {H8 σ8 s8} I8 =>
    ⟨T.keep _ _ _ st5 fun b hb o e => (I8.pin (b, o) (Ra _ (Ra _ (C5 hb e)))).1, fun b hb => by
     obtain ⟨o, e, d⟩ := T.obj _ _ st5 b hb
     exact (I8.pin (b, o) (Ra _ (Ra _ (C5 hb e)))).2.1⟩
   cases okb with
   | false =>
     rw [if_neg Bool.false_ne_true] at q7 ⊢
     obtain ⟨a1, a2⟩ := frs' I7
     exact ⟨nn - (i + 1), by rw [hn0]; exact Su hlt (So i), i + 1, zs, ys, H7, rfl, hlt, I7.unpinned.weak (by rw [hl6]) (EN hl6 hd6), rv, a1, a2, q7⟩
   | true =>
     rw [if_pos rfl] at q7 ⊢
     refine thn (he cl _ s₂ H fp _ s7 σ6 H7 _ I7 q7) fun v s8 ⟨y, H8, I8, r8, q8⟩ => ?_
     have zD := (I8.pin (s₂.heap.objs.size, Cr ys) (Ra _ (R1 _ (Ss.mpr rfl))))
     have ylen : ys.length < sizeLine := by rw [← rv.length]; exact zl
     obtain ⟨a1, a2⟩ := frs' I8
     refine append_at (hsz := by rw [RC]; exact QV ylen) zD.1 fun h9 hs9 hD9 => ?_
     have I8u : Inv (AL X N scope cl H2.objs.size s₂ H fp) [] (cS nt js σ) H8 s8 := (I8.pins_of (pins' := []) fun p hp => nomatch hp).weak (by rw [hl6]) (EN hl6 hd6)
     have I9 : Inv (AL X N scope cl H2.objs.size s₂ H fp) [] (cS nt js σ) H8 { s8 with heap := h9 } := I8u.turned (t' := s8.toks) (it := s₂.heap.objs.size) (fun b o hb e => hs9.extBut b o hb e) zD.2.1 hDC (.inr (R8 _))
      (fun x c e z => by
       obtain ⟨v, q⟩ := I.cell x c (hcl x c e)
       exact absurd (QM q.lt (by rw [z]; exact R8 _)) (QN _)) (fun p hp => nomatch hp)
     refine ⟨nn - (i + 1), by rw [hn0]; exact Su hlt (So i), i + 1, zs ++ [y], ys ++ [v], H8, rfl, hlt, I9.pins_of (fun p hp => ?_), rv.snoc r8, T.keep _ _ _ a1 fun b hb o e => hs9.extBut b o (below b (lt b hb)).2 e, a2, q8⟩
     have e : p = (s₂.heap.objs.size, Cr (ys ++ [v])) := by simpa using hp
     subst e
     refine ⟨?_, zD.2.1, hDC, zD.2.2.2.1, fun v z => by cases z⟩
     rw [hD9]
     show some ({ cls := .type "list", data := .seq (ys.toArray.push v) (ys.length + 1) } : Obj) = some { cls := .type "list", data := .seq (ys ++ [v]).toArray (ys ++ [v]).length }
     rw [Rw, RJ, List.push_toArray]
 exact codeAny_compStart_list (loop _ rfl) (T.self _ 0 _ _ _ (T.keep 0 _ _ st (fun b _ o e => old b o e)) (loop _ rfl))
theorem CD (hcalm : X.calm = true) (ok : AY X N nt js scope) (hi : PI X tg iter wi) (hg : ∀ cl C s H fp, PG (AL X N scope cl C s H fp) tg g) (hk : FC g nt) (hc : ∀ cl C s H fp, PTs (AL X N scope cl C s H fp) ifs tc)
 (he : ∀ cl C s H fp, PE (AL X N scope cl C s H fp) elt te) (hs : ∀ x, foldedSetIterable iter X.env x = pure x := by intro _; rfl) : PE X (.ListComp elt [⟨tg, iter, ifs, 0⟩] scope pos) (tLC wi nt js g tc te) := by
 intro pins s σ H Q I h
 obtain ⟨cl, hclos, hcl, hcl2⟩ := CI (scope := scope) (env := X.env) fun x hx hf => I.ok.has x.1 (ok.free x hx hf)
 rw [eval_ListComp]
 refine wpAny_comprehension_free (use := none) rfl hs hclos ok.kind ok.names ?_
 refine thn (hi pins s σ H _ I (Le h)) fun v s1 h1 => thn h1 fun itv s2 h2 => ?_
 obtain ⟨it, fp, tn, J, H2, e, I2, T, st2, f2, nn, W, w0, lw⟩ := h2
 subst e
 refine Ik (RR := fun acc C => compPost (model X.prog X.w) X.A X.xe none (EP X pins σ Q) acc C) hcalm ok hcl hcl2 hg hk hc he I2 T st2 f2 w0 lw ?_
 intro D C s' H' zs m I3 hn hDn hCn hCL hC0 hCc hCp fin
 exact ⟨m, hn, fun h'' hs'' => ⟨.ref D, _, I3.turned (t' := s'.toks) (it := C) (fun b o hb e => hs''.extBut b o hb e) hCn hCL (.inr hC0) hCc hCp, rfl, fin D hDn⟩⟩
theorem Jh {i : Nat} {y : Str} {py spos : Pos} (hcalm : X.calm = true) (hN : X.N.Nodup) (hi' : X.N[i]? = some y) (hy : X.env.kindOf y = some .local) (ok : AY X N nt js scope) (hi : PI X tg iter wi) (hg : ∀ cl C s H fp, PG (AL X N scope cl C s H fp) tg g) (hk : FC g nt)
 (hc : ∀ cl C s H fp, PTs (AL X N scope cl C s H fp) ifs tc) (he : ∀ cl C s H fp, PE (AL X N scope cl C s H fp) elt te)
 (hsw : swapsWith (.ListComp elt [⟨tg, iter, ifs, 0⟩] scope pos) (some (.Name y py)) spos.line X.env = pure true) (hs : ∀ x, foldedSetIterable iter X.env x = pure x := by intro _; rfl) :
 PS X (.Assign [.Name y py] (.ListComp elt [⟨tg, iter, ifs, 0⟩] scope pos) spos) (IC (tLC wi nt js g tc te) (BW i)) := by
 intro pins s σ H D₀ I h
 obtain ⟨cl, hclos, hcl, hcl2⟩ := CI (scope := scope) (env := X.env) fun x hx hf => I.ok.has x.1 (ok.free x hx hf)
 rw [exec_Assign_Name_used _ _ _ _ hsw]
 refine wpAny_bind (wpAny_standAt (wpAny_bind ?_))
 show wpAny _ X.A (do let _ ← comprehension (.ListComp elt [⟨tg, iter, ifs, 0⟩] scope pos) scope X.env _ (newList []) false (eval iter X.env) (some (assign (.Name y py) X.env))) _ _ s
 refine wpAny_bind (wpAny_mono (wpAny_comprehension_free (use := some (assign (.Name y py) X.env)) (Q := fun _ s' => SP X pins D₀ .next s') rfl hs hclos ok.kind ok.names
  (thn (hi pins s σ H _ I (Le (show tLC wi nt js g tc te σ H fun x H1 => BW i x σ H1 D₀.nx from h))) fun v s1 h1 => thn h1 fun itv s2 h2 => ?_)) (fun _ s' hq => wpAny_pure (wpAny_pure hq)) fun _ _ e => e)
 obtain ⟨it, fp, tn, J, H2, e, I2, T, st2, f2, nn, W, w0, lw⟩ := h2
 subst e
 refine Ik (RR := fun acc C => compPost (model X.prog X.w) X.A X.xe (some (assign (.Name y py) X.env)) (fun _ s' => SP X pins D₀ .next s') acc C) hcalm ok hcl hcl2 hg hk hc he I2 T st2 f2 w0 lw ?_
 intro D C s' H' zs m I3 hn hDn hCn hCL hC0 hCc hCp fin
 show wpAny _ X.A (assign (.Name y py) X.env (.ref D)) _ _ _
 refine wpAny_assign_Name (Eh (v := .ref D) I3 hN hi' (.inl hy) rfl (fun s3 I4 hsb => ?_) (.inr hy))
 obtain ⟨a, hsb, ha⟩ := hsb
 have haC : C ≠ a := by
  rcases ha with z | z
  ·rw [z]; exact hCL
  ·exact Ne.symm (hCc y a z)
 refine ⟨m, hn.sameBut hsb haC, fun h'' hs'' => ?_⟩
 exact ⟨_, _, I4.turned (t' := s3.toks) (it := C) (fun b o hb e => hs''.extBut b o hb e) hCn hCL (.inr hC0) hCc hCp, fin D hDn⟩
end
end L2
namespace L2
open PySem PySem.Spec PyProof.Rows
def Bd (n : Nat) (x : Int) : Prop := x.natAbs < 2 ^ n
theorem Bd.bits {n : Nat} {x : Int} (h : Bd n x) : Builtin.Int.intBits x ≤ n := PySem.intBits_le_iff.mpr h
def LP (i j : Int) : Prop := ∃ m n, Bd m i ∧ Bd n j ∧ m + n ≤ 134217728
theorem LP.ok {i j : Int} (h : LP i j) : IntMulOk i j := by
 obtain ⟨m, n, h1, h2, h3⟩ := h
 exact PySem.IntMulOk.of_le h1.bits h2.bits h3
section
variable {X : Cx}
theorem Bv {k : Nat} (hr : C7 k X.A) (hT : X.prog.given.tree = none) (hk : 32 ≤ k := by decide)
 (hst : ∃ (env : Env) (l : List Env), X.stack = env :: l ∧ env.scope.isGenerator = false ∧ env.scope.isCoroutine = false ∧ env.builtins = builtinsNs ∧ env.globals = mainGlobals := by exact ⟨_, _, rfl, rfl, rfl, rfl, rfl⟩) :
 OpR X (binaryOp .FloorDiv) (rI (fun _ j => j ≠ 0) fun i j => .int (i.fdiv j)) := by
 intro pins s σ H x y v u Q I rx ry h
 obtain ⟨i, j, rfl, rfl, hc, q⟩ := h
 obtain ⟨t, rfl⟩ := rx
 obtain ⟨t', rfl⟩ := ry
 obtain ⟨env, l, e1, e2, e3, e4, e5⟩ := hst
 have hd : X.A.depth + Builtin.pylongFrames < recursionLimit := by
  have := hr.dp
  have e : Builtin.pylongFrames ≤ 101 := by decide
  lia
 refine floordiv_int hc ⟨.int (i.fdiv j), H, I.tok _, ⟨_, rfl⟩, q⟩ (.inr (PySem.PylongRoom.of I.nolimit hd (PySem.SeerAt.of (I.ok.mod.seer.keeps I.bk) hT (by rw [I.ok.frames, e1]) e2 e3 e4 e5)))
end
structure Fd (P : Program) (w : World) (K : QT) (mg : Str → Option Value) (base : Heap) (n : Nat) (x : Str) (ps : List Str) (sp : Sp) : Prop where
 ex : ∃ (f : Addr) (fd : FuncData), AI P w K mg base CX0 n f fd ps sp ∧ CH K fd ps [] ∧ Rg K (.ref f) = true ∧ mg x = some (.ref f)
theorem Am {X : Cx} {n k : Nat} {x : Str} {ps : List Str} {sp : Sp} {e : Expr} {es : List Expr} {t : TA} {p pos : Pos} (F : Fd X.prog X.w X.K X.mg X.base n x ps sp) (hr : C7 k X.A) (hg : Gl X x) (ha : PA X (e :: es) t) (hn : n ≤ k := by decide)
 (hdb : (x == ("__debug__" : Str)) = false := by decide) (he : starEach (e :: es) X.env = (false, eval e X.env) :: starEach es X.env := by rfl) (hpl : (backTo pos (starEach es X.env)).any (·.1) = false := by rfl) :
 PE X (.Call (.Name x p) (e :: es) [] pos) (G9 sp [] E0 t) := by
 obtain ⟨f, fd, F1, F2, F3, F4⟩ := F.ex
 exact Jk F1 (hr.mono hn) hg F4 F3 F2 .nil Od ha hdb he hpl
inductive Rds (K : QT) (H : Hp) : V → PyData → Prop where
 | non : Rds K H .non .none
 | bl (b : Bool) : Rds K H (.bl b) (.bool b)
 | int (i : Int) : Rds K H (.int i) (.int i)
 | str (x : Str) : Rds K H (.str x) (.str x)
 | lst {a : Addr} {xs : List V} {ds : List PyData} : SqL K H a xs → xs.length = ds.length → (∀ (i : Nat) x d, xs[i]? = some x → ds[i]? = some d → Rds K H x d) → Rds K H (.ref a) (.list ds)
 | tup {a : Addr} {xs : List V} {ds : List PyData} : SqT K H a xs → xs.length = ds.length → (∀ (i : Nat) x d, xs[i]? = some x → ds[i]? = some d → Rds K H x d) → Rds K H (.ref a) (.tuple ds)
theorem Di {h : Heap} : ∀ {us : List Value} {xs : List V} {ds : List PyData}, AK xs us → xs.length = ds.length → (∀ (i : Nat) x d u, xs[i]? = some x → ds[i]? = some d → Bh x u → ∃ as, Reads h u d as) → ∃ as, ReadsAll h us ds as
 | [], _, [], .nil, _, _ => ⟨[], .nil⟩
 | [], _, _ :: _, .nil, hl, _ => by simp at hl
 | _ :: _, _, [], .cons _ _, hl, _ => by simp at hl
 | u :: us, x :: xs, d :: ds, .cons r t, hl, hr => by
   obtain ⟨a1, r1⟩ := hr 0 x d u rfl rfl r
   obtain ⟨a2, r2⟩ := Di (us := us) (xs := xs) (ds := ds) t (by simpa using hl) fun i x' d' u' e1 e2 q => hr (i + 1) x' d' u' (by simpa using e1) (by simpa using e2) q
   exact ⟨_, .cons r1 r2⟩
theorem DV {X : Cx} {pins : List (Addr × Obj)} {σ : St} {H : Hp} {s : Shared} (I : Inv X pins σ H s) {x : V} {d : PyData} (r : Rds X.K H x d) : ∀ {u : Value}, Bh x u → ∃ as, Reads s.heap u d as := by
 induction r with
 | non => intro u ru; cases ru; exact ⟨_, .none⟩
 | bl b => intro u ru; cases ru; exact ⟨_, .bool b⟩
 | int i => intro u ru; obtain ⟨t, rfl⟩ := ru; exact ⟨_, .int i t⟩
 | str z => intro u ru; obtain ⟨t, rfl⟩ := ru; exact ⟨_, .str z t⟩
 | lst q hl _ ih =>
   intro u ru
   cases ru
   obtain ⟨its, rv, ⟨o, n, e, c, _, dd⟩, _⟩ := I.list q
   obtain ⟨as, ra⟩ := Di rv hl fun i x d u e1 e2 rr => ih i x d e1 e2 rr
   exact ⟨_, .list e c dd (by simpa using ra)⟩
 | tup q hl _ ih =>
   intro u ru
   cases ru
   obtain ⟨its, rv, ⟨o, e, c, n, dd⟩, _⟩ := I.tuple q
   obtain ⟨as, ra⟩ := Di rv hl fun i x d u e1 e2 rr => ih i x d e1 e2 rr
   exact ⟨_, .tuple e c dd (by simpa using ra)⟩
section
variable {X : Cx}
@[irreducible] def FN (K : QT) (neg : Bool) : R2 := fun x y H Q => ∃ d e, Rds K H x d ∧ Rds K H y e ∧ SeqAt.shaped d = true ∧ SeqAt.shaped e = true ∧ Q (.bl (if neg then !PyData.eqv d e else PyData.eqv d e)) H
theorem Ls {K : QT} {neg : Bool} {x y : V} {H : Hp} {Q : VK} (h : ∃ d e, Rds K H x d ∧ Rds K H y e ∧ SeqAt.shaped d = true ∧ SeqAt.shaped e = true ∧ Q (.bl (if neg then !PyData.eqv d e else PyData.eqv d e)) H) : FN K neg x y H Q := by
 unfold FN; exact h
theorem Nj (hu : X.A.units + 64 < cLine) : OpR X (compareOp .Eq) (FN X.K false) := by
 intro pins s σ H x y v u Q I rx ry h
 unfold FN at h
 obtain ⟨d, e, r1, r2, h1, h2, q⟩ := h
 obtain ⟨as, q1⟩ := DV I r1 rx
 obtain ⟨bs, q2⟩ := DV I r2 ry
 exact SeqAt.compareEq_shaped q1 q2 h1 h2 hu ⟨.bl _, H, I, rfl, q⟩
theorem Ni (hu : X.A.units + 64 < cLine) : OpR X (compareOp .NotEq) (FN X.K true) := by
 intro pins s σ H x y v u Q I rx ry h
 unfold FN at h
 obtain ⟨d, e, r1, r2, h1, h2, q⟩ := h
 obtain ⟨as, q1⟩ := DV I r1 rx
 obtain ⟨bs, q2⟩ := DV I r2 ry
 exact SeqAt.compareNe_shaped q1 q2 h1 h2 hu ⟨.bl _, H, I, rfl, q⟩
end
end L2
namespace L2
open PySem PySem.Spec PyProof.Rows
theorem AJ : bootBuiltins "len" = some (.builtin "len") := by decide +kernel
theorem Hy : bootBuiltins "abs" = some (.builtin "abs") := by decide +kernel
theorem AM : bootBuiltins "isinstance" = some (.builtin "isinstance") := by decide +kernel
theorem NL : bootBuiltins "max" = some (.builtin "max") := by decide +kernel
theorem NK : bootBuiltins "min" = some (.builtin "min") := by decide +kernel
theorem NJ : bootBuiltins "sum" = some (.builtin "sum") := by decide +kernel
theorem JH : bootBuiltins "list" = some (.type "list") := by decide +kernel
theorem Fz : bootBuiltins "tuple" = some (.type "tuple") := by decide +kernel
theorem NM : bootBuiltins "int" = some (.type "int") := by decide +kernel
theorem Im : bootBuiltins "reversed" = some (.type "reversed") := by decide +kernel
def Fx (H : Hp) (L : List (Addr × HO)) : Prop := ∀ p ∈ L, H p.1 = some p.2
def Mv (a : Addr) (H H' : Hp) : Prop := ∀ b o, b ≠ a → H b = some o → H' b = some o
theorem Mv.trans {a : Addr} {H H1 H2 : Hp} (x : Mv a H H1) (y : Mv a H1 H2) : Mv a H H2 := fun b o n h => y b o n (x b o n h)
theorem Mv.new {a p : Addr} {H : Hp} {o : HO} (h : H p = none) : Mv a H (upd H p o) := fun b u _ q => by rw [AB (Az q h)]; exact q
theorem JK {ns : List Int} {k : Int} (h0 : 0 ≤ k) (h : k < (ns.length : Int)) : ∃ v : Int, atI (ns.map V.int) k = some (.int v) := by
 have hk : k.toNat < ns.length := by lia
 have ek : k = ((k.toNat : Nat) : Int) := by lia
 have q : atI (ns.map V.int) ((k.toNat : Nat) : Int) = some (.int ns[k.toNat]) := AA (by rw [Ru, Sv hk] <;> rfl)
 rw [← ek] at q
 exact ⟨_, q⟩
def nT (q : Rat) : HO := .tup [.int q.num, .int q.den]
def Pen (H : Hp) (a : Addr) : Prop := ∃ c0 c1 c2 : Int, H a = some (.lst [.int c0, .int c1, .int c2])
theorem Pen.same {H : Hp} {a p : Addr} {o : HO} (x : Pen H a) (h : H p = none) : Pen (upd H p o) a := by
 obtain ⟨c0, c1, c2, e⟩ := x
 exact ⟨c0, c1, c2, by rw [AB (Az e h)]; exact e⟩
theorem Pen.put {H : Hp} {a : Addr} {c0 c1 c2 : Int} : Pen (upd H a (.lst [.int c0, .int c1, .int c2])) a := ⟨c0, c1, c2, Ad⟩
def Bj (i j : Int) : Prop := (-(2 ^ 64) < i ∧ i < 2 ^ 64) ∨ (-(2 ^ 64) < j ∧ j < 2 ^ 64) ∨ LP i j
theorem Bj.ok {i j : Int} (h : Bj i j) : IntMulOk i j := by
 rcases h with ⟨h1, h2⟩ | ⟨h1, h2⟩ | h
 ·exact .of_left (intBits_le_64 h1 h2)
 ·exact .of_right (intBits_le_64 h1 h2)
 ·exact h.ok
theorem Ap {X : Cx} : OpR X (binaryOp .Mult) (rI Bj fun i j => .int (i * j)) := opI fun _ _ _ _ _ _ _ hc q => mul_int q hc.ok
def FE (a : Addr) (H H' : Hp) : Prop := ∀ b, b ≠ a → H' b = H b
theorem FE.mv {a : Addr} {H H' : Hp} (x : FE a H H') : Mv a H H' := fun b o n h => by rw [x b n]; exact h
theorem FE.put {a : Addr} {H : Hp} {o : HO} : FE a H (upd H a o) := fun b n => AB n
theorem Pen.ne {H : Hp} {a p : Addr} {o : HO} (x : Pen H a) (h : H p = some o) (hd : ∀ c0 c1 c2 : Int, o ≠ .lst [.int c0, .int c1, .int c2]) : p ≠ a := by
 obtain ⟨c0, c1, c2, e⟩ := x
 exact HY h e (hd c0 c1 c2)
structure Lg (a : Addr) (H : Hp) (L : List (Addr × HO)) : Prop where
 fx : Fx H L
 ne : ∀ x ∈ L, x.1 ≠ a
 pen : Pen H a
theorem Mx {xs : List Int} {i : Int} (h0 : 0 ≤ i) (h : i < (xs.length : Int)) : ∃ v : Int, atI (xs.map V.int) i = some (.int v) ∧ v ∈ xs := by
 have hk : i.toNat < xs.length := by lia
 have ek : i = ((i.toNat : Nat) : Int) := by lia
 have q : atI (xs.map V.int) ((i.toNat : Nat) : Int) = some (.int xs[i.toNat]) := AA (by rw [Ru, Sv hk] <;> rfl)
 rw [← ek] at q
 exact ⟨_, q, Sw hk⟩
theorem Kv {K : QT} {H : Hp} {a p : Addr} {xs : List V} {o : HO} (hS : SqL K H a xs) (hp : H p = none) : SqL K (upd H p o) a xs := by
 have st : ∀ u, H a = some u → upd H p o a = some u := fun u e => by rw [AB (Az e hp)]; exact e
 rcases hS with (h | ⟨o, h⟩) | h
 ·exact .inl (.inl (st _ h))
 ·exact .inl (.inr ⟨o, st _ h⟩)
 ·exact .inr h
inductive Ej (vs : List V) (H : Hp) (Q : VK) (E_3 : XK) : Prop
 | mk (a : Addr) (m : Int) (h1 : vs = [.ref a, .int m]) (h2 : Pen H a) (h3 : 1 ≤ m) (h4 : m < 1073741824) (h5 : ∀ (d : Int) (H' : Hp), 0 ≤ d → d < m → FE a H H' → Pen H' a → Q (.int d) H') : Ej vs H Q E_3
inductive Kx (K : QT) (vs : List V) (H : Hp) (Q : VK) (E_3 : XK) : Prop
 | mk (a : Addr) (ns : List Int) (k : Int) (h1 : vs = [.ref a, .int k]) (h2 : SqL K H a (ns.map V.int)) (h3 : ns.length ≤ 63) (h4 : 0 ≤ k) (h5 : k < 2 ^ 62) (h6 : ∀ (p : Addr) (c0 c1 : Int), H p = none → Q (.ref p) (upd H p (.lst [.int c0, .int c1, .int 0]))) : Kx K vs H Q E_3
inductive Cm (vs : List V) (H : Hp) (Q : VK) (E_3 : XK) : Prop
 | mk (t b : Int) (h1 : vs = [.int t, .int b]) (h2 : b ≠ 0) (h3 : ∀ p, H p = none → Q (.ref p) (upd H p (nT (RS t b)))) : Cm vs H Q E_3
inductive Jc (vs : List V) (H : Hp) (Q : VK) (E_3 : XK) : Prop
 | mk (a b : Int) (h1 : vs = [.int a, .int b]) (h2 : Q (.int (RO a b)) H) : Jc vs H Q E_3
inductive Jb (n : Nat) (vs : List V) (H : Hp) (Q : VK) (E_3 : XK) : Prop
 | mk (a : _) (h1 : vs = [.ref a]) (h2 : Pen H a) (h3 : ∀ (q : Rat) (r : Addr) (H' : Hp), Mv a H H' → Pen H' a → H' r = some (nT q) → Bd n q.num → Bd n q.den → Q (.ref r) H') : Jb n vs H Q E_3
inductive HK (K : QT) (vs : List V) (H : Hp) (Q : VK) (E_3 : XK) : Prop
 | mk (a : Addr) (ns : List Int) (h1 : vs = [.ref a]) (h2 : SqL K H a (ns.map V.int)) (h3 : ns.length ≤ 63) (h4 : ∀ H', Q (.bl true) H') : HK K vs H Q E_3
def mu (i : Nat) (σ : St) : Nat := match σ[i]? with | some (some (.int y)) => y.toNat | _ => 0
theorem Bd.mono {m n : Nat} {x : Int} (h : Bd m x) (hmn : m ≤ n) : Bd n x := QM h (Sx (by decide) hmn)
theorem Bd.num {n : Nat} {t b : Int} (h : Bd n t) : Bd n (RS t b).num := by
 unfold Bd at *
 by_cases hb : b = 0
 ·subst hb; simp; exact RP (by simp)
 ·rw [← Nm.top_msr hb]
  exact RN (PySem.natAbs_fdiv_le t _) h
theorem Bd.den {n : Nat} {t b : Int} (hb : b ≠ 0) (h : Bd n b) : Bd n (RS t b).den := by
 unfold Bd at *
 rw [← Nm.bottom_msr hb]
 exact RN (PySem.natAbs_fdiv_le b _) h
end L2
namespace L2
open PySem PySem.Spec PyProof.Rows
def Gx (K : QT) (a : Addr) (xs : List V) : It :=
 ⟨fun i H => SqL K H a xs ∧ i < xs.length, fun i H x H' => H' = H ∧ xs[xs.length - 1 - i]? = some x, fun i _ => xs.length = i⟩
theorem Km {P : Program} {w : World} {K : QT} {tg : Expr} (a it : Addr) (xs : List V) : Iu P w K tg (Gx K a xs) [it] it (fun i h => i ≤ xs.length ∧ h.IsRevIter it a ((xs.length : Int) - 1 - (i : Int))) where
 mem := by simp
 obj := fun i h st b hb => by
  have e : b = it := by simpa using hb
  subst e
  obtain ⟨_, o, e, c, d⟩ := st
  exact ⟨o, e, fun v z => by rw [d] at z; cases z⟩
 keep := fun i h h' st k => ⟨st.1, st.2.at fun o e => k it (by simp) o e⟩
 item := by
  intro X hP hw hK hc i pins s σ H E I hf st hg
  subst hP hw hK
  obtain ⟨hq, hi⟩ := hg
  obtain ⟨its, rv, p, hz⟩ := I.list hq
  have hl := rv.length
  have hx : xs[xs.length - 1 - i]? = some (xs[xs.length - 1 - i]'(by lia)) := Sv (by lia)
  obtain ⟨u, hu, ru⟩ := rv.get hx
  obtain ⟨f0, f1, f2, f3, f4, f5⟩ := hf it (by simp)
  have e : (xs.length : Int) - 1 - (i : Int) = ((xs.length - 1 - i : Nat) : Int) := by lia
  have st2 := st.2
  rw [e] at st2
  refine wpAny_pyNext_rev_item st2 p.isList (x := u) (by simpa using hu) fun h' st' sb => ?_
  have I1 : Inv X pins σ H { s with heap := h' } := I.turned (t' := s.toks) (fun b o hb e => (sb.2 b hb).trans e) f0 f1 f3 f4 f5
  obtain ⟨o, e', c, d⟩ := id st'
  have e2 : ((xs.length - 1 - i : Nat) : Int) - 1 = (xs.length : Int) - 1 - ((i + 1 : Nat) : Int) := by lia
  rw [e2] at st'
  exact ⟨u, rfl, Gk (s := { s with heap := h' }) e' c d (by decide) ⟨_, H, I1, ru, ⟨rfl, hx⟩, ⟨hi, st'⟩, fun b hb => (hf b hb).1⟩⟩
 done := by
  intro X hP hw hK hc i pins s σ H E I hf st hg
  subst hP hw hK
  obtain ⟨f0, f1, f2, f3, f4, f5⟩ := hf it (by simp)
  have hg' : xs.length = i := hg
  have st2 := st.2
  rw [show (xs.length : Int) - 1 - (i : Int) = -1 by lia] at st2
  exact wpAny_pyNext_rev_end (I.ok.hd hc) st2 fun h' eb => ⟨rfl, I.turned (t' := s.toks) (fun b o hb e => eb b o hb e) f0 f1 f3 f4 f5⟩
 self := fun _ _ _ _ _ st h => wpAny_pyIter_revIter st.2 h
section
variable {X : Cx} {tg : Expr}
def Ol (K : QT) (tl : TE) : TI := fun σ H R => tl σ H fun x H1 => ∃ v, [x] = [v] ∧ ∃ a xs, v = .ref a ∧ SqL K H1 a xs ∧ R (Gx K a xs) H1
theorem N9 {l : Expr} {tl : TE} {p pos : Pos} (hg : Gl X "reversed") (hm : X.mg "reversed" = none) (hl : PE X l tl) (hs : starEach [l] X.env = [(false, eval l X.env)] := by rfl) : PI X tg (.Call (.Name "reversed" p) [l] [] pos) (Ol X.K tl) := by
 intro pins s σ H R I h
 have ha : PA X [l] (BV tl FH) := Aa hl Ac (by rw [hs]; rfl)
 refine Call_ (DM I hg hm Im (PyProof.Rows.callWith_type1 (thn (ha pos pins s σ H (fun vs H1 => ∃ x, vs = [x] ∧ ∃ a xs, x = .ref a ∧ SqL X.K H1 a xs ∧ R (Gx X.K a xs) H1) I h) fun us s1 ⟨vs, H1, I1, r1, q1⟩ => ?_) hs rfl))
 obtain ⟨x, e0, a, xs, e, hq, q⟩ := q1
 subst e0
 subst e
 cases r1 with
 | cons r rr =>
   cases rr
   cases r
   obtain ⟨its, rv, p, hz⟩ := I1.list hq
   refine call_reversed_list p.isList ?_
   have I2 : Inv X pins σ H1 { s1 with heap := s1.heap.push (revObj a ((its.toArray.size : Int) - 1)) } := I1.kept (t' := s1.toks) fun b o e => Heap.get?_push_of_some _ e
   have st : ({ s1 with heap := s1.heap.push (revObj a ((its.toArray.size : Int) - 1)) } : Shared).heap.IsRevIter s1.heap.objs.size a ((xs.length : Int) - 1 - ((0 : Nat) : Int)) := by
    refine ⟨_, Heap.get?_push_size _ rfl, rfl, ?_⟩
    have e : ((its.toArray.size : Nat) : Int) - 1 = (xs.length : Int) - 1 - ((0 : Nat) : Int) := by rw [RC, ← rv.length]; simp
    show Data.fields #[.ref a, rawInt _] = _
    rw [e]
   refine wpAny_pyIter_revIter st ?_
   refine ⟨s1.heap.objs.size, [s1.heap.objs.size], _, _, H1, rfl, I2, Km a _ xs, ⟨Rb _, st⟩, fun b hb => ?_, q⟩
   have e : b = s1.heap.objs.size := by simpa using hb
   subst e
   exact I1.fpOk (R8 _) (I1.hok.fresh (R8 _))
end
theorem Jy {K : QT} {a : Addr} {xs : List V} {g : TG} {tb : TS} {D : CZ} {σ : St} {H : Hp} (Pv : Nat → St → Hp → Prop) (h0 : Pv 0 σ H) (hl : ∀ i σ H, i ≤ xs.length → Pv i σ H → SqL K H a xs)
 (hs : ∀ i x σ H, i < xs.length → xs[xs.length - 1 - i]? = some x → Pv i σ H → g x σ H fun σ2 H2 => tb { D with nx := Pv (i + 1), ct := Pv (i + 1), bk := D.nx } σ2 H2) (hd : ∀ σ H, Pv xs.length σ H → D.nx σ H) :
 ∃ W : Nat → Nat → St → Hp → Prop, (∃ m, W 0 m σ H) ∧ ∀ i m σ H, W i m σ H →
   ((Gx K a xs).stop i H ∧ D.nx σ H) ∨ ((Gx K a xs).go i H ∧ ∃ N : St → Hp → Prop, (∀ σ' H', N σ' H' → ∃ m', m' < m ∧ W (i + 1) m' σ' H') ∧ ∀ x H', (Gx K a xs).yld i H x H' → g x σ H' fun σ2 H2 => tb { D with nx := N, ct := N, bk := D.nx } σ2 H2) := by
 refine ⟨fun i m σ H => m = xs.length - i ∧ i ≤ xs.length ∧ Pv i σ H, ⟨xs.length, by simp, Rb _, h0⟩, ?_⟩
 rintro i m σ H ⟨rfl, hi, p⟩
 have q := hl i σ H hi p
 by_cases hlt : i < xs.length
 ·refine .inr ⟨⟨q, hlt⟩, Pv (i + 1), fun σ' H' p' => ⟨xs.length - (i + 1), by lia, rfl, hlt, p'⟩, fun x H' y => ?_⟩
  obtain ⟨e, y⟩ := y
  subst e
  exact hs i x σ _ hlt y p
 ·have e : i = xs.length := by lia
  subst e
  exact .inl ⟨rfl, hd σ H p⟩
end L2
namespace L2
open PySem PySem.Spec PyProof.Rows
theorem SqT.same {K : QT} {H H' : Hp} {a : Addr} {xs : List V} (h : SqT K H a xs) (e : Ag H H') : SqT K H' a xs := by
 rcases h with (h | ⟨o, h⟩) | h
 ·exact .inl (.inl (e _ _ h))
 ·exact .inl (.inr ⟨o, e _ _ h⟩)
 ·exact .inr h
theorem Ag.new {H : Hp} {p : Addr} {o : HO} (h : H p = none) : Ag H (upd H p o) := fun b u q => by rw [AB (Az q h)]; exact q
theorem Ag.mv {H H' : Hp} {a : Addr} (h : Ag H H') : Mv a H H' := fun b o _ q => h b o q
theorem Paired.get {α β : Type} {F : α → β → Prop} : ∀ {l₁ : List α} {l₂ : List β} {i : Nat} {a : α}, Paired F l₁ l₂ → l₁[i]? = some a → ∃ b, l₂[i]? = some b ∧ F a b
 | _, _, _, _, .nil, e => by simp at e
 | _, _, 0, _, .cons h _, e => by simp at e; subst e; exact ⟨_, rfl, h⟩
 | _, _, i + 1, _, .cons _ t, e => by
   obtain ⟨b, h1, h2⟩ := Paired.get (i := i) t (by simpa using e)
   exact ⟨b, by simpa using h1, h2⟩
theorem Paired.get' {α β : Type} {F : α → β → Prop} : ∀ {l₁ : List α} {l₂ : List β} {i : Nat} {b : β}, Paired F l₁ l₂ → l₂[i]? = some b → ∃ a, l₁[i]? = some a ∧ F a b
 | _, _, _, _, .nil, e => by simp at e
 | _, _, 0, _, .cons h _, e => by simp at e; subst e; exact ⟨_, rfl, h⟩
 | _, _, i + 1, _, .cons _ t, e => by
   obtain ⟨b, h1, h2⟩ := Paired.get' (i := i) t (by simpa using e)
   exact ⟨b, by simpa using h1, h2⟩
theorem Paired.take {α β : Type} {F : α → β → Prop} : ∀ {l₁ : List α} {l₂ : List β} (n : Nat), Paired F l₁ l₂ → Paired F (l₁.take n) (l₂.take n)
 | _, _, 0, _ => by simp; exact .nil
 | _, _, _ + 1, .nil => .nil
 | _, _, n + 1, .cons h t => .cons h (Paired.take n t)
def Au (K : QT) (H : Hp) (x : V) (q : Rat) : Prop := ∃ r, x = .ref r ∧ SqT K H r [.int q.num, .int q.den]
abbrev AS (K : QT) (H : Hp) : List V → List Rat → Prop := Paired (Au K H)
theorem Au.of {K : QT} {H : Hp} {r : Addr} {q : Rat} (h : H r = some (nT q)) : Au K H (.ref r) q := ⟨r, rfl, SqT.of h⟩
theorem Au.same {K : QT} {H H' : Hp} {x : V} {q : Rat} (h : Au K H x q) (e : Ag H H') : Au K H' x q := by
 obtain ⟨r, rfl, h⟩ := h
 exact ⟨r, rfl, h.same e⟩
theorem AS.same {K : QT} {H H' : Hp} {xs : List V} {qs : List Rat} (h : AS K H xs qs) (e : Ag H H') : AS K H' xs qs := Paired.mapP h fun _ _ z => z.same e
theorem SqT.mv {K : QT} {H H' : Hp} {a p : Addr} {xs : List V} (h : SqT K H a xs) (pn : Pen H p) (m : Mv p H H') : SqT K H' a xs := by
 obtain ⟨c0, c1, c2, e⟩ := pn
 rcases h with (h | ⟨o, h⟩) | h
 ·exact .inl (.inl (m _ _ (HY h e (fun z => by cases z)) h))
 ·exact .inl (.inr ⟨o, m _ _ (HY h e (fun z => by cases z)) h⟩)
 ·exact .inr h
theorem Au.mv {K : QT} {H H' : Hp} {x : V} {q : Rat} {p : Addr} (h : Au K H x q) (pn : Pen H p) (m : Mv p H H') : Au K H' x q := by
 obtain ⟨r, rfl, h⟩ := h
 exact ⟨r, rfl, h.mv pn m⟩
theorem AS.mv {K : QT} {H H' : Hp} {xs : List V} {qs : List Rat} {p : Addr} (h : AS K H xs qs) (pn : Pen H p) (m : Mv p H H') : AS K H' xs qs := Paired.mapP h fun _ _ z => z.mv pn m
theorem SqT.put {K : QT} {H : Hp} {a p : Addr} {xs ys : List V} {o : HO} (h : SqT K H a xs) (hp : H p = some (.lst ys)) : SqT K (upd H p o) a xs := by
 rcases h with (h | ⟨u, h⟩) | h
 ·exact .inl (.inl (by rw [AB (HY h hp (fun z => by cases z))]; exact h))
 ·exact .inl (.inr ⟨u, by rw [AB (HY h hp (fun z => by cases z))]; exact h⟩)
 ·exact .inr h
theorem Au.put {K : QT} {H : Hp} {x : V} {q : Rat} {p : Addr} {ys : List V} {o : HO} (h : Au K H x q) (hp : H p = some (.lst ys)) : Au K (upd H p o) x q := by
 obtain ⟨r, rfl, h⟩ := h
 exact ⟨r, rfl, h.put hp⟩
theorem AS.put {K : QT} {H : Hp} {xs : List V} {qs : List Rat} {p : Addr} {ys : List V} {o : HO} (h : AS K H xs qs) (hp : H p = some (.lst ys)) : AS K (upd H p o) xs qs := Paired.mapP h fun _ _ z => z.put hp
def Crv (K : QT) (H : Hp) (r : Addr) (qs : List Rat) : Prop := ∃ xs, SqT K H r xs ∧ AS K H xs qs
theorem Crv.same {K : QT} {H H' : Hp} {r : Addr} {qs : List Rat} (h : Crv K H r qs) (e : Ag H H') : Crv K H' r qs := let ⟨xs, a, b⟩ := h; ⟨xs, a.same e, b.same e⟩
theorem Crv.mv {K : QT} {H H' : Hp} {r p : Addr} {qs : List Rat} (h : Crv K H r qs) (pn : Pen H p) (m : Mv p H H') : Crv K H' r qs := let ⟨xs, a, b⟩ := h; ⟨xs, a.mv pn m, b.mv pn m⟩
def nD (q : Rat) : PyData := .tuple [.int q.num, .int q.den]
theorem Au.rds {K : QT} {H : Hp} {x : V} {q : Rat} (h : Au K H x q) : Rds K H x (nD q) := by
 obtain ⟨r, rfl, h⟩ := h
 refine .tup h rfl fun i x d e1 e2 => ?_
 match i with
 | 0 => simp at e1 e2; subst e1; subst e2; exact .int _
 | 1 => simp at e1 e2; subst e1; subst e2; exact .int _
 | i + 2 => simp at e1
theorem KZ (p q : Rat) : PyData.eqv (nD p) (nD q) = decide (p = q) := by
 show (p.num == q.num && (((p.den : Int) == (q.den : Int)) && true)) = _
 rw [Bool.and_true, Bool.eq_iff_iff]
 simp only [Bool.and_eq_true, beq_iff_eq, decide_eq_true_eq]
 constructor
 ·rintro ⟨h1, h2⟩
  exact Rat.ext h1 (Int.ofNat.inj h2)
 ·rintro rfl
  exact ⟨rfl, rfl⟩
theorem Jq : ∀ ps qs : List Rat, PyData.eqvAll (ps.map nD) (qs.map nD) = decide (ps = qs)
 | [], [] => rfl
 | [], _ :: _ => rfl
 | _ :: _, [] => rfl
 | p :: ps, q :: qs => by
   show (PyData.eqv (nD p) (nD q) && PyData.eqvAll (ps.map nD) (qs.map nD)) = _
   rw [KZ, Jq ps qs, Bool.eq_iff_iff]
   simp
theorem Gh (q : Rat) : SeqAt.shaped (nD q) = true := by rfl
theorem AS.rds {K : QT} {H : Hp} {xs : List V} {qs : List Rat} (h : AS K H xs qs) : ∀ (i : Nat) x d, xs[i]? = some x → (qs.map nD)[i]? = some d → Rds K H x d := fun i x d e1 e2 => by
 obtain ⟨q, hq, hn⟩ := Paired.get h e1
 rw [Ru, hq] at e2
 cases e2
 exact hn.rds
theorem AS.rdsL {K : QT} {H : Hp} {r : Addr} {xs : List V} {qs : List Rat} (h : AS K H xs qs) (s : SqL K H r xs) : Rds K H (.ref r) (.list (qs.map nD)) := .lst s (by rw [h.length, Rx]) h.rds
theorem Jp : ∀ qs : List Rat, PyData.canLayAll0 (qs.map nD) = true
 | [] => rfl
 | q :: r => by
   show (PyData.canLay0 (nD q) && PyData.canLayAll0 (r.map nD)) = true
   rw [Jp r]; rfl
theorem Gg : ∀ qs : List Rat, PyData.depthAll (qs.map nD) ≤ 1
 | [] => Rb _
 | q :: r => by
   have ih := Gg r
   show max (PyData.depth (nD q)) (PyData.depthAll (r.map nD)) ≤ 1
   exact Nat.max_le.mpr ⟨R8 _, ih⟩
theorem Jo (qs : List Rat) : SeqAt.shaped (.list (qs.map nD)) = true := by
 show (PyData.canLayAll0 (qs.map nD) && decide (PyData.depthAll (qs.map nD) + 1 ≤ 64)) = true
 rw [Jp, Bool.true_and]
 exact decide_eq_true (by have := Gg qs; lia)
theorem eqN {K : QT} {H : Hp} {x y : V} {p q : Rat} {Q : VK} {neg : Bool} (h1 : Au K H x p) (h2 : Au K H y q) (h : Q (.bl (if neg then !decide (p = q) else decide (p = q))) H) : FN K neg x y H Q :=
 Ls ⟨_, _, h1.rds, h2.rds, Gh _, Gh _, by rw [KZ]; exact h⟩
theorem eqL {K : QT} {H : Hp} {a b : Addr} {xs ys : List V} {ps qs : List Rat} {Q : VK} {neg : Bool} (s1 : SqL K H a xs) (n1 : AS K H xs ps) (s2 : SqL K H b ys) (n2 : AS K H ys qs) (h : Q (.bl (if neg then !decide (ps = qs) else decide (ps = qs))) H) : FN K neg (.ref a) (.ref b) H Q := by
 refine Ls ⟨_, _, n1.rdsL s1, n2.rdsL s2, Jo _, Jo _, ?_⟩
 have e : PyData.eqv (.list (ps.map nD)) (.list (qs.map nD)) = decide (ps = qs) := Jq ps qs
 rw [e]; exact h
theorem HI {c : TT} {tb : TS} {D : CZ} {σ : St} {H : Hp} (Pv : St → Hp → Prop) (μ : St → Hp → Nat) (h0 : Pv σ H)
 (hs : ∀ σ H, Pv σ H → c σ H fun b H1 => if b = true then ∃ N : St → Hp → Prop, (∀ σ' H', N σ' H' → ∃ m', m' < μ σ H ∧ (m' = μ σ' H' ∧ Pv σ' H')) ∧ tb { D with nx := N, ct := N, bk := D.nx } σ H1 else D.nx σ H1) : IB c tb D σ H := by
 refine ⟨fun m σ H => m = μ σ H ∧ Pv σ H, ⟨_, rfl, h0⟩, ?_⟩
 rintro m σ H ⟨rfl, p⟩
 exact hs σ H p
theorem HH {tb : TS} {D : CZ} {σ : St} {H1 : Hp} {m : Nat} {Pv : St → Hp → Prop} {μ : St → Hp → Nat}
 (h : tb { D with nx := fun σ' H' => Pv σ' H' ∧ μ σ' H' < m, ct := fun σ' H' => Pv σ' H' ∧ μ σ' H' < m, bk := D.nx } σ H1) :
 ∃ N : St → Hp → Prop, (∀ σ' H', N σ' H' → ∃ m', m' < m ∧ (m' = μ σ' H' ∧ Pv σ' H')) ∧ tb { D with nx := N, ct := N, bk := D.nx } σ H1 :=
 ⟨_, fun _ _ ⟨p, l⟩ => ⟨_, l, rfl, p⟩, h⟩
def RB (n : Nat) (q : Rat) : Prop := Bd n q.num ∧ Bd n (q.den : Int)
theorem Bd.mul {m n : Nat} {x y : Int} (h1 : Bd m x) (h2 : Bd n y) : Bd (m + n) (x * y) := by
 unfold Bd at *
 rw [Sy, Sz]
 exact Nat.mul_lt_mul'' h1 h2
theorem Bd.add {n : Nat} {x y : Int} (h1 : Bd n x) (h2 : Bd n y) : Bd (n + 1) (x + y) := by
 unfold Bd at *
 rw [SA, Nat.mul_two]
 exact RN (SD x y) (Nat.add_lt_add h1 h2)
theorem Bd.sub {n : Nat} {x y : Int} (h1 : Bd n x) (h2 : Bd n y) : Bd (n + 1) (x - y) := by
 rw [SE]
 exact Bd.add h1 (by unfold Bd; rw [Int.natAbs_neg]; exact h2)
theorem Bd.fdiv {n : Nat} {x y : Int} (h : Bd n x) : Bd n (x.fdiv y) := RN (PySem.natAbs_fdiv_le x y) h
theorem Bj.bd {m n : Nat} {x y : Int} (h1 : Bd m x) (h2 : Bd n y) (h : m + n ≤ 134217728 := by lia) : Bj x y := .inr (.inr ⟨m, n, h1, h2, h⟩)
theorem RB.mono {m n : Nat} {q : Rat} (h : RB m q) (hmn : m ≤ n) : RB n q := ⟨h.1.mono hmn, h.2.mono hmn⟩
theorem RB.div {m n : Nat} {t b : Int} (h1 : Bd n t) (h2 : Bd n b) (hb : b ≠ 0) : RB n (RS t b) := ⟨Bd.num h1, Bd.den hb h2⟩
theorem HJ : ∀ {us : List Value} {xs : List V}, us.map Ki = xs.map some → (∀ u ∈ us, ∀ x, Ki u = some x → Bh x u) → AK xs us
 | [], [], _, _ => .nil
 | [], _ :: _, e, _ => by simp at e
 | _ :: _, [], e, _ => by simp at e
 | u :: us, x :: xs, e, h => by
   simp only [RL, List.cons.injEq] at e
   exact .cons (h u QX x e.1) (HJ e.2 fun v hv => h v (QY _ hv))
theorem LM {u : Value} {x : V} (h : Ki u = some x) : Bh x u := by
 cases u <;> first | (cases h; rfl) | (cases h; exact ⟨_, rfl⟩) | cases h
theorem Ka {K : QT} {H : Hp} {a : Addr} {o : Obj} {vs : Array Value} {n : Nat} {q : Rat} (hk : K.lookup a = some o) (hc : o.cls = .type "tuple") (hd : o.data = .seq vs n) (e : vs.toList.map Ki = [some (.int q.num), some (.int (q.den : Int))]) : SqT K H a [.int q.num, .int q.den] := by
 refine .inr ⟨o, vs, n, hk, hc, hd, ?_, HJ e fun u _ x h => LM h⟩
 have hl := congrArg Ro e
 simp at hl
 rw [hl]; decide
theorem RB.plus {m n : Nat} {p q : Rat} (h1 : RB m p) (h2 : RB n q) : RB (m + n + 1) (p + q) := by
 rw [← Nm.plus_eq]
 refine ⟨Bd.num (Bd.add (h1.1.mul h2.2) ((h2.1.mul h1.2).mono (by lia))), Bd.den (RY (Nm.den_ne p) (Nm.den_ne q)) ((h1.2.mul h2.2).mono (by lia))⟩
theorem RB.minus {m n : Nat} {p q : Rat} (h1 : RB m p) (h2 : RB n q) : RB (m + n + 1) (p - q) := by
 rw [← Nm.minus_eq]
 refine ⟨Bd.num (Bd.sub (h1.1.mul h2.2) ((h2.1.mul h1.2).mono (by lia))), Bd.den (RY (Nm.den_ne p) (Nm.den_ne q)) ((h1.2.mul h2.2).mono (by lia))⟩
theorem RB.times {m n : Nat} {p q : Rat} (h1 : RB m p) (h2 : RB n q) : RB (m + n) (p * q) := by
 rw [← Nm.times_eq]
 exact ⟨Bd.num (h1.1.mul h2.1), Bd.den (RY (Nm.den_ne p) (Nm.den_ne q)) (h1.2.mul h2.2)⟩
theorem RB.zero {n : Nat} (h : 1 ≤ n) : RB n 0 := ⟨(show Bd 1 0 by unfold Bd; decide).mono h, (show Bd 1 1 by unfold Bd; decide).mono h⟩
theorem RB.one {n : Nat} (h : 1 ≤ n) : RB n 1 := ⟨(show Bd 1 1 by unfold Bd; decide).mono h, (show Bd 1 1 by unfold Bd; decide).mono h⟩
inductive BO (K : QT) (g : Rat → Rat → Rat) (vs : List V) (H : Hp) (Q : VK) (E_3 : XK) : Prop
 | mk (x y : V) (p q : Rat) (m n : Nat) (h1 : vs = [x, y]) (h2 : Au K H x p) (h3 : Au K H y q) (h4 : RB m p) (h5 : RB n q) (h6 : m + n ≤ 100000000) (h7 : ∀ r, H r = none → Q (.ref r) (upd H r (nT (g p q)))) : BO K g vs H Q E_3
end L2
namespace L2
open PySem PySem.Spec PyProof.Rows
def Sq (b : Bool) (K : QT) (H : Hp) (a : Addr) (xs : List V) : Prop := match b with
 | true => SqL K H a xs
 | false => SqT K H a xs
theorem JU {X : Cx} {tg l : Expr} {w1 w2 : TI} (h1 : PI X tg l w1) (h2 : PI X tg l w2) : PI X tg l (fun σ H R => w1 σ H R ∨ w2 σ H R) := fun pins s σ H R I h => by
 rcases h with h | h
 ·exact h1 pins s σ H R I h
 ·exact h2 pins s σ H R I h
abbrev Ny (K : QT) (tl : TE) : TI := fun σ H R => Gj K tl σ H R ∨ Oh K tl σ H R
theorem Mq {K : QT} {b : Bool} {a : Addr} {n : Nat} {xs : List V} {g : TG} {tb : TS} {D : CZ} {σ : St} {H : Hp} (hσ : σ[n]? = some (some (.ref a))) (Pv : Nat → St → Hp → Prop) (h0 : Pv 0 σ H) (hl : ∀ i σ H, i ≤ xs.length → Pv i σ H → Sq b K H a xs)
 (hs : ∀ i x σ H, xs[i]? = some x → Pv i σ H → g x σ H fun σ2 H2 => tb { D with nx := Pv (i + 1), ct := Pv (i + 1), bk := D.nx } σ2 H2) (hd : ∀ σ H, Pv xs.length σ H → D.nx σ H) :
 MU (Ny K (DD n)) g tb D σ H := by
 have q := hl 0 σ H (Rb _) h0
 cases b with
 | true => exact .inl ⟨_, hσ, a, rfl, ⟨xs, q⟩, Lp Pv h0 hl hs hd⟩
 | false => exact .inr ⟨_, hσ, a, rfl, ⟨xs, q⟩, Mp Pv h0 hl hs hd⟩
theorem IT {K : QT} {b : Bool} {a : Addr} {n : Nat} {js : List Nat} {xs : List V} {te : TE} {σ : St} {H : Hp} {Q : VK} (hσ : σ[n]? = some (some (.ref a))) (Pv : Nat → List V → Hp → Prop) (h0 : Pv 0 [] H)
 (hl : ∀ i zs H, i ≤ xs.length → Pv i zs H → Sq b K H a xs ∧ zs.length = i) (hz : xs.length ≤ sizeLine)
 (hs : ∀ i x zs H, xs[i]? = some x → Pv i zs H → te ((cS 1 js σ).set 0 (some x)) H fun y H4 => Pv (i + 1) (zs ++ [y]) H4) (fin : ∀ zs H', Pv xs.length zs H' → ∀ p, H' p = none → Q (.ref p) (upd H' p (.lst zs))) :
 tLC (Ny K (DD n)) 1 js (BW 0) Kr te σ H Q := by
 have q := (hl 0 [] H (Rb _) h0).1
 cases b with
 | true =>
   refine Cd (.inl ⟨_, hσ, a, rfl, ⟨xs, q⟩, xs.length, Pv, h0, ⟨?_, ?_, ?_⟩⟩)
   ·intro i zs H' hi p
    have hle := QV hi
    obtain ⟨h1, h2⟩ := hl i zs H' hle p
    exact ⟨⟨xs, xs[i], h1, by simp [hi]⟩, by lia⟩
   ·rintro i zs H' x H1 hi p ⟨rfl, y⟩
    have hle := QV hi
    have hx := y xs (hl i zs _ hle p).1
    exact hs i x zs _ hx p
   ·intro zs H' p
    have hle := R8 xs.length
    obtain ⟨h1, h2⟩ := hl _ zs H' hle p
    exact ⟨⟨xs, h1, R8 _⟩, by lia, fin zs H' p⟩
 | false =>
   refine Cd (.inr ⟨_, hσ, a, rfl, ⟨xs, q⟩, xs.length, Pv, h0, ⟨?_, ?_, ?_⟩⟩)
   ·intro i zs H' hi p
    have hle := QV hi
    obtain ⟨h1, h2⟩ := hl i zs H' hle p
    exact ⟨⟨xs, xs[i], h1, by simp [hi]⟩, by lia⟩
   ·rintro i zs H' x H1 hi p ⟨rfl, y⟩
    have hle := QV hi
    have hx := y xs (hl i zs _ hle p).1
    exact hs i x zs _ hx p
   ·intro zs H' p
    have hle := R8 xs.length
    obtain ⟨h1, h2⟩ := hl _ zs H' hle p
    exact ⟨⟨xs, h1, R8 _⟩, by lia, fin zs H' p⟩
section
variable {X : Cx} (K : QT)
theorem ixT (e : X.K = K := by rfl) : IxR X (N2 K) := by subst e; exact Nx
theorem ixL (e : X.K = K := by rfl) : IxR X (N3 K) := by subst e; exact Mm
theorem eqD (hu : X.A.units + 64 < cLine) (e : X.K = K := by rfl) : OpR X (compareOp .Eq) (FN K false) := by subst e; exact Nj hu
theorem neD (hu : X.A.units + 64 < cLine) (e : X.K = K := by rfl) : OpR X (compareOp .NotEq) (FN K true) := by subst e; exact Ni hu
theorem slL (e : X.K = K := by rfl) : SlR X (N1 K) := by subst e; exact M3
inductive TyX (K : QT) (H : Hp) : V → Value → Prop where
 | of {x : V} {t : Value} (h : ED K H x t) : TyX K H x t
 | tup {a : Addr} {xs : List V} (h : SqT K H a xs) : TyX K H (.ref a) (.type "tuple")
 | lst {a : Addr} {xs : List V} (h : SqL K H a xs) : TyX K H (.ref a) (.type "list")
inductive Ow (xs : List V) (H : Hp) (Q : VK) : Prop
 | mk (p : _) (ys : _) (h1 : xs = [.ref p]) (h2 : (SqL K H p ys ∨ SqT K H p ys)) (h3 : Q (.int ys.length) H) : Ow xs H Q
theorem BC (e : X.K = K := by rfl) : CG X (.builtin "len") (Ow K) := by subst e; exact fun pins s σ H xs us Q I r ⟨p, ys, h1, h2, h3⟩ => Hw pins s σ H xs us Q I r ⟨p, ys, h1, h2, h3⟩
inductive MN (xs : List V) (H : Hp) (Q : VK) : Prop
 | mk (p : _) (ys : _) (h1 : xs = [.ref p]) (h2 : (SqL K H p ys ∨ SqT K H p ys)) (h3 : ∀ l, H l = none → Q (.ref l) (upd H l (.lst ys))) : MN xs H Q
theorem MF (e : X.K = K := by rfl) : CG X (.type "list") (MN K) := by subst e; exact fun pins s σ H xs us Q I r ⟨p, ys, h1, h2, h3⟩ => Hv pins s σ H xs us Q I r ⟨p, ys, h1, h2, h3⟩
inductive LG (xs : List V) (H : Hp) (Q : VK) : Prop
 | mk (p : _) (ys : _) (h1 : xs = [.ref p]) (h2 : ((SqL K H p ys ∧ ∀ l, H l = none → Q (.ref l) (upd H l (.tup ys))) ∨ (SqT K H p ys ∧ Q (.ref p) H))) : LG xs H Q
theorem Iz (e : X.K = K := by rfl) : CG X (.type "tuple") (LG K) := by subst e; exact fun pins s σ H xs us Q I r ⟨p, ys, h1, h2⟩ => G5 pins s σ H xs us Q I r ⟨p, ys, h1, h2⟩
variable {tg l : Expr} {tl : TE}
theorem piL (hl : PE X l tl) (e : X.K = K := by rfl) : PI X tg l (Gj K tl) := by subst e; exact Ji hl
theorem piS (hl : PE X l tl) (e : X.K = K := by rfl) : PI X tg l (Ny K tl) := by subst e; exact JU (Ji hl) (N8 hl)
theorem MD {p pos : Pos} (hg : Gl X "reversed") (hm : X.mg "reversed" = none) (hl : PE X l tl) (hs : starEach [l] X.env = [(false, eval l X.env)] := by rfl) (e : X.K = K := by rfl) : PI X tg (.Call (.Name "reversed" p) [l] [] pos) (Ol K tl) := by subst e; exact N9 hg hm hl hs
theorem pgT {es : List Expr} {k : Nat} {t : TGs} {n : Nat} {pos : Pos} (hc : X.calm = true) (h : PGs X es t) (hn : (assignEach es X.env).length = n := by rfl) (hst : (assignEach es X.env).findIdx? (·.1) = none := by rfl) (e : X.K = K := by rfl) : PG X (.Tuple es k pos) (K8 K n t) := by subst e; exact Na hc h hn hst
end
end L2
namespace L2
open PySem PySem.Spec PyProof.Rows
inductive LO (K : QT) (H : Hp) : V → Bool → Prop where
 | int (i : Int) : LO K H (.int i) true
 | bl (b : Bool) : LO K H (.bl b) false
 | oth {x : V} {t : Value} (ty : TyX K H x t) (h : SG K t (.type "int") = some false) : LO K H x false
theorem Hj {lo : Int} {n : Nat} {js : List Nat} {te : TE} {σ : St} {H : Hp} {Fin : List V → Hp → Prop} (Pv : Nat → List V → Hp → Prop) (h0 : Pv 0 [] H) (hl : ∀ i zs H, i ≤ n → Pv i zs H → zs.length = i) (hz : n ≤ sizeLine)
 (hs : ∀ i zs H, i < n → Pv i zs H → te ((cS 1 js σ).set 0 (some (.int (lo + i)))) H fun y H4 => Pv (i + 1) (zs ++ [y]) H4) (fin : ∀ zs H', Pv n zs H' → Fin zs H') :
 ∃ (n' : Nat) (W : Nat → List V → Hp → Prop), W 0 [] H ∧ LcW (Itr lo n) n' 1 js σ (BW 0) Kr te Fin W := by
 refine ⟨n, Pv, h0, ⟨?_, ?_, ?_⟩⟩
 ·intro i zs H' hi p
  have := hl i zs H' (QV hi) p
  exact ⟨hi, by lia⟩
 ·rintro i zs H' x H1 hi p ⟨rfl, rfl⟩
  exact hs i zs _ hi p
 ·intro zs H' p
  have := hl n zs H' (R8 _) p
  exact ⟨R8 _, by lia, fin zs H' p⟩
theorem CA {α : Type} {xs : List α} {v : α} (h : xs[xs.length - 1]? = some v) : atI xs (-1) = some v := by
 have hl : xs.length - 1 < xs.length := (R3.mp h).1
 have e : ixN xs.length (-1) = some (xs.length - 1) := by
  unfold ixN
  rw [if_neg (by decide), if_pos (by lia)]
  congr 1
  lia
 unfold atI
 rw [e]
 exact h
def AN (qs : List Rat) : Prop := qs = [] ∨ ∃ q, qs[qs.length - 1]? = some q ∧ q ≠ 0
theorem Be (qs : List Rat) : AN (Cv.strip qs) := by
 by_cases h : Cv.strip qs = []
 ·exact .inl h
 ·have hl : 0 < (Cv.strip qs).length := S8.mpr h
  have e := Sv (l := Cv.strip qs) (i := (Cv.strip qs).length - 1) (by lia)
  refine .inr ⟨_, e, fun z => Cv.strip_last qs h ?_⟩
  rw [e, z]
theorem Pen.sm {H H' : Hp} {p : Addr} (h : Pen H p) (e : Ag H H') : Pen H' p := let ⟨c0, c1, c2, z⟩ := h; ⟨c0, c1, c2, e _ _ z⟩
theorem C8 {ns : List Int} {i : Nat} {t : Int} {k : Int} (h : ns[i]? = some t) (e : k = (i : Int)) : atI (ns.map V.int) k = some (.int t) := by
 subst e
 exact AA (by rw [Ru, h]; rfl)
theorem Fq {n i : Nat} {k : Int} (h : i < n) (e : k = (i : Int)) : ixN n k = some i := by
 subst e
 unfold ixN
 rw [if_pos (by lia), if_pos (by lia), RD]
theorem Ag.put {H H' : Hp} {p : Addr} {o : HO} (h : Ag H H') (hp : H p = none) : Ag H (upd H' p o) := fun b u q => by rw [AB (Az q hp)]; exact h b u q
def Up (c M : Nat) (t : Int) : Prop := t.natAbs ≤ c * 2 ^ M
theorem Up.bd {c k M : Nat} {t : Int} (h : Up c M t) (hc : c < 2 ^ k) : Bd (M + k) t := by
 unfold Up at h
 unfold Bd
 rw [Sz, RK (2 ^ M)]
 exact RN h (Nat.mul_lt_mul_of_pos_right hc (Nat.pow_pos (by decide)))
theorem Up.add {c M : Nat} {t d : Int} (h : Up c M t) (hd : Bd M d) : Up (c + 1) M (t + d) := by
 unfold Up at *
 unfold Bd at hd
 rw [SH, SI]
 exact QU (SD t d) (Nat.add_le_add h (QV hd))
theorem Up.mono {c c' M : Nat} {t : Int} (h : Up c M t) (hc : c ≤ c') : Up c' M t := QU h (SJ _ hc)
end L2
namespace L2
open PySem PySem.Spec PyProof.Rows
def CX1 (P : Program) (w : World) : CXT := fun outer H s E e s' => ∃ (ea : Addr) (cls a0 : Value) (B : Heap) (H' : Hp), e = .ref ea ∧ s'.os = s.os ∧ AllBare s'.gens ∧ Un (frs outer) [] H H' s.heap s'.heap ∧ HOk P w H' s'.heap ∧
 Heap.FlyingW B outer ea cls a0 s'.heap ∧ (∀ b o, s.heap.get? b = some o → b ∉ frs outer → ∃ o', B.get? b = some o') ∧ (∀ b u, H' b = some u → ∃ o', B.get? b = some o') ∧ E cls none H'
theorem Cg.got {P : Program} {w : World} {H : Hp} {h : Heap} {a : Addr} {o : HO} (x : Cg P w H h a o) : ∃ ob, h.get? a = some ob := by
 induction o with
 | lst xs => obtain ⟨_, _, _, _, e⟩ := x; exact ⟨_, e⟩
 | tup xs => obtain ⟨_, _, _, ob, e, _⟩ := x; exact ⟨_, e⟩
 | dK kvs => obtain ⟨_, _, _, _, ob, _, _, e, _⟩ := x; exact ⟨_, e⟩
 | dT kvs => obtain ⟨_, _, _, _, ob, _, _, e, _⟩ := x; exact ⟨_, e⟩
 | set S n => obtain ⟨ob, _, _, _, e, _⟩ := x; exact ⟨_, e⟩
 | ins C dx fs => obtain ⟨_, _, _, e, _⟩ := x; exact ⟨_, e⟩
 | own y => exact x
 | xd fs => obtain ⟨_, ⟨ob, _, _, e, _⟩, _⟩ := x; exact ⟨_, e⟩
 | met f y => exact ⟨_, x⟩
 | rng lo hi => obtain ⟨_, _, _, e⟩ := x; exact ⟨_, e⟩
 | frz ob u ih => exact ⟨_, x.1⟩
 | tbl ps => exact ⟨_, x⟩
 | ext φ => exact x.2.1
section
variable {X : Cx} {pins : List (Addr × Obj)} {σ : St} {H H' : Hp} {s s' : Shared} {B : Heap}
theorem Inv.flown {h2 : Heap} {toks : Nat} (I : Inv X pins σ H s) (un : Un (frs X.stack) [] H H' s.heap s'.heap) (hok : HOk X.prog X.w H' s'.heap) (os : s'.os = s.os) (bare : AllBare s'.gens)
 (hs : ∀ b o, B.get? b = some o → s'.heap.get? b = some o) (k1 : ∀ b o, s.heap.get? b = some o → b ∉ frs X.stack → ∃ o', B.get? b = some o') (k2 : ∀ b u, H' b = some u → ∃ o', B.get? b = some o')
 (h2s : ∀ b o, B.get? b = some o → h2.get? b = some o) (sl : ∀ b o, b ∈ frs X.stack → s'.heap.get? b = some o → ∃ z, h2.get? b = some { o with slots := z }) : Inv X pins σ H' { s' with heap := h2, toks := toks } := by
 have key : ∀ b o, s'.heap.get? b = some o → (∃ o', B.get? b = some o') → h2.get? b = some o := fun b o e ⟨o', q⟩ => by
  have := hs b o' q
  rw [e] at this
  cases this
  exact h2s b o q
 refine I.call' (ch := []) os ⟨fun b o e n nb nx => key b o (un.keep b o e n nb nx) (k1 b o e nb), fun b o e n nb nx => ?_, un.free, fun b o e nx => ?_, un.tups, un.frzs, un.tbls⟩ (fun b u e => ?_) bare (fun _ z => nomatch z)
 ·obtain ⟨z, q⟩ := un.slot b o e n nb nx
  obtain ⟨z', q'⟩ := sl b _ nb q
  exact ⟨z', q'⟩
 ·obtain ⟨o', q⟩ := un.there b o e nx
  by_cases hb : b ∈ frs X.stack
  ·obtain ⟨z', q'⟩ := sl b _ hb q
   exact ⟨_, q'⟩
  ·exact ⟨_, key b o' q (k1 b o e hb)⟩
 ·refine (hok b u e).stay (fun c v hc q => key c v q ?_) (fun _ q => q) fun _ _ q => q
  rcases hc with rfl | z
  ·exact k2 _ u e
  ·exact k2 c _ z
theorem Mo (h : Heap) (l : List Env) : ∀ env ∈ l, ∀ b, env.frame = some b → b ∈ frs l := fun env he b hb => R9.mpr ⟨env, he, hb⟩
theorem Inv.slots {h2 : Heap} (hf : s'.heap.FunFrames B X.stack) (u : s'.heap.UpToSlots h2) : ∀ b o, b ∈ frs X.stack → s'.heap.get? b = some o → ∃ z, h2.get? b = some { o with slots := z } := fun b o hb e => by
 obtain ⟨_, o', e', nf⟩ := hf.mem hb
 rw [e] at e'
 cases e'
 exact u b o e nf
end
section
variable {P : Program} {w : World} {K : QT} {mg : Str → Option Value} {base : Heap} {N : List Str} {qual : Str} {scope : Scope} {f : Addr} {cd : Value} {A : Around} {outer : List Env} {s : Shared} {H : Hp} {E : XK}
end
structure Ir (K : QT) (x : Str) (C : Addr) : Prop where
 ns : SK K mainGlobals x = some (some (.ref C))
 ob : ∃ bm N nm q bs hdct sn sub ab col dd k0 k1 k2 k3 k5, K.lookup C = some (excClassObj nm q C N bs bm hdct sn sub ab col dd k0 k1 k2 k3 k5 "ValueError.__new__")
 ex : SM K C [.type "ValueError", .type "Exception", .type "BaseException", .type "object"] "ValueError.__new__" = true
def MT (E : XK) (C : Addr) (t : TA) : TS := fun _ σ H => t σ H fun xs H1 => xs.length ≤ sizeLine ∧ E (.ref C) none H1
def MQ (X : Cx) (E : XK) : Prop := ∀ (pins : List (Addr × Obj)) (σ : St) (H1 : Hp) (s1 : Shared) (h2 : Heap) (ea : Addr) (cls : Value) (vs : List Value), Inv X pins σ H1 s1 → Heap.MadeExcOf s1.heap h2 ea cls vs → E cls none H1 → X.xe (.ref ea) { s1 with heap := h2 }
theorem Ng {K : QT} {h : Heap} {mg : Str → Option Value} {x : Str} {C : Addr} (X : K.In h) (g : h.Ns mainGlobals mg) (c : Ir K x C) : OwnCls x C [.type "ValueError", .type "Exception", .type "BaseException", .type "object"] "ValueError.__new__" mg h := by
 obtain ⟨bm, N, nm, q, bs, hdct, sn, sub, ab, col, dd, k0, k1, k2, k3, k5, l⟩ := c.ob
 have ex := c.ex
 unfold SM at ex
 rw [l] at ex
 simp only [excClassObj, Bool.and_eq_true, beq_iff_eq] at ex
 exact ⟨SN X g c.ns, bm, N, nm, q, bs, hdct, sn, sub, ab, col, dd, k0, k1, k2, k3, k5, _, X _ _ l, .of_isNs (PySem.W.isNs_of_in X ex.1.2), PySem.W.nsMap_none_of_in X ex.1.2 ex.2, PySem.W.tail_of_in X ex.1.1.2⟩
theorem EY {X : Cx} {E : XK} {x : Str} {C : Addr} {np cpos pos : Pos} {e₀ : Expr} {rest : List Expr} {t : TA} (c : Ir X.K x C) (hg : Gl X x) (hM : MQ X E) (hc : X.calm = true) (ha : PA X (e₀ :: rest) t)
 (hdb : (x == ("__debug__" : Str)) = false := by decide) (he : starEach (e₀ :: rest) X.env = (false, eval e₀ X.env) :: starEach rest X.env := by rfl) (hpl : (backTo cpos (starEach rest X.env)).any (·.1) = false := by rfl) :
 PS X (.Raise (some (.Call (.Name x np) (e₀ :: rest) [] cpos)) none pos) (MT E C t) := by
 intro pins s σ H D I h
 have O := Ng I.mod.kin I.mod.glob c
 obtain ⟨tl, N, nm, q, bs, hdct, sn, sub, ab, col, dd, k0, k1, k2, k3, k5, mN, hC, hN, hni, T⟩ := O.obj
 have FB := PySem.F.excBase_ValueError
 refine wpAny_Raise_call_subT (C := C) (nm := nm) (q := q) (N := N) (bs := bs) (bm := tl) (hdct := hdct) (sn := sn) (sub := sub) (ab := ab) (col := col) (dd := dd) (k0 := k0) (k1 := k1) (k2 := k2) (k3 := k3) (k5 := k5)
  FB (mN := mN) (T.hasType FB.hasBase) (I.ok.hd hc) (by rw [he]; show (false || (backTo cpos (starEach rest X.env)).any (·.1)) = false; rw [hpl]; rfl) hni (DA I hg O.bound ⟨rfl, ?_⟩ hdb)
 rw [he]
 refine Calls.evalArgs_plain ?_
 have z := ha cpos pins s σ H _ I h
 rw [he] at z
 refine thn z fun us s2 ⟨xs, H1, I1, r, hz, hE⟩ => ⟨rfl, by rw [← r.length]; exact hz, I1.bk _ _ hC, hN.keeps I1.bk, T.keeps I1.bk, fun h' e hx => hM pins σ H1 s2 h' e _ _ I1 hx hE⟩
abbrev Cx.marked (X : Cx) (ea : Addr) : Cx := { X with A := X.A.mark (some (.ref ea)), calm := false, xe := fun _ _ => False }
section
variable {X : Cx} {pins : List (Addr × Obj)} {σ : St} {H H' : Hp} {s s' : Shared} {B : Heap}
theorem Cx.Ok.marked (ok : X.Ok) (ea : Addr) : (X.marked ea).Ok :=
 ⟨ok.mod, ok.kind, ok.glob, ok.blt, ok.above, ok.inj, ok.has, ok.cab, (fun z => nomatch z), ok.frames, ok.stk, ok.exf, ok.bs, ok.bsz, ok.noex, ok.exfs, ok.funs, ok.frf⟩
theorem Inv.marked (I : Inv X pins σ H s) (ea : Addr) : Inv (X.marked ea) pins σ H s := ⟨I.ok.marked ea, I.os, I.bare, I.base, I.loc, I.cell, I.free, I.freeC, I.pin, I.hok, I.len⟩
theorem Inv.gone {h2 : Heap} {toks : Nat} {i : Nat} {n : Str} {v : Option Value} {m : Str → Option Value} (I : Inv X pins σ H s) (hN : X.N.Nodup) (hi : X.N[i]? = some n)
 (hl : ∀ (j : Nat) (x : Str) (v : V), X.N[j]? = some x → σ[j]? = some (some v) → Vis X.env.scope x → ∃ u, Bh v u ∧ OA X.env s.heap m x u)
 (hn : h2.Ns X.env.locals fun x => if x = n then v else m x) (sb : Heap.SameBut X.env.locals s.heap h2) : Inv X pins (σ.set i none) H { s with heap := h2, toks := toks } := by
 have kp : ∀ b o, b ≠ X.env.locals → s.heap.get? b = some o → h2.get? b = some o := fun b o nb e => (sb.2 b nb).trans e
 have neL : ∀ b o, X.s₀.heap.get? b = some o → b ≠ X.env.locals := fun b o e => QO (QM (Heap.lt_size e) I.ok.above)
 have cellK : ∀ x c, X.env.cells.lookup x = some c → ∀ v, s.heap.IsCell c v → h2.IsCell c v := fun x c e v ⟨o, ho, hd⟩ => ⟨o, kp c o (I.cne x c e) ho, hd⟩
 refine ⟨I.ok, I.os, I.bare, ⟨fun b o e nn hb hx => kp b o (neL b o e) (I.base.keep b o e nn hb hx), fun b o e nn hb hx => ?_, I.base.free, fun b o e hx => ?_, I.base.tups, I.base.frzs, I.base.tbls⟩, ⟨_, hn, fun j x v' e1 e2 e3 => ?_⟩, fun x c e => ?_, I.free, I.freeC, fun p hp => ?_, fun b u e => ?_, by rw [RF]; exact I.len⟩
 ·obtain ⟨sl, q⟩ := I.base.slot b o e nn hb hx
  exact ⟨sl, kp b _ (neL b o e) q⟩
 ·obtain ⟨o', q⟩ := I.base.there b o e hx
  exact ⟨o', kp b _ (neL b o e) q⟩
 ·by_cases hij : i = j
  ·subst hij
   rw [List.getElem?_set] at e2
   split at e2
   ·split at e2 <;> cases e2
   ·exact absurd rfl (by assumption)
  ·rw [R5 hij] at e2
   obtain ⟨u, r, l⟩ := hl j x v' e1 e2 e3
   have hx : x ≠ n := fun z => hij (Fo hN hi (by rw [← z]; exact e1))
   refine ⟨u, r, ?_⟩
   rcases l with ⟨k, l⟩ | ⟨k, c, e, z⟩
   ·exact .inl ⟨k, by show (if x = n then v else m x) = _; rw [if_neg hx]; exact l⟩
   ·exact .inr ⟨k, c, e, cellK x c e _ z⟩
 ·obtain ⟨v, z⟩ := I.cell x c e
  exact ⟨v, cellK x c e v z⟩
 ·obtain ⟨e, nn, ne, nf, d⟩ := I.pin p hp
  exact ⟨kp _ _ ne e, nn, ne, nf, d⟩
 ·refine (I.hok b u e).stay (fun c v hc q => kp c v ?_ q) (fun _ q => q) fun _ _ q => q
  rcases hc with rfl | z
  ·intro y; rw [y, I.free] at e; cases e
  ·intro y; rw [y, I.free] at z; cases z
end
section
open PySem.W PySem.Builtin PySem.Builtin.ObjectAttr PySem.Builtin.Getset_descriptor
variable {prog : Program} {w : World} {A : Around} {E : Value → Shared → Prop} {s : Shared} {K : QT} {x D : Addr}
structure XTy (K : QT) (D : Addr) : Prop where
 ga : findIn K (.ref D) "__getattribute__" = some (some (.builtin "BaseException.__getattribute__"))
 gt : findIn K (.ref D) "__getattr__" = some none
 ca : findIn K (.ref D) "__class__" = some (some (.builtin "object.__class__"))
 gg : specialIn K (.builtin "object.__class__") "__get__" = some (some (.builtin "getset_descriptor.__get__"))
 tk : takesIn K (.builtin "object.__class__") = some true
 ob : mroIn K D (.type "object") = some true
 be : mroIn K D (.type "BaseException") = some true
 cl : ∃ c d cd sl, K.lookup D = some ⟨c, d, .cls cd, sl⟩
theorem K1 (X : K.In s.heap) (T : XTy K D) : Looks (model prog w) s.heap (find (.ref x) (.ref D) "__class__") (.bind (.builtin "getset_descriptor.__get__") (.builtin "object.__class__")) := by
 have L1 := looks_findIn (M := model prog w) X T.ca
 have L2 : Looks (model prog w) s.heap (getOf (some (.builtin "object.__class__"))) (some (.builtin "getset_descriptor.__get__")) := looks_specialIn X T.gg
 have L3 := looks_takesIn (M := model prog w) X T.tk
 exact L1.andThen (L2.andThen ((show Looks (model prog w) s.heap (dataDescriptor? (some (.builtin "object.__class__")) (some (.builtin "getset_descriptor.__get__"))) (some (.builtin "getset_descriptor.__get__", .builtin "object.__class__")) from L3.andThen .now).andThen (Looks.tag .now)))
theorem K9 {Q : Option Value → Shared → Prop} (X : K.In s.heap) (L0 : Looks (model prog w) s.heap (typeOf (.ref x)) (.ref D)) (T : XTy K D) (h : Q (some (.ref D)) { s with toks := s.toks + 1 }) : wpAny (model prog w) A (getAttr? (.ref x) "__class__") Q E s := by
 have L1 := looks_findIn (M := model prog w) X T.ga
 have L2 := K1 (prog := prog) (w := w) (x := x) X T
 have L3 := looks_findIn (M := model prog w) X T.gt
 have L4 := looks_mroIn (M := model prog w) X T.ob
 obtain ⟨hh, g, d, t, os⟩ := s
 unfold getAttr? getAttrBy? getAttrBy
 have L5 := looks_mroIn (M := model prog w) X T.be
 refine wpAny_bind (wpAny_mkText (wpAny_bind (wpAny_attempt (wpAny_holding (wpAny_bind (L0.at (wpAny_bind (L1.at ?_))))))))
 have hx2 : (Value.builtin "BaseException.__getattribute__" == Value.builtin "object.__getattribute__") = false := by decide +kernel
 dsimp only
 rw [hx2, Bool.and_false, if_neg (by decide)]
 have hk : builtinKind "BaseException.__getattribute__" = some .slot := by decide +kernel
 have hsplit : splitId "BaseException.__getattribute__" = some ("BaseException", "__getattribute__") := by decide +kernel
 have ha := F.args_bexc_ga (.ref x) (.str "__class__" t)
 unfold getAttrByItsOwn hookBefore
 refine wpAny_bind ?_
 show wpAny _ _ (typeLookup (.ref D) "__getattr__") _ _ _
 refine L3.at (wpAny_bind (wpAny_attempt (wpAny_holding ?_)))
 show wpAny _ _ (boundAndCalled (.builtin "BaseException.__getattribute__") (.ref x) _) _ _ _
 unfold boundAndCalled
 rw [F.excAttr_ValueError.ga.bind (.ref x)]
 refine wpAny_bind (wpAny_pure ?_)
 first | refine wpAny_call (codeAny_call_builtin F.excAttr_ValueError.ga.plain F.entry_bexc_ga ?_) | refine wpAny_holding (wpAny_call (codeAny_call_builtin F.excAttr_ValueError.ga.plain F.entry_bexc_ga ?_))
 simp only [checkBuiltinCall, hk, hsplit]
 unfold isInstance
 show wpAny _ _ (do let b ← (do let tp ← typeOf (.ref x); isSubtype tp (.type "BaseException")); _) _ _ _
 refine wpAny_bind (wpAny_bind (L0.at (L5.at ?_)))
 rw [if_neg (by decide)]
 unfold argsOk at ha
 refine wpAny_of_eq ha ?_
 show wpAny _ _ (Builtin.«object.__getattribute__» ⟨[.ref x, .str "__class__" t], []⟩) _ _ _
 unfold Builtin.«object.__getattribute__»
 refine wpAny_bind (wpAny_of_eq (show slotArgs "__getattribute__" 1 ⟨[.ref x, .str "__class__" t], []⟩ = pure (.ref x, [.str "__class__" t]) from by kernel_rfl) ?_)
 refine wpAny_bind (wpAny_of_eq (show attrName (.str "__class__" t) = pure "__class__" from by kernel_rfl) ?_)
 refine wpAny_bind (L0.at (wpAny_bind (L2.at ?_)))
 unfold bindTo
 show wpAny _ _ (holding [Value.builtin "object.__class__"] (call (.builtin "getset_descriptor.__get__") [.builtin "object.__class__", .ref x, .ref D]) >>= ret) _ _ _
 refine wpAny_bind (wpAny_holding (wpAny_call ?_))
 refine codeAny_call_builtin KF.slot_gs.plain KF.entry_gs (KF.slot_gs.check _ _ _ _ _ _ _ _ KF.type_class (KF.args_gs _ _ _) ?_)
 unfold Builtin.«getset_descriptor.__get__» descrGet
 rw [dga_obj]
 refine wpAny_bind (wpAny_pure ?_)
 unfold descrGetter descrCheckInstance descrNameAndClass isInstance
 simp only [KF.owner_class]
 repeat lk
 refine ⟨Code.quiet_builtin _ (by decide +kernel), codeAny_builtin KF.entry_class ?_⟩
 unfold Builtin.«object.__class__» shownTypeOf
 repeat lk
 exact h
def NR (x D : Addr) (h : Heap) : Prop := ∃ o, h.get? x = some o ∧ o.cls = .ref D
theorem Jz {M : Model} {h : Heap} (p : NR x D h) : Looks M h (typeOf (.ref x)) (.ref D) := by
 obtain ⟨o, h1, h2⟩ := p
 exact h2 ▸ (Looks.ld h1).andThen .now
theorem Lh (T : XTy K D) : KitX K (.ref x) (.ref D) (NR x D) where
 ty := fun _ _ _ p => Jz p
 it := fun _ _ X _ => by
  obtain ⟨c, d, cd, sl, ho⟩ := T.cl
  intro A' Q' E' s' k q
  unfold isType loadHead
  exact wpAny_bind (wpAny_loadPart (k _ _ (X _ _ ho)) (wpAny_pure q))
 ne := fun h tp dd its n sl X htp => by
  obtain ⟨c, d, cd, sl', ho⟩ := T.cl
  refine Bool.eq_false_iff.mpr fun q => ?_
  have e : D = tp := Value.ref.inj (beq_iff_eq.mp q)
  subst e
  have z := (X _ _ ho).symm.trans htp
  cases z
 ca := fun X p k => K9 X (Jz p) T k
def Ot : V → Option Value
 | .ref a => some (.ref a)
 | .ty T => some (.type T)
 | _ => none
theorem LF {y : V} {u c : Value} (r : Bh y u) (e : Ot y = some c) : u = c := by
 cases y <;> cases e <;> exact r
end
section
open PySem.W
variable {X : Cx} (K : QT)
end
section
variable {P : Program} {w : World} {K : QT} {mg : Str → Option Value} {base : Heap}
end
structure FdX (P : Program) (w : World) (K : QT) (mg : Str → Option Value) (base : Heap) (n : Nat) (x : Str) (ps : List Str) (sp : Sp) : Prop where
 ex : ∃ (f : Addr) (fd : FuncData), AI P w K mg base (CX1 P w) n f fd ps sp ∧ CH K fd ps [] ∧ Rg K (.ref f) = true ∧ mg x = some (.ref f)
end L2
namespace L2
open PySem PySem.Spec PyProof.Rows
def Itd (lo : Int) (n : Nat) : It := ⟨fun i _ => i < n, fun i H x H' => H' = H ∧ x = .int (lo - i), fun i _ => n ≤ i⟩
theorem JQ {P : Program} {w : World} {K : QT} {tg : Expr} (it : Addr) (lo : Int) (n : Nat) : Iu P w K tg (Itd lo n) [it] it (fun i h => IsRangeIter h it (lo + (i : Nat) * (-1)) ((n : Int) - (i : Nat)) (-1)) where
 mem := by simp
 obj := fun i h st b hb => by
  have e : b = it := by simpa using hb
  subst e
  exact ⟨_, st, fun v z => by
   have z' : Data.fields _ = Data.cell v := z
   cases z'⟩
 keep := fun i h h' st k => k it (by simp) _ st
 item := by
  intro X hP hw hK hc i pins s σ H E I hf st hg
  subst hP hw hK
  obtain ⟨f0, f1, f2, f3, f4, f5⟩ := hf it (by simp)
  refine (Walks.range (prog := X.prog) (w := X.w) (I.ok.hd hc) it lo (-1) n).item i s _ _ hg st fun v h' tk hv st' kk => ?_
  obtain ⟨t, rfl⟩ := hv
  have I1 : Inv X pins σ H { s with heap := h', toks := tk } := I.turned (fun b o hb e => kk b o (by simpa using hb) e) f0 f1 f3 f4 f5
  refine ⟨_, rfl, Gk (s := { s with heap := h', toks := tk }) (n := "range_iterator") st' rfl rfl (by decide) ⟨.int (lo - i), H, I1, ⟨t, ?_⟩, ⟨rfl, rfl⟩, st', fun b hb => (hf b hb).1⟩⟩
  rw [show lo + (i : Int) * -1 = lo - i by lia]
 done := by
  intro X hP hw hK hc i pins s σ H E I hf st hg
  subst hP hw hK
  obtain ⟨f0, f1, f2, f3, f4, f5⟩ := hf it (by simp)
  exact wpAny_pyNext_range_end (I.ok.hd hc) st (by have : n ≤ i := hg; lia) fun h' eb => ⟨rfl, I.turned (t' := s.toks) (fun b o hb e => eb b o hb e) f0 f1 f3 f4 f5⟩
 self := fun _ _ _ _ _ st h => wpAny_pyIter_rangeiter st h
theorem Gb (a b : Int) : Builtin.Range.rangeSize a b (-1) = (((a - b).toNat : Nat) : Int) := by
 unfold Builtin.Range.rangeSize
 rw [if_neg (by decide)]
 split
 ·rw [show -(-1 : Int) = 1 by decide, Int.ediv_one]; lia
 ·lia
section
variable {X : Cx} {tg : Expr}
def Om (ta : TA) : TI := fun σ H R => ta σ H fun vs H1 => ∃ i j : Int, vs = [.int i, .int j, .int (-1)] ∧ (-1000000 ≤ i ∧ i ≤ 1000000 ∧ -1000000 ≤ j ∧ j ≤ 1000000) ∧ R (Itd i (i - j).toNat) H1
theorem M7 {a b c : Expr} {ta : TA} {p pos : Pos} (hg : Gl X "range") (hm : X.mg "range" = none) (ha : PA X [a, b, c] ta) (hs : starEach [a, b, c] X.env = [(false, eval a X.env), (false, eval b X.env), (false, eval c X.env)] := by rfl)
 (hs2 : starEach [b, c] X.env = [(false, eval b X.env), (false, eval c X.env)] := by rfl) : PI X tg (.Call (.Name "range" p) [a, b, c] [] pos) (Om ta) := by
 intro pins s σ H R I h
 refine Call_ (DM I hg hm boot_range (PyProof.Rows.callWith_type1 (thn (ha pos pins s σ H _ I h) fun us s1 ⟨vs, H1, I1, r1, q1⟩ => ?_) (by rw [hs, hs2]) (by rw [hs2]; rfl)))
 obtain ⟨i, j, e, ⟨q1, q2, q3, q4⟩, q⟩ := q1
 subst e
 cases r1 with
 | cons r rr =>
   cases rr with
   | cons r' rr =>
     cases rr with
     | cons r3 rr =>
       cases rr
       obtain ⟨t, rfl⟩ := r
       obtain ⟨t', rfl⟩ := r'
       obtain ⟨t3, rfl⟩ := r3
       have sm : Builtin.Range.small i j (-1) = true := by
        unfold Builtin.Range.small
        rw [Gb]
        simp only [Builtin.Range.rangeFitsLong, Bool.and_eq_true, Bool.or_eq_true, decide_eq_true_eq, beq_iff_eq]
        rw [if_neg (by decide)]
        simp only [Bool.and_eq_true, decide_eq_true_eq]
        lia
       refine call_range_3 (by decide) ?_ (.inl (PyProof.noPylong_small (by lia)))
       refine wpAny_pyIter_range (IsRange.new ..) sm ?_
       have I2 : Inv X pins σ H1 { s1 with heap := s1.heap.push { cls := .type "range", data := .fields #[.int i t, .int j t', .int (-1) t3] }, toks := s1.toks } := I1.kept fun b o e => Heap.get?_push_of_some _ e
       refine ⟨_, [_], _, _, H1, rfl, I2.kept (t' := s1.toks) fun b o e => Heap.get?_push_of_some _ e, JQ _ i (i - j).toNat, ?_, fun b hb => ?_, q⟩
       ·show IsRangeIter _ _ (i + ((0 : Nat) : Int) * (-1)) ((((i - j).toNat : Nat) : Int) - ((0 : Nat) : Int)) (-1)
        rw [show i + ((0 : Nat) : Int) * (-1) = i by lia, show (((i - j).toNat : Nat) : Int) - ((0 : Nat) : Int) = Builtin.Range.rangeSize i j (-1) by rw [Gb]; lia]
        exact Heap.get?_push_size _ rfl
       ·have e := Ss.mp hb
        subst e
        exact I2.fpOk (R8 _) (I2.hok.fresh (R8 _))
end
theorem Lq {lo : Int} {n : Nat} {g : TG} {tb : TS} {D : CZ} {σ : St} {H : Hp} (Pv : Nat → St → Hp → Prop) (h0 : Pv 0 σ H)
 (hs : ∀ i σ H, i < n → Pv i σ H → g (.int (lo - i)) σ H fun σ2 H2 => tb { D with nx := Pv (i + 1), ct := Pv (i + 1), bk := D.nx } σ2 H2) (hd : ∀ σ H, Pv n σ H → D.nx σ H) :
 ∃ W : Nat → Nat → St → Hp → Prop, (∃ m, W 0 m σ H) ∧ ∀ i m σ H, W i m σ H →
   ((Itd lo n).stop i H ∧ D.nx σ H) ∨ ((Itd lo n).go i H ∧ ∃ N : St → Hp → Prop, (∀ σ' H', N σ' H' → ∃ m', m' < m ∧ W (i + 1) m' σ' H') ∧ ∀ x H', (Itd lo n).yld i H x H' → g x σ H' fun σ2 H2 => tb { D with nx := N, ct := N, bk := D.nx } σ2 H2) := by
 refine ⟨fun i m σ H => m = n - i ∧ i ≤ n ∧ Pv i σ H, ⟨n, by simp, Rb _, h0⟩, ?_⟩
 rintro i m σ H ⟨rfl, hi, p⟩
 by_cases hlt : i < n
 ·refine .inr ⟨hlt, Pv (i + 1), fun σ' H' p' => ⟨n - (i + 1), by lia, rfl, hlt, p'⟩, fun x H' y => ?_⟩
  obtain ⟨rfl, rfl⟩ := y
  exact hs i σ _ hlt p
 ·have e : i = n := by lia
  subst e
  exact .inl ⟨R8 _, hd σ H p⟩
theorem DN {K : QT} {a : Addr} {js : List Nat} {xs : List V} {te : TE} {σ : St} {H : Hp} {Fin : List V → Hp → Prop} (Pv : Nat → List V → Hp → Prop) (h0 : Pv 0 [] H)
 (hl : ∀ i zs H, i ≤ xs.length → Pv i zs H → SqL K H a xs ∧ zs.length = i) (hz : xs.length ≤ sizeLine)
 (hs : ∀ i x zs H, xs[i]? = some x → Pv i zs H → te ((cS 1 js σ).set 0 (some x)) H fun y H4 => Pv (i + 1) (zs ++ [y]) H4) (fin : ∀ zs H', Pv xs.length zs H' → Fin zs H') :
 ∃ (n' : Nat) (W : Nat → List V → Hp → Prop), W 0 [] H ∧ LcW (Itl K a) n' 1 js σ (BW 0) Kr te Fin W := by
 refine ⟨xs.length, Pv, h0, ⟨?_, ?_, ?_⟩⟩
 ·intro i zs H' hi p
  obtain ⟨h1, h2⟩ := hl i zs H' (QV hi) p
  exact ⟨⟨xs, xs[i], h1, by simp [hi]⟩, by lia⟩
 ·rintro i zs H' x H1 hi p ⟨rfl, y⟩
  exact hs i x zs _ (y xs (hl i zs _ (QV hi) p).1) p
 ·intro zs H' p
  obtain ⟨h1, h2⟩ := hl _ zs H' (R8 _) p
  exact ⟨⟨xs, h1, R8 _⟩, by lia, fin zs H' p⟩
theorem LA (xs : List V) : DE xs none (some (-1)) = xs.take (xs.length - 1) := by
 unfold DE
 have e1 : HT.sIx xs.length 0 none = 0 := rfl
 have e2 : HT.sIx xs.length xs.length (some (-1)) = xs.length - 1 := by
  show (if (-1 : Int) < 0 then ((-1 : Int) + (xs.length : Int)).toNat else min (-1 : Int).toNat xs.length) = xs.length - 1
  rw [if_pos (by decide)]
  lia
 rw [e1, e2, SO, SQ]
theorem Bd.pow {L : Nat} {b : Int} (h : Bd L b) : ∀ n : Nat, Bd (L * n + 1) (b ^ n)
 | 0 => by rw [SR]; exact (show Bd 1 1 by unfold Bd; decide).mono (by lia)
 | n + 1 => by
   rw [SS]
   exact ((Bd.pow h n).mul h).mono (by rw [SU]; lia)
theorem Ft {lead : Int} {ts : List Int} (i : Nat) {t : Int} (h : ts[i]? = some t) : (((ts.take i).map (lead * ·)).map V.int) ++ [V.int (lead * t)] = ((ts.take (i + 1)).map (lead * ·)).map V.int := by
 rw [Sd, h, Se, Se]
 rfl
theorem G6 : bootBuiltins "ValueError" = some (.type "ValueError") := by decide +kernel
end L2
namespace L2
open PySem PySem.Spec PyProof.Rows
theorem EW {s rest : TS} {D : CZ} {σ : St} {H : Hp} (Pv : St → Hp → Prop) (h : ∀ nx : St → Hp → Prop, (∀ σ' H', Pv σ' H' → nx σ' H') → s { D with nx := nx } σ H) (k : ∀ σ' H', Pv σ' H' → rest D σ' H') : LY s rest D σ H := h _ k
theorem JT {i : Nat} {v : V} {c : TT} {t u rest : TS} {D : CZ} {σ : St} {H : Hp} (Pv : St → Hp → Prop) (h : ∀ nx : St → Hp → Prop, (∀ σ' H', Pv σ' H' → nx σ' H') → Ku c t u { D with nx := nx } (σ.set i (some v)) H) (k : ∀ σ' H', Pv σ' H' → rest D σ' H') : BW i v σ H (LY (Ku c t u) rest D) := h _ k
theorem Dq {b : Int} (hb : b ≠ 0) (t : Int) : RS t b * (b : Rat) = (t : Rat) := by
 rw [RW]
 exact RX (Nm.cast_ne hb)
theorem Ms {α : Type} {l : List α} {n i : Nat} {v : α} (hn : l.length = n) (hi : i < n) (h : l[n - 1 - i]? = some v) : l.drop (n - (i + 1)) = v :: l.drop (n - i) := by
 have hlt : n - (i + 1) < l.length := by rw [hn]; exact Nat.sub_lt (RN (Rb _) hi) (Nat.succ_pos i)
 rw [List.drop_eq_getElem_cons hlt, show n - (i + 1) + 1 = n - i from Nat.succ_pred_eq_of_pos (Nat.sub_pos_of_lt hi)]
 congr 1
 have e : l[n - (i + 1)]? = some v := by rw [show n - (i + 1) = n - 1 - i by rw [Nat.sub_sub, Nat.add_comm]]; exact h
 rw [Sv hlt] at e
 exact QK.inj e
def OU (K : QT) (H : Hp) (x : V) (rs : List Rat) : Prop := ∃ a ys, x = .ref a ∧ SqL K H a ys ∧ AS K H ys rs
abbrev Rows (K : QT) (H : Hp) : List V → List (List Rat) → Prop := Paired (OU K H)
end L2
namespace L2
open PySem PySem.Spec PyProof.Rows
section
variable {X : Cx}
@[irreducible] def O7 (K : QT) (neg : Bool) : R2 := fun x y H Q => ∃ p ds d, y = .ref p ∧ Rds K H (.ref p) (.list ds) ∧ Rds K H x d ∧ SeqAt.shaped (.list ds) = true ∧ SeqAt.shaped d = true ∧ Q (.bl (if neg then !(ds.any fun y => PyData.eqv y d) else ds.any fun y => PyData.eqv y d)) H
theorem OK {K : QT} {neg : Bool} {x y : V} {H : Hp} {Q : VK} (h : ∃ p ds d, y = .ref p ∧ Rds K H (.ref p) (.list ds) ∧ Rds K H x d ∧ SeqAt.shaped (.list ds) = true ∧ SeqAt.shaped d = true ∧ Q (.bl (if neg then !(ds.any fun y => PyData.eqv y d) else ds.any fun y => PyData.eqv y d)) H) : O7 K neg x y H Q := by
 unfold O7; exact h
end
structure Ox where
 x : Rat
 k : Int
 n : Rat
deriving DecidableEq
end L2
namespace L2
open PySem PySem.Spec PyProof.Rows
section
variable {X : Cx} {e : Expr} {te : TE}
end
def HC (t : TGs) (nt : Nat) : Prop := ∀ (vs : List V) (σ : St) (H : Hp) (Q : St → Hp → Prop) (σ0 : St), (σ.length = σ0.length ∧ σ.drop nt = σ0.drop nt) → t vs σ H Q → t vs σ H fun σ2 H2 => (σ2.length = σ0.length ∧ σ2.drop nt = σ0.drop nt) ∧ Q σ2 H2
theorem ID {nt : Nat} : HC NB nt := fun _ _ _ _ _ r ⟨e, q⟩ => ⟨e, r, q⟩
theorem Ey {i nt : Nat} {u : TGs} (h : i < nt) (hu : HC u nt) : HC (Ig (BW i) u) nt := fun vs σ H Q σ0 r ⟨v, rs, e, q⟩ => ⟨v, rs, e, hu rs (σ.set i (some v)) H Q σ0 ⟨by rw [RF]; exact r.1, by
 rw [← r.2]
 apply Sm
 intro k
 rw [Sn, Sn, R5 (by lia)]⟩ q⟩
theorem JR {K : QT} {n nt : Nat} {t : TGs} (h : HC t nt) : FC (K8 K n t) nt := fun _ σ H Q ⟨a, xs, e, s, l, q⟩ => ⟨a, xs, e, s, l, h xs σ H Q σ ⟨rfl, rfl⟩ q⟩
end L2
namespace L2
def Bg : List Rat → List Rat → List Rat
 | [], m => m
 | a :: l, [] => a :: l
 | a :: l, b :: m => (a + b) :: Bg l m
theorem Ip (l : List Rat) : Bg l [] = l := by cases l <;> rfl
theorem BB (x : Rat) : ∀ l m, Cv.ev (Bg l m) x = Cv.ev l x + Cv.ev m x
 | [], m => by show _ = 0 + _; grind [Bg]
 | a :: l, [] => by show _ = _ + 0; rw [Bg]; grind
 | a :: l, b :: m => by
   have ih := BB x l m
   show (a + b) + x * Cv.ev (Bg l m) x = (a + x * Cv.ev l x) + (b + x * Cv.ev m x)
   rw [ih]; grind
theorem Cf : ∀ l m, (Bg l m).length = max l.length m.length
 | [], m => by show m.length = max 0 m.length; lia
 | a :: l, [] => by show l.length + 1 = max (l.length + 1) 0; lia
 | a :: l, b :: m => by
   have ih := Cf l m
   show (Bg l m).length + 1 = max (l.length + 1) (m.length + 1)
   lia
theorem Iq : ∀ (l m : List Rat) (i : Nat), l.length ≤ i → (Bg l m)[i]? = m[i]?
 | [], m, i, _ => rfl
 | a :: l, [], i, h => by rw [Ip, SV h]; rfl
 | a :: l, b :: m, 0, h => by simp at h
 | a :: l, b :: m, i + 1, h => by
   have ih := Iq l m i (by simpa using h)
   show (Bg l m)[i]? = m[i]?
   exact ih
def Cc : List Rat → List Rat → List Rat
 | [], _ => []
 | a :: l, m => Bg (m.map (· * a)) (0 :: Cc l m)
theorem Bt (x : Rat) (m : List Rat) : ∀ l, Cv.ev (Cc l m) x = Cv.ev l x * Cv.ev m x
 | [] => by show (0 : Rat) = 0 * _; grind
 | a :: l => by
   have ih := Bt x m l
   show Cv.ev (Bg (m.map (· * a)) (0 :: Cc l m)) x = (a + x * Cv.ev l x) * _
   rw [BB, Cv.ev_scale]
   show _ + (0 + x * Cv.ev (Cc l m) x) = _
   rw [ih]; grind
theorem Cb (m : List Rat) (hm : 1 ≤ m.length) : ∀ l, 1 ≤ l.length → (Cc l m).length = l.length + m.length - 1
 | [], h => by simp at h
 | [a], _ => by
   show (Bg (m.map (· * a)) [0]).length = 1 + m.length - 1
   rw [Cf, Rx]
   show max m.length 1 = _
   lia
 | a :: b :: l, _ => by
   have ih := Cb m hm (b :: l) (by simp)
   show (Bg (m.map (· * a)) (0 :: Cc (b :: l) m)).length = l.length + 1 + 1 + m.length - 1
   rw [Cf, Rx]
   show max m.length ((Cc (b :: l) m).length + 1) = _
   rw [ih]
   show max m.length (l.length + 1 + m.length - 1 + 1) = _
   lia
theorem Eu (m : List Rat) (u : Rat) (hu : m[m.length - 1]? = some u) : ∀ (l : List Rat) (v : Rat), l[l.length - 1]? = some v → (Cc l m)[l.length + m.length - 2]? = some (u * v)
 | [], v, h => by simp at h
 | [a], v, h => by
   have hm : m.length - 1 < m.length := (R3.mp hu).1
   have e : a = v := by simpa using h
   subst e
   show (Bg (m.map (· * a)) [0])[1 + m.length - 2]? = _
   cases m with
   | nil => simp at hm
   | cons b m' =>
     rw [show 1 + (b :: m').length - 2 = m'.length by simp only [S9]; lia]
     have hu' : (b :: m')[m'.length]? = some u := hu
     cases m' with
     | nil =>
       have e : b = u := by simpa using hu'
       subst e
       show some (b * a + 0) = some (b * a)
       congr 1; grind
     | cons c m'' =>
       show (Bg ((c :: m'').map (· * a)) [])[m''.length]? = _
       rw [Ip, Ru]
       have hu2 : (c :: m'')[m''.length]? = some u := hu'
       rw [hu2]; rfl
 | a :: b :: l, v, h => by
   have hm : m.length - 1 < m.length := (R3.mp hu).1
   have ih := Eu m u hu (b :: l) v h
   show (Bg (m.map (· * a)) (0 :: Cc (b :: l) m))[l.length + 1 + 1 + m.length - 2]? = _
   rw [Iq _ _ _ (by rw [Rx]; lia)]
   rw [show l.length + 1 + 1 + m.length - 2 = (l.length + 1 + m.length - 2) + 1 by lia]
   exact ih
theorem Fv {l m : List Rat} (hl : AN l) (hm : AN m) (nl : l ≠ []) (nm : m ≠ []) : AN (Cc l m) := by
 rcases hl with h | ⟨v, hv, v0⟩
 ·exact absurd h nl
 rcases hm with h | ⟨u, hu, u0⟩
 ·exact absurd h nm
 have l1 : 1 ≤ l.length := S8.mpr nl
 have m1 : 1 ≤ m.length := S8.mpr nm
 refine .inr ⟨u * v, ?_, fun z => ?_⟩
 ·rw [Cb m m1 l l1, show l.length + m.length - 1 - 1 = l.length + m.length - 2 by lia]
  exact Eu m u hu l v hv
 ·rcases Sh.mp z with z | z
  ·exact u0 z
  ·exact v0 z
theorem Jw {l m : List Rat} (hm : AN m) (hle : l.length ≤ m.length) (h : ∀ x, Cv.ev l x = Cv.ev m x) : l = m := by
 have e : l ++ Rm (m.length - l.length) 0 = m := by
  refine Cv.same_of _ _ (by rw [Rw, Ry]; lia) fun x => ?_
  rw [← Cv.ev_strip, Cv.strip_zeros, Cv.ev_strip]
  exact h x
 by_cases hlt : l.length < m.length
 ·rcases hm with hm | ⟨q, hq, q0⟩
  ·rw [hm] at hlt; simp at hlt
  ·exfalso
   rw [← e, Rw, Ry, Rq (by lia), Rr, if_pos (by lia)] at hq
   exact q0 (QK.inj hq).symm
 ·rw [show m.length - l.length = 0 by lia, List.replicate_zero, Ri] at e
  exact e
theorem BS {l m : List Rat} (hl : AN l) (hm : AN m) (h : ∀ x, Cv.ev l x = Cv.ev m x) : l = m := by
 by_cases hle : l.length ≤ m.length
 ·exact Jw hm hle h
 ·exact (Jw hl (by lia) fun x => (h x).symm).symm
theorem Mt {ps os rs os' rs' : List Rat} (hp : AN ps) (np : ps ≠ []) (ho : AN os) (ho' : AN os') (hr : AN rs) (hr' : AN rs') (l : rs.length < ps.length) (l' : rs'.length < ps.length)
 (h : ∀ x, Cv.ev os x * Cv.ev ps x + Cv.ev rs x = Cv.ev os' x * Cv.ev ps x + Cv.ev rs' x) : os = os' ∧ rs = rs' := by
 have key : Cv.strip (Bg os (os'.map (· * (-1)))) = [] := by
  by_cases hD : Cv.strip (Bg os (os'.map (· * (-1)))) = []
  ·exact hD
  exfalso
  have gD := Be (Bg os (os'.map (· * (-1))))
  have gM := Fv gD hp hD np
  have gE := Be (Bg rs' (rs.map (· * (-1))))
  have e := BS gM gE fun x => by
   rw [Bt, Cv.ev_strip, Cv.ev_strip, BB, BB, Cv.ev_scale, Cv.ev_scale]
   have := h x
   grind
  have p1 : 1 ≤ ps.length := S8.mpr np
  have d1 : 1 ≤ (Cv.strip (Bg os (os'.map (· * (-1))))).length := S8.mpr hD
  have len := Cb ps p1 _ d1
  rw [e] at len
  have le := Cv.strip_length (Bg rs' (rs.map (· * (-1))))
  rw [Cf, Rx] at le
  lia
 have eo : os = os' := BS ho ho' fun x => by
  have z : Cv.ev (Cv.strip (Bg os (os'.map (· * (-1))))) x = 0 := by rw [key]; rfl
  rw [Cv.ev_strip, BB, Cv.ev_scale] at z
  grind
 subst eo
 refine ⟨rfl, BS hr hr' fun x => ?_⟩
 have := h x
 grind
open PySem PySem.Spec PyProof.Rows
end L2
namespace L2
def ch : Nat → Nat → Nat
 | _, 0 => 1
 | 0, _ + 1 => 0
 | n + 1, k + 1 => ch n k + ch n (k + 1)
theorem CF (n : Nat) : ch n 0 = 1 := by cases n <;> rfl
theorem EM : ∀ n k, (k + 1) * ch n (k + 1) + k * ch n k = n * ch n k
 | 0, 0 => rfl
 | 0, k + 1 => by show (k + 2) * 0 + (k + 1) * 0 = 0 * 0; lia
 | n + 1, 0 => by
   have ih := EM n 0
   rw [show ch (n + 1) (0 + 1) = ch n 0 + ch n (0 + 1) from rfl, CF, CF]
   rw [CF] at ih
   lia
 | n + 1, k + 1 => by
   have i1 := EM n (k + 1)
   have i0 := EM n k
   show (k + 1 + 1) * (ch n (k + 1) + ch n (k + 1 + 1)) + (k + 1) * (ch n k + ch n (k + 1)) = (n + 1) * (ch n k + ch n (k + 1))
   generalize ch n k = a at *
   generalize ch n (k + 1) = b at *
   generalize ch n (k + 1 + 1) = c at *
   simp only [SH, SU, SI] at *
   lia
theorem Ho : ∀ n k, k ≤ n → 0 < ch n k
 | n, 0, _ => by rw [CF]; decide
 | 0, k + 1, h => by lia
 | n + 1, k + 1, h => by
   have := Ho n k (by lia)
   show 0 < ch n k + ch n (k + 1)
   lia
theorem Hr : ∀ n k, n < k → ch n k = 0
 | n, 0, h => by lia
 | 0, k + 1, _ => rfl
 | n + 1, k + 1, h => by
   have h1 := Hr n k (by lia)
   have h2 := Hr n (k + 1) (by lia)
   show ch n k + ch n (k + 1) = 0
   lia
theorem Mw {n k : Nat} (hk : k ≤ n) : (((ch n k : Nat) : Int) * ((n : Int) - (k : Int))).fdiv ((k : Int) + 1) = ((ch n (k + 1) : Nat) : Int) := by
 have h := EM n k
 have h2 : ch n k * (n - k) = ch n (k + 1) * (k + 1) := by
  rw [Nat.mul_sub]
  have e1 : ch n k * n = n * ch n k := RK _ _
  have e2 : ch n k * k = k * ch n k := RK _ _
  have e3 : ch n (k + 1) * (k + 1) = (k + 1) * ch n (k + 1) := RK _ _
  lia
 have h3 : ((ch n k : Nat) : Int) * ((n : Int) - (k : Int)) = ((ch n (k + 1) : Nat) : Int) * ((k : Int) + 1) := by
  have := congrArg (fun z : Nat => (z : Int)) h2
  simp only [Int.natCast_mul] at this
  rw [show ((n - k : Nat) : Int) = (n : Int) - (k : Int) by lia] at this
  rw [this]; rfl
 rw [h3]
 exact Int.mul_fdiv_cancel _ (by lia)
theorem JF : ∀ n k, ch n k ≤ 2 ^ n
 | n, 0 => by rw [CF]; exact SW
 | 0, k + 1 => Rb _
 | n + 1, k + 1 => by
   have h1 := JF n k
   have h2 := JF n (k + 1)
   show ch n k + ch n (k + 1) ≤ 2 ^ (n + 1)
   rw [SA]; lia
def An : Nat → (Nat → Rat) → Nat → Rat
 | 0, f, i => f i
 | k + 1, f, i => An k f i + An k f (i + 1)
def Cn (t : Rat) : Nat → (Nat → Rat) → Nat → Rat
 | 0, f, i => f i
 | k + 1, f, i => Cn t k f i * (1 - t) + Cn t k f (i + 1) * t
def Bn (t : Rat) : Nat → (Nat → Rat) → Nat → Rat
 | 0, f, i => f i
 | k + 1, f, i => Bn t k f i + t * Bn t k f (i + 1)
theorem J7 (t : Rat) (f : Nat → Rat) : ∀ k n, An k (fun m => f m + t * f (m + 1)) n = An k f n + t * An k f (n + 1)
 | 0, _ => rfl
 | k + 1, n => by
   show An k _ n + An k _ (n + 1) = (An k f n + An k f (n + 1)) + t * (An k f (n + 1) + An k f (n + 1 + 1))
   rw [J7 t f k n, J7 t f k (n + 1)]
   grind
theorem E6 (t : Rat) (f : Nat → Rat) : ∀ k i, Cn t k (fun j => An j f 0) i = An i (fun m => Bn t k f m) 0
 | 0, _ => rfl
 | k + 1, i => by
   show Cn t k _ i * (1 - t) + Cn t k _ (i + 1) * t = An i (fun m => Bn t k f m + t * Bn t k f (m + 1)) 0
   rw [E6 t f k i, E6 t f k (i + 1), J7 t (fun m => Bn t k f m) i 0]
   show An i _ 0 * (1 - t) + (An i (fun m => Bn t k f m) 0 + An i (fun m => Bn t k f m) (0 + 1)) * t = _
   grind
def evF (f : Nat → Rat) (t : Rat) : Nat → Rat
 | 0 => 0
 | k + 1 => evF f t k + f k * t ^ k
theorem E9 (f : Nat → Rat) (t : Rat) : ∀ k, evF f t (k + 1) = f 0 + t * evF (fun i => f (i + 1)) t k
 | 0 => by show 0 + f 0 * t ^ 0 = f 0 + t * 0; rw [S6]; grind
 | k + 1 => by
   have ih := E9 f t k
   show evF f t (k + 1) + f (k + 1) * t ^ (k + 1) = f 0 + t * (evF (fun i => f (i + 1)) t k + f (k + 1) * t ^ k)
   rw [ih, S7]
   grind
theorem JA (f g : Nat → Rat) (t : Rat) : ∀ k, evF (fun i => f i + g i) t k = evF f t k + evF g t k
 | 0 => by show (0 : Rat) = 0 + 0; grind
 | k + 1 => by
   show evF _ t k + (f k + g k) * t ^ k = (evF f t k + f k * t ^ k) + (evF g t k + g k * t ^ k)
   rw [JA f g t k]; grind
theorem DB {f g : Nat → Rat} (t : Rat) : ∀ k, (∀ i, i < k → f i = g i) → evF f t k = evF g t k
 | 0, _ => rfl
 | k + 1, h => by
   show evF f t k + f k * t ^ k = evF g t k + g k * t ^ k
   rw [DB t k fun i hi => h i (by lia), h k (by lia)]
theorem ND (t : Rat) : ∀ l : List Rat, Cv.ev l t = evF (fun i => l.getD i 0) t l.length
 | [] => rfl
 | a :: l => by
   show a + t * Cv.ev l t = evF _ t (l.length + 1)
   rw [E9, ND t l]
   rfl
theorem JN (t : Rat) (f : Nat → Rat) : ∀ n m, Bn t n f m = evF (fun i => ((ch n i : Nat) : Rat) * f (m + i)) t (n + 1)
 | 0, m => by
   show f m = 0 + ((1 : Nat) : Rat) * f (m + 0) * t ^ 0
   have z : ((1 : Nat) : Rat) = 1 := rfl
   rw [S6, Nat.add_zero, z]; grind
 | n + 1, m => by
   have h1 := JN t f n m
   have h2 := JN t f n (m + 1)
   have z : ((1 : Nat) : Rat) = 1 := rfl
   show Bn t n f m + t * Bn t n f (m + 1) = _
   have e1 : evF (fun i => ((ch n i : Nat) : Rat) * f (m + i)) t (n + 1) = evF (fun i => ((ch n i : Nat) : Rat) * f (m + i)) t (n + 1 + 1) := by
    show _ = evF (fun i => ((ch n i : Nat) : Rat) * f (m + i)) t (n + 1) + ((ch n (n + 1) : Nat) : Rat) * f (m + (n + 1)) * t ^ (n + 1)
    rw [Hr n (n + 1) (by lia)]
    have z0 : ((0 : Nat) : Rat) = 0 := rfl
    rw [z0]; grind
   rw [e1, E9] at h1
   rw [E9 (fun i => ((ch (n + 1) i : Nat) : Rat) * f (m + i))]
   have e2 : evF (fun i => ((ch (n + 1) (i + 1) : Nat) : Rat) * f (m + (i + 1))) t (n + 1) = evF (fun i => ((ch n i : Nat) : Rat) * f (m + 1 + i)) t (n + 1) + evF (fun i => ((ch n (i + 1) : Nat) : Rat) * f (m + (i + 1))) t (n + 1) := by
    rw [← JA]
    refine DB t _ fun i _ => ?_
    show ((ch n i + ch n (i + 1) : Nat) : Rat) * f (m + (i + 1)) = _
    rw [Rat.natCast_add, show m + 1 + i = m + (i + 1) by lia]
    grind
   rw [e2, h1, h2, CF, CF]
   grind
def aI (l : List Int) : List Int := (QP (l.length - 1)).map fun j => l.getD j 0 + l.getD (j + 1) 0
def aIN : Nat → List Int → List Int
 | 0, l => l
 | n + 1, l => aI (aIN n l)
def aQ (l : List Rat) : List Rat := (QP (l.length - 1)).map fun j => l.getD j 0 + l.getD (j + 1) 0
def aQN : Nat → List Rat → List Rat
 | 0, l => l
 | n + 1, l => aQ (aQN n l)
def cQ (t : Rat) (l : List Rat) : List Rat := (QP (l.length - 1)).map fun j => l.getD j 0 * (1 - t) + l.getD (j + 1) 0 * t
def cQN (t : Rat) : Nat → List Rat → List Rat
 | 0, l => l
 | n + 1, l => cQ t (cQN t n l)
theorem DC (l : List Int) : ∀ n, (aIN n l).length = l.length - n
 | 0 => rfl
 | n + 1 => by
   show (aI (aIN n l)).length = _
   unfold aI
   rw [Rx, SX, DC l n]; lia
theorem Gw (l : List Rat) : ∀ n, (aQN n l).length = l.length - n
 | 0 => rfl
 | n + 1 => by
   show (aQ (aQN n l)).length = _
   unfold aQ
   rw [Rx, SX, Gw l n]; lia
theorem Gq (t : Rat) (l : List Rat) : ∀ n, (cQN t n l).length = l.length - n
 | 0 => rfl
 | n + 1 => by
   show (cQ t (cQN t n l)).length = _
   unfold cQ
   rw [Rx, SX, Gq t l n]; lia
theorem LN (l : List Rat) : ∀ k j, j + k < l.length → (aQN k l).getD j 0 = An k (fun n => l.getD n 0) j
 | 0, _, _ => rfl
 | k + 1, j, h => by
   have h1 := LN l k (j + 1) (by lia)
   have h0 := LN l k j (by lia)
   show (aQ (aQN k l)).getD j 0 = An k _ j + An k _ (j + 1)
   rw [← h1, ← h0]
   have hl := Gw l k
   unfold aQ
   rw [Sl, Ru, SY (by lia)]
   rfl
theorem JG (t : Rat) (l : List Rat) : ∀ k j, j + k < l.length → (cQN t k l).getD j 0 = Cn t k (fun n => l.getD n 0) j
 | 0, _, _ => rfl
 | k + 1, j, h => by
   have h1 := JG t l k (j + 1) (by lia)
   have h0 := JG t l k j (by lia)
   show (cQ t (cQN t k l)).getD j 0 = Cn t k _ j * (1 - t) + Cn t k _ (j + 1) * t
   rw [← h1, ← h0]
   have hl := Gq t l k
   unfold cQ
   rw [Sl, Ru, SY (by lia)]
   rfl
theorem BU (t : Rat) {f g : Nat → Rat} : ∀ k n, (∀ j, j ≤ k → f (n + j) = g (n + j)) → Cn t k f n = Cn t k g n
 | 0, n, h => h 0 (R8 _)
 | k + 1, n, h => by
   show Cn t k f n * (1 - t) + Cn t k f (n + 1) * t = Cn t k g n * (1 - t) + Cn t k g (n + 1) * t
   rw [BU t (f := f) (g := g) k (n + 1) fun j hj => by
    have := h (j + 1) (by lia)
    rw [show n + 1 + j = n + (j + 1) by lia]; exact this,
    BU t (f := f) (g := g) k n fun j hj => h j (by lia)]
def BZ (al : List Rat) : List Rat := (QP al.length).map fun k => al.getD k 0 / ((ch (al.length - 1) k : Nat) : Rat)
def FY (al : List Rat) : List Rat := (QP al.length).map fun j => (aQN j (BZ al)).getD 0 0
theorem Dp (al : List Rat) : (FY al).length = al.length := by unfold FY; rw [Rx, SX]
theorem DH (al : List Rat) : (BZ al).length = al.length := by unfold BZ; rw [Rx, SX]
theorem Lc (al : List Rat) (h1 : 1 ≤ al.length) (t : Rat) : (cQN t (al.length - 1) (FY al)).getD 0 0 = Cv.ev al t := by
 rw [JG t _ _ _ (by rw [Dp]; lia)]
 have e : Cn t (al.length - 1) (fun n => (FY al).getD n 0) 0 = Cn t (al.length - 1) (fun j => An j (fun n => (BZ al).getD n 0) 0) 0 := by
  refine BU t _ _ fun j hj => ?_
  show (FY al).getD (0 + j) 0 = An (0 + j) _ 0
  rw [T3, ← LN _ _ _ (by rw [DH]; lia)]
  unfold FY
  rw [Sl, Ru, SY (by lia)]
  rfl
 rw [e, E6]
 show Bn t (al.length - 1) (fun n => (BZ al).getD n 0) 0 = _
 rw [JN, ND, show al.length - 1 + 1 = al.length by lia]
 refine DB t _ fun i hi => ?_
 show ((ch (al.length - 1) i : Nat) : Rat) * (BZ al).getD (0 + i) 0 = al.getD i 0
 have g : (BZ al).getD (0 + i) 0 = al.getD i 0 / ((ch (al.length - 1) i : Nat) : Rat) := by
  unfold BZ
  rw [T3, Sl, Ru, SY hi]
  rfl
 have c0 : ((ch (al.length - 1) i : Nat) : Rat) ≠ 0 := fun z => by
  have hp := Ho (al.length - 1) i (by lia)
  have : ch (al.length - 1) i = 0 := by exact_mod_cast z
  lia
 rw [g, T4]
 exact RX c0
def goL (a b : Rat) : Rat → List Rat → List Rat
 | p, [] => [a * p]
 | p, c :: r => (a * p + b * c) :: goL a b c r
def CS (a b : Rat) : List Rat → List Rat
 | [] => []
 | q :: r => match CS a b r with
   | [] => [q]
   | c :: s => (q + b * c) :: goL a b c s
theorem MK (a b x : Rat) : ∀ (l : List Rat) (p : Rat), Cv.ev (goL a b p l) x = a * p + (a * x + b) * Cv.ev l x
 | [], p => by show a * p + x * 0 = a * p + (a * x + b) * 0; grind
 | c :: r, p => by
   show (a * p + b * c) + x * Cv.ev (goL a b c r) x = a * p + (a * x + b) * (c + x * Cv.ev r x)
   rw [MK a b x r c]; grind
theorem Ex (a b : Rat) : ∀ (l : List Rat) (p : Rat), (goL a b p l).length = l.length + 1
 | [], _ => rfl
 | c :: r, p => by show (goL a b c r).length + 1 = r.length + 1 + 1; rw [Ex a b r c]
theorem Jx (a b : Rat) : ∀ (l : List Rat) (p u : Rat), (p :: l)[l.length]? = some u → (goL a b p l)[l.length]? = some (a * u)
 | [], p, u, h => by
   have e : p = u := by simpa using h
   subst e; rfl
 | c :: r, p, u, h => Jx a b r c u h
theorem Hn (a b x : Rat) : ∀ l, Cv.ev (CS a b l) x = Cv.ev l (a * x + b)
 | [] => rfl
 | q :: r => by
   have ih := Hn a b x r
   show Cv.ev (match CS a b r with | [] => [q] | c :: s => (q + b * c) :: goL a b c s) x = q + (a * x + b) * Cv.ev r (a * x + b)
   rw [← ih]
   cases CS a b r with
   | nil => show q + x * 0 = q + (a * x + b) * 0; grind
   | cons c s =>
     show (q + b * c) + x * Cv.ev (goL a b c s) x = q + (a * x + b) * (c + x * Cv.ev s x)
     rw [MK]; grind
theorem Ce (a b : Rat) : ∀ l, (CS a b l).length = l.length
 | [] => rfl
 | q :: r => by
   have ih := Ce a b r
   show (match CS a b r with | [] => [q] | c :: s => (q + b * c) :: goL a b c s).length = r.length + 1
   rw [← ih]
   cases CS a b r with
   | nil => rfl
   | cons c s => show (goL a b c s).length + 1 = s.length + 1 + 1; rw [Ex]
theorem Gp {a b : Rat} (ha : a ≠ 0) : ∀ {l}, AN l → AN (CS a b l)
 | [], _ => .inl rfl
 | [q], h => h
 | q :: p :: r, h => by
   have g : AN (p :: r) := by
    rcases h with h | ⟨u, hu, u0⟩
    ·cases h
    ·exact .inr ⟨u, hu, u0⟩
   have ih := Gp (b := b) ha g
   have len := Ce a b (p :: r)
   show AN (match CS a b (p :: r) with | [] => [q] | c :: s => (q + b * c) :: goL a b c s)
   cases e : CS a b (p :: r) with
   | nil => rw [e] at len; simp at len
   | cons c s =>
     rw [e] at ih
     rcases ih with ih | ⟨u, hu, u0⟩
     ·cases ih
     ·refine .inr ⟨a * u, ?_, fun z => ?_⟩
      ·show ((q + b * c) :: goL a b c s)[(goL a b c s).length + 1 - 1]? = _
       rw [Ex]
       exact Jx a b s c u hu
      ·rcases Sh.mp z with z | z
       ·exact ha z
       ·exact u0 z
def hts (cs : List Rat) (lo hi : Rat) : List Rat := if cs = [] then [0] else FY (CS (hi - lo) lo cs)
theorem K5 (cs : List Rat) (lo hi t : Rat) : (cQN t ((hts cs lo hi).length - 1) (hts cs lo hi)).getD 0 0 = Cv.ev cs (lo + (hi - lo) * t) := by
 unfold hts
 by_cases h : cs = []
 ·rw [if_pos h, h]; rfl
 ·rw [if_neg h, Dp, Lc _ (by rw [Ce]; exact S8.mpr h), Hn]
  congr 1; grind
theorem Bz (cs : List Rat) (lo hi : Rat) : (hts cs lo hi).length = max 1 cs.length := by
 unfold hts
 by_cases h : cs = []
 ·rw [if_pos h, h]; rfl
 ·rw [if_neg h, Dp, Ce]
  have := S8.mpr h
  lia
end L2
namespace L2
def sd : List Rat → List Rat
 | [] => []
 | [_] => []
 | _ :: p :: r => Bg (0 :: sd (p :: r)) (CS 1 1 (p :: r))
theorem Kd (n : Nat) : ((n + 1 : Nat) : Rat) = ((n : Nat) : Rat) + 1 := by rw [Rat.natCast_add]; rfl
def nw (c : Nat → Rat) (x : Rat) : Nat → Nat → Rat
 | _, 0 => 0
 | j, n + 1 => c j + (x - ((j : Nat) : Rat)) * nw c x (j + 1) n
end L2
namespace L2
open PySem PySem.Spec PyProof.Rows PySem.SeqAt
theorem Dm : ∀ {ns : List Int} {its : List Value}, AK (ns.map V.int) its → IntsAre its ns
 | [], _, .nil => .nil
 | n :: ns, _, .cons r rs => by
   obtain ⟨t, rfl⟩ := r
   exact .cons n t (Dm rs)
theorem Kf {X : Cx} (hc : X.calm = true) : CG X (.builtin "min") (fun xs H Q => ∃ (l : Addr) (ns : List Int), xs = [.ref l] ∧ H l = some (.lst (ns.map V.int)) ∧ 0 < ns.length ∧ ∀ M, M ∈ ns → (∀ a, a ∈ ns → M ≤ a) → Q (.int M) H) := by
 intro pins s σ H xs us Q I r h
 obtain ⟨l, ns, rfl, hH, hne, q⟩ := h
 obtain ⟨u, rfl, rfl⟩ := DQ r
 obtain ⟨z, its, n, rv, hl, e⟩ := I.lstM hH
 have hi := Dm rv
 have hL : s.heap.IsList l its.toArray := ⟨_, e, rfl, n, rfl⟩
 obtain ⟨xs, e⟩ := hi.allInts.items
 have hns : ns = xs.toList.map (·.1) := by rw [← hi.numsOf, ← nums_intItems, ← e]
 have hsz : 0 < xs.size := by rw [hns, Rx, R6] at hne; exact hne
 rw [e] at hL
 refine min_intList (I.ok.hd hc) hL hsz fun v h' tk hv hk => ?_
 obtain ⟨t, rfl⟩ := intItems_at hv
 obtain ⟨h1, h2⟩ := argBest_lt (numAt xs) (xs.size - 1)
 refine ⟨.int _, H, I.kept hk, ⟨_, rfl⟩, q _ ?_ fun a ha => ?_⟩
 ·rw [hns, numAt_eq]; exact getD_mem (by rw [Rx, R6]; lia)
 ·rw [hns] at ha
  obtain ⟨j, hj, rfl⟩ := mem_getD ha
  rw [Rx, R6] at hj
  rw [← numAt_eq]; exact h2 j (by lia)
theorem Kg {X : Cx} (hc : X.calm = true) : CG X (.builtin "max") (fun xs H Q => ∃ (l : Addr) (ns : List Int), xs = [.ref l] ∧ H l = some (.lst (ns.map V.int)) ∧ 0 < ns.length ∧ ∀ M, M ∈ ns → (∀ a, a ∈ ns → a ≤ M) → Q (.int M) H) := by
 intro pins s σ H xs us Q I r h
 obtain ⟨l, ns, rfl, hH, hne, q⟩ := h
 obtain ⟨u, rfl, rfl⟩ := DQ r
 obtain ⟨z, its, n, rv, hl, e⟩ := I.lstM hH
 have hi := Dm rv
 have hL : s.heap.IsList l its.toArray := ⟨_, e, rfl, n, rfl⟩
 obtain ⟨xs, e⟩ := hi.allInts.items
 have hns : ns = xs.toList.map (·.1) := by rw [← hi.numsOf, ← nums_intItems, ← e]
 have hsz : 0 < xs.size := by rw [hns, Rx, R6] at hne; exact hne
 rw [e] at hL
 refine max_intList (I.ok.hd hc) hL hsz fun v h' tk hv hk => ?_
 obtain ⟨t, rfl⟩ := intItems_at hv
 obtain ⟨h1, h2⟩ := argBest_gt (numAt xs) (xs.size - 1)
 refine ⟨.int _, H, I.kept hk, ⟨_, rfl⟩, q _ ?_ fun a ha => ?_⟩
 ·rw [hns, numAt_eq]; exact getD_mem (by rw [Rx, R6]; lia)
 ·rw [hns] at ha
  obtain ⟨j, hj, rfl⟩ := mem_getD ha
  rw [Rx, R6] at hj
  rw [← numAt_eq]; exact h2 j (by lia)
inductive KD (x : V) (vs : List V) (H : Hp) (Q : VK) : Prop
 | mk (l : Addr) (ns : List Int) (k : Int) (h1 : x = .ref l) (h2 : vs = [.int k]) (h3 : H l = some (.lst (ns.map V.int))) (h4 : k ∈ ns) (h5 : Q (.int ((ns.idxOf k : Nat) : Int)) H) : KD x vs H Q
theorem Ia {X : Cx} : MtM X "list.index" KD := by
 intro pins s σ H x vs v us Q I rx rv h
 obtain ⟨l, ns, k, rfl, rfl, hH, hk, q⟩ := h
 cases rx
 obtain ⟨u, rfl, ru⟩ := rv.one
 obtain ⟨t, rfl⟩ := ru
 obtain ⟨z, its, n, r, hl, e⟩ := I.lstM hH
 have hi := Dm r
 have hlen := hi.length
 have hj : ns.idxOf k < ns.length := List.idxOf_lt_length_iff.mpr hk
 rw [Rx] at z
 have hb : sizeLine < 2 ^ 62 := by decide
 refine call_meets PySem.F.slot_list_index ⟨_, e, rfl⟩ PySem.F.entry_list_index (PySem.F.args_list_index_2 _ _)
  (list_indexAt l its.toArray n _ _ (.int k t) (isInt k) (ns.idxOf k) (by simpa [hlen] using hj) (by lia) ?_ ?_) ⟨e, fun y hy => (eq_isInt k t hi y (by simpa using hy)).at _ _, ?_⟩
 ·show isInt k its[ns.idxOf k] = true
  rw [isInt_at k hi _ (by lia) hj]
  simpa using List.getElem_idxOf hj
 ·intro j hjs hlt
  show isInt k its[j] = false
  rw [isInt_at k hi j (by simpa using hjs) (by lia)]
  exact ne_of_lt_idxOf hlt _
 ·exact ⟨.int _, H, I.tok _, ⟨_, rfl⟩, q⟩
end L2
namespace L2
def dL : List Rat → List Rat
 | [] => []
 | _ :: r => Bg r (0 :: dL r)
theorem Fw (q : Rat) (r : List Rat) (x : Rat) : Cv.ev (dL (q :: r)) x = Cv.ev r x + x * Cv.ev (dL r) x := by
 show Cv.ev (Bg r (0 :: dL r)) x = _
 rw [BB]
 show _ + (0 + x * Cv.ev (dL r) x) = _
 grind
def wL (l : List Rat) (c : Nat) : List Rat := (QP l.length).map fun j => l.getD j 0 * ((j + c : Nat) : Rat)
theorem LV (a : Rat) (r : List Rat) (c : Nat) : wL (a :: r) c = a * ((c : Nat) : Rat) :: wL r (c + 1) := by
 unfold wL
 show (QP (r.length + 1)).map _ = _
 rw [List.range_succ_eq_map, RL, T5]
 refine congr (congrArg List.cons ?_) ?_
 ·show a * ((0 + c : Nat) : Rat) = _
  rw [T3]
 ·refine T6 fun j _ => ?_
  show r.getD j 0 * ((j + 1 + c : Nat) : Rat) = r.getD j 0 * ((j + (c + 1) : Nat) : Rat)
  rw [show j + 1 + c = j + (c + 1) by lia]
theorem MJ (x : Rat) : ∀ (l : List Rat) (c : Nat), Cv.ev (wL l c) x = ((c : Nat) : Rat) * Cv.ev l x + x * Cv.ev (dL l) x
 | [], c => by show (0 : Rat) = _ * 0 + x * 0; grind
 | a :: r, c => by
   rw [LV, Fw]
   show a * ((c : Nat) : Rat) + x * Cv.ev (wL r (c + 1)) x = ((c : Nat) : Rat) * (a + x * Cv.ev r x) + _
   rw [MJ x r (c + 1), Kd]
   grind
theorem Ky (x : Rat) : ∀ l : List Rat, Cv.ev ((QP (l.length - 1)).map fun j => l.getD (j + 1) 0 * ((j + 1 : Nat) : Rat)) x = Cv.ev (dL l) x
 | [] => rfl
 | q :: r => by
   rw [Fw]
   have h := MJ x r 1
   have e : ((1 : Nat) : Rat) = 1 := rfl
   rw [e, Rat.one_mul] at h
   rw [← h]
   rfl
def ty (x : Rat) : List Rat → List Rat
 | [] => []
 | q :: r => Bg (q :: ty x r) ((ty x r).map (· * x))
theorem CQ : ∀ (l m : List Rat) (k : Nat), (Bg l m).getD k 0 = l.getD k 0 + m.getD k 0
 | [], m, k => by show m.getD k 0 = 0 + m.getD k 0; grind
 | a :: l, [], k => by show (a :: l).getD k 0 = (a :: l).getD k 0 + 0; grind
 | a :: l, b :: m, 0 => rfl
 | a :: l, b :: m, k + 1 => CQ l m k
theorem CY (y : Rat) (l : List Rat) (k : Nat) : (l.map (· * y)).getD k 0 = l.getD k 0 * y := by
 rw [Sl, Sl, Ru]
 cases l[k]? with
 | none => show (0 : Rat) = 0 * y; grind
 | some t => rfl
theorem Fy {l m : List Rat} (h : ∀ k : Nat, Cv.ev l ((k : Nat) : Rat) = Cv.ev m ((k : Nat) : Rat)) (k : Nat) : l.getD k 0 = m.getD k 0 := by
 have z := Cv.ident _ (Bg l (m.map (· * (-1)))) (R8 _) 0 fun k _ => by
  rw [BB, Cv.ev_scale, h k]; grind
 have e : (Bg l (m.map (· * (-1)))).getD k 0 = 0 := by
  rw [Sl]
  cases q : (Bg l (m.map (· * (-1))))[k]? with
  | none => rfl
  | some t => exact z t (Rv q)
 rw [CQ, CY] at e
 grind
def quo (c : Rat) : List Rat → List Rat
 | [] => []
 | _ :: r => Bg r ((quo c r).map (· * c))
theorem KI (c x : Rat) : ∀ l, Cv.ev l x = Cv.ev l c + (x - c) * Cv.ev (quo c l) x
 | [] => by show (0 : Rat) = 0 + _ * 0; grind
 | q :: r => by
   have ih := KI c x r
   show q + x * Cv.ev r x = (q + c * Cv.ev r c) + (x - c) * Cv.ev (Bg r ((quo c r).map (· * c))) x
   rw [BB, Cv.ev_scale]
   have h : (x - c) * (Cv.ev r x + Cv.ev (quo c r) x * c) = x * Cv.ev r x - c * (Cv.ev r x - (x - c) * Cv.ev (quo c r) x) := by grind
   rw [h, show Cv.ev r x - (x - c) * Cv.ev (quo c r) x = Cv.ev r c by grind]
   grind
end L2
namespace L2
end L2
namespace L2
open PySem PySem.Spec PyProof.Rows
theorem Js {K : QT} {a : Addr} {js : List Nat} {xs : List V} {tc : TT} {te : TE} {σ : St} {H : Hp} {Fin : List V → Hp → Prop} (Pv : Nat → List V → Hp → Prop) (h0 : Pv 0 [] H)
 (hl : ∀ i zs H, i ≤ xs.length → Pv i zs H → SqL K H a xs ∧ zs.length ≤ i) (hz : xs.length ≤ sizeLine)
 (hs : ∀ i x zs H, xs[i]? = some x → Pv i zs H → tc ((cS 1 js σ).set 0 (some x)) H fun b H3 => if b = true then te ((cS 1 js σ).set 0 (some x)) H3 fun y H4 => Pv (i + 1) (zs ++ [y]) H4 else Pv (i + 1) zs H3) (fin : ∀ zs H', Pv xs.length zs H' → Fin zs H') :
 ∃ (n' : Nat) (W : Nat → List V → Hp → Prop), W 0 [] H ∧ LcW (Itl K a) n' 1 js σ (BW 0) tc te Fin W := by
 refine ⟨xs.length, Pv, h0, ⟨?_, ?_, ?_⟩⟩
 ·intro i zs H' hi p
  obtain ⟨h1, h2⟩ := hl i zs H' (QV hi) p
  exact ⟨⟨xs, xs[i], h1, by simp [hi]⟩, by lia⟩
 ·rintro i zs H' x H1 hi p ⟨rfl, y⟩
  exact hs i x zs _ (y xs (hl i zs _ (QV hi) p).1) p
 ·intro zs H' p
  obtain ⟨h1, h2⟩ := hl _ zs H' (R8 _) p
  exact ⟨⟨xs, h1, R8 _⟩, by lia, fin zs H' p⟩
end L2
namespace PySem
open Sem (wp)
open Builtin
set_option maxRecDepth 100000
end PySem
namespace L2
open PySem PySem.Spec PyProof.Rows
variable {X : Cx}
end L2
namespace L2
open PySem PySem.Spec PyProof.Rows
end L2
namespace L2
open PySem PySem.Spec PyProof.Rows
section
variable {K : QT} {H H' : Hp} {x : V} {ps : List Rat} {xs : List V} {pss : List (List Rat)} {p : Addr} {ys : List V} {o : HO}
end
section
variable {K : QT} {H H' : Hp} {x : V} {t : Ox} {xs : List V} {ts : List Ox} {p : Addr} {ys : List V} {o : HO}
end
end L2
namespace L2
end L2
namespace HT
open PySem PyProof.Rows
open PySem.SeqAt
open PySem.AutoSeq1 (wpAny_loadPart')
open PySem.MeetsSeq PySem.MeetsSeq2 PySem.MeetsSeq3
end HT
namespace L2
open PySem PySem.Spec PyProof.Rows
section
variable {X : Cx} {K : QT}
end
theorem NG (xs : List V) (v : Nat) : DE xs none (some (v : Int)) = xs.take v := by
 unfold DE
 have e1 : HT.sIx xs.length 0 none = 0 := rfl
 have e2 : HT.sIx xs.length xs.length (some (v : Int)) = min v xs.length := HT.sIx_nat _ _ v
 rw [e1, e2, SO, SQ]
 by_cases h : v ≤ xs.length
 ·rw [RE h]
 ·rw [Nat.min_eq_right (by lia), T7 (R8 _), T7 (by lia)]
end L2
namespace L2
open PySem PySem.Spec PyProof.Rows PySem.SeqAt
theorem Ke {X : Cx} (hc : X.calm = true) : CG X (.builtin "sum") (fun xs H Q => ∃ (l : Addr) (ns : List Int), xs = [.ref l] ∧ H l = some (.lst (ns.map V.int)) ∧ Q (.int ns.sum) H) := by
 intro pins s σ H xs us Q I r h
 obtain ⟨l, ns, rfl, hH, q⟩ := h
 obtain ⟨u, rfl, rfl⟩ := DQ r
 obtain ⟨z, its, n, rv, hl, e⟩ := I.lstM hH
 have hi := Dm rv
 have hL : s.heap.IsList l its.toArray := ⟨_, e, rfl, n, rfl⟩
 obtain ⟨xs, e⟩ := hi.allInts.items
 have hns : ns = xs.toList.map (·.1) := by rw [← hi.numsOf, ← nums_intItems, ← e]
 rw [e] at hL
 refine sum_intListG (I.ok.hd hc) hL fun h' tk t' hk => ?_
 refine ⟨.int _, H, I.kept hk, ⟨_, rfl⟩, ?_⟩
 rw [preSum_eq, T7 (by simp), ← hns]; exact q
section
variable {X : Cx}
theorem _root_.HT.cat_tup0 {prog : Program} {w : World} {A : Around} {E : Value → Shared → Prop} {s : Shared} {t b : Addr} {ws : List Value} {Q : Value → Shared → Prop} (ht : IsTup s.heap t ([] : List Value).toArray) (hb : IsTup s.heap b ws.toArray)
 (h1 : Q (.ref b) s) : wpAny (model prog w) A (binaryOp .Add (.ref t) (.ref b)) Q E s := by
 obtain ⟨⟨cls, dd, data, sl⟩, ho, hc, n, hd⟩ := id ht
 obtain ⟨⟨cls2, dd2, data2, sl2⟩, ho2, hc2, n2, hd2⟩ := id hb
 simp only at hc hd hc2 hd2
 subst hc hd hc2 hd2
 exact concat_meets ⟨_, ho, rfl⟩ ⟨_, ho2, rfl⟩ noFill_tuple_add seq_tuple_add PySem.F.slot_tuple_add PySem.F.entry_tuple_add (PySem.F.args_tuple_add_2 _ _)
  (tuple_addW0 t b ([] : List Value).toArray ws.toArray n n2 dd dd2 sl sl2 (by simp)) ⟨ho, ho2, h1⟩
def KG (K : QT) : R2 := fun x y H Q => KH K x y H Q ∨ ∃ a b ys, x = .ref a ∧ y = .ref b ∧ SqT K H a [] ∧ SqT K H b ys ∧ Q (.ref b) H
theorem KP : OpR X (binaryOp .Add) (KG X.K) := by
 intro pins s σ H x y v u Q I rx ry h
 rcases h with h | ⟨a, b, ys, rfl, rfl, ha, hb, q⟩
 ·exact Mb pins s σ H x y v u Q I rx ry h
 ·cases rx
  cases ry
  obtain ⟨its, r1, p1, _⟩ := I.tuple ha
  obtain ⟨its2, r2, p2, _⟩ := I.tuple hb
  cases r1
  exact HT.cat_tup0 p1 p2 ⟨.ref b, H, I, rfl, q⟩
theorem Ov (K : QT) (e : X.K = K := by rfl) : OpR X (binaryOp .Add) (KG K) := by subst e; exact KP
end
end L2
namespace L2
open PySem PySem.Spec PyProof.Rows
section
variable {X : Cx} {pins : List (Addr × Obj)} {σ : List (Option V)} {H : Hp} {s : Shared} {h' : Heap}
end
section
variable {X : Cx}
end
end L2
namespace L2
open PySem PySem.Spec PyProof.Rows
namespace St
open SetTable
def it (mask : Nat) : Nat → Nat → Nat
 | 0, i => i
 | n + 1, i => it mask n ((i * 5 + 1) % (mask + 1))
def bs (mask : Nat) (b : Nat) : Nat → Nat × Nat
 | 0 => (b % (mask + 1), b)
 | n + 1 => leap mask (bs mask b n).1 (bs mask b n).2
def base (mask i pert : Nat) : Probe := { j := i, more := runEnd mask i - i, i, perturb := pert, dummy := none }
end St
end L2
namespace L2
open PySem PySem.Spec PyProof.Rows
namespace St
open SetTable
section
variable {prog : Program} {w : World} {K : Type} [DecidableEq K] (knd : KeyKind prog w K)
def IsN (h : Heap) (ks : List K) (a : Addr) : Prop := ∃ o items n, h.get? a = some o ∧ o.cls = .type "tuple" ∧ o.data = .seq items n ∧ ItemsAre knd ks items.toList ∧ ∀ v ∈ items.toList, ∃ k t, v = .int k t
variable {knd}
variable {A : Around} {E : Value → Shared → Prop} {s : Shared}
def Ns (knd : KeyKind prog w K) (h : Heap) (l : List Value) (ks : List K) : Prop := ∀ v ∈ l, ∃ b k', v = .ref b ∧ IsN knd h k' b ∧ k' ≠ ks
end
end St
end L2
namespace L2
open PySem PySem.Spec PyProof.Rows
namespace St
open SetTable
end St
end L2
namespace L2
open PySem PySem.Spec PyProof.Rows
namespace St
open SetTable
section
variable {prog : Program} {w : World} {K : Type} [DecidableEq K] (knd : KeyKind prog w K) (G : Addr → Prop)
variable {knd} {G}
variable {A : Around} {E : Value → Shared → Prop} {s : Shared}
end
end St
end L2
namespace L2
open PySem PySem.Spec PyProof.Rows
namespace St
section
variable {prog : Program} {w : World} {K : Type} [DecidableEq K] {knd : KeyKind prog w K} {G : Addr → Prop} {A : Around} {R : Result → Shared → Prop} {I : Addr} {fp wr : List Addr} {GG : Array GenState → Array GenState → Prop} {n : Nat} {P : Nat → Value → Prop} {St : Nat → Shared → Prop}
end
section
variable {prog : Program} {w : World} {K : Type} [DecidableEq K] {knd : KeyKind prog w K} {A : Around} {E : Value → Shared → Prop} {s : Shared}
end
end St
end L2
namespace L2
open PySem PySem.Spec PyProof.Rows
section
variable {X : Cx}
end
end L2
namespace L2
open PySem PySem.Spec PyProof.Rows
section
open PySem.W
variable {X : Cx} (K : QT)
end
end L2
namespace L2
open PySem PySem.Spec PyProof.Rows
structure OC (X : Cx) (N : List Str) (nt : Nat) (js : List Nat) (scope : Scope) (x : Str) : Prop where
 kind : scope.kind = .function
 split : ∃ pre post, scope.names = pre ++ (x, .cell) :: post ∧ (∀ y ∈ pre, y.2 ≠ .cell) ∧ ∀ y ∈ post, y.2 ≠ .cell
 only : ∀ y ∈ scope.names, y.2 = .cell → y.1 = x
 lx : scope.names.lookup x = some .cell
 names : ∀ y ∈ scope.names, y.2 = .local → scope.names.lookup y.1 = some .local
 free : ∀ y ∈ scope.names, y.2 = .free → X.env.kindOf y.1 = some .cell ∨ X.env.kindOf y.1 = some .free
 len : N.length = nt + js.length
 outer : ∀ j i, js[j]? = some i → ∃ x, N[nt + j]? = some x ∧ X.N[i]? = some x ∧ scope.names.lookup x = some .free
section
variable {X : Cx} {N : List Str} {nt : Nat} {js : List Nat} {scope : Scope} {cl : List (Str × Addr)} {x : Str} {c : Addr}
end
section
variable {X : Cx} {N : List Str} {nt : Nat} {js : List Nat} {scope : Scope} {elt iter tg : Expr} {ifs : List Expr} {pos : Pos} {g : TG} {tc : TT} {te : TE} {wi : TI} {xn : Str}
end
end L2
namespace L2
open PySem PySem.Spec PyProof.Rows
@[reducible] def Cl (u : QT → TS) (K : QT) : TS := u K
theorem Ae {X : Cx} {st : Stmt} {rest : List Stmt} {t v : TS} {K : QT} {u : QT → TS} (h1 : PS X st t) (h2 : PSs X rest v) (e : v = u K) : PSs X (st :: rest) (LY t (Cl u K)) := by
 subst e; exact Dj h1 h2
section
variable {X : Cx} {o e : Expr} {es : List Expr} {to : TE} {t : TA} {name : Str} {apos cpos : Pos} {T id : String} {r : V → List V → Hp → VK → Prop}
theorem Jl (K : QT) (pa : PlainAttrs T) (slot : Slot T name id) (hty : typeOf (.builtin id) = pure (.type "method_descriptor")) (hm : MtR X id r) (ho : PE X o to)
 (hbase : attributeBase o name X.env (eval o X.env) = eval o X.env := by rfl) (hline : (apos.endLine == cpos.line) = true := by rfl) (eK : X.K = K := by rfl) : PE X (.Call (.Attribute o name apos) [] [] cpos) (O2 K T r to) := Nd pa slot hty hm ho hbase hline eK
theorem Er (K : QT) (pa : PlainAttrs T) (slot : Slot T name id) (hty : typeOf (.builtin id) = pure (.type "method_descriptor")) (hm : MtR X id r) (ho : PE X o to) (ha : PA X (e :: es) t)
 (hbase : attributeBase o name X.env (eval o X.env) = eval o X.env := by rfl)
 (hfew : ((backTo cpos (starEach (e :: es) X.env)).all (fun x => !x.1) && (backToKw cpos (keywordEach [] X.env)).all (fun x => x.1.isSome)
  && decide ((e :: es).length + ([] : List Keyword).length + (if ([] : List Keyword).isEmpty then 0 else 1) < 30)) = true := by rfl)
 (hline : (apos.endLine == cpos.line) = true := by rfl) (hs : starEach (e :: es) X.env = (false, eval e X.env) :: starEach es X.env := by rfl) (hplain : (backTo cpos (starEach es X.env)).any (·.1) = false := by rfl) (eK : X.K = K := by rfl) :
 PE X (.Call (.Attribute o name apos) (e :: es) [] cpos) (tBM K T r to t) := Oc pa slot hty hm ho ha hbase hfew hline hs hplain eK
end
theorem Bs {c : Bool} {A B : Prop} (e : c = true) (h : A) : if c = true then A else B := by
 rw [if_pos e]; exact h
theorem AV {c : Bool} {A B : Prop} (e : c = false) (h : B) : if c = true then A else B := by
 rw [if_neg (by rw [e]; decide)]; exact h
theorem BJ {α : Type} {l : List α} {n : Nat} (h : l.length = n + 1) : ∃ a r, l = a :: r ∧ r.length = n := by
 cases l with
 | nil => cases h
 | cons a r => exact ⟨a, r, rfl, Nat.succ.inj h⟩
theorem Fun.binds1 {K : QT} {x qual : Str} {st : Stmt} {f : Addr} {fd : FuncData} (p1 : Str) (F : Fun K x qual st f fd)
 (h : ∀ (kV doc pm : Value) (an : Option Addr) (cdv ct a1 : Value), bindArgs (Rz x qual (Ar st) (Aq st) (Af st) .none kV doc pm an cdv ct) ⟨[a1], []⟩ = pure [(p1, a1)]) : CH K fd [p1] [] :=
 F.binds fun kV doc pm an cdv ct us l0 => by
  obtain ⟨a1, r1, rfl, l1⟩ := BJ l0
  cases T8.mp l1
  exact h kV doc pm an cdv ct a1
theorem Fun.binds2 {K : QT} {x qual : Str} {st : Stmt} {f : Addr} {fd : FuncData} (p1 p2 : Str) (F : Fun K x qual st f fd)
 (h : ∀ (kV doc pm : Value) (an : Option Addr) (cdv ct a1 a2 : Value), bindArgs (Rz x qual (Ar st) (Aq st) (Af st) .none kV doc pm an cdv ct) ⟨[a1, a2], []⟩ = pure [(p1, a1), (p2, a2)]) : CH K fd [p1, p2] [] :=
 F.binds fun kV doc pm an cdv ct us l0 => by
  obtain ⟨a1, r1, rfl, l1⟩ := BJ l0
  obtain ⟨a2, r2, rfl, l2⟩ := BJ l1
  cases T8.mp l2
  exact h kV doc pm an cdv ct a1 a2
theorem Fun.binds3 {K : QT} {x qual : Str} {st : Stmt} {f : Addr} {fd : FuncData} (p1 p2 p3 : Str) (F : Fun K x qual st f fd)
 (h : ∀ (kV doc pm : Value) (an : Option Addr) (cdv ct a1 a2 a3 : Value), bindArgs (Rz x qual (Ar st) (Aq st) (Af st) .none kV doc pm an cdv ct) ⟨[a1, a2, a3], []⟩ = pure [(p1, a1), (p2, a2), (p3, a3)]) : CH K fd [p1, p2, p3] [] :=
 F.binds fun kV doc pm an cdv ct us l0 => by
  obtain ⟨a1, r1, rfl, l1⟩ := BJ l0
  obtain ⟨a2, r2, rfl, l2⟩ := BJ l1
  obtain ⟨a3, r3, rfl, l3⟩ := BJ l2
  cases T8.mp l3
  exact h kV doc pm an cdv ct a1 a2 a3
theorem Fun.binds4 {K : QT} {x qual : Str} {st : Stmt} {f : Addr} {fd : FuncData} (p1 p2 p3 p4 : Str) (F : Fun K x qual st f fd)
 (h : ∀ (kV doc pm : Value) (an : Option Addr) (cdv ct a1 a2 a3 a4 : Value), bindArgs (Rz x qual (Ar st) (Aq st) (Af st) .none kV doc pm an cdv ct) ⟨[a1, a2, a3, a4], []⟩ = pure [(p1, a1), (p2, a2), (p3, a3), (p4, a4)]) : CH K fd [p1, p2, p3, p4] [] :=
 F.binds fun kV doc pm an cdv ct us l0 => by
  obtain ⟨a1, r1, rfl, l1⟩ := BJ l0
  obtain ⟨a2, r2, rfl, l2⟩ := BJ l1
  obtain ⟨a3, r3, rfl, l3⟩ := BJ l2
  obtain ⟨a4, r4, rfl, l4⟩ := BJ l3
  cases T8.mp l4
  exact h kV doc pm an cdv ct a1 a2 a3 a4
@[reducible] def L1 {α1 : Type} {δ : Type} (x1 : α1) (u : α1 → δ) : δ := u x1
@[reducible] def L2 {α1 α2 : Type} {δ : Type} (x1 : α1) (x2 : α2) (u : α1 → α2 → δ) : δ := u x1 x2
@[reducible] def L3 {α1 α2 α3 : Type} {δ : Type} (x1 : α1) (x2 : α2) (x3 : α3) (u : α1 → α2 → α3 → δ) : δ := u x1 x2 x3
@[reducible] def L4 {α1 α2 α3 α4 : Type} {δ : Type} (x1 : α1) (x2 : α2) (x3 : α3) (x4 : α4) (u : α1 → α2 → α3 → α4 → δ) : δ := u x1 x2 x3 x4
@[reducible] def L5 {α1 α2 α3 α4 α5 : Type} {δ : Type} (x1 : α1) (x2 : α2) (x3 : α3) (x4 : α4) (x5 : α5) (u : α1 → α2 → α3 → α4 → α5 → δ) : δ := u x1 x2 x3 x4 x5
@[reducible] def L6 {α1 α2 α3 α4 α5 α6 : Type} {δ : Type} (x1 : α1) (x2 : α2) (x3 : α3) (x4 : α4) (x5 : α5) (x6 : α6) (u : α1 → α2 → α3 → α4 → α5 → α6 → δ) : δ := u x1 x2 x3 x4 x5 x6
@[reducible] def L7 {α1 α2 α3 α4 α5 α6 α7 : Type} {δ : Type} (x1 : α1) (x2 : α2) (x3 : α3) (x4 : α4) (x5 : α5) (x6 : α6) (x7 : α7) (u : α1 → α2 → α3 → α4 → α5 → α6 → α7 → δ) : δ := u x1 x2 x3 x4 x5 x6 x7
@[reducible] def L8 {α1 α2 α3 α4 α5 α6 α7 α8 : Type} {δ : Type} (x1 : α1) (x2 : α2) (x3 : α3) (x4 : α4) (x5 : α5) (x6 : α6) (x7 : α7) (x8 : α8) (u : α1 → α2 → α3 → α4 → α5 → α6 → α7 → α8 → δ) : δ := u x1 x2 x3 x4 x5 x6 x7 x8
@[reducible] def L9 {α1 α2 α3 α4 α5 α6 α7 α8 α9 : Type} {δ : Type} (x1 : α1) (x2 : α2) (x3 : α3) (x4 : α4) (x5 : α5) (x6 : α6) (x7 : α7) (x8 : α8) (x9 : α9) (u : α1 → α2 → α3 → α4 → α5 → α6 → α7 → α8 → α9 → δ) : δ := u x1 x2 x3 x4 x5 x6 x7 x8 x9
@[reducible] def L10 {α1 α2 α3 α4 α5 α6 α7 α8 α9 α10 : Type} {δ : Type} (x1 : α1) (x2 : α2) (x3 : α3) (x4 : α4) (x5 : α5) (x6 : α6) (x7 : α7) (x8 : α8) (x9 : α9) (x10 : α10) (u : α1 → α2 → α3 → α4 → α5 → α6 → α7 → α8 → α9 → α10 → δ) : δ := u x1 x2 x3 x4 x5 x6 x7 x8 x9 x10
@[reducible] def L11 {α1 α2 α3 α4 α5 α6 α7 α8 α9 α10 α11 : Type} {δ : Type} (x1 : α1) (x2 : α2) (x3 : α3) (x4 : α4) (x5 : α5) (x6 : α6) (x7 : α7) (x8 : α8) (x9 : α9) (x10 : α10) (x11 : α11) (u : α1 → α2 → α3 → α4 → α5 → α6 → α7 → α8 → α9 → α10 → α11 → δ) : δ := u x1 x2 x3 x4 x5 x6 x7 x8 x9 x10 x11
@[reducible] def L12 {α1 α2 α3 α4 α5 α6 α7 α8 α9 α10 α11 α12 : Type} {δ : Type} (x1 : α1) (x2 : α2) (x3 : α3) (x4 : α4) (x5 : α5) (x6 : α6) (x7 : α7) (x8 : α8) (x9 : α9) (x10 : α10) (x11 : α11) (x12 : α12) (u : α1 → α2 → α3 → α4 → α5 → α6 → α7 → α8 → α9 → α10 → α11 → α12 → δ) : δ := u x1 x2 x3 x4 x5 x6 x7 x8 x9 x10 x11 x12
@[reducible] def L13 {α1 α2 α3 α4 α5 α6 α7 α8 α9 α10 α11 α12 α13 : Type} {δ : Type} (x1 : α1) (x2 : α2) (x3 : α3) (x4 : α4) (x5 : α5) (x6 : α6) (x7 : α7) (x8 : α8) (x9 : α9) (x10 : α10) (x11 : α11) (x12 : α12) (x13 : α13) (u : α1 → α2 → α3 → α4 → α5 → α6 → α7 → α8 → α9 → α10 → α11 → α12 → α13 → δ) : δ := u x1 x2 x3 x4 x5 x6 x7 x8 x9 x10 x11 x12 x13
@[reducible] def L14 {α1 α2 α3 α4 α5 α6 α7 α8 α9 α10 α11 α12 α13 α14 : Type} {δ : Type} (x1 : α1) (x2 : α2) (x3 : α3) (x4 : α4) (x5 : α5) (x6 : α6) (x7 : α7) (x8 : α8) (x9 : α9) (x10 : α10) (x11 : α11) (x12 : α12) (x13 : α13) (x14 : α14) (u : α1 → α2 → α3 → α4 → α5 → α6 → α7 → α8 → α9 → α10 → α11 → α12 → α13 → α14 → δ) : δ := u x1 x2 x3 x4 x5 x6 x7 x8 x9 x10 x11 x12 x13 x14
@[reducible] def L15 {α1 α2 α3 α4 α5 α6 α7 α8 α9 α10 α11 α12 α13 α14 α15 : Type} {δ : Type} (x1 : α1) (x2 : α2) (x3 : α3) (x4 : α4) (x5 : α5) (x6 : α6) (x7 : α7) (x8 : α8) (x9 : α9) (x10 : α10) (x11 : α11) (x12 : α12) (x13 : α13) (x14 : α14) (x15 : α15) (u : α1 → α2 → α3 → α4 → α5 → α6 → α7 → α8 → α9 → α10 → α11 → α12 → α13 → α14 → α15 → δ) : δ := u x1 x2 x3 x4 x5 x6 x7 x8 x9 x10 x11 x12 x13 x14 x15
@[reducible] def L16 {α1 α2 α3 α4 α5 α6 α7 α8 α9 α10 α11 α12 α13 α14 α15 α16 : Type} {δ : Type} (x1 : α1) (x2 : α2) (x3 : α3) (x4 : α4) (x5 : α5) (x6 : α6) (x7 : α7) (x8 : α8) (x9 : α9) (x10 : α10) (x11 : α11) (x12 : α12) (x13 : α13) (x14 : α14) (x15 : α15) (x16 : α16) (u : α1 → α2 → α3 → α4 → α5 → α6 → α7 → α8 → α9 → α10 → α11 → α12 → α13 → α14 → α15 → α16 → δ) : δ := u x1 x2 x3 x4 x5 x6 x7 x8 x9 x10 x11 x12 x13 x14 x15 x16
@[reducible] def L17 {α1 α2 α3 α4 α5 α6 α7 α8 α9 α10 α11 α12 α13 α14 α15 α16 α17 : Type} {δ : Type} (x1 : α1) (x2 : α2) (x3 : α3) (x4 : α4) (x5 : α5) (x6 : α6) (x7 : α7) (x8 : α8) (x9 : α9) (x10 : α10) (x11 : α11) (x12 : α12) (x13 : α13) (x14 : α14) (x15 : α15) (x16 : α16) (x17 : α17) (u : α1 → α2 → α3 → α4 → α5 → α6 → α7 → α8 → α9 → α10 → α11 → α12 → α13 → α14 → α15 → α16 → α17 → δ) : δ := u x1 x2 x3 x4 x5 x6 x7 x8 x9 x10 x11 x12 x13 x14 x15 x16 x17
@[reducible] def L18 {α1 α2 α3 α4 α5 α6 α7 α8 α9 α10 α11 α12 α13 α14 α15 α16 α17 α18 : Type} {δ : Type} (x1 : α1) (x2 : α2) (x3 : α3) (x4 : α4) (x5 : α5) (x6 : α6) (x7 : α7) (x8 : α8) (x9 : α9) (x10 : α10) (x11 : α11) (x12 : α12) (x13 : α13) (x14 : α14) (x15 : α15) (x16 : α16) (x17 : α17) (x18 : α18) (u : α1 → α2 → α3 → α4 → α5 → α6 → α7 → α8 → α9 → α10 → α11 → α12 → α13 → α14 → α15 → α16 → α17 → α18 → δ) : δ := u x1 x2 x3 x4 x5 x6 x7 x8 x9 x10 x11 x12 x13 x14 x15 x16 x17 x18
@[reducible] def L19 {α1 α2 α3 α4 α5 α6 α7 α8 α9 α10 α11 α12 α13 α14 α15 α16 α17 α18 α19 : Type} {δ : Type} (x1 : α1) (x2 : α2) (x3 : α3) (x4 : α4) (x5 : α5) (x6 : α6) (x7 : α7) (x8 : α8) (x9 : α9) (x10 : α10) (x11 : α11) (x12 : α12) (x13 : α13) (x14 : α14) (x15 : α15) (x16 : α16) (x17 : α17) (x18 : α18) (x19 : α19) (u : α1 → α2 → α3 → α4 → α5 → α6 → α7 → α8 → α9 → α10 → α11 → α12 → α13 → α14 → α15 → α16 → α17 → α18 → α19 → δ) : δ := u x1 x2 x3 x4 x5 x6 x7 x8 x9 x10 x11 x12 x13 x14 x15 x16 x17 x18 x19
@[reducible] def L20 {α1 α2 α3 α4 α5 α6 α7 α8 α9 α10 α11 α12 α13 α14 α15 α16 α17 α18 α19 α20 : Type} {δ : Type} (x1 : α1) (x2 : α2) (x3 : α3) (x4 : α4) (x5 : α5) (x6 : α6) (x7 : α7) (x8 : α8) (x9 : α9) (x10 : α10) (x11 : α11) (x12 : α12) (x13 : α13) (x14 : α14) (x15 : α15) (x16 : α16) (x17 : α17) (x18 : α18) (x19 : α19) (x20 : α20) (u : α1 → α2 → α3 → α4 → α5 → α6 → α7 → α8 → α9 → α10 → α11 → α12 → α13 → α14 → α15 → α16 → α17 → α18 → α19 → α20 → δ) : δ := u x1 x2 x3 x4 x5 x6 x7 x8 x9 x10 x11 x12 x13 x14 x15 x16 x17 x18 x19 x20
@[reducible] def L21 {α1 α2 α3 α4 α5 α6 α7 α8 α9 α10 α11 α12 α13 α14 α15 α16 α17 α18 α19 α20 α21 : Type} {δ : Type} (x1 : α1) (x2 : α2) (x3 : α3) (x4 : α4) (x5 : α5) (x6 : α6) (x7 : α7) (x8 : α8) (x9 : α9) (x10 : α10) (x11 : α11) (x12 : α12) (x13 : α13) (x14 : α14) (x15 : α15) (x16 : α16) (x17 : α17) (x18 : α18) (x19 : α19) (x20 : α20) (x21 : α21) (u : α1 → α2 → α3 → α4 → α5 → α6 → α7 → α8 → α9 → α10 → α11 → α12 → α13 → α14 → α15 → α16 → α17 → α18 → α19 → α20 → α21 → δ) : δ := u x1 x2 x3 x4 x5 x6 x7 x8 x9 x10 x11 x12 x13 x14 x15 x16 x17 x18 x19 x20 x21
@[reducible] def L22 {α1 α2 α3 α4 α5 α6 α7 α8 α9 α10 α11 α12 α13 α14 α15 α16 α17 α18 α19 α20 α21 α22 : Type} {δ : Type} (x1 : α1) (x2 : α2) (x3 : α3) (x4 : α4) (x5 : α5) (x6 : α6) (x7 : α7) (x8 : α8) (x9 : α9) (x10 : α10) (x11 : α11) (x12 : α12) (x13 : α13) (x14 : α14) (x15 : α15) (x16 : α16) (x17 : α17) (x18 : α18) (x19 : α19) (x20 : α20) (x21 : α21) (x22 : α22) (u : α1 → α2 → α3 → α4 → α5 → α6 → α7 → α8 → α9 → α10 → α11 → α12 → α13 → α14 → α15 → α16 → α17 → α18 → α19 → α20 → α21 → α22 → δ) : δ := u x1 x2 x3 x4 x5 x6 x7 x8 x9 x10 x11 x12 x13 x14 x15 x16 x17 x18 x19 x20 x21 x22
@[reducible] def L23 {α1 α2 α3 α4 α5 α6 α7 α8 α9 α10 α11 α12 α13 α14 α15 α16 α17 α18 α19 α20 α21 α22 α23 : Type} {δ : Type} (x1 : α1) (x2 : α2) (x3 : α3) (x4 : α4) (x5 : α5) (x6 : α6) (x7 : α7) (x8 : α8) (x9 : α9) (x10 : α10) (x11 : α11) (x12 : α12) (x13 : α13) (x14 : α14) (x15 : α15) (x16 : α16) (x17 : α17) (x18 : α18) (x19 : α19) (x20 : α20) (x21 : α21) (x22 : α22) (x23 : α23) (u : α1 → α2 → α3 → α4 → α5 → α6 → α7 → α8 → α9 → α10 → α11 → α12 → α13 → α14 → α15 → α16 → α17 → α18 → α19 → α20 → α21 → α22 → α23 → δ) : δ := u x1 x2 x3 x4 x5 x6 x7 x8 x9 x10 x11 x12 x13 x14 x15 x16 x17 x18 x19 x20 x21 x22 x23
@[reducible] def L24 {α1 α2 α3 α4 α5 α6 α7 α8 α9 α10 α11 α12 α13 α14 α15 α16 α17 α18 α19 α20 α21 α22 α23 α24 : Type} {δ : Type} (x1 : α1) (x2 : α2) (x3 : α3) (x4 : α4) (x5 : α5) (x6 : α6) (x7 : α7) (x8 : α8) (x9 : α9) (x10 : α10) (x11 : α11) (x12 : α12) (x13 : α13) (x14 : α14) (x15 : α15) (x16 : α16) (x17 : α17) (x18 : α18) (x19 : α19) (x20 : α20) (x21 : α21) (x22 : α22) (x23 : α23) (x24 : α24) (u : α1 → α2 → α3 → α4 → α5 → α6 → α7 → α8 → α9 → α10 → α11 → α12 → α13 → α14 → α15 → α16 → α17 → α18 → α19 → α20 → α21 → α22 → α23 → α24 → δ) : δ := u x1 x2 x3 x4 x5 x6 x7 x8 x9 x10 x11 x12 x13 x14 x15 x16 x17 x18 x19 x20 x21 x22 x23 x24
theorem AX {X : Cx} {c : Expr} {a b : List Stmt} {pos : Pos} {tc : TT} {v1 v2 : TS} {K : QT} {u1 u2 : QT → TS} (hc : PT X c tc) (ha : PSs X a v1) (hb : PSs X b v2) (e1 : v1 = u1 K) (e2 : v2 = u2 K) : PS X (.If c a b pos) (Ku tc (Cl u1 K) (Cl u2 K)) := by
 subst e1; subst e2; exact Oa hc ha hb
theorem BK {X : Cx} {tg iter : Expr} {body : List Stmt} {wi : TI} {g : TG} {v : TS} {pos : Pos} {K : QT} {u : QT → TS} (hp : PassesOwn (model X.prog X.w) X.A X.env X.xe) (hc : X.calm = true) (hi : PI X tg iter wi) (hg : PG X tg g) (hb : PSs X body v) (e : v = u K)
 (hs : ∀ x, foldedSetIterable iter X.env x = pure x := by intro _; rfl) : PS X (.For tg iter body [] pos) (MU wi g (Cl u K)) := by
 subst e; exact N7 hp hc hi hg hb hs
theorem KW {a b c d : Nat} (h1 : a = c) (h2 : b = d) : ((a : Int) - (b : Int)).toNat = c - d := by rw [h1, h2]; exact Int.toNat_sub c d
theorem HZ {a b : Nat} (h : a = b) : ((a : Int) - 1).toNat = b - 1 := KW (b := 1) h rfl
theorem JY {a b c d : Nat} (h1 : a = c) (h2 : b = d) (_h : 1 ≤ d) : ((a : Int) + (b : Int) - 1).toNat = c + d - 1 := by
 rw [h1, h2, ← Int.natCast_add]
 exact HZ rfl
theorem KU {a b : Nat} (h : 1 ≤ b) : ((a : Int) + (b : Int) - 1).toNat = a + b - 1 := JY rfl rfl h
theorem JX {a b m : Nat} (h1 : a ≤ m) (h2 : b ≤ m) : ((a : Int) + (b : Int) - 1).toNat ≤ 2 * m := by
 rw [← Int.natCast_add, HZ rfl, Nat.two_mul]
 exact QU (Nat.sub_le _ _) (Nat.add_le_add h1 h2)
theorem Nn {i j a b n : Nat} (hi : i < a) (hj : j < b) (h : n = a + b - 1) : i + j < n := by
 rw [h]
 refine Nat.lt_sub_of_add_lt ?_
 rw [Nat.add_right_comm]
 exact Nat.add_lt_add_of_le_of_lt hi hj
end L2
namespace Dt
def skip (i a : Nat) : Nat := if a < i then a else a + 1
def sg (i : Nat) : Int := if i % 2 = 0 then 1 else -1
def sumN (f : Nat → Int) : Nat → Int
 | 0 => 0
 | n + 1 => sumN f n + f n
def det : Nat → (Nat → Nat → Int) → Nat → Int
 | 0, M, j => M 0 j
 | n + 1, M, j => sumN (fun i => sg i * (M i 0 * det n (fun a b => M (skip i a) (b + 1)) j)) (n + 2)
theorem sg_succ (i : Nat) : sg (i + 1) = - sg i := by
 unfold sg
 rcases Nat.mod_two_eq_zero_or_one i with h | h
 ·rw [if_neg (by lia), if_pos h]
 ·rw [if_pos (by lia), if_neg (by lia)]; rfl
theorem sum_congr {f g : Nat → Int} : ∀ {n}, (∀ i, i < n → f i = g i) → sumN f n = sumN g n
 | 0, _ => rfl
 | n + 1, h => by
   show sumN f n + f n = sumN g n + g n
   rw [sum_congr (fun i hi => h i (by lia)), h n (by lia)]
theorem sum_zero {f : Nat → Int} : ∀ {n}, (∀ i, i < n → f i = 0) → sumN f n = 0
 | 0, _ => rfl
 | n + 1, h => by
   show sumN f n + f n = 0
   rw [sum_zero (fun i hi => h i (by lia)), h n (by lia)]; rfl
theorem sum_lin {f g h : Nat → Int} {x y : Int} : ∀ {n}, (∀ i, i < n → f i = x * g i + y * h i) → sumN f n = x * sumN g n + y * sumN h n
 | 0, _ => by show (0 : Int) = x * 0 + y * 0; grind
 | n + 1, e => by
   show sumN f n + f n = x * (sumN g n + g n) + y * (sumN h n + h n)
   rw [sum_lin (fun i hi => e i (by lia)), e n (by lia)]; grind
theorem sum_two {f : Nat → Int} {p : Nat} (h2 : f p + f (p + 1) = 0) : ∀ {n}, p + 1 < n → (∀ i, i < n → i ≠ p → i ≠ p + 1 → f i = 0) → sumN f n = 0
 | 0, h, _ => absurd h (by lia)
 | n + 1, h, hz => by
   show sumN f n + f n = 0
   by_cases e : p + 1 = n
   ·subst e
    show sumN f p + f p + f (p + 1) = 0
    rw [sum_zero (fun i hi => hz i (by lia) (by lia) (by lia))]; grind
   ·rw [sum_two h2 (n := n) (by lia) (fun i hi => hz i (by lia)), hz n (by lia) (by lia) (by lia)]; rfl
theorem sum_first {f : Nat → Int} : ∀ {n}, (∀ i, 1 ≤ i → i < n + 1 → f i = 0) → sumN f (n + 1) = f 0
 | 0, _ => by show 0 + f 0 = f 0; grind
 | n + 1, h => by
   show sumN f (n + 1) + f (n + 1) = f 0
   rw [sum_first (n := n) (fun i h1 h2 => h i h1 (by lia)), h (n + 1) (by lia) (by lia)]; grind
theorem skip_le {i a n : Nat} (h : a ≤ n) : skip i a ≤ n + 1 := by unfold skip; split <;> lia
theorem skip_ne (i a : Nat) : skip i a ≠ i := by unfold skip; split <;> lia
theorem det_congr : ∀ {n : Nat} {M M' : Nat → Nat → Int} {j : Nat}, (∀ a, a ≤ n → ∀ b, M a b = M' a b) → det n M j = det n M' j
 | 0, M, M', j, h => h 0 (R8 _) j
 | n + 1, M, M', j, h => sum_congr fun i hi => by
   rw [h i (by lia) 0, det_congr (n := n) fun a ha b => h _ (skip_le ha) (b + 1)]
def put (M : Nat → Nat → Int) (p : Nat) (u : Nat → Int) : Nat → Nat → Int := fun a b => if a = p then u b else M a b
theorem put_at (M : Nat → Nat → Int) (p : Nat) (u : Nat → Int) (b : Nat) : put M p u p b = u b := if_pos rfl
theorem put_ne {M : Nat → Nat → Int} {p a : Nat} {u : Nat → Int} (h : a ≠ p) (b : Nat) : put M p u a b = M a b := if_neg h
def low (i p : Nat) : Nat := if p < i then p else p - 1
theorem skip_iff {i p a : Nat} (h : i ≠ p) : skip i a = p ↔ a = low i p := by unfold skip low; split <;> split <;> lia
theorem low_le {i p n : Nat} (h : i ≠ p) (hp : p ≤ n + 1) (hi : i ≤ n + 1) : low i p ≤ n := by unfold low; split <;> lia
theorem minor_put {M : Nat → Nat → Int} {i p : Nat} {u : Nat → Int} (h : i ≠ p) : (fun a b => put M p u (skip i a) (b + 1)) = put (fun a b => M (skip i a) (b + 1)) (low i p) fun b => u (b + 1) := by
 funext a b
 unfold put
 by_cases e : skip i a = p
 ·rw [if_pos e, if_pos ((skip_iff h).mp e)]
 ·rw [if_neg e, if_neg (fun z => e ((skip_iff h).mpr z))]
theorem minor_own {M : Nat → Nat → Int} {p : Nat} {u : Nat → Int} : (fun a b => put M p u (skip p a) (b + 1)) = fun a b => M (skip p a) (b + 1) := by
 funext a b
 exact put_ne (skip_ne p a) _
theorem det_lin : ∀ {n : Nat} {M : Nat → Nat → Int} {p : Nat} {u v : Nat → Int} {x y : Int} {j : Nat}, p ≤ n → det n (put M p fun b => x * u b + y * v b) j = x * det n (put M p u) j + y * det n (put M p v) j
 | 0, M, p, u, v, x, y, j, h => by
   obtain rfl : p = 0 := by lia
   rfl
 | n + 1, M, p, u, v, x, y, j, h => sum_lin fun i hi => by
   by_cases e : i = p
   ·subst e
    rw [put_at, put_at, put_at, minor_own, minor_own, minor_own]; grind
   ·rw [put_ne e, put_ne e, put_ne e, minor_put e, minor_put e, minor_put e, det_lin (low_le e h (by lia))]; grind
theorem det_adj : ∀ {n : Nat} {M : Nat → Nat → Int} {p j : Nat}, p + 1 ≤ n → (∀ b, M p b = M (p + 1) b) → det n M j = 0
 | 0, _, _, _, h, _ => absurd h (by lia)
 | n + 1, M, p, j, h, he => by
   refine sum_two (p := p) ?_ (by lia) fun i hi h1 h2 => ?_
   ·rw [sg_succ, ← he 0]
    have e : det n (fun a b => M (skip (p + 1) a) (b + 1)) j = det n (fun a b => M (skip p a) (b + 1)) j := det_congr fun a ha b => by
     unfold skip
     by_cases h1 : a < p
     ·rw [if_pos h1, if_pos (by lia)]
     ·by_cases h2 : a = p
      ·subst h2
       rw [if_pos (by lia), if_neg (by lia)]; exact he _
      ·rw [if_neg (by lia), if_neg h1]
    rw [e]; grind
   ·have z : det n (fun a b => M (skip i a) (b + 1)) j = 0 := by
     by_cases hlt : i < p
     ·obtain ⟨q, rfl⟩ : ∃ q, p = q + 1 := ⟨p - 1, by lia⟩
      refine det_adj (p := q) (by lia) fun b => ?_
      show M (skip i q) _ = M (skip i (q + 1)) _
      have e1 : skip i q = q + 1 := by unfold skip; rw [if_neg (by lia)]
      have e2 : skip i (q + 1) = q + 1 + 1 := by unfold skip; rw [if_neg (by lia)]
      rw [e1, e2]; exact he _
     ·refine det_adj (p := p) (by lia) fun b => ?_
      show M (skip i p) _ = M (skip i (p + 1)) _
      have e1 : skip i p = p := by unfold skip; rw [if_pos (by lia)]
      have e2 : skip i (p + 1) = p + 1 := by unfold skip; rw [if_pos (by lia)]
      rw [e1, e2]; exact he _
    rw [z]; grind
def swp (M : Nat → Nat → Int) (p : Nat) : Nat → Nat → Int := put (put M p (M (p + 1))) (p + 1) (M p)
theorem put_comm (M : Nat → Nat → Int) {p q : Nat} (h : p ≠ q) (u v : Nat → Int) : put (put M p u) q v = put (put M q v) p u := by
 funext a b; unfold put; split <;> split <;> first | rfl | lia
theorem put_self (M : Nat → Nat → Int) (p : Nat) : put M p (M p) = M := by
 funext a b; unfold put; split
 ·subst_vars; rfl
 ·rfl
theorem det_add {n : Nat} {M : Nat → Nat → Int} {p : Nat} {u v : Nat → Int} {j : Nat} (h : p ≤ n) : det n (put M p fun b => u b + v b) j = det n (put M p u) j + det n (put M p v) j := by
 have := det_lin (M := M) (u := u) (v := v) (x := 1) (y := 1) (j := j) h
 rw [RU, RU] at this
 rw [← this]
 congr 2
 funext b
 rw [RU, RU]
theorem det_swp {n : Nat} {M : Nat → Nat → Int} {p j : Nat} (h : p + 1 ≤ n) : det n (swp M p) j = - det n M j := by
 have z : ∀ u : Nat → Int, det n (put (put M p u) (p + 1) u) j = 0 := fun u => det_adj h fun b => by
  rw [put_at, put_ne (by lia), put_at]
 have bi : ∀ u v u' v' : Nat → Int, det n (put (put M p fun b => u b + v b) (p + 1) fun b => u' b + v' b) j =
  det n (put (put M p u) (p + 1) u') j + det n (put (put M p v) (p + 1) u') j + (det n (put (put M p u) (p + 1) v') j + det n (put (put M p v) (p + 1) v') j) := fun u v u' v' => by
  have c : ∀ u w, put (put M p u) (p + 1) w = put (put M (p + 1) w) p u := fun u w => put_comm M (by lia) u w
  rw [det_add h, c _ u', c _ v', det_add (by lia), det_add (by lia), c, c, c, c]
 have key := z fun b => M p b + M (p + 1) b
 rw [bi, z, z] at key
 have e : put (put M p (M p)) (p + 1) (M (p + 1)) = M := by rw [put_self, put_self]
 rw [e] at key
 unfold swp
 grind
theorem det_two : ∀ (d : Nat) {n : Nat} {M : Nat → Nat → Int} {p j : Nat}, p + 1 + d ≤ n → (∀ b, M p b = M (p + 1 + d) b) → det n M j = 0
 | 0, n, M, p, j, h, he => det_adj h he
 | d + 1, n, M, p, j, h, he => by
   have s := det_swp (M := M) (p := p + 1 + d) (j := j) (n := n) (by lia)
   have z : det n (swp M (p + 1 + d)) j = 0 := det_two d (p := p) (by lia) fun b => by
    unfold swp
    rw [put_ne (by lia), put_ne (by lia), put_ne (by lia), put_at]
    exact he b
   lia
theorem det_eq {n : Nat} {M : Nat → Nat → Int} {p q j : Nat} (hp : p ≤ n) (hq : q ≤ n) (hpq : p ≠ q) (he : ∀ b, M p b = M q b) : det n M j = 0 := by
 rcases Nat.lt_or_gt_of_ne hpq with h | h
 ·obtain ⟨d, rfl⟩ : ∃ d, q = p + 1 + d := ⟨q - p - 1, by lia⟩
  exact det_two d hq he
 ·obtain ⟨d, rfl⟩ : ∃ d, p = q + 1 + d := ⟨p - q - 1, by lia⟩
  exact det_two d hp fun b => (he b).symm
theorem det_scale {n : Nat} {M : Nat → Nat → Int} {p : Nat} {u : Nat → Int} {c : Int} {j : Nat} (h : p ≤ n) : det n (put M p fun b => c * u b) j = c * det n (put M p u) j := by
 have := det_lin (M := M) (u := u) (v := u) (x := c) (y := 0) (j := j) h
 have e : (fun b => c * u b + 0 * u b) = fun b => c * u b := by funext b; grind
 rw [e] at this
 rw [this]; grind
theorem det_more {n : Nat} {M : Nat → Nat → Int} {p q : Nat} {u : Nat → Int} {c : Int} {j : Nat} (hp : p ≤ n) (hq : q ≤ n) (h : p ≠ q) : det n (put M p fun b => u b + c * M q b) j = det n (put M p u) j := by
 rw [det_add hp, det_scale hp, det_eq (M := put M p (M q)) hp hq h (fun b => by rw [put_at, put_ne (Ne.symm h)])]; grind
theorem det_mores {n : Nat} {M : Nat → Nat → Int} {p : Nat} {u : Nat → Int} {c : Nat → Int} {r : Nat → Nat} {j : Nat} (hp : p ≤ n) : ∀ t, (∀ i, i < t → r i ≤ n ∧ r i ≠ p) → det n (put M p fun b => u b + sumN (fun i => c i * M (r i) b) t) j = det n (put M p u) j
 | 0, _ => by
   have e : (fun b => u b + sumN (fun i => c i * M (r i) b) 0) = u := by funext b; show u b + 0 = u b; lia
   rw [e]
 | t + 1, h => by
   have e : (fun b => u b + sumN (fun i => c i * M (r i) b) (t + 1)) = fun b => (u b + sumN (fun i => c i * M (r i) b) t) + c t * M (r t) b := by
    funext b; show u b + (_ + _) = _; grind
   rw [e, det_more hp (h t (by lia)).1 (Ne.symm (h t (by lia)).2)]
   exact det_mores hp t fun i hi => h i (by lia)
theorem det_peel {n : Nat} {M : Nat → Nat → Int} {j : Nat} (h : ∀ i, 1 ≤ i → i ≤ n + 1 → M i 0 = 0) : det (n + 1) M j = M 0 0 * det n (fun a b => M (a + 1) (b + 1)) j := by
 show sumN _ (n + 1 + 1) = _
 rw [sum_first fun i h1 h2 => by rw [h i h1 (by lia)]; grind]
 have e : det n (fun a b => M (skip 0 a) (b + 1)) j = det n (fun a b => M (a + 1) (b + 1)) j := rfl
 rw [e]
 show sg 0 * _ = _
 have : sg 0 = 1 := rfl
 rw [this]; grind
def sh (i : Nat) (v : Nat → Int) : Nat → Int := fun b => if b < i then 0 else v (b - i)
def syl (p : Nat) (g f : Nat → Int) : Nat → Nat → Int := fun a => if a < p then sh a g else sh (a - p) f
theorem syl_less {p q : Nat} {g f r : Nat → Int} {c : Int} {e : Nat → Int} {d j : Nat} (hd : d + q ≤ p + 1) (hf : ∀ b, c * f b = r b + sumN (fun t => e t * sh t g b) d) (hq : 0 < q) :
 c ^ q * det (p + q - 1) (syl p g f) j = det (p + q - 1) (syl p g r) j := by
 -- the first t rows of f are changed
 have key : ∀ t, t ≤ q → c ^ t * det (p + q - 1) (syl p g f) j = det (p + q - 1) (fun a => if a < p then sh a g else if a - p < t then sh (a - p) r else sh (a - p) f) j := by
  intro t
  induction t with
  | zero =>
    intro _
    rw [SR, RU]
    refine det_congr fun a _ b => ?_
    unfold syl
    by_cases h : a < p
    ·rw [if_pos h, if_pos h]
    ·rw [if_neg h, if_neg h, if_neg (by lia)]
  | succ t ih =>
    intro ht
    have ih := ih (by lia)
    rw [SS, T9 (c ^ t) c, Ta, ih]
    generalize hM : (fun a => if a < p then sh a g else if a - p < t then sh (a - p) r else sh (a - p) f) = M
    have hMp : M (p + t) = sh t f := by rw [← hM]; show (if p + t < p then _ else if p + t - p < t then _ else sh (p + t - p) f) = _; rw [if_neg (by lia), if_neg (by lia), Nat.add_sub_cancel_left]
    have hMg : ∀ i, i < p → M i = sh i g := fun i hi => by rw [← hM]; exact if_pos hi
    have e1 : det (p + q - 1) M j = det (p + q - 1) (put M (p + t) (sh t f)) j := by rw [← hMp, put_self]
    rw [e1, ← det_scale (by lia)]
    have e2 : (fun b => c * sh t f b) = fun b => sh t r b + sumN (fun i => e i * M (i + t) b) d := by
     funext b
     have e3 : sumN (fun i => e i * M (i + t) b) d = sumN (fun i => e i * sh (i + t) g b) d := sum_congr fun i hi => by rw [hMg _ (by lia)]
     rw [e3]
     unfold sh
     by_cases hb : b < t
     ·rw [if_pos hb, if_pos hb, sum_zero fun i _ => by rw [if_pos (by lia)]; grind]; grind
     ·rw [if_neg hb, if_neg hb, hf (b - t)]
      congr 1
      refine sum_congr fun i _ => ?_
      unfold sh
      by_cases h2 : b - t < i
      ·rw [if_pos h2, if_pos (by lia)]
      ·rw [if_neg h2, if_neg (by lia), show b - t - i = b - (i + t) by lia]
    rw [e2, det_mores (r := fun i => i + t) (c := e) (by lia) d fun i hi => ⟨by lia, by lia⟩]
    refine det_congr fun a _ b => ?_
    unfold put
    by_cases ha : a = p + t
    ·rw [if_pos ha, if_neg (by lia), if_pos (by lia), show a - p = t by lia]
    ·rw [if_neg ha, ← hM]
     dsimp only
     by_cases h : a < p
     ·rw [if_pos h, if_pos h]
     ·rw [if_neg h, if_neg h]
      by_cases h2 : a - p < t
      ·rw [if_pos h2, if_pos (by lia)]
      ·rw [if_neg h2, if_neg (by lia)]
 rw [key q (R8 _)]
 refine det_congr fun a ha b => ?_
 unfold syl
 by_cases h : a < p
 ·rw [if_pos h, if_pos h]
 ·rw [if_neg h, if_neg h, if_pos (by lia)]
theorem syl_peel {p q : Nat} {g f : Nat → Int} {j : Nat} (hf : f 0 = 0) (hn : 1 ≤ p + q) : det (p + q) (syl (p + 1) g f) j = g 0 * det (p + q - 1) (syl p g fun b => f (b + 1)) j := by
 obtain ⟨n, hn'⟩ : ∃ n, p + q = n + 1 := ⟨p + q - 1, by lia⟩
 rw [hn', Tb]
 rw [det_peel fun i h1 h2 => ?_]
 ·have e0 : syl (p + 1) g f 0 0 = g 0 := by unfold syl; rw [if_pos (by lia)]; rfl
  rw [e0]
  congr 1
  refine det_congr fun a _ b => ?_
  unfold syl
  by_cases h : a < p
  ·rw [if_pos h, if_pos (by lia)]
   unfold sh
   by_cases h2 : b < a
   ·rw [if_pos h2, if_pos (by lia)]
   ·rw [if_neg h2, if_neg (by lia), show b + 1 - (a + 1) = b - a by lia]
  ·rw [if_neg h, if_neg (by lia), show a + 1 - (p + 1) = a - p by lia]
   unfold sh
   by_cases h2 : b < a - p
   ·rw [if_pos h2]
    by_cases h3 : b + 1 < a - p
    ·rw [if_pos h3]
    ·rw [if_neg h3, show b + 1 - (a - p) = 0 by lia]; exact hf
   ·rw [if_neg h2, if_neg (by lia), show b + 1 - (a - p) = b - (a - p) + 1 by lia]
 ·unfold syl
  by_cases h : i < p + 1
  ·rw [if_pos h]; unfold sh; rw [if_pos (by lia)]
  ·rw [if_neg h]; unfold sh
   by_cases h3 : 0 < i - (p + 1)
   ·rw [if_pos h3]
   ·rw [if_neg h3, Nat.zero_sub]; exact hf
theorem syl_peels {q : Nat} {g : Nat → Int} {j : Nat} : ∀ (t p : Nat) {f : Nat → Int}, (∀ i, i < t → f i = 0) → 1 ≤ p + q → det (p + t + q - 1) (syl (p + t) g f) j = g 0 ^ t * det (p + q - 1) (syl p g fun b => f (b + t)) j
 | 0, p, f, _, _ => by
   rw [SR, RU]; rfl
 | t + 1, p, f, h, hn => by
   have e := syl_peel (p := p + t) (q := q) (g := g) (f := f) (j := j) (h 0 (by lia)) (by lia)
   rw [show p + (t + 1) + q - 1 = p + t + q by lia, show p + (t + 1) = p + t + 1 by lia, e]
   rw [syl_peels t p (f := fun b => f (b + 1)) (fun i hi => h (i + 1) (by lia)) hn, SS]
   have e2 : (fun b => f (b + t + 1)) = fun b => f (b + (t + 1)) := rfl
   rw [e2]; grind
theorem det_down {n : Nat} : ∀ (d : Nat) {M : Nat → Nat → Int} {p : Nat}, p + d ≤ n → ∃ s : Int, (s = 1 ∨ s = -1) ∧ ∀ j, det n (fun a => if a < p then M a else if a < p + d then M (a + 1) else if a = p + d then M p else M a) j = s * det n M j
 | 0, M, p, h => ⟨1, .inl rfl, fun j => by
   rw [RU]
   refine det_congr fun a _ b => ?_
   by_cases h1 : a < p
   ·rw [if_pos h1]
   ·rw [if_neg h1, if_neg (by lia)]
    by_cases h2 : a = p + 0
    ·rw [if_pos h2, h2]; rfl
    ·rw [if_neg h2]⟩
 | d + 1, M, p, h => by
   obtain ⟨s, hs, e⟩ := det_down (n := n) d (M := M) (p := p) (by lia)
   refine ⟨-s, by lia, fun j => ?_⟩
   have sw := det_swp (M := fun a => if a < p then M a else if a < p + d then M (a + 1) else if a = p + d then M p else M a) (p := p + d) (j := j) (n := n) (by lia)
   rw [e] at sw
   rw [Int.neg_mul, ← sw]
   refine det_congr fun a _ b => ?_
   unfold swp put
   dsimp only
   by_cases h1 : a = p + d + 1
   ·rw [if_pos h1, if_neg (by lia), if_neg (by lia), if_pos (by lia), if_neg (by lia), if_neg (by lia), if_pos rfl]
   ·rw [if_neg h1]
    by_cases h2 : a = p + d
    ·rw [if_pos h2, if_neg (by lia), if_pos (by lia), if_neg (by lia), if_neg (by lia), if_neg (by lia), h2]
    ·rw [if_neg h2]
     by_cases h3 : a < p
     ·rw [if_pos h3, if_pos h3]
     ·rw [if_neg h3, if_neg h3]
      by_cases h4 : a < p + d
      ·rw [if_pos h4, if_pos (by lia)]
      ·rw [if_neg h4, if_neg (by lia), if_neg (by lia), if_neg h2]
theorem det_round {n : Nat} {M : Nat → Nat → Int} : ∀ t, t ≤ n + 1 → ∃ s : Int, (s = 1 ∨ s = -1) ∧ ∀ j, det n (fun a => if a + t ≤ n then M (a + t) else M (a + t - (n + 1))) j = s * det n M j
 | 0, _ => ⟨1, .inl rfl, fun j => by
   rw [RU]
   refine det_congr fun a ha b => ?_
   rw [if_pos (by lia)]; rfl⟩
 | t + 1, h => by
   obtain ⟨s, hs, e⟩ := det_round (n := n) (M := M) t (by lia)
   obtain ⟨s', hs', e'⟩ := det_down n (M := fun a => if a + t ≤ n then M (a + t) else M (a + t - (n + 1))) (p := 0) (n := n) (by lia)
   refine ⟨s' * s, by rcases hs with rfl | rfl <;> rcases hs' with rfl | rfl <;> decide, fun j => ?_⟩
   rw [Ta, ← e, ← e']
   refine det_congr fun a ha b => ?_
   rw [if_neg (show ¬ a < 0 by lia)]
   by_cases h1 : a < 0 + n
   ·rw [if_pos h1]
    by_cases h2 : a + (t + 1) ≤ n
    ·rw [if_pos h2, if_pos (by lia), show a + 1 + t = a + (t + 1) by lia]
    ·rw [if_neg h2, if_neg (by lia), show a + 1 + t = a + (t + 1) by lia]
   ·obtain rfl : a = n := by lia
    rw [if_neg h1, if_pos (show a = 0 + a by lia), if_pos (show 0 + t ≤ a by lia), if_neg (show ¬ a + (t + 1) ≤ a by lia), show a + (t + 1) - (a + 1) = 0 + t by lia]
theorem syl_round {p q : Nat} {g f : Nat → Int} (h : 1 ≤ p + q) : ∃ s : Int, (s = 1 ∨ s = -1) ∧ ∀ j, det (p + q - 1) (syl q f g) j = s * det (p + q - 1) (syl p g f) j := by
 obtain ⟨s, hs, e⟩ := det_round (n := p + q - 1) (M := syl p g f) p (by lia)
 refine ⟨s, hs, fun j => ?_⟩
 rw [← e]
 refine det_congr fun a ha b => ?_
 unfold syl
 by_cases h1 : a < q
 ·rw [if_pos h1, if_pos (by lia), if_neg (by lia), Tb]
 ·rw [if_neg h1, if_neg (by lia), if_pos (by lia), show a + p - (p + q - 1 + 1) = a - q by lia]
def sub (m n k : Nat) (f g : Nat → Int) (j : Nat) : Int := det (m - k + (n - k) - 1) (syl (m - k) g f) j
theorem sub_step {m n l k : Nat} {f g r : Nat → Int} {e : Nat → Int} (hnm : n ≤ m) (hln : l < n) (hkl : k ≤ l) (hr0 : ∀ i, i < m - l → r i = 0)
 (hf : ∀ b, g 0 ^ (m - n + 1) * f b = r b + sumN (fun t => e t * sh t g b) (m - n + 1)) :
 ∃ s : Int, (s = 1 ∨ s = -1) ∧ ∀ j, (g 0 ^ (m - n + 1)) ^ (n - k) * sub m n k f g j = s * (g 0 ^ (m - l) * sub n l k g (fun b => r (b + (m - l))) j) := by
 obtain ⟨s, hs, e1⟩ := syl_round (p := l - k) (q := n - k) (g := g) (f := fun b => r (b + (m - l))) (by lia)
 refine ⟨s, hs, fun j => ?_⟩
 unfold sub
 rw [syl_less (q := n - k) (by lia) hf (by lia)]
 have e2 := syl_peels (q := n - k) (g := g) (j := j) (m - l) (l - k) (f := r) hr0 (by lia)
 rw [show l - k + (m - l) + (n - k) - 1 = m - k + (n - k) - 1 by lia, show l - k + (m - l) = m - k by lia] at e2
 rw [e2, show n - k + (l - k) - 1 = l - k + (n - k) - 1 by lia, e1]
 rcases hs with rfl | rfl <;> grind
theorem sub_rest {m n : Nat} {f g r : Nat → Int} {e : Nat → Int} {j : Nat} (hnm : n ≤ m) (hn : 0 < n) (hg : g 0 ≠ 0) (hr0 : ∀ i, i < m - n + 1 → r i = 0)
 (hf : ∀ b, g 0 ^ (m - n + 1) * f b = r b + sumN (fun t => e t * sh t g b) (m - n + 1)) : sub m n (n - 1) f g j = r (j + (m - n + 1)) := by
 have e1 := syl_less (p := m - (n - 1)) (q := n - (n - 1)) (j := j) (by lia) hf (by lia)
 have e2 := syl_peels (q := n - (n - 1)) (g := g) (j := j) (m - n + 1) 0 (f := r) hr0 (by lia)
 rw [show 0 + (m - n + 1) = m - (n - 1) by lia] at e2
 rw [e2, show n - (n - 1) = 1 by lia, Int.pow_one] at e1
 have e3 : det (0 + 1 - 1) (syl 0 g fun b => r (b + (m - n + 1))) j = r (j + (m - n + 1)) := rfl
 rw [e3] at e1
 unfold sub
 rw [show n - (n - 1) = 1 by lia]
 exact Tc (Td hg) e1
theorem sub_one {m n : Nat} {f g : Nat → Int} {j : Nat} (h : n < m) : sub m n n f g j = g 0 ^ (m - n - 1) * g j := by
 unfold sub
 rw [Te, Nat.add_zero]
 have key : ∀ t, det t (syl (t + 1) g f) j = g 0 ^ t * g j := by
  intro t
  induction t with
  | zero =>
    rw [SR, RU]
    show syl 1 g f 0 j = _
    unfold syl sh
    rw [if_pos (by lia)]; rfl
  | succ t ih =>
    rw [det_peel fun i h1 h2 => by unfold syl; rw [if_pos (by lia)]; unfold sh; rw [if_pos (by lia)]]
    have e0 : syl (t + 1 + 1) g f 0 0 = g 0 := by unfold syl; rw [if_pos (by lia)]; rfl
    have e1 : det t (fun a b => syl (t + 1 + 1) g f (a + 1) (b + 1)) j = det t (syl (t + 1) g f) j := det_congr fun a ha b => by
     unfold syl
     rw [if_pos (by lia), if_pos (by lia)]
     unfold sh
     by_cases h2 : b < a
     ·rw [if_pos h2, if_pos (by lia)]
     ·rw [if_neg h2, if_neg (by lia), show b + 1 - (a + 1) = b - a by lia]
    rw [e0, e1, ih, SS]; grind
 have := key (m - n - 1)
 rw [show m - n - 1 + 1 = m - n by lia] at this
 exact this
theorem sub_scale {m n k : Nat} {f g : Nat → Int} {c : Int} {j : Nat} (h : k < m) : sub m n k f (fun b => c * g b) j = c ^ (m - k) * sub m n k f g j := by
 unfold sub
 have key : ∀ t, t ≤ m - k → det (m - k + (n - k) - 1) (fun a => if a < t then sh a (fun b => c * g b) else syl (m - k) g f a) j = c ^ t * det (m - k + (n - k) - 1) (syl (m - k) g f) j := by
  intro t
  induction t with
  | zero =>
    intro _
    rw [SR, RU]
    exact det_congr fun a _ b => by rw [if_neg (by lia)]
  | succ t ih =>
    intro ht
    rw [SS, T9 (c ^ t) c, Ta, ← ih (by lia)]
    generalize hM : (fun a => if a < t then sh a (fun b => c * g b) else syl (m - k) g f a) = M
    have hMt : M t = sh t g := by rw [← hM]; show (if t < t then _ else syl (m - k) g f t) = _; rw [if_neg (by lia)]; exact if_pos (by lia)
    have e1 : det (m - k + (n - k) - 1) M j = det (m - k + (n - k) - 1) (put M t (sh t g)) j := by rw [← hMt, put_self]
    rw [e1, ← det_scale (by lia)]
    refine det_congr fun a _ b => ?_
    unfold put
    by_cases h1 : a = t
    ·rw [if_pos (by lia), if_pos h1, h1]
     unfold sh; split <;> grind
    ·rw [if_neg h1, ← hM]
     dsimp only
     by_cases h2 : a < t
     ·rw [if_pos h2, if_pos (by lia)]
     ·rw [if_neg h2, if_neg (by lia)]
 rw [← key (m - k) (R8 _)]
 refine det_congr fun a _ b => ?_
 unfold syl
 by_cases h1 : a < m - k
 ·rw [if_pos h1, if_pos h1]
 ·rw [if_neg h1, if_neg h1, if_neg h1]
end Dt
namespace Dt
structure Srs (S : Nat → Nat → Int) (m n : Nat) (f g : Nat → Int) (lead held : Int) : Prop where
 le : n ≤ m
 g0 : g 0 ≠ 0
 l0 : lead ≠ 0
 h0 : held ≠ 0
 one : n < m ∨ (lead = 1 ∧ held = 1)
 is : ∀ k, k ≤ n → ∃ s : Int, (s = 1 ∨ s = -1) ∧ ∀ j, lead ^ (n - k) * held ^ (m - k - 1) * S k j = s * sub m n k f g j
theorem Srs.first {m n : Nat} {f g : Nat → Int} (h : n ≤ m) (hg : g 0 ≠ 0) : Srs (fun k j => sub m n k f g j) m n f g 1 1 :=
 ⟨h, hg, by decide, by decide, .inr ⟨rfl, rfl⟩, fun k _ => ⟨1, .inl rfl, fun j => by rw [Tf, Tf]; grind⟩⟩
section
variable {S : Nat → Nat → Int} {m n : Nat} {f g r : Nat → Int} {e : Nat → Int} {lead held : Int}
theorem Srs.next {l : Nat} {h : Nat → Int} {held' : Int} (I : Srs S m n f g lead held) (hln : l < n) (hr0 : ∀ i, i < m - l → r i = 0)
 (hf : ∀ b, g 0 ^ (m - n + 1) * f b = r b + sumN (fun t => e t * sh t g b) (m - n + 1)) (hr : ∀ b, r (b + (m - l)) = lead * held ^ (m - n) * h b) (h00 : h 0 ≠ 0)
 (hh : (n < m ∧ g 0 ^ (m - n) = held ^ (m - n - 1) * held') ∨ (m = n ∧ held' = held)) (hh0 : held' ≠ 0) : Srs S n l g h (g 0) held' := by
 refine ⟨by lia, h00, I.g0, hh0, .inl hln, fun k hk => ?_⟩
 have hle := I.le
 obtain ⟨s1, hs1, e1⟩ := I.is k (by lia)
 obtain ⟨s2, hs2, e2⟩ := sub_step hle hln hk hr0 hf
 refine ⟨s1 * s2, by rcases hs1 with rfl | rfl <;> rcases hs2 with rfl | rfl <;> decide, fun j => ?_⟩
 replace e1 := e1 j
 replace e2 := e2 j
 have er : (fun b => r (b + (m - l))) = fun b => lead * held ^ (m - n) * h b := funext hr
 rw [er, sub_scale (by lia)] at e2
 obtain ⟨a, ha⟩ : ∃ a, n - k = a + 1 := ⟨n - k - 1, by lia⟩
 obtain ⟨d, hd⟩ : ∃ d, m = n + d := ⟨m - n, by lia⟩
 have e1' : lead ^ (a + 1) * held ^ (a + d) * S k j = s1 * sub m n k f g j := by
  rw [ha, show m - k - 1 = a + d by lia] at e1; exact e1
 have e2' : (g 0 ^ (d + 1)) ^ (a + 1) * sub m n k f g j = s2 * (g 0 ^ (m - l) * ((lead * held ^ d) ^ (a + 1) * sub n l k g h j)) := by
  rw [ha, show m - n = d by lia] at e2; exact e2
 generalize sub m n k f g j = D at e1' e2'
 generalize sub n l k g h j = D' at e2'
 generalize S k j = T at e1'
 -- together
 have e3 : (g 0 ^ (d + 1)) ^ (a + 1) * (lead ^ (a + 1) * held ^ (a + d) * T) = s1 * s2 * (g 0 ^ (m - l) * ((lead * held ^ d) ^ (a + 1) * D')) := by
  rw [e1']
  have : (g 0 ^ (d + 1)) ^ (a + 1) * (s1 * D) = s1 * ((g 0 ^ (d + 1)) ^ (a + 1) * D) := by grind
  rw [this, e2']; grind
 rw [show n - k - 1 = a by lia]
 have z1 : lead ^ (a + 1) ≠ 0 := Td I.l0
 have z2 : g 0 ^ (m - l) ≠ 0 := Td I.g0
 have z3 : held ^ (d * (a + 1)) ≠ 0 := Td I.h0
 have eF : (lead * held ^ d) ^ (a + 1) = lead ^ (a + 1) * held ^ (d * (a + 1)) := by rw [Int.mul_pow, ← Tg]
 rw [eF] at e3
 refine Tc (a := lead ^ (a + 1)) z1 (Tc (a := g 0 ^ (m - l)) z2 (Tc (a := held ^ (d * (a + 1))) z3 ?_))
 have eG : (g 0 ^ (d + 1)) ^ (a + 1) = g 0 ^ (m - l) * g 0 ^ (l - k) * g 0 ^ (d * a) := by
  rw [← Tg, ← Int.pow_add, ← Int.pow_add]
  congr 1
  have : (d + 1) * (a + 1) = d * a + d + a + 1 := by rw [SH, SU]; lia
  lia
 rw [eG] at e3
 have eH : held ^ (d * (a + 1)) * held' ^ a = held ^ (a + d) * g 0 ^ (d * a) := by
  rcases hh with ⟨hlt, hh⟩ | ⟨he, hh⟩
  ·obtain ⟨d', rfl⟩ : ∃ d', d = d' + 1 := ⟨d - 1, by lia⟩
   rw [show m - n = d' + 1 by lia, show d' + 1 - 1 = d' by lia] at hh
   rw [Tg (a := g 0), hh, Int.mul_pow, ← Tg]
   have x1 : (d' + 1) * (a + 1) = (a + (d' + 1)) + d' * a := by rw [SH, SU]; lia
   rw [x1, Int.pow_add]; grind
  ·obtain rfl : d = 0 := by lia
   subst hh
   rcases I.one with z | ⟨_, z⟩
   ·lia
   ·rw [z, Tf, Tf, Tf, Nat.zero_mul, SR]
 have : held ^ (d * (a + 1)) * (g 0 ^ (m - l) * (lead ^ (a + 1) * (g 0 ^ (l - k) * held' ^ a * T))) = g 0 ^ (m - l) * lead ^ (a + 1) * g 0 ^ (l - k) * T * (held ^ (d * (a + 1)) * held' ^ a) := by grind
 rw [this, eH]
 have : held ^ (d * (a + 1)) * (g 0 ^ (m - l) * (lead ^ (a + 1) * (s1 * s2 * D'))) = s1 * s2 * (g 0 ^ (m - l) * (lead ^ (a + 1) * held ^ (d * (a + 1)) * D')) := by grind
 rw [this, ← e3]; grind
end
theorem sum_abs {f : Nat → Int} {X : Nat} : ∀ {n}, (∀ i, i < n → (f i).natAbs ≤ X) → (sumN f n).natAbs ≤ n * X
 | 0, _ => by show (0 : Int).natAbs ≤ 0 * X; simp
 | n + 1, h => by
   have ih := sum_abs (f := f) (X := X) (n := n) fun i hi => h i (by lia)
   have hn := h n (by lia)
   show (sumN f n + f n).natAbs ≤ _
   have := SD (sumN f n) (f n)
   rw [SH, SI]
   lia
end Dt
namespace L2
open Dt
theorem Eg (f : Nat → Int) : ∀ n, sumN f (n + 1) = f 0 + sumN (fun t => f (t + 1)) n
 | 0 => by show 0 + f 0 = f 0 + 0; lia
 | n + 1 => by
   have ih := Eg f n
   show sumN f (n + 1) + f (n + 1) = f 0 + (sumN (fun t => f (t + 1)) n + f (n + 1))
   rw [ih]; lia
theorem Ja (f : Nat → Int) : ∀ n, sumN f n = sumN (fun t => f (n - 1 - t)) n
 | 0 => rfl
 | n + 1 => by
   have ih := Ja f n
   rw [Eg (fun t => f (n + 1 - 1 - t)) n]
   show sumN f n + f n = f (n + 1 - 1 - 0) + _
   rw [ih, show n + 1 - 1 - 0 = n by lia]
   have e : sumN (fun t => f (n + 1 - 1 - (t + 1))) n = sumN (fun t => f (n - 1 - t)) n := sum_congr fun t _ => by rw [show n + 1 - 1 - (t + 1) = n - 1 - t by lia]
   rw [e]; lia
theorem CP (l : List Int) (i : Nat) : (l.map fun t : Int => (t : Rat)).getD i 0 = ((l.getD i 0 : Int) : Rat) := by
 rw [Sl, Sl, Ru]
 cases l[i]? <;> rfl
def cvI (l m : List Int) (i : Nat) : Int := sumN (fun t => l.getD t 0 * (if t ≤ i then m.getD (i - t) 0 else 0)) l.length
theorem Lz (m : List Int) : ∀ (l : List Int) (i : Nat), (Cc (l.map fun t : Int => (t : Rat)) (m.map fun t : Int => (t : Rat))).getD i 0 = ((cvI l m i : Int) : Rat)
 | [], i => by
   show ([] : List Rat).getD i 0 = _
   cases i <;> rfl
 | a :: l, i => by
   have ih := Lz m l
   have e1 : cvI (a :: l) m i = a * m.getD i 0 + (match i with | 0 => 0 | j + 1 => cvI l m j) := by
    unfold cvI
    rw [S9, Eg]
    congr 1
    match i with
    | 0 => exact sum_zero fun t _ => by rw [if_neg (by lia)]; exact Th _
    | j + 1 =>
      refine sum_congr fun t _ => ?_
      show l.getD t 0 * _ = l.getD t 0 * _
      by_cases h : t ≤ j
      ·rw [if_pos h, if_pos (by lia), show j + 1 - (t + 1) = j - t by lia]
      ·rw [if_neg h, if_neg (by lia)]
   show (Bg ((m.map fun t : Int => (t : Rat)).map (· * (a : Rat))) (0 :: Cc (l.map fun t : Int => (t : Rat)) (m.map fun t : Int => (t : Rat)))).getD i 0 = _
   rw [CQ, CY, CP, e1, RZ, S5]
   match i with
   | 0 =>
     show _ + (0 : Rat) = _ + ((0 : Int) : Rat)
     rw [Ti]; grind
   | j + 1 =>
     show _ + (Cc _ _).getD j 0 = _ + ((cvI l m j : Int) : Rat)
     rw [ih j]; grind
theorem Lv {fs gs os rs : List Int} {c : Int} (h : ∀ x, Cv.evI fs x * ((c : Int) : Rat) = Cv.evI os x * Cv.evI gs x + Cv.evI rs x) (i : Nat) : c * fs.getD i 0 = cvI os gs i + rs.getD i 0 := by
 have e := Fy (l := (fs.map fun t : Int => (t : Rat)).map (· * ((c : Int) : Rat))) (m := Bg (Cc (os.map fun t : Int => (t : Rat)) (gs.map fun t : Int => (t : Rat))) (rs.map fun t : Int => (t : Rat))) (fun k => by
  rw [Cv.ev_scale, BB, Bt]; exact h _) i
 rw [CY, CQ, Lz, CP, CP, ← S5, ← RZ] at e
 have := Rat.intCast_inj.mp e
 rw [← this]; exact T9 _ _
def tf (l : List Int) : Nat → Int := fun b => if b < l.length then l.getD (l.length - 1 - b) 0 else 0
def rf (m : Nat) (rs : List Int) : Nat → Int := fun b => if b ≤ m then rs.getD (m - b) 0 else 0
theorem Ih {fs gs os rs : List Int} {c : Int} {m n : Nat} (hm : fs.length = m + 1) (hn : gs.length = n + 1) (hnm : n ≤ m) (ho : os.length = m - n + 1) (hr : rs.length = n)
 (h : ∀ x, Cv.evI fs x * ((c : Int) : Rat) = Cv.evI os x * Cv.evI gs x + Cv.evI rs x) (b : Nat) :
 c * tf fs b = rf m rs b + sumN (fun t => os.getD (m - n - t) 0 * sh t (tf gs) b) (m - n + 1) := by
 by_cases hb : b ≤ m
 ·have e := Lv h (m - b)
  unfold cvI at e
  rw [ho, Ja] at e
  have e1 : tf fs b = fs.getD (m - b) 0 := by unfold tf; rw [if_pos (by lia), hm, show m + 1 - 1 - b = m - b by lia]
  have e2 : rf m rs b = rs.getD (m - b) 0 := if_pos hb
  rw [e1, e2, e, Int.add_comm]
  congr 1
  refine sum_congr fun t ht => ?_
  rw [show m - n + 1 - 1 - t = m - n - t by lia]
  congr 1
  unfold sh tf
  by_cases h1 : b < t
  ·rw [if_pos h1, if_pos (by lia), Sl, SV (by lia)]; rfl
  ·rw [if_neg h1]
   by_cases h2 : b - t < gs.length
   ·rw [if_pos h2, if_pos (by lia), show gs.length - 1 - (b - t) = m - b - (m - n - t) by lia]
   ·rw [if_neg h2, if_neg (by lia)]
 ·have e1 : tf fs b = 0 := if_neg (by lia)
  have e2 : rf m rs b = 0 := if_neg hb
  rw [e1, e2, sum_zero fun t ht => ?_]
  ·lia
  ·unfold sh tf
   rw [if_neg (by lia), if_neg (by lia)]; lia
theorem MZ {m n : Nat} {rs : List Int} (hr : rs.length = n) {i : Nat} (hi : i < m - n + 1) (hnm : n ≤ m) : rf m rs i = 0 := by
 unfold rf
 rw [if_pos (by lia), Sl, SV (by lia)]; rfl
structure LR (S : Nat → Nat → Int) (fs gs : List Int) (lead held : Int) : Prop where
 fp : 1 ≤ fs.length
 srs : 1 ≤ gs.length → Srs S (fs.length - 1) (gs.length - 1) (tf fs) (tf gs) lead held
theorem ER {l : List Int} {t : Int} (h : l[l.length - 1]? = some t) : tf l 0 = t := by
 have hl := (R3.mp h).1
 unfold tf
 rw [if_pos (by lia), SQ, Sl, h]; rfl
theorem LR.first {fs gs : List Int} (hf : 1 ≤ fs.length) (hle : gs.length ≤ fs.length) (hg : ∀ t, gs[gs.length - 1]? = some t → t ≠ 0) : LR (fun k j => sub (fs.length - 1) (gs.length - 1) k (tf fs) (tf gs) j) fs gs 1 1 :=
 ⟨hf, fun h1 => Srs.first (by lia) (by
  have e : gs[gs.length - 1]? = some (gs[gs.length - 1]'(by lia)) := Sv _
  rw [ER e]; exact hg _ e)⟩
theorem LR.next {S : Nat → Nat → Int} {fs gs os rs hs : List Int} {lead held held' g : Int} {w : Nat} (I : LR S fs gs lead held) (hg : gs[gs.length - 1]? = some g) (hle : gs.length ≤ fs.length) (ho : os.length = fs.length + 1 - gs.length) (hr : rs.length = gs.length - 1)
 (h : ∀ x, Cv.evI fs x * ((g ^ os.length : Int) : Rat) = Cv.evI os x * Cv.evI gs x + Cv.evI rs x) (hw : w ≤ rs.length) (hz : ∀ j, w ≤ j → rs.getD j 0 = 0) (hlast : 1 ≤ w → rs.getD (w - 1) 0 ≠ 0)
 (hh : hs.length = w) (he : ∀ j, rs.getD j 0 = lead * held ^ (fs.length - gs.length) * hs.getD j 0)
 (hd : (gs.length < fs.length ∧ g ^ (fs.length - gs.length) = held ^ (fs.length - gs.length - 1) * held') ∨ (fs.length = gs.length ∧ held' = held)) (hd0 : held' ≠ 0) : LR S gs hs g held' := by
 have hl := (R3.mp hg).1
 refine ⟨by lia, fun h1 => ?_⟩
 obtain ⟨m, hm⟩ : ∃ m, fs.length = m + 1 := ⟨fs.length - 1, by lia⟩
 obtain ⟨n, hn⟩ : ∃ n, gs.length = n + 1 := ⟨gs.length - 1, by lia⟩
 obtain ⟨l, hl'⟩ : ∃ l, hs.length = l + 1 := ⟨hs.length - 1, by lia⟩
 have s := I.srs (by lia)
 rw [hm, hn, Tb, Tb] at s
 rw [hn, hl', Tb, Tb]
 have rows := Ih hm hn (by lia) (by lia) (by lia) h
 have e0 := ER hg
 have key := s.next (l := l) (h := tf hs) (held' := held') (r := rf m rs) (e := fun t => os.getD (m - n - t) 0) (by lia) (fun i hi => ?_) (fun b => ?_) (fun b => ?_) ?_ ?_ hd0
 ·rw [e0] at key; exact key
 ·unfold rf
  by_cases him : i ≤ m
  ·rw [if_pos him, hz _ (by lia)]
  ·exact if_neg him
 ·have := rows b
  rw [show os.length = m - n + 1 by lia] at this
  rw [e0]; exact this
 ·rw [hm, hn, show m + 1 - (n + 1) = m - n by lia] at he
  unfold rf tf
  by_cases hb : b ≤ l
  ·rw [if_pos (by lia), if_pos (by lia), he, show hs.length - 1 - b = m - (b + (m - l)) by lia]
  ·rw [if_neg (by lia), if_neg (by lia), Th]
 ·intro z
  unfold tf at z
  rw [if_pos (by lia), SQ] at z
  have := hlast (by lia)
  rw [he, show w - 1 = hs.length - 1 by lia, z, Th] at this
  exact this rfl
 ·rw [e0]
  rcases hd with ⟨d1, d2⟩ | ⟨d1, d2⟩
  ·left
   rw [hm, hn, show m + 1 - (n + 1) = m - n by lia] at d2
   exact ⟨by lia, d2⟩
  ·exact .inr ⟨by lia, d2⟩
theorem IA {l : List Int} {X : Nat} (h : ∀ t ∈ l, t.natAbs ≤ X) (b : Nat) : (tf l b).natAbs ≤ X := by
 unfold tf
 split
 ·rw [Sl, Sv (by lia)]; exact h _ (Sw _)
 ·exact Rb _
end L2
namespace L2
def AR (d p : List Rat) : Prop := ∃ q : List Rat, ∀ x, Cv.ev p x = Cv.ev q x * Cv.ev d x
theorem AR.refl (d : List Rat) : AR d d := ⟨[1], fun x => by show _ = (1 + x * 0) * _; grind⟩
theorem AR.nil (d : List Rat) : AR d [] := ⟨[], fun x => by show (0 : Rat) = 0 * _; grind⟩
theorem AR.of {d p q r a b : List Rat} (h1 : AR d p) (h2 : AR d q) (h : ∀ x, Cv.ev r x = Cv.ev a x * Cv.ev p x + Cv.ev b x * Cv.ev q x) : AR d r := by
 obtain ⟨u, hu⟩ := h1
 obtain ⟨v, hv⟩ := h2
 exact ⟨Bg (Cc a u) (Cc b v), fun x => by rw [h, hu, hv, BB, Bt, Bt]; grind⟩
theorem AR.less {d p r : List Rat} {c : Rat} (hc : c ≠ 0) (h1 : AR d p) (h : ∀ x, Cv.ev r x * c = Cv.ev p x) : AR d r := by
 obtain ⟨u, hu⟩ := h1
 refine ⟨u.map (· * c⁻¹), fun x => ?_⟩
 have e := Tj _ hc
 have : Cv.ev r x = Cv.ev r x * c * c⁻¹ := by rw [Tn, e, To]
 rw [this, h, hu, Cv.ev_scale]; grind
theorem AR.trans {d e p : List Rat} (h1 : AR d e) (h2 : AR e p) : AR d p := by
 obtain ⟨u, hu⟩ := h1
 obtain ⟨v, hv⟩ := h2
 exact ⟨Cc v u, fun x => by rw [hv, hu, Bt]; grind⟩
theorem AR.rest {d p os rs : List Rat} (h : AR d p) (gd : AN d) (nd : d ≠ []) (go : AN os) (gr : AN rs) (hl : rs.length < d.length) (he : ∀ x, Cv.ev p x = Cv.ev os x * Cv.ev d x + Cv.ev rs x) : rs = [] := by
 obtain ⟨u, hu⟩ := h
 exact (Mt gd nd go (Be u) gr (.inl rfl) hl (by have := S8.mpr nd; simpa using this) fun x => by
  rw [← he, Cv.ev_strip, hu]; show _ = _ + (0 : Rat); grind).2
theorem Lb {p q : List Rat} (gp : AN p) (gq : AN q) (lp : p[p.length - 1]? = some 1) (lq : q[q.length - 1]? = some 1) (h1 : AR p q) (h2 : AR q p) : p = q := by
 have np : p ≠ [] := fun z => by rw [z] at lp; cases lp
 have nq : q ≠ [] := fun z => by rw [z] at lq; cases lq
 have key : ∀ {p q : List Rat}, AN p → AN q → p ≠ [] → q ≠ [] → AR p q → ∃ a : List Rat, AN a ∧ a ≠ [] ∧ q = Cc a p ∧ q.length = a.length + p.length - 1 := by
  intro p q gp gq np nq h
  obtain ⟨u, hu⟩ := h
  have na : Cv.strip u ≠ [] := fun z => by
   have : q = [] := BS gq (.inl rfl) fun x => by rw [hu, ← Cv.ev_strip, z]; show (0 : Rat) * _ = 0; grind
   exact nq this
  have eq : q = Cc (Cv.strip u) p := BS gq (Fv (Be u) gp na np) fun x => by rw [Bt, Cv.ev_strip, hu]
  refine ⟨_, Be u, na, eq, ?_⟩
  have l1 := S8.mpr na
  have l2 := S8.mpr np
  rw [eq, Cb p l2 _ l1]
 obtain ⟨a, ga, na, ea, la⟩ := key gp gq np nq h1
 obtain ⟨b, _, nb, _, lb⟩ := key gq gp nq np h2
 have l1 := S8.mpr na
 have l2 := S8.mpr nb
 have l3 := S8.mpr np
 match a, l1, la, lb, ea with
 | [c], _, la, _, ea =>
   have e := Eu p 1 lp [c] c rfl
   have hl : q.length - 1 = [c].length + p.length - 2 := by rw [la]; simp only [S9, Tq]; lia
   rw [← ea, ← hl, lq] at e
   have hc : c = 1 := by have := QK.inj e; grind
   refine BS gp gq fun x => ?_
   rw [ea, Bt, hc]
   show _ = (1 + x * 0) * _
   grind
 | c :: c' :: a, _, la, lb, _ => exact absurd lb (by simp only [S9] at la; lia)
def Com (A B F G : List Rat) : Prop := ∀ d, (AR d A ∧ AR d B) ↔ (AR d F ∧ AR d G)
theorem Com.refl (A B : List Rat) : Com A B A B := fun _ => Iff.rfl
theorem Com.turn (A B : List Rat) : Com A B B A := fun _ => And.comm
theorem Com.trans {A B F G P Q : List Rat} (h1 : Com A B F G) (h2 : Com F G P Q) : Com A B P Q := fun d => (h1 d).trans (h2 d)
abbrev cst (l : List Int) : List Rat := l.map fun t : Int => (t : Rat)
theorem Com.step {fs gs os rs hs : List Int} {c φ : Int} (hc : c ≠ 0) (hφ : φ ≠ 0) (h : ∀ x, Cv.evI fs x * ((c : Int) : Rat) = Cv.evI os x * Cv.evI gs x + Cv.evI rs x) (hr : ∀ x, Cv.evI rs x = ((φ : Int) : Rat) * Cv.evI hs x) : Com (cst fs) (cst gs) (cst gs) (cst hs) := fun d => by
 have hc' := Nm.cast_ne hc
 have hφ' := Nm.cast_ne hφ
 constructor
 ·rintro ⟨h1, h2⟩
  refine ⟨h2, ?_⟩
  have i1 : AR d (cst rs) := AR.of (a := [(c : Rat)]) (b := (cst os).map (· * (-1))) h1 h2 fun x => by
   have := h x
   show Cv.evI rs x = ((c : Rat) + x * 0) * Cv.evI fs x + _
   rw [Cv.ev_scale]
   show Cv.evI rs x = ((c : Rat) + x * 0) * Cv.evI fs x + Cv.evI os x * -1 * Cv.evI gs x
   grind
  exact AR.less hφ' i1 fun x => by
   have := hr x
   show Cv.evI hs x * (φ : Rat) = Cv.evI rs x
   grind
 ·rintro ⟨h1, h2⟩
  refine ⟨?_, h1⟩
  have i1 : AR d (Cc [(c : Rat)] (cst fs)) := AR.of (a := cst os) (b := [(φ : Rat)]) h1 h2 fun x => by
   have e1 := h x
   have e2 := hr x
   rw [Bt]
   show ((c : Rat) + x * 0) * Cv.evI fs x = Cv.evI os x * Cv.evI gs x + ((φ : Rat) + x * 0) * Cv.evI hs x
   grind
  exact AR.less hc' i1 fun x => by
   rw [Bt]
   show Cv.evI fs x * (c : Rat) = ((c : Rat) + x * 0) * Cv.evI fs x
   grind
theorem Com.scale {A A' B B' : List Rat} {a b : Rat} (ha : a ≠ 0) (hb : b ≠ 0) (h1 : ∀ x, Cv.ev A' x = Cv.ev A x * a) (h2 : ∀ x, Cv.ev B' x = Cv.ev B x * b) : Com A B A' B' := fun d => by
 have up : ∀ {P P' : List Rat} {c : Rat}, (∀ x, Cv.ev P' x = Cv.ev P x * c) → AR d P → AR d P' := fun {P P' c} h ⟨u, hu⟩ => ⟨u.map (· * c), fun x => by rw [h, hu, Cv.ev_scale]; grind⟩
 exact ⟨fun ⟨x, y⟩ => ⟨up h1 x, up h2 y⟩, fun ⟨x, y⟩ => ⟨AR.less ha x fun z => (h1 z).symm, AR.less hb y fun z => (h2 z).symm⟩⟩
structure Ed (A B p : List Rat) : Prop where
 good : AN p
 mono : p[p.length - 1]? = some 1
 is : ∀ d, (AR d A ∧ AR d B) ↔ AR d p
theorem Ed.into {A B p : List Rat} (h : Ed A B p) : AR p A ∧ AR p B := (h.is p).mpr (AR.refl p)
theorem Ed.one {A B A' B' p q : List Rat} (h1 : Ed A B p) (h2 : Ed A' B' q) (c : Com A B A' B') : p = q :=
 Lb h1.good h2.good h1.mono h2.mono ((h2.is p).mp ((c p).mp h1.into)) ((h1.is q).mp ((c q).mpr h2.into))
theorem Ed.ne {A B p : List Rat} (h : Ed A B p) : p ≠ [] := fun z => by have := h.mono; rw [z] at this; cases this
theorem Ed.of {A B F p : List Rat} {c : Rat} (hc : c ≠ 0) (h : Com A B F []) (g : AN p) (m : p[p.length - 1]? = some 1) (e : ∀ x, Cv.ev p x * c = Cv.ev F x) : Ed A B p :=
 ⟨g, m, fun d => (h d).trans ⟨fun ⟨x, _⟩ => AR.less hc x e, fun x => ⟨AR.of (a := [c]) (b := []) x (AR.nil d) fun z => by
  rw [← e]
  show _ = (c + z * 0) * _ + 0 * _
  grind, AR.nil d⟩⟩⟩
end L2
namespace L2
open Dt
def Ec (l : List Int) : Prop := ∀ t, l[l.length - 1]? = some t → t ≠ 0
def PD (l : List Int) : Prop := ∃ D : Nat → Int, D 0 ≠ 0 ∧ (∀ j, Bd 45100 (D j)) ∧ ∀ j, tf l j * D 0 = D j * tf l 0
structure LRI (S : Nat → Nat → Int) (fs gs fs' gs' : List Int) (lead held : Int) (B d0 : Nat) : Prop where
 lr : LR S fs' gs' lead held
 le : gs'.length ≤ fs'.length
 l8 : fs'.length ≤ 8
 t1 : Ec fs'
 t2 : Ec gs'
 com : Com (cst fs) (cst gs) (cst fs') (cst gs')
 bf : ∀ t ∈ fs', Bd B t
 bg : ∀ t ∈ gs', Bd B t
 bl : Bd (B + 1) lead
 bh : Bd (B * d0 + 1) held
 d8 : d0 + fs'.length ≤ 8
 bb : B + 1 ≤ 3 ^ (9 - fs'.length) * 3001
 b3 : fs'.length = gs'.length → B ≤ 3000
 pd : PD fs'
section
variable {S : Nat → Nat → Int} {fs gs fs' gs' : List Int} {lead held : Int} {B d0 : Nat}
theorem Hl (x : Rat) : ∀ (l m : List Rat), (∀ j, l.getD j 0 = m.getD j 0) → Cv.ev l x = Cv.ev m x
 | [], [], _ => rfl
 | [], b :: m, h => by
   have ih := Hl x [] m fun j => by have := h (j + 1); simpa using this
   have h0 := h 0
   have e : (0 : Rat) = b := by simpa using h0
   show (0 : Rat) = b + x * Cv.ev m x
   rw [← ih, ← e]; show (0 : Rat) = 0 + x * 0; grind
 | a :: l, [], h => by
   have ih := Hl x l [] fun j => by have := h (j + 1); simpa using this
   have h0 := h 0
   have e : a = (0 : Rat) := by simpa using h0
   show a + x * Cv.ev l x = 0
   rw [ih, e]; show (0 : Rat) + x * 0 = 0; grind
 | a :: l, b :: m, h => by
   have ih := Hl x l m fun j => by have := h (j + 1); simpa using this
   have h0 := h 0
   have e : a = b := by simpa using h0
   show a + x * Cv.ev l x = b + x * Cv.ev m x
   rw [ih, e]
end
end L2
namespace L2
open Dt
theorem Ii : ∀ {n : Nat} {M : Nat → Nat → Int} {W j : Nat}, n + 1 ≤ 31 → (∀ a b, (M a b).natAbs ≤ 2 ^ W) → (det n M j).natAbs ≤ 2 ^ ((n + 1) * (W + 5))
 | 0, M, W, j, _, h => by
   show (M 0 j).natAbs ≤ _
   exact QU (h 0 j) (Sx (by decide) (by lia))
 | n + 1, M, W, j, hn, h => by
   have e : (det (n + 1) M j).natAbs ≤ (n + 2) * (2 ^ W * 2 ^ ((n + 1) * (W + 5))) := sum_abs fun i hi => by
    have ih := Ii (n := n) (M := fun a b => M (skip i a) (b + 1)) (W := W) (j := j) (by lia) fun a b => h _ _
    have s1 : (sg i).natAbs = 1 := by unfold sg; split <;> rfl
    rw [Sy, Sy, s1, SI]
    exact Tr (h i 0) ih
   refine QU e ?_
   have p : (n + 1 + 1) * (W + 5) = 5 + (W + (n + 1) * (W + 5)) := by rw [SH (n + 1) 1]; lia
   rw [p, Sz, ← Sz 2 W]
   exact SJ _ (by lia)
theorem MV {fs gs : List Int} {W X : Nat} (h : fs.length ≤ 10) (hle : gs.length ≤ fs.length) (bf : ∀ t ∈ fs, Bd W t) (bg : ∀ t ∈ gs, Bd W t) (hX : 18 * (W + 5) + 1 ≤ X) (k j : Nat) : Bd X (sub (fs.length - 1) (gs.length - 1) k (tf fs) (tf gs) j) := by
 unfold sub
 have p0 : (0 : Int).natAbs ≤ 2 ^ W := Rb _
 have hf := IA (l := fs) (X := 2 ^ W) fun t ht => QV (bf t ht)
 have hg := IA (l := gs) (X := 2 ^ W) fun t ht => QV (bg t ht)
 have e := Ii (n := fs.length - 1 - k + (gs.length - 1 - k) - 1) (M := syl (fs.length - 1 - k) (tf gs) (tf fs)) (W := W) (j := j) (by lia) fun a b => by
  unfold syl
  split
  ·unfold sh; split
   ·exact p0
   ·exact hg _
  ·unfold sh; split
   ·exact p0
   ·exact hf _
 have q : (fs.length - 1 - k + (gs.length - 1 - k) - 1 + 1) * (W + 5) ≤ 18 * (W + 5) := SJ _ (by lia)
 exact RN e (Nat.pow_lt_pow_right (by decide) (by lia))
def PDX (X : Nat) (l : List Int) : Prop := ∃ D : Nat → Int, D 0 ≠ 0 ∧ (∀ j, Bd X (D j)) ∧ ∀ j, tf l j * D 0 = D j * tf l 0
structure LRJ (S : Nat → Nat → Int) (fs gs fs' gs' : List Int) (lead held : Int) (X : Nat) : Prop where
 lr : LR S fs' gs' lead held
 le : gs'.length ≤ fs'.length
 l10 : fs'.length ≤ 10
 t1 : Ec fs'
 t2 : Ec gs'
 com : Com (cst fs) (cst gs) (cst fs') (cst gs')
 bf : ∀ t ∈ fs', Bd X t
 bg : ∀ t ∈ gs', Bd X t
 bl : Bd X lead
 bh : Bd X held
theorem M9 {l : List Int} {X : Nat} (h1 : 1 ≤ l.length) (ht : Ec l) (hb : ∀ t ∈ l, Bd X t) : PDX X l := by
 have e : l[l.length - 1]? = some (l[l.length - 1]'(by lia)) := Sv _
 refine ⟨tf l, by rw [ER e]; exact ht _ e, fun j => ?_, fun j => rfl⟩
 have p0 : 0 < 2 ^ X := Nat.pow_pos (by decide)
 have := IA (l := l) (X := 2 ^ X - 1) (fun t ht => by have := hb t ht; unfold Bd at this; lia) j
 unfold Bd
 lia
theorem LRJ.first {fs gs : List Int} {W X : Nat} (h1 : 1 ≤ fs.length) (hle : gs.length ≤ fs.length) (h8 : fs.length ≤ 10) (t1 : Ec fs) (t2 : Ec gs) (bf : ∀ t ∈ fs, Bd W t) (bg : ∀ t ∈ gs, Bd W t) (hX : 18 * (W + 5) + 1 ≤ X) :
 LRJ (fun k j => sub (fs.length - 1) (gs.length - 1) k (tf fs) (tf gs) j) fs gs fs gs 1 1 X :=
 ⟨LR.first h1 hle t2, hle, h8, t1, t2, Com.refl _ _, (fun t ht => (bf t ht).mono (by lia)), (fun t ht => (bg t ht).mono (by lia)), (show Bd 1 1 by unfold Bd; decide).mono (by lia), (show Bd 1 1 by unfold Bd; decide).mono (by lia)⟩
section
variable {S : Nat → Nat → Int} {fs gs fs' gs' : List Int} {lead held : Int} {X : Nat}
theorem _root_.Dt.Srs.rest_is {S : Nat → Nat → Int} {m n : Nat} {f g r : Nat → Int} {e : Nat → Int} {lead held : Int} (I : Srs S m n f g lead held) (hn : 0 < n) (hr0 : ∀ i, i < m - n + 1 → r i = 0) (hf : ∀ b, g 0 ^ (m - n + 1) * f b = r b + sumN (fun t => e t * sh t g b) (m - n + 1)) (j : Nat) :
 ∃ c : Int, r (j + (m - n + 1)) = lead * held ^ (m - n) * c ∧ (c = S (n - 1) j ∨ c = - S (n - 1) j) := by
 obtain ⟨s, hs, h⟩ := I.is (n - 1) (by lia)
 replace h := h j
 rw [sub_rest I.le hn I.g0 hr0 hf, show n - (n - 1) = 1 by lia, Int.pow_one, show m - (n - 1) - 1 = m - n by have := I.le; lia] at h
 rcases hs with rfl | rfl
 ·exact ⟨S (n - 1) j, by grind, .inl rfl⟩
 ·exact ⟨- S (n - 1) j, by grind, .inr rfl⟩
theorem _root_.Dt.Srs.more_is {S : Nat → Nat → Int} {m n : Nat} {f g : Nat → Int} {lead held : Int} (I : Srs S m n f g lead held) (h : n < m) : ∃ q : Int, g 0 ^ (m - n) = held ^ (m - n - 1) * q ∧ q ≠ 0 ∧ (q = S n 0 ∨ q = - S n 0) := by
 obtain ⟨s, hs, e⟩ := I.is n (R8 _)
 replace e := e 0
 rw [sub_one h, Te, SR, RU, ← SS, show (m - n - 1).succ = m - n by lia] at e
 have e' : g 0 ^ (m - n) = held ^ (m - n - 1) * (s * S n 0) := by rcases hs with rfl | rfl <;> grind
 refine ⟨_, e', fun z => ?_, by rcases hs with rfl | rfl <;> grind⟩
 rw [z, Th] at e'
 exact absurd e' (Td I.g0)
theorem JJ {X : Nat} {c d : Int} (h : Bd X d) (e : c = d ∨ c = -d) : Bd X c := by
 unfold Bd at *
 rcases e with rfl | rfl
 ·exact h
 ·rw [Int.natAbs_neg]; exact h
theorem LRJ.next {os rs : List Int} {g held' : Int} {w : Nat} (I : LRJ S fs gs fs' gs' lead held X) (hS : ∀ k j, Bd X (S k j)) (hg : gs'[gs'.length - 1]? = some g) (ho : os.length = fs'.length + 1 - gs'.length) (hr : rs.length = gs'.length - 1)
 (hev : ∀ x, Cv.evI fs' x * ((g ^ os.length : Int) : Rat) = Cv.evI os x * Cv.evI gs' x + Cv.evI rs x) (hw : w ≤ rs.length) (hz : ∀ j, w ≤ j → rs.getD j 0 = 0) (hlast : 1 ≤ w → rs.getD (w - 1) 0 ≠ 0)
 (hh : (gs'.length < fs'.length ∧ held' = Ts (g ^ (fs'.length - gs'.length)) (held ^ (fs'.length - gs'.length - 1))) ∨ (fs'.length = gs'.length ∧ held' = held)) :
 lead * held ^ (fs'.length - gs'.length) ≠ 0 ∧ LRJ S fs gs gs' ((rs.take w).map fun t => Ts t (lead * held ^ (fs'.length - gs'.length))) g held' X ∧ (gs'.length < fs'.length → PDX X gs') := by
 have hl := (R3.mp hg).1
 have s := I.lr.srs (by lia)
 have hle := I.le
 have l10 := I.l10
 have hφ : lead * held ^ (fs'.length - gs'.length) ≠ 0 := RY s.l0 (Td s.h0)
 refine ⟨hφ, ?_⟩
 -- each number of the rest
 have dv : ∀ i, i < rs.length → ∃ c : Int, rs.getD i 0 = lead * held ^ (fs'.length - gs'.length) * c ∧ Bd X c := fun i hi => by
  obtain ⟨m, hm⟩ : ∃ m, fs'.length = m + 1 := ⟨fs'.length - 1, by lia⟩
  obtain ⟨n, hn⟩ : ∃ n, gs'.length = n + 1 := ⟨gs'.length - 1, by lia⟩
  rw [hm, hn, Tb, Tb] at s
  have rows := Ih hm hn (by lia) (by lia) (by lia) hev
  have e0 := ER hg
  obtain ⟨c, hc, hcs⟩ := s.rest_is (r := rf m rs) (e := fun t => os.getD (m - n - t) 0) (by lia) (fun i hi => MZ (n := n) (by lia) hi (by lia)) (fun b => by
   have := rows b
   rw [show os.length = m - n + 1 by lia] at this
   rw [e0]; exact this) (n - 1 - i)
  have e1 : rf m rs (n - 1 - i + (m - n + 1)) = rs.getD i 0 := by
   unfold rf
   rw [if_pos (by lia), show m - (n - 1 - i + (m - n + 1)) = i by lia]
  rw [e1] at hc
  refine ⟨c, ?_, JJ (hS _ _) hcs⟩
  rw [hm, hn, show m + 1 - (n + 1) = m - n by lia]
  exact hc
 generalize hF : lead * held ^ (fs'.length - gs'.length) = φ at *
 have hsB : ∀ t ∈ (rs.take w).map fun t => Ts t φ, Bd X t := fun t ht => by
  obtain ⟨u, hu, rfl⟩ := Tt.mp ht
  obtain ⟨i, hi⟩ := Tu (Tv hu)
  obtain ⟨c, hc, bc⟩ := dv i (R3.mp hi).1
  rw [Sl, hi] at hc
  have hc : u = φ * c := hc
  rw [hc, RQ _ hφ]
  exact bc
 have hs : ∀ j, rs.getD j 0 = φ * ((rs.take w).map fun t => Ts t φ).getD j 0 := fun j => by
  by_cases hj : j < w
  ·have e1 : rs[j]? = some (rs[j]'(by lia)) := Sv _
   obtain ⟨c, hc, _⟩ := dv j (by lia)
   have hc' := hc
   rw [Sl, e1] at hc'
   have hc' : rs[j]'(by lia) = φ * c := hc'
   rw [hc, Sl, Ru, List.getElem?_take_of_lt hj, e1, hc']
   show φ * c = φ * Ts (φ * c) φ
   rw [RQ _ hφ]
  ·rw [hz j (by lia), Sl, SV (by rw [Rx, Rp]; lia)]
   show (0 : Int) = φ * 0
   lia
 generalize hH : ((rs.take w).map fun t => Ts t φ) = hs' at hs hsB
 have hhl : hs'.length = w := by rw [← hH, Rx, Rp]; lia
 have hg0 : g ≠ 0 := I.t2 g hg
 have bg : Bd X g := I.bg _ (Rv hg)
 have hd : ((gs'.length < fs'.length ∧ g ^ (fs'.length - gs'.length) = held ^ (fs'.length - gs'.length - 1) * held') ∨ (fs'.length = gs'.length ∧ held' = held)) ∧ held' ≠ 0 ∧ Bd X held' := by
  rcases hh with ⟨h1, h2⟩ | ⟨h1, h2⟩
  ·obtain ⟨q, hq, hq0, hqs⟩ := s.more_is (by lia)
   rw [ER hg, show fs'.length - 1 - (gs'.length - 1) = fs'.length - gs'.length by lia] at hq
   have : held' = q := by rw [h2, hq, RQ _ (Td s.h0)]
   rw [this]
   exact ⟨.inl ⟨h1, hq⟩, hq0, JJ (hS _ _) hqs⟩
  ·exact ⟨.inr ⟨h1, h2⟩, by rw [h2]; exact s.h0, by rw [h2]; exact I.bh⟩
 have nx : LR S gs' hs' g held' := I.lr.next hg hle ho hr hev hw hz hlast hhl (fun j => by rw [hF]; exact hs j) hd.1 hd.2.1
 have com : Com (cst fs') (cst gs') (cst gs') (cst hs') := Com.step (c := g ^ os.length) (φ := φ) (Td hg0) hφ hev fun x => by
  have e : Cv.ev (cst rs) x = Cv.ev ((cst hs').map (· * (φ : Rat))) x := Hl x _ _ fun j => by
   rw [CY, CP, CP, hs j, S5, T4]
  show Cv.ev (cst rs) x = _
  rw [e, Cv.ev_scale, T4]; rfl
 have t2 : Ec hs' := fun t ht z => by
  have hjl := (R3.mp ht).1
  have := hlast (by lia)
  rw [hs, Sl, ← hhl, ht, z] at this
  exact this (Th _)
 exact ⟨⟨nx, by lia, by lia, I.t2, t2, I.com.trans com, I.bg, hsB, bg, hd.2.2⟩, fun _ => M9 (by lia) I.t2 I.bg⟩
end
end L2
namespace L2
theorem Ic {A B : List Rat} {p : Rat} (h : ∀ x, (x - p) * Cv.ev A x = (x - p) * Cv.ev B x) (x : Rat) : Cv.ev A x = Cv.ev B x := by
 have key : Cv.strip (Bg A (B.map (· * (-1)))) = [] := by
  by_cases hD : Cv.strip (Bg A (B.map (· * (-1)))) = []
  ·exact hD
  exfalso
  have gM : AN (Cc [-p, 1] (Cv.strip (Bg A (B.map (· * (-1)))))) := Fv (.inr ⟨1, rfl, by decide⟩) (Be _) (by simp) hD
  have e := BS gM (.inl rfl : AN []) fun x => by
   rw [Bt, Cv.ev_strip, BB, Cv.ev_scale]
   have := h x
   show (-p + x * (1 + x * 0)) * _ = 0
   grind
  have l := Cb (Cv.strip (Bg A (B.map (· * (-1))))) (S8.mpr hD) [-p, 1] (by simp)
  rw [e] at l
  have := S8.mpr hD
  simp only [Tq, S9] at l
  lia
 have z : Cv.ev (Cv.strip (Bg A (B.map (· * (-1))))) x = 0 := by rw [key]; rfl
 rw [Cv.ev_strip, BB, Cv.ev_scale] at z
 grind
theorem AR.cancel {d G A : List Rat} {p : Rat} (h : AR d G) (hG : ∀ x, Cv.ev G x = (x - p) * Cv.ev A x) (hd : Cv.ev d p ≠ 0) : AR d A := by
 obtain ⟨u, hu⟩ := h
 have z : Cv.ev u p = 0 := by
  have := hu p
  rw [hG, show p - p = (0 : Rat) by grind, Tw] at this
  rcases Sh.mp this.symm with y | y
  ·exact y
  ·exact absurd y hd
 have hv : ∀ x, Cv.ev u x = (x - p) * Cv.ev (quo p u) x := fun x => by rw [KI p x u, z]; grind
 refine ⟨quo p u, fun x => ?_⟩
 have e := Ic (A := A) (B := Cc (quo p u) d) (p := p) (fun x => by rw [Bt, ← hG, hu, hv]; grind) x
 rw [e, Bt]
end L2
namespace L2
open PySem PySem.Spec PyProof.Rows
def Ee (B : Heap) (l : List Env) (e : Addr) (c a0 m : Value) (h : Heap) : Prop :=
 B.StaysIn h ∧ B.get? e = none ∧ h.FunFrames B l ∧ ∃ (o : Obj) (v : Array Value) (T : Addr) (oT : Obj) (ts : Array Value), h.get? e = some o ∧ o.cls = c ∧ o.data = .fields v ∧ v[0]? = some a0 ∧ v[2]? = some .none ∧
  v[1]? = some (.ref T) ∧ B.get? T = none ∧ T ≠ e ∧ h.get? T = some oT ∧ oT.data = .fields ts ∧ ts[3]? = some m
def G7 (o : Obj) : Prop := ∃ v, o.data = .fields v ∧ v[2]? = some .none
theorem Ee.obj {B h : Heap} {l : List Env} {e : Addr} {c a0 m : Value} (x : Ee B l e c a0 m h) : ∃ o, h.get? e = some o ∧ o.cls = c ∧ G7 o := by
 obtain ⟨_, _, _, o, v, _, _, _, q1, q2, q3, _, q5, _⟩ := x
 exact ⟨o, q1, q2, v, q3, q5⟩
section
variable {M : Model} {A : Around} {E : Value → Shared → Prop} {s : Shared} {B : Heap} {env : Env} {outer : List Env} {L e : Addr}
theorem Fn {o : Obj} {v : Array Value} {hd0 a0 : Value} {had : Bool} {Q : Unit → Shared → Prop} (hA : A.frames = some (env :: outer)) (hF : s.heap.FunFrames B (env :: outer)) (hL : env.frame = some L)
 (he : s.heap.get? e = some o) (hB : B.StaysIn s.heap) (hn : B.get? e = none) (hv : o.data = .fields v) (z1 : 1 < v.size) (z0 : v[0]? = some a0) (z2 : v[2]? = some .none)
 (k : ∀ h', Ee B (env :: outer) e o.cls a0 (rawInt L) h' → s.heap.UpToSlots h' → Q () { s with heap := h' }) :
 wpAny M A (do let fr ← frameOf env; let ps ← entryPlaceOf L had; let en ← EntryCells.newEntry hd0 fr .none (rawInt L) .none ps; setField (.ref e) 1 en) Q E s := by
 have out : e ∉ (env :: outer).filterMap (·.frame) := fun z => by
  obtain ⟨_, o', e', nf⟩ := hF.mem z
  rw [he] at e'
  cases e'
  exact nf v hv
 refine wpAny_bind (wpAny_frameOf_fun hA hF hL fun g sg => wpAny_bind (wpAny_entryPlaceOf fun ps hp => ?_))
 unfold EntryCells.newEntry newFields
 refine wpAny_bind (wpAny_newObj_type ?_ (hp.sizeOk5 _ _ _ _ _))
 generalize hob : ({ cls := .type "traceback", dict := none, data := .fields ([hd0, .ref L, .none, rawInt L, .none] ++ (if ps.isEmpty then Rm 6 Value.none else ps)).toArray } : Obj) = ob
 have hg : g.get? e = some o := (sg.2.1 e out).trans he
 have gB : B.StaysIn g := fun b u q => (sg.2.1 b fun z => by rw [(hF.mem z).1] at q; cases q).trans (hB b u q)
 have nT : g.objs.size ≠ e := R7 (Heap.lt_size hg)
 have hp1 : (g.push ob).get? e = some o := Heap.get?_push_of_some _ hg
 refine wpAny_setField hp1 hv z1 (k _ ?_ ?_)
 ·have d1 := Obj.data_mapFields hv (·.setIfInBounds 1 (Value.ref g.objs.size))
  have old : ∀ b u, b ≠ e → g.get? b = some u → ((g.push ob).update e (Obj.mapFields (·.setIfInBounds 1 (Value.ref g.objs.size)))).get? b = some u := fun b u n q => by
   rw [Heap.get?_update_other _ _ (Ne.symm n)]
   exact Heap.get?_push_of_some _ q
  have fresh : ob.isFreed = false := by rw [← hob]; rfl
  refine ⟨fun b u q => old b u (fun z => by rw [z, hn] at q; cases q) (gB b u q), hn, hF.of_keeps fun b u q nf => ?_, _, _, g.objs.size, ob, _, Heap.get?_update_self _ hp1 (Obj.isFreed_of_fields d1), Obj.cls_mapFields _ _, d1, ?_, ?_, ?_, gB.fresh, nT, ?_, by rw [← hob], ?_⟩
  ·obtain ⟨sl, q'⟩ := sg.2.2 b u q
   exact ⟨_, old b _ (fun z => by rw [z, he] at q; cases q; exact nf v hv) q', rfl⟩
  ·rw [Tx (by decide)]; exact z0
  ·rw [Tx (by decide)]; exact z2
  ·simp [z1]
  ·rw [Heap.get?_update_other _ _ (Ne.symm nT)]
   exact Heap.get?_push_size g fresh
  ·rcases hp with rfl | ⟨_, _, _, _, _, _, _, rfl⟩ <;> simp
 ·intro b u q nf
  obtain ⟨sl, q'⟩ := sg.2.2 b u q
  refine ⟨sl, ?_⟩
  rw [Heap.get?_update_other _ _ (fun z => by rw [← z, he] at q; cases q; exact nf v hv)]
  exact Heap.get?_push_of_some _ q'
theorem ME {c a0 : Value} {Q : Unit → Shared → Prop} (hA : A.frames = some (env :: outer)) (hL : env.frame = some L) (x : Ee B (env :: outer) e c a0 .none s.heap)
 (k : ∀ h', Ee B (env :: outer) e c a0 (rawInt L) h' → s.heap.UpToSlots h' → Q () { s with heap := h' }) : wpAny M A (noteFrame (.ref e) env) Q E s := by
 obtain ⟨b1, b2, b3, o, v, T, oT, ts, q1, q2, q3, q4, q5, q6, q7, q8, q9, q10, q11⟩ := x
 subst q2
 unfold noteFrame
 simp only [hL]
 refine wpAny_bind (wpAny_field q1 q3 q6 ?_)
 rw [if_pos (by simp)]
 refine wpAny_bind (wpAny_field q9 q10 q11 ?_)
 rw [if_neg (by simp [rawInt])]
 refine wpAny_bind (wpAny_setField q9 q10 (Tz.mp q11).1 ?_)
 have no : ∀ b u, s.heap.get? b = some u → (∀ w, u.data ≠ .fields w) → b ≠ T := fun b u q nf z => by
  rw [z, q9] at q
  cases q
  exact nf ts q10
 have ot : ∀ b u, b ≠ T → s.heap.get? b = some u → (s.heap.update T (Obj.mapFields (·.setIfInBounds 3 Value.none))).get? b = some u := fun b u n q => (Heap.get?_update_other _ _ (Ne.symm n)).trans q
 refine Fn hA (b3.of_keeps fun b u q nf => ⟨u, ot b u (no b u q nf) q, rfl⟩) hL (ot e o (Ne.symm q8) q1) (fun b u q => ot b u (fun z => by rw [z, q7] at q; cases q) (b1 b u q)) b2 q3 (Tz.mp q6).1 q4 q5 fun h' f us => k h' f fun b u q nf => ?_
 exact us b u (ot b u (no b u q nf) q) nf
theorem Jt {l : List Env} {c a0 m : Value} {Q : Unit → Shared → Prop} (x : Ee B l e c a0 m s.heap) (k : ∀ h', Ee B l e c a0 .none h' → s.heap.UpToSlots h' → Q () { s with heap := h' }) : wpAny M A (setFlight (.ref e) none) Q E s := by
 obtain ⟨b1, b2, b3, o, v, T, oT, ts, q1, q2, q3, q4, q5, q6, q7, q8, q9, q10, q11⟩ := x
 have z3 : 3 < ts.size := (Tz.mp q11).1
 unfold setFlight
 refine wpAny_bind (wpAny_field q1 q3 q6 ?_)
 rw [if_pos (by simp)]
 refine wpAny_setField q9 q10 z3 ?_
 have no : ∀ b u, s.heap.get? b = some u → (∀ w, u.data ≠ .fields w) → b ≠ T := fun b u q nf z => by
  rw [z, q9] at q
  cases q
  exact nf ts q10
 have ot : ∀ b u, b ≠ T → s.heap.get? b = some u → (s.heap.update T (Obj.mapFields (·.setIfInBounds 3 ((none : Option Addr).elim Value.none fun f => rawInt f)))).get? b = some u := fun b u n q => (Heap.get?_update_other _ _ (Ne.symm n)).trans q
 have d1 := Obj.data_mapFields q10 (·.setIfInBounds 3 ((none : Option Addr).elim Value.none fun f => rawInt f))
 exact k _ ⟨fun b u q => ot b u (fun z => by rw [z, q7] at q; cases q) (b1 b u q), b2, b3.of_keeps fun b u q nf => ⟨u, ot b u (no b u q nf) q, rfl⟩, o, v, T, _, _, ot e o (Ne.symm q8) q1, q2, q3, q4, q5, q6, q7, q8, Heap.get?_update_self _ q9 (Obj.isFreed_of_fields d1), d1, by simp [z3]⟩
  fun b u q nf => ⟨u.slots, ot b u (no b u q nf) q⟩
theorem Ee.up {c a0 m : Value} {h : Heap} (x : Ee B (env :: outer) e c a0 m h) : Ee B outer e c a0 m h := by
 obtain ⟨b1, b2, ⟨_, _, b3⟩, r⟩ := x
 exact ⟨b1, b2, b3, r⟩
theorem Nr {c a0 : Value} {Q : Unit → Shared → Prop} (hA : A.frames = some (env :: outer)) (hL : env.frame = some L) (x : Ee B (env :: outer) e c a0 .none s.heap)
 (k : ∀ h', Ee B outer e c a0 .none h' → s.heap.UpToSlots h' → Q () { s with heap := h' }) : wpAny M A (leaving env (.ref e)) Q E s := by
 unfold leaving
 exact wpAny_bind (ME hA hL x fun h1 f1 u1 => Jt (s := { s with heap := h1 }) f1 fun h2 f2 u2 => k h2 f2.up (u1.trans u2))
theorem Og {h : Heap} {c : Value} {vs : List Value} {Q : Unit → Shared → Prop} (hA : A.frames = some (env :: outer)) (hL : env.frame = some L) (hB : B.StaysIn h) (hF : h.FunFrames B (env :: outer)) (hx : Heap.MadeExcOf h s.heap e c vs)
 (k : ∀ h' a0, Ee B outer e c a0 .none h' → s.heap.UpToSlots h' → Q () { s with heap := h' }) : wpAny M A (leaving env (.ref e)) Q E s := by
 obtain ⟨t, he, _, _⟩ := hx.there
 have fresh : B.get? e = none := by
  cases q : B.get? e with
  | none => rfl
  | some u => have := hB e u q; rw [hx.new] at this; cases this
 unfold leaving noteFrame
 simp only [hL]
 refine wpAny_bind (wpAny_bind (wpAny_field he rfl (x := .none) rfl ?_))
 rw [if_neg (by decide)]
 exact Fn hA (hF.of_keeps fun b u q _ => ⟨u, hx.keeps b u q, rfl⟩) hL he (fun b u q => hx.keeps b u (hB b u q)) fresh rfl (show 1 < 6 by decide) rfl rfl
  fun h1 f1 u1 => Jt (s := { s with heap := h1 }) f1 fun h2 f2 u2 => k h2 _ f2.up (u1.trans u2)
end
theorem G4 : entryFor table "proto.unchain" = some Builtin.«proto.unchain» := entryFor_of_fast (by kernel_rfl)
section
variable {prog : Program} {w : World} {A : Around} {E : Value → Shared → Prop} {s : Shared} {ea : Addr} {oe : Obj}
theorem N0 {α : Type} {a : Addr} {o : Obj} {v : Array Value} {Q : α → Shared → Prop} (hh : A.handled = some (.ref ea)) (he : s.heap.get? ea = some oe) (hc : G7 oe) (ha : s.heap.get? a = some o) (hv : o.data = .fields v) (hz : 2 < v.size) (ne : ea ≠ a)
 (k : E (.ref a) { s with heap := s.heap.update a (Obj.mapFields (·.setIfInBounds 2 (.ref ea))) }) : wpAny (model prog w) A (raiseNew (.ref a) : Sem α) Q E s := by
 obtain ⟨ve, hd, h2⟩ := hc
 unfold raiseNew
 refine wpAny_bind (wpAny_handled ?_)
 rw [hh]
 dsimp only
 rw [if_pos (by simp [ne])]
 refine wpAny_bind (wpAny_holding (wpAny_runValue (codeAny_builtin G4 ?_)))
 show wpAny _ _ (field (.ref ea) 2 >>= _) _ _ s
 refine wpAny_bind (wpAny_field he hd h2 ?_)
 rw [if_pos (by decide)]
 refine wpAny_bind (wpAny_pure (wpAny_pure ?_))
 refine wpAny_bind ?_
 unfold updateField
 refine wpAny_bind (wpAny_load ha ?_)
 rw [hv]
 dsimp only
 rw [if_pos hz]
 exact wpAny_update ha (wpAny_throw k)
theorem MB {it : Addr} {h0 : Heap} {α : Type} {P : α → Shared → Prop} {G : Value → Shared → Prop} (hh : A.handled = some (.ref ea)) (he : s.heap.get? ea = some oe) (hc : G7 oe) (hb : Heap.ExtBut it h0 s.heap)
 (k : ∀ a h', Shared.TypeIs { s with heap := h' } (.ref a) "StopIteration" → Heap.ExtBut it h0 h' → G (.ref a) { s with heap := h' }) : wpAny (model prog w) A (newExc (.type "StopIteration") [] >>= fun x => (raiseNew x : Sem α)) P G s := by
 refine wpAny_bind ?_
 simp only [newExc, newTuple]
 refine wpAny_bind (wpAny_newObj_type ?_ (by size_fits))
 refine wpAny_bind (m := firstArgMember _ _) (wpAny_of_eq (a := Value.none) (by first | rfl | (simp only [firstArgMember]; rfl)) ?_)
 refine wpAny_newObj_type ?_ (by size_fits)
 have old : ∀ (b : Addr) (u o1 o2 : Obj), s.heap.get? b = some u → ((s.heap.push o1).push o2).get? b = some u := fun b u o1 o2 q => Heap.get?_push_of_some _ (Heap.get?_push_of_some _ q)
 have lt : ∀ (b : Addr) (u o1 : Obj), s.heap.get? b = some u → (s.heap.push o1).objs.size ≠ b := fun b u o1 q z => by
  have := Heap.lt_size q
  rw [← z, Heap.size_push] at this
  exact absurd this (Sk.mpr (Sr _))
 refine N0 hh (old ea oe _ _ he) hc (Heap.get?_push_size _ rfl) rfl (show 2 < 6 by decide) (fun z => lt ea oe _ he z.symm) (k _ _ ⟨_, Heap.get?_update_self _ (Heap.get?_push_size _ rfl) rfl, rfl⟩ fun b u n q => ?_)
 rw [Heap.get?_update_other _ _ (lt b u _ (hb b u n q))]
 exact old b u _ _ (hb b u n q)
theorem K3 {it l : Addr} {i : Nat} {items : Array Value} {Q : Option Value → Shared → Prop} (hh : A.handled = some (.ref ea)) (he : s.heap.get? ea = some oe) (hc : G7 oe) (ni : ea ≠ it) (st : s.heap.IsListIter it l i) (hl : s.heap.IsList l items) (hx : items[i]? = none)
 (k : ∀ h', Heap.ExtBut it s.heap h' → Q none { s with heap := h' }) : wpAny (model prog w) A (pyNext (.ref it)) Q E s := by
 obtain ⟨o, q1, q2, q3⟩ := id st
 obtain ⟨ol, p1, _, nl, p2⟩ := hl
 unfold pyNext
 refine wpAny_bind (wpAny_attempt (wpAny_callSpecial?_slot (name := Str.ofString "__next__") st.typeIs slot_listiter_next (wpAny_call_entry slot_listiter_next st.typeIs entry_listiter_next ?_ (args_listiter_next _))))
 show wpAny _ A.in1 (field (.ref it) 0 >>= _) _ _ s
 refine wpAny_bind (wpAny_field q1 q3 (x := .ref l) rfl ?_)
 show wpAny _ _ (if (Value.ref l == Value.none) = true then _ else _) _ _ s
 rw [if_neg (fun z => nomatch z)]
 refine wpAny_bind (wpAny_field q1 q3 (x := .int i 0) rfl (wpAny_bind (wpAny_seqItems p1 p2 ?_)))
 simp only [RD, hx]
 refine wpAny_bind (wpAny_rule (wpAny_bind (wpAny_setField q1 q3 (by simp) ?_)))
 refine MB (A := A.in1) (it := it) (h0 := s.heap) hh ((Heap.get?_update_other _ _ (Ne.symm ni)).trans he) hc (Heap.SameBut.update ..).extBut fun a h' ty eb => ?_
 exact wpAny_bind (wpAny_isInstance (T := "StopIteration") (b := true) ty isSubtype_stop (wpAny_pure (k h' eb)))
theorem Ko {it l : Addr} {i : Nat} {items : Array Value} {Q : Option Value → Shared → Prop} (hh : A.handled = some (.ref ea)) (he : s.heap.get? ea = some oe) (hc : G7 oe) (ni : ea ≠ it) (st : IsTupIter s.heap it l i) (hl : IsTup s.heap l items) (hx : items[i]? = none)
 (k : ∀ h', Heap.ExtBut it s.heap h' → Q none { s with heap := h' }) : wpAny (model prog w) A (pyNext (.ref it)) Q E s := by
 obtain ⟨o, q1, q2, q3⟩ := id st
 obtain ⟨ol, p1, _, nl, p2⟩ := hl
 unfold pyNext
 refine wpAny_bind (wpAny_attempt (wpAny_callSpecial?_slot (name := Str.ofString "__next__") st.typeIs slot_tupleiter_next (wpAny_call_entry slot_tupleiter_next st.typeIs entry_tupleiter_next ?_ (args_tupleiter_next _))))
 show wpAny _ A.in1 (field (.ref it) 0 >>= _) _ _ s
 refine wpAny_bind (wpAny_field q1 q3 (x := .ref l) rfl ?_)
 show wpAny _ _ (if (Value.ref l == Value.none) = true then _ else _) _ _ s
 rw [if_neg (fun z => nomatch z)]
 refine wpAny_bind (wpAny_field q1 q3 (x := .int i 0) rfl (wpAny_bind (wpAny_seqItems p1 p2 ?_)))
 simp only [RD, hx]
 refine wpAny_bind (wpAny_rule (wpAny_bind (wpAny_setField q1 q3 (by simp) ?_)))
 refine MB (A := A.in1) (it := it) (h0 := s.heap) hh ((Heap.get?_update_other _ _ (Ne.symm ni)).trans he) hc (Heap.SameBut.update ..).extBut fun a h' ty eb => ?_
 exact wpAny_bind (wpAny_isInstance (T := "StopIteration") (b := true) ty isSubtype_stop (wpAny_pure (k h' eb)))
theorem LX {env : Env} {es : List Expr} {kk} {pos : Pos} {t : Addr} {items : Array Value} {Q : Unit → Shared → Prop} (hh : A.handled = some (.ref ea)) (he : s.heap.get? ea = some oe) (hc : G7 oe) (ht : IsTup s.heap t items) (hn : (assignEach es env).length = items.size)
 (hs : (assignEach es env).findIdx? (·.1) = none) (k : ∀ h', Heap.ExtBut s.heap.objs.size s.heap h' → wpAny (model prog w) A (assignInOrder ((assignEach es env).map (·.2)) items.toList) Q E { s with heap := h' }) :
 wpAny (model prog w) A (assign (.Tuple es kk pos) env (.ref t)) Q E s := by
 have nt : t ≠ s.heap.objs.size := by obtain ⟨o, q, _⟩ := ht; exact QO (Heap.lt_size q)
 rw [assign_Tuple]
 refine wpAny_bind (wpAny_standAt ?_)
 unfold unpack
 rw [hn, hs]
 refine wpAny_bind (wpAny_holding ?_)
 unfold unpackItems notIterableAtAll
 refine wpAny_bind (wpAny_bind (wpAny_specialOf ht.typeIs slot_tuple_iter.lookup (wpAny_pure ?_)))
 simp only [Bool.false_eq_true, if_false]
 refine wpAny_bind (wpAny_holding (iter_tuple ht (wpAny_bind (wpAny_holding (draw_tuple nt items.size 0 _ _ ⟨_, Heap.get?_push_size _ rfl, rfl, rfl⟩ (ht.push _) (by lia) fun h1 i1 s1 => ?_)))))
 rw [show List.take items.size (List.drop 0 items.toList) = items.toList by rw [SO]; exact T7 (by simp), if_neg (by simp)]
 have ne : ea ≠ s.heap.objs.size := QO (Heap.lt_size he)
 refine wpAny_bind (wpAny_holding (Ko (s := { s with heap := h1 }) hh (s1.extBut ea oe ne (Heap.get?_push_of_some _ he)) hc ne i1 ((ht.push _).extBut s1.extBut nt) (by simp) fun h2 e2 => ?_))
 simp only [Option.isSome_none, Bool.false_eq_true, if_false]
 exact wpAny_pure (k h2 fun b u n q => e2 b u n (s1.extBut b u n (Heap.get?_push_of_some _ q)))
end
end L2
namespace L2
open PySem PySem.Spec PyProof.Rows
structure Hx (X : Cx) (ea : Addr) (oe : Obj) : Prop where
 hd : X.A.handled = some (.ref ea)
 ct : G7 oe
 ob : X.s₀.heap.get? ea = some oe
 fr : X.H₀ ea = none
 nf : ea ∉ X.fs
 nx : ea ∉ X.ex
section
variable {X : Cx} {pins : List (Addr × Obj)} {σ : St} {H : Hp} {s : Shared} {ea : Addr} {oe : Obj}
theorem Hx.at (x : Hx X ea oe) (I : Inv X pins σ H s) : s.heap.get? ea = some oe := I.base.keep ea oe x.ob x.fr x.nf x.nx
theorem Hx.no (x : Hx X ea oe) (I : Inv X pins σ H s) : H ea = none := I.base.free ea oe x.ob x.fr x.nx
theorem Hx.lt (x : Hx X ea oe) : ea < X.s₀.heap.objs.size := Heap.lt_size x.ob
theorem Hx.ns (x : Hx X ea oe) (I : Inv X pins σ H s) : ea ∉ frs X.stack := fun z => by
 rcases QZ.mp (I.stkSub ea z) with e | z
 ·exact QO (QM x.lt I.ok.above) e
 ·exact x.nf z
theorem hxC {N : List Str} {scope : Scope} {fp : List Addr} (x : Hx X ea oe) (I : Inv X pins σ H s) (hf : ∀ b ∈ fp, DP X pins H b) (cl : List (Str × Addr)) (C : Addr) : Hx (AL X N scope cl C s H fp) ea oe :=
 ⟨x.hd, x.ct, x.at I, x.no I, x.ns I, fun z => by
  rcases (hf ea z).2.2.2.1 with y | y
  ·exact x.nx y
  ·exact absurd x.lt (Sk.mpr y)⟩
theorem IS {a it : Addr} (x : Hx X ea oe) (i : Nat) (pins : List (Addr × Obj)) (s : Shared) (σ : St) (H : Hp) (E : Value → Shared → Prop) (I : Inv X pins σ H s) (hf : ∀ b ∈ [it], DP X pins H b) (st : s.heap.IsListIter it a i) (hg : (Itl X.K a).stop i H) :
 wpAny (model X.prog X.w) X.A (pyNext (.ref it)) (fun r s1 => r = none ∧ Inv X pins σ H s1) E s := by
 obtain ⟨xs, hq, hx⟩ := hg
 obtain ⟨its, rv, p, hz⟩ := I.list hq
 obtain ⟨f0, f1, f2, f3, f4, f5⟩ := hf it (Ss.mpr rfl)
 have hl := rv.length
 have ni : ea ≠ it := fun z => by
  rcases f3 with y | y
  ·exact x.nx (z ▸ y)
  ·exact absurd x.lt (Sk.mpr (z ▸ y))
 exact K3 x.hd (x.at I) x.ct ni st p.isList (by simp; lia) fun h' eb => ⟨rfl, I.turned (t' := s.toks) (fun b o hb e => eb b o hb e) f0 f1 f3 f4 f5⟩
theorem IQ {tg : Expr} {a it : Addr} (i : Nat) (pins : List (Addr × Obj)) (s : Shared) (σ : St) (H : Hp) (E : Value → Shared → Prop) (I : Inv X pins σ H s) (hf : ∀ b ∈ [it], DP X pins H b) (st : s.heap.IsListIter it a i) (hg : (Itl X.K a).go i H) :
 wpAny (model X.prog X.w) X.A (pyNext (.ref it)) (fun r s1 => ∃ u, r = some u ∧
  wpAny (model X.prog X.w) X.A (letOwnedTupleGo tg (.ref it) u) (fun _ s2 => ∃ x H', Inv X pins σ H' s2 ∧ Bh x u ∧ (Itl X.K a).yld i H x H' ∧ s2.heap.IsListIter it a (i + 1) ∧ ∀ b ∈ [it], H' b = none) E s1) E s := by
 obtain ⟨xs, x, hq, hx⟩ := hg
 obtain ⟨its, rv, p, hz⟩ := I.list hq
 obtain ⟨u, hu, ru⟩ := rv.get hx
 obtain ⟨f0, f1, f2, f3, f4, f5⟩ := hf it (Ss.mpr rfl)
 refine wpAny_pyNext_list_item st p.isList (x := u) (by simpa using hu) fun h' st' sb => ?_
 have I1 : Inv X pins σ H { s with heap := h' } := I.turned (t' := s.toks) (fun b o hb e => (sb.2 b hb).trans e) f0 f1 f3 f4 f5
 obtain ⟨o, e, c, d⟩ := id st'
 exact ⟨u, rfl, Gk (s := { s with heap := h' }) e c d (by decide) ⟨x, H, I1, ru, ⟨rfl, fun ys hy => by rw [I.list_inj hy hq]; exact hx⟩, st', fun b hb => (hf b hb).1⟩⟩
theorem OI {K : QT} {es : List Expr} {k : Nat} {t : TGs} {n : Nat} {pos : Pos} (x : Hx X ea oe) (h : PGs X es t) (hn : (assignEach es X.env).length = n := by rfl) (hst : (assignEach es X.env).findIdx? (·.1) = none := by rfl) (e : X.K = K := by rfl) : PG X (.Tuple es k pos) (K8 K n t) := by
 subst e
 intro pins s σ H v u Q I r hw
 obtain ⟨a, xs, e1, hq, hl, hw⟩ := hw
 subst e1
 cases r
 obtain ⟨its, rv, ht, hz⟩ := I.tuple hq
 refine LX x.hd (x.at I) x.ct ht (by simp [hn, ← hl, rv.length]) hst fun h' hx => ?_
 have I1 : Inv X pins σ H { s with heap := h' } := I.kept (t' := s.toks) fun b o e => hx b o (QO (Heap.lt_size e)) e
 exact h pins _ σ H xs _ Q I1 (by simpa using rv) hw
end
section
variable {X : Cx} {N : List Str} {nt : Nat} {js : List Nat} {scope : Scope} {elt iter tg : Expr} {ifs : List Expr} {pos : Pos} {g : TG} {tc : TT} {te tl : TE} {ea : Addr} {oe : Obj}
set_option maxHeartbeats 4000000 in
theorem Kb {pins : List (Addr × Obj)} {σ : St} {H : Hp} {s₂ : Shared} {cl : List (Str × Addr)} {it a : Addr} {E : Value → Shared → Prop} {Fin : List V → Hp → Prop} {W : Nat → List V → Hp → Prop} {nn : Nat}
 {RR : Value → Addr → Result → Shared → Prop} (hx : Hx X ea oe) (ok : AY X N nt js scope)
 (hcl : ∀ x c, cl.lookup x = some c → X.env.cells.lookup x = some c) (hcl2 : ∀ x ∈ scope.names, x.2 = .free → ∃ c, cl.lookup x.1 = some c)
 (hg : ∀ cl C s H fp, Hx (AL X N scope cl C s H fp) ea oe → PG (AL X N scope cl C s H fp) tg g) (hk : FC g nt) (hc : ∀ cl C s H fp, PTs (AL X N scope cl C s H fp) ifs tc) (he : ∀ cl C s H fp, PE (AL X N scope cl C s H fp) elt te)
 (I : Inv X pins σ H s₂) (st : s₂.heap.IsListIter it a 0) (hf : ∀ b ∈ [it], DP X pins H b) (w0 : W 0 [] H) (lw : LcW (Itl X.K a) nn nt js σ g tc te Fin W)
 (hRR : ∀ D C s' H' zs m, Inv X pins σ (upd H' D (.lst zs)) s' → s'.heap.Ns C m → H' D = none → (upd H' D (.lst zs)) C = none → C ≠ X.env.locals → X.s₀.heap.objs.size ≤ C → (∀ x c, X.env.cells.lookup x = some c → c ≠ C) →
  (∀ p ∈ X.pn ++ pins, p.1 ≠ C) → Fin zs H' → RR (.ref D) C (.ok .next) s') :
 wpAny (model X.prog X.w) X.A (newList []) (fun acc s₃ => wpAny (model X.prog X.w) X.A (newFunctionEnv scope X.env.globals cl [] X.env.qual none .none (some X.env)) (fun cenv s₄ =>
  codeAny (model X.prog X.w) X.A (.compStart (.ListComp elt [⟨tg, iter, ifs, 0⟩] scope pos) 0 (.ref it) acc { cenv with scope := relabel scope X.env }) (RR acc cenv.locals) s₄) E s₃) E s₂ := by
 have T : Iu X.prog X.w X.K tg (Itl X.K a) [it] it (fun i h => h.IsListIter it a i) := G8 a it
 refine wpAny_newObj_type (wpAny_newFunctionEnv ok.nocell (by intro y hy; simp at hy) (fun h₁ hns₁ hsb₁ => ?_) ok.kind)
 dsimp only at hns₁ hsb₁ ⊢
 generalize hH2 : s₂.heap.push { cls := .type "list", dict := none, data := .seq ([] : List Value).toArray } = H2 at hns₁ hsb₁ ⊢
 have hC : H2.objs.size = s₂.heap.objs.size + 1 := by rw [← hH2, Heap.size_push]
 have hDC : s₂.heap.objs.size ≠ H2.objs.size := by rw [hC]; exact QO (So _)
 have hCle : s₂.heap.objs.size ≤ H2.objs.size := by rw [hC]; exact Sr _
 have below : ∀ b, b < s₂.heap.objs.size → b ≠ H2.objs.size ∧ b ≠ s₂.heap.objs.size := fun b hb => ⟨by rw [hC]; exact QO (Nat.lt_succ_of_lt hb), QO hb⟩
 have old : ∀ b o, s₂.heap.get? b = some o → h₁.get? b = some o := fun b o e => hsb₁.extBut b o (below b (Heap.lt_size e)).1 (Heap.get?_push_of_some _ (hH2 ▸ Heap.get?_push_of_some _ e))
 have hacc : h₁.get? s₂.heap.objs.size = some (Cr []) := hsb₁.extBut _ _ hDC (Heap.get?_push_of_some _ (hH2 ▸ Heap.get?_push_size _ rfl))
 have ho := T.obj 0 _ st
 have lt : ∀ b ∈ [it], b < s₂.heap.objs.size := fun b hb => by obtain ⟨o, e, _⟩ := ho b hb; exact Heap.lt_size e
 have loop : ∀ s₃ : Shared, s₃ = { s₂ with heap := h₁, toks := s₂.toks + ([] : List (Str × Value)).length } →
  codeAny (model X.prog X.w) X.A (.compLoop (.ListComp elt [⟨tg, iter, ifs, 0⟩] scope pos) 0 (.ref it) (.ref s₂.heap.objs.size) (compEnvC scope cl H2.objs.size X.env)) (RR (.ref s₂.heap.objs.size) H2.objs.size) s₃ := by
  rintro s₃ rfl
  have I0 : Inv (AL X N scope cl H2.objs.size s₂ H [it]) [(s₂.heap.objs.size, Cr [])] (cS nt js σ) H { s₂ with heap := h₁, toks := s₂.toks + ([] : List (Str × Value)).length } :=
   Ie I ok hcl hcl2 hf ho (R8 _) hCle hDC old hns₁ hacc
  have fpy : ∀ {H' : Hp} {ys : List Value}, (∀ b ∈ [it], H' b = none) → ∀ b ∈ [it], DP (AL X N scope cl H2.objs.size s₂ H [it]) [(s₂.heap.objs.size, Cr ys)] H' b := fun {H' ys} hn b hb =>
   ⟨hn b hb, (below b (lt b hb)).1, I0.ok.exfs b hb, .inl hb, (I0.ok.exf b hb).2, fun p hp => by
    have hp' : p ∈ [(s₂.heap.objs.size, Cr ys)] := hp
    have e : p = (s₂.heap.objs.size, Cr ys) := by simpa using hp'
    rw [e]; exact Ne.symm (below b (lt b hb)).2⟩
  refine Ea (fun n s' => ∃ i zs ys H', n = nn - i ∧ i ≤ nn ∧ Inv (AL X N scope cl H2.objs.size s₂ H [it]) [(s₂.heap.objs.size, Cr ys)] (cS nt js σ) H' s' ∧ AK zs ys ∧ s'.heap.IsListIter it a i ∧ (∀ b ∈ [it], H' b = none) ∧ W i zs H') ?_ nn
   ⟨0, [], [], H, rfl, Rb _, I0, .nil, T.keep 0 _ _ st (fun b _ o e => old b o e), fun b hb => (hf b hb).1, w0⟩
  rintro n s' ⟨i, zs, ys, H', hn0, hile, I', rv, st', fr', w'⟩
  by_cases hlt : i < nn
  case neg =>
   have hie : i = nn := Nat.le_antisymm hile (Sk.mp hlt)
   rw [hie] at w' st'
   obtain ⟨stop, zl, fin⟩ := lw.stop zs H' w'
   refine thn (IS (hxC hx I hf cl H2.objs.size) nn _ s' _ H' (fun _ _ => False) I' (fpy fr') st' stop) fun r s4 ⟨hr, I4⟩ => ?_
   subst hr
   have zD := (I4.pin (s₂.heap.objs.size, Cr ys) (Ra _ (Ss.mpr rfl)))
   have u := I4.base
   have u2 : Un (frs X.stack) [it] H (upd H' s₂.heap.objs.size (.lst zs)) s₂.heap s4.heap :=
    ⟨u.keep, u.slot, fun b o q n hx => by rw [AB (QO (Heap.lt_size q))]; exact u.free b o q n hx, u.there, fun b xs q => by rw [AB (Az (u.tups b xs q) zD.2.1)]; exact u.tups b xs q,
     fun b o xs q => by rw [AB (Az (u.frzs b o xs q) zD.2.1)]; exact u.frzs b o xs q, fun b ps q => by
      obtain ⟨more, e⟩ := u.tbls b ps q
      exact ⟨more, by rw [AB (Az e zD.2.1)]; exact e⟩⟩
   have hok2 : HOk X.prog X.w (upd H' s₂.heap.objs.size (.lst zs)) s4.heap := HOk.track I4.hok zD.2.1 ⟨zl, ys, _, rv, zD.1⟩
   have I5 : Inv X pins σ (upd H' s₂.heap.objs.size (.lst zs)) s4 := I.call' I4.os u2 hok2 I4.bare fun b hb => ⟨(hf b hb).2.2.2.1, (hf b hb).2.1, (hf b hb).2.2.2.2.1, (hf b hb).2.2.2.2.2⟩
   obtain ⟨m, hn, _⟩ := I4.loc
   refine hRR _ _ s4 H' zs m I5 hn zD.2.1 ?_ ?_ (QU I.sz hCle) ?_ ?_ fin
   ·rw [AB (Ne.symm hDC)]; exact I4.free
   ·exact R7 (QM I.lt hCle)
   ·intro x c e z
    obtain ⟨v, q⟩ := I.cell x c e
    exact absurd (QM q.lt (by rw [z]; exact hCle)) (QN _)
   ·intro p hp z
    exact absurd (QM (Heap.lt_size (I.pin p hp).1) (by rw [z]; exact hCle)) (QN _)
  case pos =>
   obtain ⟨go, zl⟩ := lw.go i zs H' hlt w'
   have step := lw.step i zs H'
   refine thn (IQ (tg := tg) (X := AL X N scope cl H2.objs.size s₂ H [it]) i _ s' _ H' (fun _ _ => False) I' (fpy fr') st' go) fun r s4 ⟨u, hr, h4⟩ => ?_
   subst hr
   refine thn h4 fun _ s5 ⟨x, H5, I5, r5, y5, st5, fr5⟩ => ?_
   have I5' := I5.pinned (fpy fr5) (T.obj _ _ st5)
   refine thn (hg cl _ s₂ H [it] (hxC hx I hf cl _) _ s5 _ H5 x u _ I5' r5 (hk _ _ _ _ (step x H5 hlt w' y5))) fun _ s6 ⟨σ6, H6, I6, ⟨hl6, hd6⟩, q6⟩ => ?_
   refine thn (hc cl _ s₂ H [it] _ s6 σ6 H6 _ I6 q6) fun okb s7 ⟨H7, I7, q7⟩ => ?_
   have frs' : ∀ {H8 : Hp} {σ8 : St} {s8 : Shared}, Inv (AL X N scope cl H2.objs.size s₂ H [it]) ([(s₂.heap.objs.size, Cr ys)] ++ Eo [it] s5.heap) σ8 H8 s8 → s8.heap.IsListIter it a (i + 1) ∧ ∀ b ∈ [it], H8 b = none := fun {H8 σ8 s8} I8 =>
    ⟨T.keep _ _ _ st5 fun b hb o e => (I8.pin (b, o) (Ra _ (Ra _ (C5 hb e)))).1, fun b hb => by
     obtain ⟨o, e, d⟩ := T.obj _ _ st5 b hb
     exact (I8.pin (b, o) (Ra _ (Ra _ (C5 hb e)))).2.1⟩
   cases okb with
   | false =>
     rw [if_neg Bool.false_ne_true] at q7 ⊢
     obtain ⟨a1, a2⟩ := frs' I7
     exact ⟨nn - (i + 1), by rw [hn0]; exact Su hlt (So i), i + 1, zs, ys, H7, rfl, hlt, I7.unpinned.weak (by rw [hl6]) (EN hl6 hd6), rv, a1, a2, q7⟩
   | true =>
     rw [if_pos rfl] at q7 ⊢
     refine thn (he cl _ s₂ H [it] _ s7 σ6 H7 _ I7 q7) fun v s8 ⟨y, H8, I8, r8, q8⟩ => ?_
     have zD := (I8.pin (s₂.heap.objs.size, Cr ys) (Ra _ (R1 _ (Ss.mpr rfl))))
     have ylen : ys.length < sizeLine := by rw [← rv.length]; exact zl
     obtain ⟨a1, a2⟩ := frs' I8
     refine append_at (hsz := by rw [RC]; exact QV ylen) zD.1 fun h9 hs9 hD9 => ?_
     have I8u : Inv (AL X N scope cl H2.objs.size s₂ H [it]) [] (cS nt js σ) H8 s8 := (I8.pins_of (pins' := []) fun p hp => nomatch hp).weak (by rw [hl6]) (EN hl6 hd6)
     have I9 : Inv (AL X N scope cl H2.objs.size s₂ H [it]) [] (cS nt js σ) H8 { s8 with heap := h9 } := I8u.turned (t' := s8.toks) (it := s₂.heap.objs.size) (fun b o hb e => hs9.extBut b o hb e) zD.2.1 hDC (.inr (R8 _))
      (fun x c e z => by
       obtain ⟨v, q⟩ := I.cell x c (hcl x c e)
       exact absurd (QM q.lt (by rw [z]; exact R8 _)) (QN _)) (fun p hp => nomatch hp)
     refine ⟨nn - (i + 1), by rw [hn0]; exact Su hlt (So i), i + 1, zs ++ [y], ys ++ [v], H8, rfl, hlt, I9.pins_of (fun p hp => ?_), rv.snoc r8, T.keep _ _ _ a1 fun b hb o e => hs9.extBut b o (below b (lt b hb)).2 e, a2, q8⟩
     have e : p = (s₂.heap.objs.size, Cr (ys ++ [v])) := by simpa using hp
     subst e
     refine ⟨?_, zD.2.1, hDC, zD.2.2.2.1, fun v z => by cases z⟩
     rw [hD9]
     show some ({ cls := .type "list", data := .seq (ys.toArray.push v) (ys.length + 1) } : Obj) = some { cls := .type "list", data := .seq (ys ++ [v]).toArray (ys ++ [v]).length }
     rw [Rw, RJ, List.push_toArray]
 exact codeAny_compStart_list (loop _ rfl) (T.self _ 0 _ _ _ (T.keep 0 _ _ st (fun b _ o e => old b o e)) (loop _ rfl))
theorem N6 {K : QT} {i : Nat} {y : Str} {py spos : Pos} (hx : Hx X ea oe) (hN : X.N.Nodup) (hi' : X.N[i]? = some y) (hy : X.env.kindOf y = some .local) (ok : AY X N nt js scope) (hi : PE X iter tl) (hg : ∀ cl C s H fp, Hx (AL X N scope cl C s H fp) ea oe → PG (AL X N scope cl C s H fp) tg g) (hk : FC g nt)
 (hc : ∀ cl C s H fp, PTs (AL X N scope cl C s H fp) ifs tc) (he : ∀ cl C s H fp, PE (AL X N scope cl C s H fp) elt te)
 (hsw : swapsWith (.ListComp elt [⟨tg, iter, ifs, 0⟩] scope pos) (some (.Name y py)) spos.line X.env = pure true) (hs : ∀ x, foldedSetIterable iter X.env x = pure x := by intro _; rfl) (eK : X.K = K := by rfl) :
 PS X (.Assign [.Name y py] (.ListComp elt [⟨tg, iter, ifs, 0⟩] scope pos) spos) (IC (tLC (Gj K tl) nt js g tc te) (BW i)) := by
 subst eK
 intro pins s σ H D₀ I h
 obtain ⟨cl, hclos, hcl, hcl2⟩ := CI (scope := scope) (env := X.env) fun x hx hf => I.ok.has x.1 (ok.free x hx hf)
 rw [exec_Assign_Name_used _ _ _ _ hsw]
 refine wpAny_bind (wpAny_standAt (wpAny_bind ?_))
 show wpAny _ X.A (do let _ ← comprehension (.ListComp elt [⟨tg, iter, ifs, 0⟩] scope pos) scope X.env _ (newList []) false (eval iter X.env) (some (assign (.Name y py) X.env))) _ _ s
 refine wpAny_bind (wpAny_mono (wpAny_comprehension_free (use := some (assign (.Name y py) X.env)) (Q := fun _ s' => SP X pins D₀ .next s') rfl hs hclos ok.kind ok.names
  (thn (hi pins s σ H _ I (Le (show tLC (Gj X.K tl) nt js g tc te σ H fun x H1 => BW i x σ H1 D₀.nx from h))) fun v s1 ⟨x, H1, I1, r1, q1⟩ => ?_)) (fun _ s' hq => wpAny_pure (wpAny_pure hq)) fun _ _ e => e)
 obtain ⟨a, e, ⟨xs, hq⟩, nn, W, w0, lw⟩ := q1
 subst e
 cases r1
 obtain ⟨its, rv, p, hz⟩ := I1.list hq
 refine wpAny_pyIter_list p.isList ?_
 have I2 : Inv X pins σ H1 { s1 with heap := s1.heap.push { cls := .type "list_iterator", data := .fields #[.ref a, .int 0 0] } } := I1.kept (t' := s1.toks) fun b o e => Heap.get?_push_of_some _ e
 have f2 : ∀ b ∈ [s1.heap.objs.size], DP X pins H1 b := fun b hb => by
  have e : b = s1.heap.objs.size := Ss.mp hb
  subst e
  exact I1.fpOk (R8 _) (I1.hok.fresh (R8 _))
 refine Kb (RR := fun acc C => compPost (model X.prog X.w) X.A X.xe (some (assign (.Name y py) X.env)) (fun _ s' => SP X pins D₀ .next s') acc C) hx ok hcl hcl2 hg hk hc he I2 ⟨_, Heap.get?_push_size _ rfl, rfl, rfl⟩ f2 w0 lw ?_
 intro D C s' H' zs m I3 hn hDn hCn hCL hC0 hCc hCp fin
 show wpAny _ X.A (assign (.Name y py) X.env (.ref D)) _ _ _
 refine wpAny_assign_Name (Eh (v := .ref D) I3 hN hi' (.inl hy) rfl (fun s3 I4 hsb => ?_) (.inr hy))
 obtain ⟨a, hsb, ha⟩ := hsb
 have haC : C ≠ a := by
  rcases ha with z | z
  ·rw [z]; exact hCL
  ·exact Ne.symm (hCc y a z)
 refine ⟨m, hn.sameBut hsb haC, fun h'' hs'' => ?_⟩
 exact ⟨_, _, I4.turned (t' := s3.toks) (it := C) (fun b o hb e => hs''.extBut b o hb e) hCn hCL (.inr hC0) hCc hCp, fin D hDn⟩
end
end L2
namespace L2
open PySem PySem.Spec PyProof.Rows
def CX2 (P : Program) (w : World) : CXT := fun outer H s E e s' => ∃ (ea : Addr) (cls a0 : Value) (B : Heap) (H' : Hp), e = .ref ea ∧ s'.os = s.os ∧ AllBare s'.gens ∧ Un (frs outer) [] H H' s.heap s'.heap ∧ HOk P w H' s'.heap ∧
 Ee B outer ea cls a0 .none s'.heap ∧ (∀ b o, s.heap.get? b = some o → b ∉ frs outer → ∃ o', B.get? b = some o') ∧ (∀ b u, H' b = some u → ∃ o', B.get? b = some o') ∧ E cls none H'
section
variable {P : Program} {w : World} {K : QT} {mg : Str → Option Value} {base : Heap} {N : List Str} {qual : Str} {scope : Scope} {f : Addr} {cd : Value} {A : Around} {outer : List Env} {s : Shared} {H : Hp} {E : XK}
theorem IP : MQ (Dd (CX2 P w) P w K mg base N qual scope f cd A outer s H E) E := by
 intro pins σ H1 s1 h2 ea cls vs I hx hE
 have k1 : ∀ b o, s1.heap.get? b = some o → b ∉ frs (Dd (CX2 P w) P w K mg base N qual scope f cd A outer s H E).stack → ∃ o', (QQ s1.heap (frs (Dd (CX2 P w) P w K mg base N qual scope f cd A outer s H E).stack)).get? b = some o' := fun b o e n => ⟨o, PySem.W.hideAll_get _ e n⟩
 have k2 : ∀ b u, H1 b = some u → ∃ o', (QQ s1.heap (frs (Dd (CX2 P w) P w K mg base N qual scope f cd A outer s H E).stack)).get? b = some o' := fun b u e => by
  obtain ⟨o, q⟩ := (I.hok b u e).got
  exact k1 b o q fun z => by rw [I.stkFree b z] at e; cases e
 refine Og (B := QQ s1.heap (frs (Dd (CX2 P w) P w K mg base N qual scope f cd A outer s H E).stack)) (h := s1.heap) (outer := outer) I.ok.frames rfl (fun b o q => QR _ q) (PySem.W.funFrames_hide I.stack (Mo s1.heap _)) hx fun h' t fly us => ?_
 have us1 : s1.heap.UpToSlots h' := (Heap.UpToSlots.of_keeps hx.keeps).trans us
 have J := I.flown (s' := s1) (toks := s1.toks) Un.refl I.hok rfl I.bare (fun b o q => QR _ q) k1 k2 fly.1 (Inv.slots I.stack us1)
 refine ⟨ea, cls, _, _, H1, rfl, I.os, I.bare, J.base, J.hok, fly, fun b o e n => ?_, k2, hE⟩
 obtain ⟨o1, q⟩ := I.base.there b o e (fun z => nomatch z)
 refine k1 b o1 q fun z => ?_
 rcases QZ.mp (I.stkSub b z) with e1 | z
 ·exact QO (QM (Heap.lt_size e) I.ok.above) e1
 ·exact n z
theorem HS : FD (CX2 P w) (Dd (CX2 P w) P w K mg base N qual scope f cd A outer s H E) E := by
 rintro pins σ H1 s1 e s2 I ⟨ea, cls, a0, B, H', rfl, os, bare, un, hok, fly, k1, k2, hE⟩
 refine Nr (B := B) (outer := outer) I.ok.frames rfl fly fun h' fly' us => ?_
 have J := I.flown (toks := s2.toks) un hok os bare fly.1 k1 k2 fly'.1 (Inv.slots fly.2.2.1 us)
 refine ⟨ea, cls, a0, B, H', rfl, os.trans I.os, bare, J.base, J.hok, fly', fun b o e n => ?_, k2, hE⟩
 obtain ⟨o1, q⟩ := I.base.there b o e (fun z => nomatch z)
 refine k1 b o1 q fun z => ?_
 rcases QZ.mp (I.stkSub b z) with e1 | z
 ·exact QO (QM (Heap.lt_size e) I.ok.above) e1
 ·exact n z
theorem Fun.okY {x : Str} {st : Stmt} {fd : FuncData} {ps : List Str} {k : Nat} {sp : Sp} (F : Fun K x qual st f fd) (S : As N ps (Af st)) (len : ∀ vs H Q E, sp vs H Q E → vs.length = ps.length)
 (hbody : ∀ (cdv : Value) (A : Around) (outer : List Env) (s : Shared) (H : Hp) (vs : List V) (Q : VK) (E : XK), C7 k (A.deeper (envOfC qual (Af st) s.heap.objs.size f cdv)) → sp vs H Q E →
  ∃ t, PSs (Dd (CX2 P w) P w K mg base N qual (Af st) f cdv A outer s H E) (Aq st) t ∧ t { nx := fun _ H' => Q .non H', rt := Q } (D0 N vs) H) : AI P w K mg base (CX2 P w) (k + 1) f fd ps sp := by
 obtain ⟨oc, od, kV, doc, pm, an, cdv, ct, osl, rfl, lk, hcd⟩ := F.ex
 exact MI lk hcd S len fun A outer s H vs Q E hr hsp => hbody cdv A outer s H vs Q E hr hsp
theorem AI.calm {fd : FuncData} {ps : List Str} {k : Nat} {sp : Sp} {CX : CXT} (F : AI P w K mg base CX0 k f fd ps sp) : AI P w K mg base CX k f fd ps sp :=
 ⟨F.len, fun A outer s H args us vs Q E hr he hb hv hs => codeAny_mono (F.run A outer s H args us vs Q E hr he hb hv hs) fun r s' q => by
  cases r with
  | ok fl => cases fl <;> exact q
  | error e => exact False.elim q⟩
theorem AI.or {fd : FuncData} {ps : List Str} {k : Nat} {sp sp' : Sp} {CX : CXT} (F : AI P w K mg base CX k f fd ps sp) (G : AI P w K mg base CX k f fd ps sp') : AI P w K mg base CX k f fd ps (fun vs H Q E => sp vs H Q E ∨ sp' vs H Q E) :=
 ⟨fun vs H Q E h => h.elim (F.len vs H Q E) (G.len vs H Q E), fun A outer s H args us vs Q E hr he hb hv hs => hs.elim (F.run A outer s H args us vs Q E hr he hb hv) (G.run A outer s H args us vs Q E hr he hb hv)⟩
end
structure FdY (P : Program) (w : World) (K : QT) (mg : Str → Option Value) (base : Heap) (n : Nat) (x : Str) (ps : List Str) (sp : Sp) : Prop where
 ex : ∃ (f : Addr) (fd : FuncData), AI P w K mg base (CX2 P w) n f fd ps sp ∧ CH K fd ps [] ∧ Rg K (.ref f) = true ∧ mg x = some (.ref f)
theorem Fc {X : Cx} {n k : Nat} {x : Str} {ps : List Str} {sp : Sp} {E : XK} {e : Expr} {es : List Expr} {t : TA} {p pos : Pos} (F : FdY X.prog X.w X.K X.mg X.base n x ps sp) (hr : C7 k X.A) (hg : Gl X x) (hp : FD (CX2 X.prog X.w) X E) (ha : PA X (e :: es) t) (hn : n ≤ k := by decide)
 (hdb : (x == ("__debug__" : Str)) = false := by decide) (he : starEach (e :: es) X.env = (false, eval e X.env) :: starEach es X.env := by rfl) (hpl : (backTo pos (starEach es X.env)).any (·.1) = false := by rfl) :
 PE X (.Call (.Name x p) (e :: es) [] pos) (G9 sp [] E t) := by
 obtain ⟨f, fd, F1, F2, F3, F4⟩ := F.ex
 exact Jk F1 (hr.mono hn) hg F4 F3 F2 .nil hp ha hdb he hpl
abbrev TB := (St → Hp → Prop) → XK → St → Hp → Prop
def PB (X : Cx) (body : List Stmt) (t : TB) : Prop := ∀ (pins : List (Addr × Obj)) (s : Shared) (σ : St) (H : Hp) (nx : St → Hp → Prop) (E : XK), Inv X pins σ H s → t nx E σ H →
 wpAny (model X.prog X.w) X.A (execs body X.env) (fun fl s1 => fl = .next ∧ ∃ σ' H', Inv X pins σ' H' s1 ∧ nx σ' H') (fun e s2 => ∃ H1 s1, Inv X pins σ H1 s1 ∧ CX2 X.prog X.w X.stack H1 s1 E e s2) s
def tBx (sp : Sp) (t : TA) : TB := fun nx E σ H => t σ H fun vs H1 => sp vs H1 (fun _ H2 => nx σ H2) E
section
variable {X : Cx} {n k : Nat} {x : Str} {ps : List Str} {sp : Sp} {e : Expr} {es : List Expr} {t : TA} {p pos : Pos}
theorem O4 {pins : List (Addr × Obj)} {σ : St} {H : Hp} {s : Shared} {Q : VK} {E : XK} (F : FdY X.prog X.w X.K X.mg X.base n x ps sp) (hr : C7 k X.A) (hg : Gl X x) (ha : PA X.nox (e :: es) t) (I : Inv X pins σ H s) (h : t σ H fun vs H1 => sp vs H1 Q E) (hn : n ≤ k)
 (hdb : (x == ("__debug__" : Str)) = false) (he : starEach (e :: es) X.env = (false, eval e X.env) :: starEach es X.env) (hpl : (backTo pos (starEach es X.env)).any (·.1) = false) :
 wpAny (model X.prog X.w) X.A (eval (.Call (.Name x p) (e :: es) [] pos) X.env) (EP X pins σ Q) (fun e s2 => ∃ H1 s1, Inv X pins σ H1 s1 ∧ CX2 X.prog X.w X.stack H1 s1 E e s2) s := by
 obtain ⟨f, fd, F1, F2, F3, F4⟩ := F.ex
 refine wpAny_Call_Name_kw (DA I hg F4 ?_ hdb)
 refine Rj (h₀ := X.base) I.ok.mod.kin F3 (wpAny_mono (ha pos pins s σ H _ (I.wish _) h) (fun us s1 ⟨vs, H1, I1, r, q⟩ => ⟨I1.unwish.kIn, ?_⟩) fun _ _ z => False.elim z) he hpl
 have I1 := I1.unwish
 have hlen : us.length = ps.length := by rw [← r.length]; exact F1.len _ _ _ _ q
 have hb' := F2 s1 us I1.kIn (by rw [Ri]; exact hlen)
 rw [Ri] at hb'
 refine wpAny_call (codeAny_mono (F1.run X.A X.stack s1 H1 ⟨us, []⟩ us vs _ _ (hr.mono hn) I1.env0 hb' r q) fun r s2 hq => ?_)
 cases r with
 | error e => exact ⟨H1, s1, I1, hq⟩
 | ok fl =>
   cases fl with
   | ret u => exact I1.after hq
   | next => exact False.elim hq
   | brk => exact False.elim hq
   | cont => exact False.elim hq
theorem EJ {epos : Pos} (F : FdY X.prog X.w X.K X.mg X.base n x ps sp) (hr : C7 k X.A) (hg : Gl X x) (ha : PA X.nox (e :: es) t) (hn : n ≤ k := by decide) (hs : swapsWith (.Call (.Name x p) (e :: es) [] pos) none epos.line X.env = pure false := by rfl)
 (hdb : (x == ("__debug__" : Str)) = false := by decide) (he : starEach (e :: es) X.env = (false, eval e X.env) :: starEach es X.env := by rfl) (hpl : (backTo pos (starEach es X.env)).any (·.1) = false := by rfl) :
 PB X [.Expr (.Call (.Name x p) (e :: es) [] pos) epos] (tBx sp t) := by
 intro pins s σ H nx E I h
 exact wpAny_execs_cons (wpAny_Expr_any (thn (O4 F hr hg ha I h hn hdb he hpl) fun v s1 ⟨y, H1, I1, r1, q1⟩ => wpAny_execs_nil ⟨rfl, σ, H1, I1, q1⟩) I.quiet hs)
end
abbrev SpH := Value → Addr → Hp → VK → Prop
structure FnH (P : Program) (w : World) (K : QT) (mg : Str → Option Value) (base : Heap) (k : Nat) (f : Addr) (fd : FuncData) (x : Str) (sp : SpH) : Prop where
 run : ∀ (A : Around) (outer : List Env) (s : Shared) (H : Hp) (ea : Addr) (oe : Obj) (Q : VK), C7 k A → Kj P w K mg base (A.mark (some (.ref ea))) outer s H → BindsTo s fd ⟨[.ref ea], []⟩ [(x, .ref ea)] → s.heap.get? ea = some oe → G7 oe → H ea = none → ea ∉ frs outer → sp oe.cls ea H Q →
  codeAny (model P w) (A.mark (some (.ref ea))) (.call (.ref f) ⟨[.ref ea], []⟩) (CR CX0 outer P w H s Q E0) s
section
variable {P : Program} {w : World} {K : QT} {mg : Str → Option Value} {base : Heap}
theorem Fun.okH {x qual y : Str} {st : Stmt} {f : Addr} {fd : FuncData} {N : List Str} {k : Nat} {sp : SpH} (F : Fun K x qual st f fd) (S : As N [y] (Af st))
 (hbody : ∀ (cdv : Value) (A : Around) (outer : List Env) (s : Shared) (H : Hp) (ea : Addr) (oe : Obj) (Q : VK), C7 k (A.deeper (envOfC qual (Af st) s.heap.objs.size f cdv)) → Hx ((Dd CX0 P w K mg base N qual (Af st) f cdv A outer s H E0).marked ea) ea oe → sp oe.cls ea H Q →
  ∃ t, PSs ((Dd CX0 P w K mg base N qual (Af st) f cdv A outer s H E0).marked ea) (Aq st) t ∧ t { nx := fun _ H' => Q .non H', rt := Q } (D0 N [.ref ea]) H) : FnH P w K mg base (k + 1) f fd y sp := by
 obtain ⟨oc, od, kV, doc, pm, an, cdv, ct, osl, rfl, lk, hcd⟩ := F.ex
 refine ⟨fun A outer s H ea oe Q hr e0 hb ho hc hn hf hsp => ?_⟩
 have e1 : Kj P w K mg base A outer s H := ⟨e0.frames, e0.mod, e0.bs, e0.bsz, e0.funs, e0.frf, e0.hok, e0.bare⟩
 have KX : K.In s.heap := e0.mod.kin.keeps fun b o e => (e0.bs b o e).1
 have lim : s.heap.NoLimit := e0.mod.nolimit.keeps fun b o e => (e0.bs b o e).1
 have hkind : ∀ z ∈ [y].zip [Value.ref ea], (Af st).names.lookup z.1 = some .local ∨ ((Af st).names.lookup z.1 = some .cell ∧ ((cellsFrom (s.heap.objs.size + 1) (Af st).names []).lookup z.1).isSome = true) := fun ⟨n, v⟩ hy => by
  rcases S.par n (Rl hy).1 with q | q
  ·exact .inl q
  ·exact .inr ⟨q, Rn _ _ _ (.inl q)⟩
 refine codeAny_call_function (show (A.mark (some (.ref ea))).depth < _ from hr.depth) (KX _ _ lk) rfl S.co S.gen rfl (PySem.W.codeRec_of KX hcd) (hb _ _ _ _ ?_)
 refine wpAny_newFunctionEnv_cells S.kind hkind fun env he s1 x => ?_
 subst he
 refine ⟨lim.keeps x.toInCall.keep, codeAny_func ?_⟩
 have hx : Hx ((Dd CX0 P w K mg base N qual (Af st) f cdv A outer s H E0).marked ea) ea oe := ⟨rfl, hc, ho, hn, hf, fun z => nomatch z⟩
 obtain ⟨t, ht, hq⟩ := hbody cdv A outer s H ea oe Q (hr.deeper _) hx hsp
 have I : Inv (Dd CX0 P w K mg base N qual (Af st) f cdv A outer s H E0) [] (D0 N [.ref ea]) H s1 := Gi S hr.hd e1 rfl (.cons rfl .nil) x
 refine wpAny_mono (ht [] s1 (D0 N [.ref ea]) H _ (I.marked ea) hq) (fun fl s' hs => ?_) fun e s' hs => hs.elim
 have fin : ∀ {σ' : St} {H' : Hp} {v : V} {u : Value}, Inv ((Dd CX0 P w K mg base N qual (Af st) f cdv A outer s H E0).marked ea) [] σ' H' s' → Bh v u → Q v H' → CE outer P w H s Q u s' :=
  fun {σ' H' v u} J rv q => ⟨v, H', J.os, J.bare, J.base, J.hok, rv, q⟩
 cases fl with
 | ret u =>
   obtain ⟨v, σ', H', J, rv, q⟩ := hs
   exact fin J rv q
 | next =>
   obtain ⟨σ', H', J, q⟩ := hs
   exact fin (v := V.non) (u := Value.none) J rfl q
 | brk => obtain ⟨_, _, _, q⟩ := hs; exact False.elim q
 | cont => obtain ⟨_, _, _, q⟩ := hs; exact False.elim q
end
structure FdH (P : Program) (w : World) (K : QT) (mg : Str → Option Value) (base : Heap) (n : Nat) (x y : Str) (sp : SpH) : Prop where
 ex : ∃ (f : Addr) (fd : FuncData), FnH P w K mg base n f fd y sp ∧ CH K fd [y] [] ∧ Rg K (.ref f) = true ∧ mg x = some (.ref f)
abbrev Cx.kept (X : Cx) (ea : Addr) (oe : Obj) : Cx := { X.marked ea with pn := (ea, oe) :: X.pn }
section
variable {X : Cx} {pins : List (Addr × Obj)} {σ : St} {H : Hp} {s : Shared} {ea : Addr} {oe : Obj}
theorem Inv.kept2 (I : Inv X pins σ H s) (h1 : s.heap.get? ea = some oe) (h2 : H ea = none) (h3 : ea ≠ X.env.locals) (h4 : ea ∉ X.fs) (h5 : G7 oe) : Inv (X.kept ea oe) pins σ H s :=
 ⟨⟨I.ok.mod, I.ok.kind, I.ok.glob, I.ok.blt, I.ok.above, I.ok.inj, I.ok.has, I.ok.cab, (fun z => nomatch z), I.ok.frames, I.ok.stk, I.ok.exf, I.ok.bs, I.ok.bsz, I.ok.noex, I.ok.exfs, I.ok.funs, I.ok.frf⟩, I.os, I.bare, I.base, I.loc, I.cell, I.free, I.freeC, fun p hp => by
   rcases QZ.mp (show p ∈ (ea, oe) :: (X.pn ++ pins) from hp) with e | z
   ·subst e
    obtain ⟨v, hv, _⟩ := h5
    exact ⟨h1, h2, h3, h4, fun w z => by rw [hv] at z; cases z⟩
   ·exact I.pin p z, I.hok, I.len⟩
theorem Inv.unkept (J : Inv (X.kept ea oe) pins σ H s) (ok : X.Ok) : Inv X pins σ H s := ⟨ok, J.os, J.bare, J.base, J.loc, J.cell, J.free, J.freeC, fun p hp => J.pin p (QY _ hp), J.hok, J.len⟩
end
def NY (sp : SpH) (ea : Addr) (cls : Value) (t : TA) : TE := fun σ H Q => t σ H fun vs H1 => vs = [.ref ea] ∧ sp cls ea H1 Q
theorem Nb {X : Cx} {ea : Addr} {oe : Obj} {k n : Nat} {x y : Str} {sp : SpH} {e : Expr} {t : TA} {p pos : Pos} (F : FdH X.prog X.w X.K X.mg X.base n x y sp) (hr : C7 k X.A) (hc : G7 oe) (hst : X.stack = X.env :: X.outer) (hfr : X.env.frame = some X.env.locals) (hg : Gl X x) (ha : PA (X.kept ea oe) [e] t) (hn : n ≤ k)
 (hdb : (x == ("__debug__" : Str)) = false) (he : starEach [e] X.env = [(false, eval e X.env)]) : PE (X.kept ea oe) (.Call (.Name x p) [e] [] pos) (NY sp ea oe.cls t) := by
 obtain ⟨f, fd, F1, F2, F3, F4⟩ := F.ex
 intro pins s σ H Q I h
 refine wpAny_Call_Name_kw (DA I hg F4 ?_ hdb)
 refine Rj (h₀ := X.base) I.ok.mod.kin F3 (thn (ha pos pins s σ H _ I h) fun us s1 ⟨vs, H1, I1, r, ev, q⟩ => ⟨I1.kIn, ?_⟩) he rfl
 subst ev
 obtain ⟨u, rfl, ru⟩ := r.one
 have ru : u = .ref ea := ru
 subst ru
 obtain ⟨p1, p2, p3, p4, _⟩ := I1.pin (ea, oe) QX
 have p5 : ea ∉ frs X.stack := fun z => by
  rw [hst] at z
  have z : ea ∈ (X.env :: X.outer).filterMap (·.frame) := z
  rw [QW, hfr] at z
  rcases QZ.mp z with z | z
  ·exact p3 z
  ·exact p4 z
 have hb' := F2 s1 [.ref ea] I1.kIn rfl
 refine wpAny_call (codeAny_mono (F1.run X.A X.stack s1 H1 ea oe Q (hr.mono hn) I1.env0 hb' p1 hc p2 p5 q) fun r s2 hq => ?_)
 cases r with
 | error e => exact False.elim hq
 | ok fl =>
   cases fl with
   | ret u => exact I1.after hq
   | next => exact False.elim hq
   | brk => exact False.elim hq
   | cont => exact False.elim hq
def NU (K : QT) (CE : Addr) (i j : Nat) (sp : SpH) (tb : TB) : TS := fun D σ H => tb D.nx (fun cls _ H2 => TC K cls (.ref CE) = some true ∧ ∀ ea, H2 ea = none → sp cls ea H2 fun v H3 => D.nx (((σ.set i (some (.ref ea))).set j (some v)).set i none) H3) σ H
theorem M6 {X : Cx} {k m : Nat} {CE : Addr} {sp : SpH} {g y n a c : Str} {i j : Nat} {gp np ap cpos spos yp hpos pos : Pos} {body : List Stmt} {tb : TB} (hb : PB X body tb) (F : FdH X.prog X.w X.K X.mg X.base m g c sp) (hr : C7 k X.A) (hg : Gl X g)
 (hgy : Gl X y) (hmy : X.mg y = some (.ref CE)) (nd : X.N.Nodup) (hi : X.N[i]? = some n) (hl : X.env.scope.names.lookup n = some .local) (hj : X.N[j]? = some a) (hla : X.env.scope.names.lookup a = some .local) (hst : X.stack = X.env :: X.outer) (hfr : X.env.frame = some X.env.locals) (hm : m ≤ k := by decide)
 (hs : swapsWith (.Call (.Name g gp) [.Name n np] [] cpos) (some (.Name a ap)) spos.line X.env = pure false := by rfl) (hdb : (g == ("__debug__" : Str)) = false := by decide) (hdy : (y == ("__debug__" : Str)) = false := by decide) (hdn : (n == ("__debug__" : Str)) = false := by decide) (hcn : (n == ("__classdict__" : Str)) = false := by decide)
 (he : starEach [.Name n np] X.env = [(false, eval (.Name n np) X.env)] := by rfl) :
 PS X (.Try body [.ExceptHandler (some (.Name y yp)) (some n) [.Assign [.Name a ap] (.Call (.Name g gp) [.Name n np] [] cpos) spos] hpos] [] [] pos) (NU X.K CE i j sp tb) := by
 intro pins s σ H D I h
 refine wpAny_Try_except (wpAny_mono (hb pins s σ H _ _ I h) (fun fl s1 ⟨ef, σ', H', I1, q⟩ => ?_) fun ex s2 ⟨H1, s1, I1, hq⟩ => ?_)
 ·subst ef
  exact wpAny_execs_nil ⟨σ', H', I1, q⟩
 obtain ⟨ea, cls, a0, B, H2, rfl, os, bare, un, hok, fly, k1, k2, hxm, hts⟩ := hq
 have hH2 : H2 ea = none := by
  cases z : H2 ea with
  | none => rfl
  | some u => obtain ⟨o', q'⟩ := k2 ea u z; rw [fly.2.1] at q'; cases q'
 have hts := hts ea hH2
 have hA : X.A.frames = some (X.env :: X.outer) := by rw [← hst]; exact I.ok.frames
 have ff := fly.2.2.1
 rw [hst] at fly
 refine ME (B := B) hA hfr fly fun h3 held us3 => ?_
 refine Jt (s := { s2 with heap := h3 }) held fun h4 fly4 us4 => ?_
 have u4 := us3.trans us4
 have J4 := I1.flown (toks := s2.toks) un hok os bare fly.1 k1 k2 fly4.1 (Inv.slots ff u4)
 refine wpAny_handleBy_cons (codeAny_handlers_test ?_) (by intro q; cases q)
 refine DA (X := X.marked ea) (J4.marked ea) hgy hmy ?_ hdy
 obtain ⟨ob, hob, hcl, _⟩ := fly4.obj
 have LT : PySem.W.Looks (model X.prog X.w) h4 (typeOf (.ref ea)) cls := by subst hcl; exact (PySem.W.Looks.ld hob).andThen .now
 refine (PySem.W.exm_one J4.kIn LT hxm).here ?_
 refine codeAny_handlers_suite_as ?_
 refine Jt (s := { s2 with heap := h4 }) fly4 fun h5 fly5 us5 => ?_
 obtain ⟨oe, heo, hec, hct⟩ := fly5.obj
 have J5 := I1.flown (toks := s2.toks) un hok os bare fly.1 k1 k2 fly5.1 (Inv.slots ff (u4.trans us5))
 have p5 : ea ∉ (X.env :: X.outer).filterMap (·.frame) := fun z => by
  obtain ⟨_, o', e', nf⟩ := fly5.2.2.1.mem z
  rw [heo] at e'
  cases e'
  obtain ⟨v, hv, _⟩ := hct
  exact nf v hv
 rw [QW, hfr] at p5
 have p3 : ea ≠ X.env.locals := fun z => p5 (z ▸ QX)
 have p4 : ea ∉ X.fs := fun z => p5 (QY _ z)
 have J6 : Inv (X.kept ea oe) pins σ H2 { s2 with heap := h5 } := J5.kept2 heo hH2 p3 p4 hct
 have il : i < σ.length := by rw [I.len]; exact (R3.mp hi).1
 have pn : PE (X.kept ea oe) (.Name n np) (DD i) := KJ hi (.inl hl) hdn hcn
 have PC := Nb (p := gp) (pos := cpos) F hr hct hst hfr hg (Aa pn Ac he) hm hdb he
 have PA1 : PS (X.kept ea oe) (.Assign [.Name a ap] (.Call (.Name g gp) [.Name n np] [] cpos) spos) _ := Aj nd hj (.inl hla) PC hs (.inr hla)
 refine De (X := X.kept ea oe) J6 nd hi (.inl hl) (v := .ref ea) rfl (fun s6 I6 => ?_) (.inr hl)
 have hq6 : IC (NY sp ea oe.cls (BV (DD i) FH)) (BW j) { nx := fun σ' H3 => D.nx (σ'.set i none) H3, rt := fun _ _ => False } (σ.set i (some (.ref ea))) H2 :=
  ⟨.ref ea, by rw [R4 il], rfl, by rw [hec]; exact hts⟩
 refine wpAny_execs_cons (wpAny_mono (PA1 pins s6 _ _ _ I6 hq6) (fun fl s7 hs7 => ?_) fun _ _ z => False.elim z)
 cases fl with
 | next =>
   obtain ⟨σ', H7, I7, q7⟩ := hs7
   refine wpAny_execs_nil ?_
   obtain ⟨m, hn, hl7⟩ := id I7.loc
   refine wpAny_nameGoes_keeps hl hn (by rw [I.ok.kind]; rfl) fun h8 v hn8 sb => ?_
   exact ⟨_, _, (I7.unkept I.ok).gone nd hi hl7 hn8 sb, q7⟩
 | ret u => obtain ⟨_, _, _, _, _, q7⟩ := hs7; exact q7.elim
 | brk => obtain ⟨_, _, _, q7⟩ := hs7; exact q7.elim
 | cont => obtain ⟨_, _, _, q7⟩ := hs7; exact q7.elim
section
open PySem.W
variable {X : Cx} (K : QT)
inductive MO (ea : Addr) (cls : Value) (xs : List V) (H : Hp) (Q : VK) : Prop
 | mk (D : _) (y : _) (c : _) (b : _) (h1 : cls = .ref D) (h2 : XTy K D) (h3 : xs = [.ref ea, y]) (h4 : Ot y = some c) (h5 : kitOne K (.ref D) c = some b) (h6 : Q (.bl b) H) : MO ea cls xs H Q
theorem Fs {ea : Addr} {oe : Obj} (hx : Hx X ea oe) (e : X.K = K := by rfl) : CG X (.builtin "isinstance") (MO K ea oe.cls) := by
 subst e
 intro pins s σ H xs us Q I r h
 obtain ⟨D, y, c, b, hD, T, rfl, hy, hk, q⟩ := h
 have hp : NR ea D s.heap := ⟨oe, hx.at I, hD⟩
 obtain ⟨u, w', rfl, rx, ry⟩ := NS r
 cases rx
 rw [LF ry hy]
 exact kia_one (Lh T) I.kIn hp hk (fun z => nomatch z) fun tk => ⟨.bl b, H, I.tok _, rfl, q⟩
end
end L2
namespace L2
open PySem PySem.Spec PyProof.Rows PySem.W
def Dh : List Str := ["many", "points", "point", "number", "curve", "stretch", "deep", "few", "text", "row"]
structure J2 (K : Frag) (D : Addr) (cs : List Addr) (n : Nat) : Prop where
 ty : XTy K D
 ve : kitOne K (.ref D) (.type "ValueError") = some true
 of : ∀ i c, cs[i]? = some c → kitOne K (.ref D) (.ref c) = some (i == n)
def IE (K : Frag) (cs : List Addr) : SpH := fun cls _ H Q => ∃ D n w, cls = .ref D ∧ J2 K D cs n ∧ Dh[n]? = some w ∧ ∀ H', Ag H H' → Q (.str w) H'
def WB (K : Frag) (H : Hp) (x : V) (p : Str × Bool) : Prop := ∃ a, x = .ref a ∧ SqT K H a [.str p.1, .bl p.2]
theorem WB.same {K : Frag} {H H' : Hp} {x : V} {p : Str × Bool} (h : WB K H x p) (e : Ag H H') : WB K H' x p := let ⟨a, q, r⟩ := h; ⟨a, q, r.same e⟩
theorem WBs.same {K : Frag} {H H' : Hp} {xs : List V} {ps : List (Str × Bool)} (h : Paired (WB K H) xs ps) (e : Ag H H') : Paired (WB K H') xs ps := Paired.mapP h fun _ _ q => WB.same q e
theorem WBs.snoc {K : Frag} {H : Hp} {xs : List V} {ps : List (Str × Bool)} {x y : V} {p r : Str × Bool} (h : Paired (WB K H) xs ps) (h1 : WB K H x p) (h2 : WB K H y r) : Paired (WB K H) (xs ++ [x, y]) (ps ++ [p, r]) := by
 induction h with
 | nil => exact .cons h1 (.cons h2 .nil)
 | cons a b ih => exact .cons a ih
def Cy (ps : List (Str × Bool)) : List V := (ps.filter (·.2)).map fun p => .str p.1
theorem HR (ps : List (Str × Bool)) (p : Str × Bool) : Cy (ps ++ [p]) = if p.2 = true then Cy ps ++ [.str p.1] else Cy ps := by
 unfold Cy
 rw [TF]
 by_cases h : p.2 = true
 ·rw [if_pos h, Se]
  simp [h]
 ·rw [if_neg h]
  simp [h]
theorem Mj {K : Frag} {a : Addr} {xs : List V} {ps : List (Str × Bool)} {σ : St} {H : Hp} {Fin : List V → Hp → Prop} (hS : SqL K H a xs) (hP : Paired (WB K H) xs ps) (hz : xs.length ≤ sizeLine) (fin : Fin (Cy ps) H) :
 ∃ (n' : Nat) (W : Nat → List V → Hp → Prop), W 0 [] H ∧ LcW (Itl K a) n' 2 [] σ (K8 K 2 (Ig (BW 0) (Ig (BW 1) NB))) (tB (DD 1)) (DD 0) Fin W := by
 have hl := hP.length
 have le : ∀ i, i ≤ xs.length → (Cy (ps.take i)).length ≤ i := fun i hi => by
  unfold Cy
  rw [Rx]
  exact QU (TH _ _) (by rw [Rp]; exact Nat.min_le_left _ _)
 refine ⟨xs.length, fun i zs H' => H' = H ∧ zs = Cy (ps.take i), ⟨rfl, rfl⟩, ⟨?_, ?_, ?_⟩⟩
 ·rintro i zs H' hi ⟨rfl, rfl⟩
  exact ⟨⟨xs, xs[i], hS, by simp [hi]⟩, RN (le i (QV hi)) (QM hi hz)⟩
 ·rintro i zs H' x H1 hi ⟨rfl, rfl⟩ ⟨rfl, y⟩
  have hx := y xs hS
  have hi' : i < ps.length := by rw [← hl]; exact hi
  obtain ⟨q, hq, c, rfl, hT⟩ := Paired.get hP hx
  have et : ps.take (i + 1) = ps.take i ++ [q] := by rw [Sd, hq]; rfl
  refine ⟨c, _, rfl, hT, rfl, .str q.1, _, rfl, .bl q.2, _, rfl, rfl, ⟨.bl q.2, rfl, q.2, rfl, ?_⟩⟩
  have e := HR (ps.take i) q
  rw [← et] at e
  by_cases h : q.2 = true
  ·rw [if_pos h] at e
   show if q.2 = true then _ else _
   rw [if_pos h]
   exact ⟨.str q.1, rfl, rfl, e.symm⟩
  ·rw [if_neg h] at e
   show if q.2 = true then _ else _
   rw [if_neg h]
   exact ⟨rfl, e.symm⟩
 ·rintro zs H' ⟨rfl, rfl⟩
  refine ⟨⟨xs, hS, R8 _⟩, QU (le _ (R8 _)) hz, ?_⟩
  rw [hl, Sf]
  exact fin
theorem KQ {n : Nat} {w : Str} (h : Dh[n]? = some w) : Cy (List.zip Dh ((QP 10).map fun i => i == n)) = [.str w] := by
 have hn : n < 10 := by
  have := (R3.mp h).1
  exact this
 have key : ∀ n : Fin 10, ∀ w, Dh[n.val]? = some w → Cy (List.zip Dh ((QP 10).map fun i => i == n.val)) = [.str w] := by
  intro n w h
  match n, h with
  | 0, h => cases h; rfl
  | 1, h => cases h; rfl
  | 2, h => cases h; rfl
  | 3, h => cases h; rfl
  | 4, h => cases h; rfl
  | 5, h => cases h; rfl
  | 6, h => cases h; rfl
  | 7, h => cases h; rfl
  | 8, h => cases h; rfl
  | 9, h => cases h; rfl
 exact key ⟨n, hn⟩ w h
end L2
namespace L2
open PySem PySem.Spec PyProof.Rows
section
variable {prog : Program} {w : World} {A : Around} {E : Value → Shared → Prop}
end
end L2
namespace L2
theorem Kp {L M : List Rat} {n : Nat} {c : Rat} (hL : L.length ≤ n + 1) (hM : M.length ≤ n + 1) (h : L.getD n 0 = c * M.getD n 0) : (Cv.strip (Bg L (M.map (· * (-c))))).length ≤ n := by
 have hle : (Cv.strip (Bg L (M.map (· * (-c))))).length ≤ n + 1 := QU (Cv.strip_length _) (by rw [Cf, Rx]; lia)
 refine Nat.le_of_not_lt fun hlt => ?_
 have e : (Cv.strip (Bg L (M.map (· * (-c))))).length = n + 1 := by lia
 have hne : Cv.strip (Bg L (M.map (· * (-c)))) ≠ [] := fun z => by rw [z] at e; simp at e
 have h1 := Cv.strip_last _ hne
 have h2 : (Cv.strip (Bg L (M.map (· * (-c))))).getD n 0 = 0 := by
  rw [Fy (m := Bg L (M.map (· * (-c)))) (fun k => Cv.ev_strip _ _) n, CQ]
  have h3 : (M.map (· * (-c))).getD n 0 = M.getD n 0 * (-c) := by
   rw [Sl, Sl, Ru]
   cases M[n]? with
   | none => show (0 : Rat) = 0 * _; grind
   | some v => rfl
  rw [h3, h]
  grind
 rw [e] at h1
 apply h1
 have hlt' : n < (Cv.strip (Bg L (M.map (· * (-c))))).length := by lia
 rw [show n + 1 - 1 = n by lia, Sv hlt']
 rw [Sl, Sv hlt'] at h2
 exact congrArg some h2
theorem Lu {B : List Rat} (gB : AN B) (nB : B ≠ []) : ∀ A : List Rat, ∃ Q R, AN R ∧ R.length < B.length ∧ ∀ x, Cv.ev A x = Cv.ev Q x * Cv.ev B x + Cv.ev R x
 | [] => ⟨[], [], .inl rfl, S8.mpr nB, fun x => by show (0 : Rat) = 0 * _ + 0; grind⟩
 | q :: r => by
   obtain ⟨Q, R, gR, lR, e⟩ := Lu gB nB r
   obtain ⟨v, hv, v0⟩ := gB.resolve_left nB
   have lB := S8.mpr nB
   have gv : B.getD (B.length - 1) 0 = v := by rw [Sl, hv]; rfl
   refine ⟨((q :: R).getD (B.length - 1) 0 / v) :: Q, Cv.strip (Bg (q :: R) (B.map (· * (-((q :: R).getD (B.length - 1) 0 / v))))), Be _, ?_, fun x => ?_⟩
   ·have := Kp (L := q :: R) (M := B) (n := B.length - 1) (c := (q :: R).getD (B.length - 1) 0 / v) (by rw [S9]; lia) (by lia) (by
     rw [gv, RX v0])
    lia
   ·rw [Cv.ev_strip, BB, Cv.ev_scale]
    show q + x * Cv.ev r x = ((q :: R).getD (B.length - 1) 0 / v + x * Cv.ev Q x) * Cv.ev B x + ((q + x * Cv.ev R x) + Cv.ev B x * (-((q :: R).getD (B.length - 1) 0 / v)))
    rw [e]
    grind
theorem LI : ∀ (n : Nat) (A B : List Rat), AN A → AN B → B.length ≤ n → ∃ g u v, AN g ∧ AR g A ∧ AR g B ∧ ∀ x, Cv.ev g x = Cv.ev u x * Cv.ev A x + Cv.ev v x * Cv.ev B x
 | 0, A, B, gA, gB, h => by
   obtain rfl : B = [] := Sg (by lia)
   exact ⟨A, [1], [], gA, AR.refl A, AR.nil A, fun x => by show _ = (1 + x * 0) * _ + 0 * _; grind⟩
 | n + 1, A, B, gA, gB, h => by
   by_cases nB : B = []
   ·subst nB
    exact ⟨A, [1], [], gA, AR.refl A, AR.nil A, fun x => by show _ = (1 + x * 0) * _ + 0 * _; grind⟩
   ·obtain ⟨Q, R, gR, lR, e⟩ := Lu gB nB A
    obtain ⟨g, u, v, gg, i1, i2, eg⟩ := LI n B R gB gR (by lia)
    refine ⟨g, v, Bg u ((Cc v Q).map (· * (-1))), gg, AR.of (a := Q) (b := [1]) i1 i2 fun x => ?_, i1, fun x => ?_⟩
    ·rw [e]; show _ = _ + (1 + x * 0) * _; grind
    ·rw [eg, BB, Cv.ev_scale, Bt]
     have := e x
     grind
def Cop (A B : List Rat) : Prop := ∃ u v, ∀ x, Cv.ev u x * Cv.ev A x + Cv.ev v x * Cv.ev B x = 1
theorem Cop.like {A B A' B' : List Rat} (h : Cop A B) (e1 : ∀ x, Cv.ev A' x = Cv.ev A x) (e2 : ∀ x, Cv.ev B' x = Cv.ev B x) : Cop A' B' := let ⟨u, v, e⟩ := h; ⟨u, v, fun x => by rw [e1, e2]; exact e x⟩
theorem NH {A B : List Rat} (gA : AN A) (gB : AN B) (h : ∀ d, AR d A → AR d B → AR d [1]) : Cop A B := by
 obtain ⟨g, u, v, _, i1, i2, e⟩ := LI B.length A B gA gB (R8 _)
 obtain ⟨q, hq⟩ := h g i1 i2
 refine ⟨Cc q u, Cc q v, fun x => ?_⟩
 have h1 := hq x
 rw [e] at h1
 rw [Bt, Bt]
 have h2 : Cv.ev [1] x = 1 := by show (1 : Rat) + x * 0 = 1; grind
 grind
theorem Cop.into {A B : List Rat} (h : Cop A B) {d : List Rat} (h1 : AR d A) (h2 : AR d B) : AR d [1] := by
 obtain ⟨u, v, e⟩ := h
 exact AR.of (a := u) (b := v) h1 h2 fun x => by rw [e]; show (1 : Rat) + x * 0 = 1; grind
theorem Cop.part {A B : List Rat} (h : Cop A B) : Ed A B [1] :=
 ⟨.inr ⟨1, rfl, by decide⟩, rfl, fun d => ⟨fun ⟨h1, h2⟩ => h.into h1 h2, fun h1 => ⟨h1.trans ⟨A, fun x => by show _ = _ * ((1 : Rat) + x * 0); grind⟩, h1.trans ⟨B, fun x => by show _ = _ * ((1 : Rat) + x * 0); grind⟩⟩⟩⟩
def pw (d : List Rat) : Nat → List Rat
 | 0 => [1]
 | n + 1 => Cc (pw d n) d
end L2
namespace L2
structure Kn (f l g : List Rat) : Prop where
 gg : AN g
 mono : g[g.length - 1]? = some 1
 fe : ∀ x, Cv.ev f x = Cv.ev l x * Cv.ev g x
 un : ∃ u, (∀ x, Cv.ev (dL f) x = Cv.ev g x * Cv.ev u x) ∧ Cop l u
theorem LB {o : Rat} {B : List Rat} (h : Cv.ev B o ≠ 0) : Cop [-o, 1] B := by
 refine (NH (.inr ⟨1, rfl, by decide⟩) (Be B) fun d h1 h2 => ?_).like (fun _ => rfl) fun x => (Cv.ev_strip x B).symm
 refine AR.cancel (p := o) (A := [1]) h1 (fun x => by show -o + x * ((1 : Rat) + x * 0) = (x - o) * ((1 : Rat) + x * 0); grind) fun z => h ?_
 obtain ⟨q, hq⟩ := h2
 rw [← Cv.ev_strip, hq, z, Rat.mul_zero]
theorem K4 (o : Rat) : Cop [-o, 1] (dL [-o, 1]) := LB (by
 rw [Fw, Fw]
 show (1 : Rat) + o * 0 + o * (0 + o * 0) ≠ 0
 rw [show (1 : Rat) + o * 0 + o * (0 + o * 0) = 1 by grind]
 decide)
theorem LH {b c : Rat} (h : b * b - 4 * c ≠ 0) : Cop [c, b, 1] (dL [c, b, 1]) := by
 have hd := Tj _ h
 refine ⟨[-4 * (b * b - 4 * c)⁻¹], [b * (b * b - 4 * c)⁻¹, 2 * (b * b - 4 * c)⁻¹], fun x => ?_⟩
 have e : Cv.ev (dL [c, b, 1]) x = b + 2 * x := by
  rw [Fw, Fw, Fw]
  show b + x * ((1 : Rat) + x * 0) + x * ((1 : Rat) + x * 0 + x * (0 + x * 0)) = _
  grind
 rw [e]
 show (-4 * (b * b - 4 * c)⁻¹ + x * 0) * (c + x * (b + x * ((1 : Rat) + x * 0))) + (b * (b * b - 4 * c)⁻¹ + x * (2 * (b * b - 4 * c)⁻¹ + x * 0)) * (b + 2 * x) = 1
 grind
end L2
namespace L2
open PySem PySem.Spec PyProof.Rows
section
variable {X : Cx} {e : Expr} {es : List Expr} {te : TE} {t : TA} {pos : Pos}
@[irreducible] def PEk (X : Cx) (e : Expr) (te : TE) : Prop := PE X e te
@[irreducible] def PAk (X : Cx) (es : List Expr) (t : TA) : Prop := PA X es t
theorem pek (h : PE X e te) : PEk X e te := by unfold PEk; exact h
end
end L2
namespace L2
open PySem PySem.Spec PyProof.Rows
def tBi (c : TT) (t u : TB) : TB := fun nx E σ H => c σ H fun b H1 => if b = true then t nx E σ H1 else u nx E σ H1
theorem KL {X : Cx} {c : Expr} {b1 b2 : List Stmt} {tc : TT} {t u : TB} {pos : Pos} (hc : PT X.nox c tc) (h1 : PB X b1 t) (h2 : PB X b2 u) : PB X [.If c b1 b2 pos] (tBi tc t u) := by
 intro pins s σ H nx E I h
 refine wpAny_execs_cons (wpAny_If (wpAny_mono (hc pins s σ H _ (I.wish _) h) (fun d s1 ⟨H1, I1, q1⟩ => ?_) fun _ _ z => False.elim z))
 have I1 := I1.unwish
 have fin : ∀ {b : List Stmt} {v : TB}, PB X b v → v nx E σ H1 → wpAny (model X.prog X.w) X.A (execs b X.env) (fun f s' => match f with | .next => wpAny (model X.prog X.w) X.A (execs [] X.env) (fun fl s1 => fl = .next ∧ ∃ σ' H', Inv X pins σ' H' s1 ∧ nx σ' H') (fun e s2 => ∃ H1 s1, Inv X pins σ H1 s1 ∧ CX2 X.prog X.w X.stack H1 s1 E e s2) s' | f => f = .next ∧ ∃ σ' H', Inv X pins σ' H' s' ∧ nx σ' H') (fun e s2 => ∃ H1 s1, Inv X pins σ H1 s1 ∧ CX2 X.prog X.w X.stack H1 s1 E e s2) s1 := fun {b v} hb hq => by
  refine wpAny_mono (hb pins s1 σ H1 nx E I1 hq) (fun fl s2 ⟨ef, q⟩ => ?_) fun _ _ z => z
  subst ef
  exact wpAny_execs_nil ⟨rfl, q⟩
 cases d with
 | true => exact fin h1 q1
 | false => exact fin h2 q1
end L2
namespace L2
open PySem PySem.Spec PyProof.Rows
section
variable {prog : Program} {w : World} {A : Around} {E : Value → Shared → Prop} {s : Shared} {it d : Addr} {i ep : Nat} {od : Obj} {es : Array DictEntry}
end
section
variable {X : Cx} {pins : List (Addr × Obj)} {σ : List (Option V)} {H : Hp} {s : Shared}
end
section
variable {X : Cx} {pins : List (Addr × Obj)} {σ : List (Option V)} {H : Hp} {s : Shared}
end
end L2
namespace L2
open PySem PySem.Spec PyProof.Rows
section
variable {prog : Program} {w : World} {A : Around} {E : Value → Shared → Prop} {s : Shared}
end
section
variable {X : Cx} {tg : Expr}
end
end L2
namespace L2
open PySem PySem.Spec PyProof.Rows
section
variable {X : Cx} {pins : List (Addr × Obj)} {σ : List (Option V)} {H : Hp} {s : Shared}
end
section
variable {prog : Program} {w : World} {d : Addr} {od : Obj} {es : Array DictEntry} {ep : Nat}
end
section
variable {X : Cx}
end
end L2
namespace Pf
set_option maxHeartbeats 4000000
open PySem L2
def top (i : Nat) : Stmt := PySem.Challenge.pw_onecurve_k43_stretches_refused.main.body.getD i (.Pass ⟨0, 0, 0, 0⟩)
theorem Lr {a1 : Type} {p : a1 → Prop} {G : Prop} (h : ∃ x1, p x1) (f : ∀ x1, p x1 → G) : G := Exists.elim h f
theorem E8 {a1 a2 : Type} {p : a1 → a2 → Prop} {G : Prop} (h : ∃ x1 x2, p x1 x2) (f : ∀ x1 x2, p x1 x2 → G) : G := Exists.elim h fun x1 h => Lr h (f x1)
theorem Hk {a1 a2 a3 : Type} {p : a1 → a2 → a3 → Prop} {G : Prop} (h : ∃ x1 x2 x3, p x1 x2 x3) (f : ∀ x1 x2 x3, p x1 x2 x3 → G) : G := Exists.elim h fun x1 h => E8 h (f x1)
theorem Mr {a1 a2 a3 a4 : Type} {p : a1 → a2 → a3 → a4 → Prop} {G : Prop} (h : ∃ x1 x2 x3 x4, p x1 x2 x3 x4) (f : ∀ x1 x2 x3 x4, p x1 x2 x3 x4 → G) : G := Exists.elim h fun x1 h => Hk h (f x1)
theorem OP {a1 a2 a3 a4 a5 : Type} {p : a1 → a2 → a3 → a4 → a5 → Prop} {G : Prop} (h : ∃ x1 x2 x3 x4 x5, p x1 x2 x3 x4 x5) (f : ∀ x1 x2 x3 x4 x5, p x1 x2 x3 x4 x5 → G) : G := Exists.elim h fun x1 h => Mr h (f x1)
theorem OO {a1 a2 a3 a4 a5 a6 : Type} {p : a1 → a2 → a3 → a4 → a5 → a6 → Prop} {G : Prop} (h : ∃ x1 x2 x3 x4 x5 x6, p x1 x2 x3 x4 x5 x6) (f : ∀ x1 x2 x3 x4 x5 x6, p x1 x2 x3 x4 x5 x6 → G) : G := Exists.elim h fun x1 h => OP h (f x1)
theorem NC {a1 a2 a3 a4 a5 a6 a7 : Type} {p : a1 → a2 → a3 → a4 → a5 → a6 → a7 → Prop} {G : Prop} (h : ∃ x1 x2 x3 x4 x5 x6 x7, p x1 x2 x3 x4 x5 x6 x7) (f : ∀ x1 x2 x3 x4 x5 x6 x7, p x1 x2 x3 x4 x5 x6 x7 → G) : G := Exists.elim h fun x1 h => OO h (f x1)
theorem ON {a1 a2 a3 a4 a5 a6 a7 a8 : Type} {p : a1 → a2 → a3 → a4 → a5 → a6 → a7 → a8 → Prop} {G : Prop} (h : ∃ x1 x2 x3 x4 x5 x6 x7 x8, p x1 x2 x3 x4 x5 x6 x7 x8) (f : ∀ x1 x2 x3 x4 x5 x6 x7 x8, p x1 x2 x3 x4 x5 x6 x7 x8 → G) : G := Exists.elim h fun x1 h => NC h (f x1)
theorem OM {a1 a2 a3 a4 a5 a6 a7 a8 a9 : Type} {p : a1 → a2 → a3 → a4 → a5 → a6 → a7 → a8 → a9 → Prop} {G : Prop} (h : ∃ x1 x2 x3 x4 x5 x6 x7 x8 x9, p x1 x2 x3 x4 x5 x6 x7 x8 x9) (f : ∀ x1 x2 x3 x4 x5 x6 x7 x8 x9, p x1 x2 x3 x4 x5 x6 x7 x8 x9 → G) : G := Exists.elim h fun x1 h => ON h (f x1)
theorem Ck {A1 A2 G : Prop} (h : A1 ∧ A2) (f : A1 → A2 → G) : G := f h.1 h.2
theorem HB {A1 A2 A3 G : Prop} (h : A1 ∧ A2 ∧ A3) (f : A1 → A2 → A3 → G) : G := Ck h.2 (f h.1)
theorem LJ {A1 A2 A3 A4 G : Prop} (h : A1 ∧ A2 ∧ A3 ∧ A4) (f : A1 → A2 → A3 → A4 → G) : G := HB h.2 (f h.1)
theorem HA {A1 A2 A3 A4 A5 G : Prop} (h : A1 ∧ A2 ∧ A3 ∧ A4 ∧ A5) (f : A1 → A2 → A3 → A4 → A5 → G) : G := LJ h.2 (f h.1)
theorem IZ {A1 A2 A3 A4 A5 A6 G : Prop} (h : A1 ∧ A2 ∧ A3 ∧ A4 ∧ A5 ∧ A6) (f : A1 → A2 → A3 → A4 → A5 → A6 → G) : G := HA h.2 (f h.1)
theorem My {A1 A2 A3 A4 A5 A6 A7 G : Prop} (h : A1 ∧ A2 ∧ A3 ∧ A4 ∧ A5 ∧ A6 ∧ A7) (f : A1 → A2 → A3 → A4 → A5 → A6 → A7 → G) : G := IZ h.2 (f h.1)
theorem OT {A1 A2 A3 A4 A5 A6 A7 A8 G : Prop} (h : A1 ∧ A2 ∧ A3 ∧ A4 ∧ A5 ∧ A6 ∧ A7 ∧ A8) (f : A1 → A2 → A3 → A4 → A5 → A6 → A7 → A8 → G) : G := My h.2 (f h.1)
theorem OS {A1 A2 A3 A4 A5 A6 A7 A8 A9 G : Prop} (h : A1 ∧ A2 ∧ A3 ∧ A4 ∧ A5 ∧ A6 ∧ A7 ∧ A8 ∧ A9) (f : A1 → A2 → A3 → A4 → A5 → A6 → A7 → A8 → A9 → G) : G := OT h.2 (f h.1)
theorem MP {A1 A2 A3 A4 A5 A6 A7 A8 A9 A10 G : Prop} (h : A1 ∧ A2 ∧ A3 ∧ A4 ∧ A5 ∧ A6 ∧ A7 ∧ A8 ∧ A9 ∧ A10) (f : A1 → A2 → A3 → A4 → A5 → A6 → A7 → A8 → A9 → A10 → G) : G := OS h.2 (f h.1)
def Ao (B : Int) (q : Rat) : Int := q.num * B.fdiv q.den
theorem BM {B : Int} {q : Rat} (h : (q.den : Int) ∣ B) : ((Ao B q : Int) : Rat) = q * (B : Rat) := by
 obtain ⟨k, rfl⟩ := h
 have e : (((q.den : Int) * k).fdiv (q.den : Int)) = k := RQ _ (Nm.den_ne q)
 unfold Ao
 rw [e, S5, S5, Nm.num_mul q]
 grind
theorem Ds {B : Int} {qs : List Rat} (h : ∀ q ∈ qs, (q.den : Int) ∣ B) (x : Rat) : Cv.ev ((qs.map (Ao B)).map fun t : Int => (t : Rat)) x = Cv.ev qs x * (B : Rat) := by
 rw [← Cv.ev_scale, T5]
 congr 1
 exact T6 fun q hq => BM (h q hq)
inductive D8 (K : QT) (vs : List V) (H : Hp) (Q : VK) (E_3 : XK) : Prop
 | mk (b : Bool) (r : Addr) (xs : List V) (qs : List Rat) (n : Nat) (h1 : vs = [.ref r]) (h2 : Sq b K H r xs) (h3 : AS K H xs qs) (h4 : (∀ q ∈ qs, Bd n (q.den : Int))) (h5 : n * (qs.length + 2) ≤ 60000000) (h6 : ∀ B : Int, 0 < B → (∀ q ∈ qs, (q.den : Int) ∣ B) → Bd (n * qs.length + 1) B → Q (.int B) H) : D8 K vs H Q E_3
inductive Ci (K : QT) (vs : List V) (H : Hp) (Q : VK) (E_3 : XK) : Prop
 | mk (b : Bool) (r : Addr) (xs : List V) (qs : List Rat) (B : Int) (m n : Nat) (h1 : vs = [.ref r, .int B]) (h2 : Sq b K H r xs) (h3 : AS K H xs qs) (h4 : Bd m B) (h5 : (∀ q ∈ qs, Bd n q.num)) (h6 : m + n ≤ 134217728) (h7 : qs.length ≤ 1000) (h8 : ∀ p, H p = none → Q (.ref p) (upd H p (.lst ((qs.map (Ao B)).map V.int)))) : Ci K vs H Q E_3
inductive Ek (K : QT) (vs : List V) (H : Hp) (Q : VK) (E_3 : XK) : Prop
 | mk (r : Addr) (xs : List V) (qs : List Rat) (h1 : vs = [.ref r]) (h2 : SqL K H r xs) (h3 : AS K H xs qs) (h4 : qs.length ≤ 1000) (h5 : ∀ p H', Ag H H' → Crv K H' p (Cv.strip qs) → Q (.ref p) H') : Ek K vs H Q E_3
inductive MW (K : QT) (vs : List V) (H : Hp) (Q : VK) (E_3 : XK) : Prop
 | mk (l rx : Addr) (ts : List Int) (x : Rat) (m n : Nat) (h1 : vs = [.ref l, .ref rx]) (h2 : SqL K H l (ts.map V.int)) (h3 : Au K H (.ref rx) x) (h4 : (∀ t ∈ ts, Bd m t)) (h5 : RB n x) (h6 : m + (n + 1) * (ts.length + 4) ≤ 100000000) (h7 : ∀ (h s : Int) (p : Addr), s = (x.den : Int) ^ ts.length → s ≠ 0 → (h : Rat) = Cv.evI ts x * (s : Rat) → Bd (m + (n + 1) * (ts.length + 2)) h → Bd (n * ts.length + 1) s → H p = none → Q (.ref p) (upd H p (.tup [.int h, .int s]))) : MW K vs H Q E_3
inductive DS (K : QT) (vs : List V) (H : Hp) (Q : VK) (E_3 : XK) : Prop
 | mk (r rx : Addr) (qs : List Rat) (x : Rat) (n : Nat) (h1 : vs = [.ref r, .ref rx]) (h2 : Crv K H r qs) (h3 : Au K H (.ref rx) x) (h4 : (∀ q ∈ qs, RB n q)) (h5 : RB n x) (h6 : (n + 1) * ((qs.length + 4) * (qs.length + 4)) ≤ 30000000) (h7 : qs.length ≤ 1000) (h8 : ∀ p H', Ag H H' → H' p = some (nT (Cv.ev qs x)) → Q (.ref p) H') : DS K vs H Q E_3
theorem Ld {b d : Int} (hb : 0 < b) (hd : 0 < d) : 0 < b * d.fdiv (RO b d : Int) ∧ b ∣ b * d.fdiv (RO b d : Int) ∧ d ∣ b * d.fdiv (RO b d : Int) := by
 have g0 : (0 : Int) < (RO b d : Int) := by have := Nm.gcd_pos (a := b) (b := d) (by lia); lia
 obtain ⟨k, hk⟩ : (RO b d : Int) ∣ d := Int.gcd_dvd_right ..
 obtain ⟨j, hj⟩ : (RO b d : Int) ∣ b := Int.gcd_dvd_left ..
 generalize (RO b d : Int) = g at *
 subst hk
 subst hj
 have e : (g * k).fdiv g = k := RQ _ (by lia)
 rw [e]
 have hk0 : 0 < k := by
  rcases Int.lt_trichotomy k 0 with z | z | z
  ·have : g * k < 0 := TJ g0 z
   lia
  ·rw [z, Th] at hd; lia
  ·exact z
 exact ⟨TK hb hk0, ⟨k, rfl⟩, ⟨j, by grind⟩⟩
inductive IF (K : QT) (vs : List V) (H : Hp) (Q : VK) (E_3 : XK) : Prop
 | mk (f g : Addr) (fs gs : List Int) (m n : Nat) (h1 : vs = [.ref f, .ref g]) (h2 : SqL K H f (fs.map V.int)) (h3 : SqL K H g (gs.map V.int)) (h4 : 1 ≤ gs.length) (h5 : fs.length ≤ 1000) (h6 : gs.length ≤ 1000) (h7 : (∀ t ∈ fs, Bd m t)) (h8 : (∀ t ∈ gs, Bd n t)) (h9 : m + n ≤ 60000000) (h10 : ∀ (p : Addr) (H' : Hp) (ps : List Int), Ag H H' → H p = none → H' p = some (.lst (ps.map V.int)) → ps.length = fs.length + gs.length - 1 → (∀ x, Cv.evI ps x = Cv.evI fs x * Cv.evI gs x) → (∀ t ∈ ps, Bd (m + n + 20) t) → Q (.ref p) H') : IF K vs H Q E_3
inductive Ca (K : QT) (vs : List V) (H : Hp) (Q : VK) (E_3 : XK) : Prop
 | mk (l : Addr) (ts : List Int) (b : Int) (h1 : vs = [.ref l, .int b]) (h2 : SqL K H l (ts.map V.int)) (h3 : b ≠ 0) (h4 : ts.length ≤ 1000) (h5 : ∀ p H', Ag H H' → Crv K H' p (Cv.strip (ts.map fun t => RS t b)) → Q (.ref p) H') : Ca K vs H Q E_3
def Cu (qs : List Rat) : List Rat := (QP (qs.length - 1)).map fun j => qs.getD (j + 1) 0 * ((j + 1 : Nat) : Rat)
inductive EE (K : QT) (vs : List V) (H : Hp) (Q : VK) (E_3 : XK) : Prop
 | mk (r : Addr) (qs : List Rat) (n : Nat) (h1 : vs = [.ref r]) (h2 : Crv K H r qs) (h3 : qs.length ≤ 1000) (h4 : (∀ q ∈ qs, RB n q)) (h5 : n ≤ 10000000) (h6 : ∀ p H', Ag H H' → Crv K H' p (Cu qs) → Q (.ref p) H') : EE K vs H Q E_3
inductive GH (K : QT) (n : Nat) (vs : List V) (H : Hp) (Q : VK) (E_3 : XK) : Prop
 | mk (a : Addr) (most : Int) (h1 : vs = [.ref a, .int most]) (h2 : Pen H a) (h3 : 0 ≤ most) (h4 : most ≤ 100) (h5 : ∀ (qs : List Rat) (r : Addr) (H' : Hp), Mv a H H' → Pen H' a → Crv K H' r qs → AN qs → (qs.length : Int) ≤ most → (∀ q ∈ qs, RB n q) → Q (.ref r) H') : GH K n vs H Q E_3
theorem Mv.put' {a l : Addr} {H H' : Hp} {o : HO} (m : Mv a H H') (hl : H l = none) : Mv a H (upd H' l o) := fun b u n q => by rw [AB (Az q hl)]; exact m b u n q
inductive GC (K : QT) (vs : List V) (H : Hp) (Q : VK) (E_3 : XK) : Prop
 | mk (r ra rb : Addr) (qs : List Rat) (a b : Rat) (n : Nat) (h1 : vs = [.ref r, .ref ra, .ref rb]) (h2 : Crv K H r qs) (h3 : Au K H (.ref ra) a) (h4 : Au K H (.ref rb) b) (h5 : (∀ q ∈ qs, RB n q)) (h6 : RB n a) (h7 : RB n b) (h8 : n ≤ 1000) (h9 : qs.length ≤ 100) (h10 : ∀ p H' rs, Ag H H' → Crv K H' p rs → rs.length ≤ qs.length → AN rs → (∀ q ∈ rs, RB (4 * (n * qs.length) + 23 * qs.length + 5 * n + 12) q) → (∀ x, Cv.ev rs x = Cv.ev qs (a * x + b)) → Q (.ref p) H') : GC K vs H Q E_3
inductive DR (vs : List V) (H : Hp) (Q : VK) (E_3 : XK) : Prop
 | mk (b : Int) (n L : Nat) (h1 : vs = [.int b, .int n]) (h2 : n ≤ 1000) (h3 : Bd L b) (h4 : L * n + L ≤ 100000000) (h5 : Q (.int (b ^ n)) H) : DR vs H Q E_3
structure OB (fs gs os rs : List Int) (lead : Int) (B : Nat) : Prop where
 ol : os.length = fs.length + 1 - gs.length
 rl : rs.length = min fs.length (gs.length - 1)
 ev : ∀ x, Cv.evI fs x * ((lead ^ os.length : Int) : Rat) = Cv.evI os x * Cv.evI gs x + Cv.evI rs x
 ob : ∀ t ∈ os, Bd B t
 rb : ∀ t ∈ rs, Bd B t
 top : os ≠ [] → ∃ t, fs[fs.length - 1]? = some t ∧ os[os.length - 1]? = some (lead ^ (os.length - 1) * t)
inductive Jd (K : QT) (vs : List V) (H : Hp) (Q : VK) (E_3 : XK) : Prop
 | mk (f g : Addr) (fs gs : List Int) (lead : Int) (M L : Nat) (h1 : vs = [.ref f, .ref g]) (h2 : SqL K H f (fs.map V.int)) (h3 : SqL K H g (gs.map V.int)) (h4 : gs[gs.length - 1]? = some lead) (h5 : fs.length ≤ 1000) (h6 : gs.length ≤ 1000) (h7 : (∀ t ∈ fs, Bd M t)) (h8 : (∀ t ∈ gs, Bd L t)) (h9 : M + fs.length * (L + 1) + L ≤ 100000000) (h10 : L ≤ 100000000) (h11 : ∀ (p pa pb : Addr) (H' : Hp) (os rs : List Int), Ag H H' → H' p = some (.tup [.ref pa, .ref pb]) → H' pa = some (.lst (os.map V.int)) → H' pb = some (.lst (rs.map V.int)) → OB fs gs os rs lead (M + os.length * (L + 1)) → Q (.ref p) H') : Jd K vs H Q E_3
theorem ES {l : List Rat} (h : AN l) : Cv.strip l = l := by
 have e := Cv.take_strip l l.length (fun j q hj e => absurd (R3.mp e).1 (by lia)) (by
  rcases h with h | h
  ·left; rw [h]; rfl
  ·right; exact h)
 rw [Sf] at e
 exact e.symm
theorem MS {B : Int} {q : Rat} (hB : 0 < B) (h : (q.den : Int) ∣ B) (hq : q ≠ 0) : Ao B q ≠ 0 := fun z => by
 have e := BM h
 rw [z, Ti] at e
 rcases Sh.mp e.symm with y | y
 ·exact hq y
 ·exact Nm.cast_ne (show B ≠ 0 by lia) y
theorem Dr {B : Int} {qs : List Rat} (h : AN qs) (hne : qs ≠ []) (hB : 0 < B) (hd : ∀ q ∈ qs, (q.den : Int) ∣ B) : ∃ t, (qs.map (Ao B))[(qs.map (Ao B)).length - 1]? = some t ∧ t ≠ 0 := by
 rcases h with h | ⟨q, e, hq⟩
 ·exact absurd h hne
 ·exact ⟨Ao B q, by rw [Rx, Ru, e]; rfl, MS hB (hd q (Rv e)) hq⟩
theorem NF {t c : Int} (ht : t ≠ 0) (hc : c ≠ 0) : RS t c ≠ 0 := fun z => by
 rw [RW, TL] at z
 rcases Sh.mp z with y | y
 ·exact Nm.cast_ne ht y
 ·have h1 := Tj _ (Nm.cast_ne hc)
  rw [y, Rat.mul_zero] at h1
  exact absurd h1 (by decide)
theorem Hm (ts : List Int) (c : Int) (hc : c ≠ 0) (x : Rat) : Cv.ev (ts.map fun t => RS t c) x * (c : Rat) = Cv.evI ts x := by
 have e : (ts.map fun t => RS t c) = (ts.map fun t : Int => (t : Rat)).map (· * (c : Rat)⁻¹) := by
  rw [T5]
  refine T6 fun t _ => ?_
  show RS t c = (t : Rat) * (c : Rat)⁻¹
  rw [RW, TL]
 rw [e, Cv.ev_scale, Tn, Rat.inv_mul_cancel _ (Nm.cast_ne hc), To]
 rfl
theorem Gm {l : List Rat} {i : Nat} (h : i < l.length) : l[i]? = some (l.getD i 0) := by rw [Sl, Sv h]; rfl
theorem GJ (cs : List Rat) : (Cu cs).length = cs.length - 1 := by unfold Cu; rw [Rx, SX]
def pb (n : Nat) : Nat → Nat
 | 0 => 1
 | k + 1 => 2 * pb n k + n + 1
theorem KY (k : Int) : nT ((k : Int) : Rat) = .tup [.int k, .int 1] := by
 unfold nT
 rw [Rat.num_intCast, Rat.den_intCast]
 rfl
def ml (i : Nat) (σ : St) (H : Hp) : Nat := match σ[i]? with
 | some (some (.ref r)) => (match H r with | some (.lst xs) => xs.length | _ => 0)
 | _ => 0
inductive Kw (K : QT) (vs : List V) (H : Hp) (Q : VK) (E_3 : XK) : Prop
 | mk (l : Addr) (ts : List Int) (h1 : vs = [.ref l]) (h2 : SqL K H l (ts.map V.int)) (h3 : ∀ (p : Addr) (H' : Hp) (w : Nat), w ≤ ts.length → (∀ j, w ≤ j → ts.getD j 0 = 0) → (1 ≤ w → ts.getD (w - 1) 0 ≠ 0) → Ag H H' → H' p = some (.lst ((ts.take w).map V.int)) → Q (.ref p) H') : Kw K vs H Q E_3
inductive GF (K : QT) (vs : List V) (H : Hp) (Q : VK) (E_3 : XK) : Prop
 | mk (f g : Addr) (fs gs : List Int) (W X : Nat) (h1 : vs = [.ref f, .ref g]) (h2 : SqL K H f (fs.map V.int)) (h3 : H g = some (.lst (gs.map V.int))) (h4 : 1 ≤ fs.length) (h5 : gs.length ≤ fs.length) (h6 : fs.length ≤ 10) (h7 : Ec fs) (h8 : Ec gs) (h9 : (∀ t ∈ fs, Bd W t)) (h10 : (∀ t ∈ gs, Bd W t)) (h11 : 18 * (W + 5) + 1 ≤ X) (h12 : X ≤ 8000000) (h13 : ∀ (p : Addr) (H' : Hp) (hs : List Int), Ag H H' → SqL K H' p (hs.map V.int) → 1 ≤ hs.length → hs.length ≤ fs.length → Ec hs → Com (cst fs) (cst gs) (cst hs) [] → (∀ t ∈ hs, Bd X t) → Q (.ref p) H') : GF K vs H Q E_3
theorem IW {qs : List Rat} (h : AN qs) : AN (Cu qs) := by
 rcases h with h | ⟨q, e, hq⟩
 ·left; rw [h]; rfl
 ·have hl := (R3.mp e).1
  by_cases h1 : qs.length = 1
  ·left; unfold Cu; rw [h1]; rfl
  ·right
   refine ⟨q * ((qs.length - 1 : Nat) : Rat), ?_, fun z => ?_⟩
   ·unfold Cu
    rw [Rx, SX, Ru, SY (by lia)]
    show some (qs.getD (qs.length - 1 - 1 + 1) 0 * ((qs.length - 1 - 1 + 1 : Nat) : Rat)) = _
    rw [show qs.length - 1 - 1 + 1 = qs.length - 1 by lia, Sl, e]; rfl
   ·rcases Sh.mp z with y | y
    ·exact hq y
    ·have y0 : ((qs.length - 1 : Nat) : Rat) = ((0 : Nat) : Rat) := y
     have := Rat.natCast_inj.mp y0
     lia
def Bl (B : Int) : Rat := if h : 0 < B then ⟨1, B.toNat, by lia, by simp⟩ else 0
theorem EL {B : Int} (h : 0 < B) : nT (Bl B) = .tup [.int 1, .int B] := by
 have e : Bl B = ⟨1, B.toNat, by lia, by simp⟩ := by unfold Bl; rw [dif_pos h]
 rw [e]
 show HO.tup [.int 1, .int ((B.toNat : Nat) : Int)] = _
 rw [TM (by lia)]
theorem Lj {B : Int} (h : 0 < B) : Bl B * ((B : Int) : Rat) = 1 := by
 have e : Bl B = ⟨1, B.toNat, by lia, by simp⟩ := by unfold Bl; rw [dif_pos h]
 have h1 := Nm.num_mul (Bl B)
 have h2 : (Bl B).num = 1 := by rw [e]
 have h3 : ((Bl B).den : Int) = B := by rw [e]; exact TM (by lia)
 rw [h2, h3] at h1
 exact h1.symm
theorem EK {n : Nat} {B : Int} (h : 0 < B) (hb : Bd n B) : RB n (Bl B) := by
 have e : Bl B = ⟨1, B.toNat, by lia, by simp⟩ := by unfold Bl; rw [dif_pos h]
 have h3 : ((Bl B).den : Int) = B := by rw [e]; exact TM (by lia)
 refine ⟨?_, by rw [h3]; exact hb⟩
 rw [e]
 show Bd n 1
 unfold Bd at *
 lia
theorem Lk {n : Nat} {k : Int} (h : Bd n k) (h1 : 1 ≤ n) : RB n ((k : Int) : Rat) := ⟨by rw [Rat.num_intCast]; exact h, by rw [Rat.den_intCast]; exact (show Bd 1 1 by unfold Bd; decide).mono h1⟩
theorem atV {xs : List V} {i : Nat} {x : V} {k : Int} (h : xs[i]? = some x) (e : k = (i : Int)) : atI xs k = some x := by subst e; exact AA h
inductive GI (K : QT) (vs : List V) (H : Hp) (Q : VK) (E_3 : XK) : Prop
 | mk (r u : Addr) (qs ps : List Rat) (n N : Nat) (h1 : vs = [.ref r, .ref u]) (h2 : Crv K H r qs) (h3 : Crv K H u ps) (h4 : AN qs) (h5 : AN ps) (h6 : (qs ≠ [] ∨ ps ≠ [])) (h7 : (∀ q ∈ qs, RB n q)) (h8 : (∀ q ∈ ps, RB n q)) (h9 : n ≤ 40000) (h10 : N ≤ 10) (h11 : qs.length ≤ N) (h12 : ps.length ≤ N) (h13 : ∀ (p : Addr) (H' : Hp) (cs : List Rat), Ag H H' → Crv K H' p cs → Ed qs ps cs → cs.length ≤ N → (∀ q ∈ cs, RB (18 * (n * N + n + 6) + 1) q) → Q (.ref p) H') : GI K vs H Q E_3
inductive EG (K : QT) (vs : List V) (H : Hp) (Q : VK) (E_3 : XK) : Prop
 | mk (r u : Addr) (qs ps : List Rat) (m L C : Nat) (h1 : vs = [.ref r, .ref u]) (h2 : Crv K H r qs) (h3 : Crv K H u ps) (h4 : AN qs) (h5 : ps ≠ []) (h6 : AN ps) (h7 : (∀ q ∈ qs, RB m q)) (h8 : (∀ q ∈ ps, RB L q)) (h9 : m ≤ 100000) (h10 : L ≤ 1000000) (h11 : m * qs.length + m + (qs.length + 1 - ps.length) * (L * ps.length + L + 1 + 1) + L * ps.length + 20 ≤ C) (h12 : qs.length ≤ 8) (h13 : ps.length ≤ 8) (h14 : ∀ (p a b : Addr) (H' : Hp) (os rs : List Rat), Ag H H' → H' p = some (.tup [.ref a, .ref b]) → Crv K H' a os → Crv K H' b rs → AN os → AN rs → os.length = qs.length + 1 - ps.length → rs.length < ps.length → (∀ x, Cv.ev qs x = Cv.ev os x * Cv.ev ps x + Cv.ev rs x) → (∀ q ∈ os, RB C q) → Q (.ref p) H') : EG K vs H Q E_3
theorem JS {cs : List Rat} {n : Nat} (hl : cs.length ≤ 8) (hn : 1 ≤ n) (h : ∀ q ∈ cs, RB n q) : ∀ q ∈ Cu cs, RB (n + 3) q := fun q hq => by
 unfold Cu at hq
 obtain ⟨j, hj, rfl⟩ := Tt.mp hq
 have hj' := QS.mp hj
 have g : RB n (cs.getD (j + 1) 0) := by
  rw [Sl]
  cases e : cs[j + 1]? with
  | none => exact RB.zero hn
  | some t => exact h t (Rv e)
 exact g.times ⟨by rw [TN]; unfold Bd; lia, by rw [TQ]; unfold Bd; decide⟩
theorem K2 {n : Nat} (hn : n ≤ 1000) : ∃ n' C, n + 3 ≤ n' ∧ n' ≤ 1003 ∧ (n ≤ 8 → C ≤ 36000) ∧ C ≤ 4000000 ∧ ∀ a l : Nat, 1 ≤ l → l ≤ 6 → a ≤ 6 → n * a + n + (a + 1 - l) * ((18 * (n' * 6 + n' + 6) + 1) * l + (18 * (n' * 6 + n' + 6) + 1) + 1 + 1) + (18 * (n' * 6 + n' + 6) + 1) * l + 20 ≤ C := by
 have go : ∀ n' C : Nat, (18 * (n' * 6 + n' + 6) + 1) * 6 + n * 7 + 20 + 6 * (18 * (n' * 6 + n' + 6) + 1) + 12 + 12 * (18 * (n' * 6 + n' + 6) + 1) ≤ C → ∀ a l : Nat, 1 ≤ l → l ≤ 6 → a ≤ 6 → n * a + n + (a + 1 - l) * ((18 * (n' * 6 + n' + 6) + 1) * l + (18 * (n' * 6 + n' + 6) + 1) + 1 + 1) + (18 * (n' * 6 + n' + 6) + 1) * l + 20 ≤ C := by
  intro n' C h a l h1 h6 ha
  generalize 18 * (n' * 6 + n' + 6) + 1 = L at h ⊢
  have e1 : n * a ≤ n * 6 := TR _ ha
  have e2 : (a + 1 - l) * (L * l + L + 1 + 1) ≤ (7 - l) * (L * l + L + 1 + 1) := SJ _ (by lia)
  have e3 : l = 1 ∨ l = 2 ∨ l = 3 ∨ l = 4 ∨ l = 5 ∨ l = 6 := by lia
  rcases e3 with rfl | rfl | rfl | rfl | rfl | rfl <;> lia
 by_cases h8 : n ≤ 8
 ·obtain ⟨C, hC⟩ : ∃ C, C = 36000 := ⟨_, rfl⟩
  obtain ⟨m, hm⟩ : ∃ m, m = 11 := ⟨_, rfl⟩
  exact ⟨m, C, by lia, by lia, by lia, by lia, go m C (by lia)⟩
 ·obtain ⟨C, hC⟩ : ∃ C, C = 4000000 := ⟨_, rfl⟩
  obtain ⟨m, hm⟩ : ∃ m, m = 1003 := ⟨_, rfl⟩
  exact ⟨m, C, by lia, by lia, by lia, by lia, go m C (by lia)⟩
inductive Ei (K : QT) (vs : List V) (H : Hp) (Q : VK) (E_3 : XK) : Prop
 | mk (r : Addr) (qs : List Rat) (n : Nat) (h1 : vs = [.ref r]) (h2 : Crv K H r qs) (h3 : AN qs) (h4 : qs ≠ []) (h5 : (∀ q ∈ qs, RB n q)) (h6 : 1 ≤ n) (h7 : n ≤ 1000) (h8 : qs.length ≤ 6) (h9 : ∀ (p : Addr) (H' : Hp) (g os : List Rat), Ag H H' → Crv K H' p os → AN os → Ed qs (Cu qs) g → (∀ x, Cv.ev qs x = Cv.ev os x * Cv.ev g x) → os.length ≤ qs.length → (n ≤ 8 → ∀ q ∈ os, RB 36000 q) → Q (.ref p) H') : Ei K vs H Q E_3
inductive Du (K : QT) (C : Addr) (vs : List V) (H : Hp) (E_2 : VK) (E : XK) : Prop
 | mk (r : Addr) (h1 : vs = [.ref r]) (h2 : SqT K H r []) (h3 : E (.ref C) none H) : Du K C vs H E_2 E
theorem Jm (p q : Rat) (hq : q ≠ 0) : RS (p.num * q.den) (p.den * q.num) = p / q := by
 have hn : q.num ≠ 0 := fun z => hq (TU.mp z)
 apply Nm.div_eq (RY (Nm.den_ne p) hn)
 rw [S5, S5, Nm.num_mul p, Nm.num_mul q]
 have e : p / q * q = p := RX hq
 have h : p / q * (((p.den : Int) : Rat) * (q * ((q.den : Int) : Rat))) = (p / q * q) * (((p.den : Int) : Rat) * ((q.den : Int) : Rat)) := by grind
 rw [h, e]
 grind
inductive EU (K : QT) (vs : List V) (H : Hp) (Q : VK) (E_3 : XK) : Prop
 | mk (x y : V) (p q : Rat) (m n : Nat) (h1 : vs = [x, y]) (h2 : Au K H x p) (h3 : Au K H y q) (h4 : q ≠ 0) (h5 : RB m p) (h6 : RB n q) (h7 : m + n ≤ 100000000) (h8 : ∀ r, H r = none → Q (.ref r) (upd H r (nT (p / q)))) : EU K vs H Q E_3
theorem RB.over {m n : Nat} {p q : Rat} (h1 : RB m p) (h2 : RB n q) (hq : q ≠ 0) : RB (m + n) (p / q) := by
 have hn : q.num ≠ 0 := fun z => hq (TU.mp z)
 rw [← Jm p q hq]
 exact ⟨Bd.num (h1.1.mul h2.2), Bd.den (RY (Nm.den_ne p) hn) (h1.2.mul h2.1)⟩
inductive GD (K : QT) (vs : List V) (H : Hp) (Q : VK) (E_3 : XK) : Prop
 | mk (x y : V) (p q : Rat) (m n : Nat) (h1 : vs = [x, y]) (h2 : Au K H x p) (h3 : Au K H y q) (h4 : RB m p) (h5 : RB n q) (h6 : m + n ≤ 100000000) (h7 : Q (.bl (decide (p < q))) H) : GD K vs H Q E_3
theorem Mh (p q : Rat) : decide (p.num * q.den < q.num * p.den) = decide (p < q) := by
 rw [Bool.eq_iff_iff]
 simp only [decide_eq_true_eq]
 exact (Rat.lt_iff p q).symm
inductive EF (K : QT) (vs : List V) (H : Hp) (Q : VK) (E_3 : XK) : Prop
 | mk (r : Addr) (al : List Rat) (n : Nat) (h1 : vs = [.ref r]) (h2 : Crv K H r al) (h3 : 1 ≤ al.length) (h4 : al.length ≤ 20) (h5 : (∀ q ∈ al, RB n q)) (h6 : n ≤ 10000) (h7 : 1 ≤ n) (h8 : ∀ (p : Addr) (H' : Hp) (zs : List V), Ag H H' → H' p = some (.lst zs) → AS K H' zs (BZ al) → (∀ q ∈ BZ al, RB (n + 22) q) → Q (.ref p) H') : EF K vs H Q E_3
theorem MM {n k : Nat} (h : k ≤ n) : ((ch n k : Nat) : Rat) ≠ 0 := fun z => by
 have hp := Ho n k h
 have : ch n k = 0 := by exact_mod_cast z
 lia
theorem ML {n k : Nat} (hn : n ≤ 20) : RB 22 ((ch n k : Nat) : Rat) := by
 have h1 := JF n k
 have h2 : 2 ^ n ≤ 2 ^ 20 := Sx (by decide) hn
 exact ⟨by rw [TN]; unfold Bd; lia, by rw [TQ]; unfold Bd; decide⟩
theorem KN {al : List Rat} {n : Nat} (hl : al.length ≤ 20) (h1 : 1 ≤ n) (h : ∀ q ∈ al, RB n q) : ∀ q ∈ BZ al, RB (n + 22) q := fun q hq => by
 unfold BZ at hq
 obtain ⟨k, hk, rfl⟩ := Tt.mp hq
 have hk' := QS.mp hk
 have g : RB n (al.getD k 0) := by
  rw [Sl]
  cases e : al[k]? with
  | none => exact RB.zero h1
  | some t => exact h t (Rv e)
 exact RB.over g (ML (by lia)) (MM (by lia))
theorem Np (k : Nat) : nT ((k : Nat) : Rat) = .tup [.int (k : Int), .int 1] := by
 unfold nT
 rw [TN, TQ]
 rfl
theorem Bf {l : List Int} {i : Nat} (h : i < l.length) : l[i]? = some (l.getD i 0) := by rw [Sl, Sv h]; rfl
inductive DF (K : QT) (vs : List V) (H : Hp) (Q : VK) (E_3 : XK) : Prop
 | mk (c rl rh : Addr) (cs : List Rat) (lo hi : Rat) (n : Nat) (h1 : vs = [.ref c, .ref rl, .ref rh]) (h2 : Crv K H c cs) (h3 : AN cs) (h4 : Au K H (.ref rl) lo) (h5 : Au K H (.ref rh) hi) (h6 : lo < hi) (h7 : (∀ q ∈ cs, RB n q)) (h8 : RB n lo) (h9 : RB n hi) (h10 : n ≤ 100) (h11 : cs.length ≤ 7) (h12 : ∀ (p : Addr) (H' : Hp) (zs : List V), Ag H H' → H p = none → H' p = some (.lst zs) → AS K H' zs (hts cs lo hi) → (∀ q ∈ hts cs lo hi, RB 60000 q) → Q (.ref p) H') : DF K vs H Q E_3
theorem OQ {b : Int} (hb : b ≠ 0) (s t : Int) : RS (s + t) b = RS s b + RS t b := by
 apply Nm.div_eq hb
 have h1 := Dq hb s
 have h2 := Dq hb t
 rw [RZ, ← h1, ← h2]
 grind
theorem Lo {b : Int} (l : List Int) (j : Nat) : (l.map fun t => RS t b).getD j 0 = RS (l.getD j 0) b := by
 rw [Sl, Sl, Ru]
 cases l[j]? with
 | none => exact (Rat.zero_divInt b).symm
 | some t => rfl
theorem JM {b : Int} (hb : b ≠ 0) (l : List Int) : ∀ n, aQN n (l.map fun t => RS t b) = (aIN n l).map fun t => RS t b
 | 0 => rfl
 | n + 1 => by
   show aQ (aQN n _) = (aI (aIN n l)).map _
   rw [JM hb l n]
   unfold aQ aI
   rw [Rx, T5]
   refine T6 fun j _ => ?_
   show _ + _ = RS _ b
   rw [Lo, Lo, OQ hb]
theorem NT {B : Int} {qs : List Rat} (hB : B ≠ 0) (h : ∀ q ∈ qs, (q.den : Int) ∣ B) : (qs.map (Ao B)).map (fun t => RS t B) = qs := by
 rw [T5]
 conv => rhs; rw [← List.map_id qs]
 refine T6 fun q hq => ?_
 exact Nm.div_eq hB (BM (h q hq))
theorem J1 {M : Nat} {l : List Int} (h : ∀ t ∈ l, Bd M t) : ∀ i, ∀ t ∈ aIN i l, Bd (M + i) t
 | 0 => h
 | i + 1 => fun t ht => by
   have ih := J1 h i
   have g : ∀ j, Bd (M + i) ((aIN i l).getD j 0) := fun j => by
    rw [Sl]
    cases e : (aIN i l)[j]? with
    | none => exact (show Bd 0 0 by unfold Bd; decide).mono (Rb _)
    | some t => exact ih t (Rv e)
   change t ∈ aI (aIN i l) at ht
   unfold aI at ht
   obtain ⟨j, _, rfl⟩ := Tt.mp ht
   exact (g _).add (g _)
theorem EX {q : Rat} (h : 0 ≤ q.num) : 0 ≤ q := TV.mp h
theorem GO {q : Rat} (h0 : 0 ≤ q) (h : q.num ≠ 0) : 0 < q := by
 have : q ≠ 0 := fun z => h (by rw [z]; rfl)
 grind
theorem E7 {B : Int} (h : 0 < B) : 0 < Bl B := by
 have e : Bl B = ⟨1, B.toNat, by lia, by simp⟩ := by unfold Bl; rw [dif_pos h]
 refine GO (EX ?_) ?_
 ·rw [e]; show (0 : Int) ≤ 1; decide
 ·rw [e]; show (1 : Int) ≠ 0; decide
theorem Kq {B : Int} (hB : 0 < B) {p q : Rat} (hp : (p.den : Int) ∣ B) (hq : (q.den : Int) ∣ B) (h : Ao B p ≤ Ao B q) : p ≤ q := by
 have h1 := BM hp
 have h2 := BM hq
 have h3 : ((Ao B p : Int) : Rat) ≤ ((Ao B q : Int) : Rat) := TX.mpr h
 rw [h1, h2] at h3
 have hB' : (0 : Rat) < (B : Rat) := Rat.intCast_pos.mpr hB
 by_cases c : p ≤ q
 ·exact c
 ·have c' : 0 < p - q := by grind
  have := TY c' hB'
  grind
theorem Ob {hs : List Rat} {B M : Int} (h : M ∈ hs.map (Ao B)) : ∃ q, hs[(hs.map (Ao B)).idxOf M]? = some q ∧ Ao B q = M ∧ q ∈ hs := by
 have hj : (hs.map (Ao B)).idxOf M < (hs.map (Ao B)).length := List.idxOf_lt_length_iff.mpr h
 have hj' : (hs.map (Ao B)).idxOf M < hs.length := by rw [Rx] at hj; exact hj
 have e := List.getElem_idxOf hj
 rw [TZ] at e
 exact ⟨_, Sv hj', e, Sw hj'⟩
inductive HL (K : QT) (vs : List V) (H : Hp) (Q : VK) (E_3 : XK) : Prop
 | mk (c rl rh : Addr) (cs : List Rat) (lo hi : Rat) (n : Nat) (h1 : vs = [.ref c, .ref rl, .ref rh]) (h2 : Crv K H c cs) (h3 : AN cs) (h4 : Au K H (.ref rl) lo) (h5 : Au K H (.ref rh) hi) (h6 : lo < hi) (h7 : (∀ q ∈ cs, RB n q)) (h8 : RB n lo) (h9 : RB n hi) (h10 : n ≤ 100) (h11 : cs.length ≤ 7) (h12 : ∀ (p : Addr) (H' : Hp) (x y : V) (m M : Rat), Ag H H' → H' p = some (.tup [x, y]) → Au K H' x m → Au K H' y M → m ∈ hts cs lo hi → M ∈ hts cs lo hi → (∀ q ∈ hts cs lo hi, m ≤ q ∧ q ≤ M) → RB 60000 m → RB 60000 M → Q (.ref p) H') : HL K vs H Q E_3
section
variable {X : Cx}
end
def hf : Rat := ⟨1, 2, by decide, by decide⟩
theorem hf2 : hf + hf = 1 := by decide +kernel
theorem IU : 1 - hf = hf := by have := hf2; grind
theorem EO (t : Rat) (f : Nat → Rat) : ∀ k i, L2.Cn t (k + 1) f i = L2.Cn t k (fun j => f j * (1 - t) + f (j + 1) * t) i
 | 0, _ => rfl
 | k + 1, i => by
   show L2.Cn t (k + 1) f i * (1 - t) + L2.Cn t (k + 1) f (i + 1) * t = L2.Cn t k _ i * (1 - t) + L2.Cn t k _ (i + 1) * t
   rw [EO t f k i, EO t f k (i + 1)]
theorem HD (t : Rat) (f : Nat → Rat) (o : Nat) : ∀ k i, L2.Cn t k f (o + i) = L2.Cn t k (fun j => f (o + j)) i
 | 0, _ => rfl
 | k + 1, i => by
   have h1 := HD t f o k (i + 1)
   show L2.Cn t k f (o + i) * (1 - t) + L2.Cn t k f (o + i + 1) * t = L2.Cn t k _ i * (1 - t) + L2.Cn t k _ (i + 1) * t
   rw [HD t f o k i, show o + i + 1 = o + (i + 1) by lia, h1]
theorem HE (u a b : Rat) (f : Nat → Rat) : ∀ k i, L2.Cn u k (fun j => f j * a + f (j + 1) * b) i = L2.Cn u k f i * a + L2.Cn u k f (i + 1) * b
 | 0, _ => rfl
 | k + 1, i => by
   show L2.Cn u k _ i * (1 - u) + L2.Cn u k _ (i + 1) * u = (L2.Cn u k f i * (1 - u) + L2.Cn u k f (i + 1) * u) * a + (L2.Cn u k f (i + 1) * (1 - u) + L2.Cn u k f (i + 1 + 1) * u) * b
   rw [HE u a b f k i, HE u a b f k (i + 1)]; grind
theorem Fp (t : Rat) : ∀ n f o, L2.Cn t n (fun i => L2.Cn hf i f o) 0 = L2.Cn (t * hf) n f o
 | 0, _, _ => rfl
 | n + 1, f, o => by
   have h0 := Fp t n f o
   have h1 := Fp t n (fun j => f j * (1 - hf) + f (j + 1) * hf) o
   show L2.Cn t n (fun i => L2.Cn hf i f o) 0 * (1 - t) + L2.Cn t n (fun i => L2.Cn hf i f o) (0 + 1) * t = L2.Cn (t * hf) n f o * (1 - t * hf) + L2.Cn (t * hf) n f (o + 1) * (t * hf)
   have e : L2.Cn t n (fun i => L2.Cn hf i f o) (0 + 1) = L2.Cn t n (fun i => L2.Cn hf i (fun j => f j * (1 - hf) + f (j + 1) * hf) o) 0 := by
    rw [show 0 + 1 = 1 + 0 from rfl, HD]
    refine L2.BU t _ _ fun j _ => ?_
    show L2.Cn hf (1 + (0 + j)) f o = _
    rw [show 1 + (0 + j) = (0 + j) + 1 by lia, EO]
   rw [e, h0, h1, HE, IU]
   have := hf2
   grind
theorem Gy (t : Rat) : ∀ n f o, L2.Cn t n (fun i => L2.Cn hf (n - i) f (o + i)) 0 = L2.Cn (hf + t * hf) n f o
 | 0, _, _ => rfl
 | n + 1, f, o => by
   have h0 := Gy t n (fun j => f j * (1 - hf) + f (j + 1) * hf) o
   have h1 := Gy t n f (o + 1)
   show L2.Cn t n (fun i => L2.Cn hf (n + 1 - i) f (o + i)) 0 * (1 - t) + L2.Cn t n (fun i => L2.Cn hf (n + 1 - i) f (o + i)) (0 + 1) * t = L2.Cn (hf + t * hf) n f o * (1 - (hf + t * hf)) + L2.Cn (hf + t * hf) n f (o + 1) * (hf + t * hf)
   have e0 : L2.Cn t n (fun i => L2.Cn hf (n + 1 - i) f (o + i)) 0 = L2.Cn t n (fun i => L2.Cn hf (n - i) (fun j => f j * (1 - hf) + f (j + 1) * hf) (o + i)) 0 := by
    refine L2.BU t _ _ fun j hj => ?_
    show L2.Cn hf (n + 1 - (0 + j)) f _ = L2.Cn hf (n - (0 + j)) _ _
    rw [show n + 1 - (0 + j) = (n - (0 + j)) + 1 by lia, EO]
   have e1 : L2.Cn t n (fun i => L2.Cn hf (n + 1 - i) f (o + i)) (0 + 1) = L2.Cn t n (fun i => L2.Cn hf (n - i) f (o + 1 + i)) 0 := by
    rw [show 0 + 1 = 1 + 0 from rfl, HD]
    refine L2.BU t _ _ fun j hj => ?_
    show L2.Cn hf (n + 1 - (1 + (0 + j))) f (o + (1 + (0 + j))) = L2.Cn hf (n - (0 + j)) f (o + 1 + (0 + j))
    rw [show n + 1 - (1 + (0 + j)) = n - (0 + j) by lia, show o + (1 + (0 + j)) = o + 1 + (0 + j) by lia]
   rw [e0, e1, h0, h1, HE, IU]
   have := hf2
   grind
def En : Nat → (Nat → Rat) → Nat → Rat
 | 0, f, i => f i
 | k + 1, f, i => En k f (i + 1) - En k f i
theorem J3 (a b : Nat → Rat) : ∀ k i, L2.An k (fun m => a m - b m) i = L2.An k a i - L2.An k b i
 | 0, _ => rfl
 | k + 1, i => by
   show L2.An k _ i + L2.An k _ (i + 1) = (L2.An k a i + L2.An k a (i + 1)) - (L2.An k b i + L2.An k b (i + 1))
   rw [J3 a b k i, J3 a b k (i + 1)]; grind
theorem HF (g : Nat → Rat) : ∀ k i, L2.An k (fun m => g (m + 1)) i = L2.An k g (i + 1)
 | 0, _ => rfl
 | k + 1, i => by
   show L2.An k _ i + L2.An k _ (i + 1) = L2.An k g (i + 1) + L2.An k g (i + 1 + 1)
   rw [HF g k i, HF g k (i + 1)]
theorem JO (f : Nat → Rat) : ∀ j i, L2.An j (fun m => En m f i) 0 = f (i + j)
 | 0, _ => rfl
 | j + 1, i => by
   show L2.An j (fun m => En m f i) 0 + L2.An j (fun m => En m f i) (0 + 1) = _
   rw [← HF (fun m => En m f i) j 0]
   show L2.An j (fun m => En m f i) 0 + L2.An j (fun m => En m f (i + 1) - En m f i) 0 = _
   rw [J3, JO f j (i + 1), show i + (j + 1) = i + 1 + j by lia]; grind
theorem Ef {f g : Nat → Rat} : ∀ k n, (∀ j, j ≤ k → f (n + j) = g (n + j)) → L2.An k f n = L2.An k g n
 | 0, n, h => h 0 (R8 _)
 | k + 1, n, h => by
   show L2.An k f n + L2.An k f (n + 1) = L2.An k g n + L2.An k g (n + 1)
   rw [Ef (f := f) (g := g) k (n + 1) fun j hj => by
    have := h (j + 1) (by lia)
    rw [show n + 1 + j = n + (j + 1) by lia]; exact this,
    Ef (f := f) (g := g) k n fun j hj => h j (by lia)]
theorem JI (n : Nat) (f : Nat → Rat) (t : Rat) : L2.Cn t n f 0 = Cv.ev ((QP (n + 1)).map fun i => ((L2.ch n i : Nat) : Rat) * En i f 0) t := by
 have e1 : L2.Cn t n f 0 = L2.Cn t n (fun j => L2.An j (fun m => En m f 0) 0) 0 := L2.BU t _ _ fun j _ => by
  show f (0 + j) = L2.An (0 + j) _ 0
  rw [JO, T3, T3]
 rw [e1, L2.E6]
 show L2.Bn t n (fun m => En m f 0) 0 = _
 rw [L2.JN, L2.ND, Rx, SX]
 refine L2.DB t _ fun i hi => ?_
 show _ * En (0 + i) f 0 = _
 rw [Sl, Ru, SY hi, T3]; rfl
theorem NI {n k : Nat} (h : k ≤ n) : ((L2.ch n k : Nat) : Rat) ≠ 0 := fun z => by
 have hp := L2.Ho n k h
 have : L2.ch n k = 0 := by exact_mod_cast z
 lia
theorem FA {n : Nat} {f g : Nat → Rat} (h : ∀ t, L2.Cn t n f 0 = L2.Cn t n g 0) : ∀ j, j ≤ n → f j = g j := fun j hj => by
 have hE : ∀ m, m ≤ n → En m f 0 = En m g 0 := fun m hm => by
  have e := L2.Fy (l := (QP (n + 1)).map fun i => ((L2.ch n i : Nat) : Rat) * En i f 0) (m := (QP (n + 1)).map fun i => ((L2.ch n i : Nat) : Rat) * En i g 0) (fun k => by rw [← JI, ← JI, h]) m
  rw [Sl, Sl, Ru, Ru, SY (by lia)] at e
  have e : ((L2.ch n m : Nat) : Rat) * En m f 0 = ((L2.ch n m : Nat) : Rat) * En m g 0 := e
  have h0 := NI hm
  have e2 : ((L2.ch n m : Nat) : Rat) * (En m f 0 - En m g 0) = 0 := by grind
  rcases Sh.mp e2 with z | z
  ·exact absurd z h0
  ·grind
 have a := JO f j 0
 have b := JO g j 0
 rw [T3] at a b
 rw [← a, ← b]
 exact Ef j 0 fun m hm => by rw [T3]; exact hE m (by lia)
def FW (hs : List Rat) : List Rat := (QP hs.length).map fun i => L2.Cn hf i (fun k => hs.getD k 0) 0
def upL (hs : List Rat) : List Rat := (QP hs.length).map fun i => L2.Cn hf (hs.length - 1 - i) (fun k => hs.getD k 0) i
theorem Ib (hs : List Rat) : (FW hs).length = hs.length := by unfold FW; rw [Rx, SX]
theorem Iv (hs : List Rat) : (upL hs).length = hs.length := by unfold upL; rw [Rx, SX]
theorem Mg {hs : List Rat} {i : Nat} (h : i < hs.length) : (FW hs).getD i 0 = L2.Cn hf i (fun k => hs.getD k 0) 0 := by
 unfold FW; rw [Sl, Ru, SY h]; rfl
theorem MR {hs : List Rat} {i : Nat} (h : i < hs.length) : (upL hs).getD i 0 = L2.Cn hf (hs.length - 1 - i) (fun k => hs.getD k 0) i := by
 unfold upL; rw [Sl, Ru, SY h]; rfl
theorem Hh {l m : List Rat} (hl : l.length = m.length) (h : ∀ j, j < l.length → l.getD j 0 = m.getD j 0) : l = m := by
 apply Sm
 intro i
 by_cases hi : i < l.length
 ·have := h i hi
  rw [Sl, Sl, Sv hi, Sv (by lia)] at this
  rw [Sv hi, Sv (by lia)]
  exact congrArg some this
 ·rw [SV (by lia), SV (by lia)]
theorem Fu (cs : List Rat) (lo hi t : Rat) : L2.Cn t ((L2.hts cs lo hi).length - 1) (fun k => (L2.hts cs lo hi).getD k 0) 0 = Cv.ev cs (lo + (hi - lo) * t) := by
 rw [← L2.K5, L2.JG _ _ _ _ (by rw [L2.Bz]; lia)]
theorem Mn (cs : List Rat) (lo hi : Rat) : L2.hts cs lo ((lo + hi) * hf) = FW (L2.hts cs lo hi) := by
 have l1 := L2.Bz cs lo ((lo + hi) * hf)
 have l2 := L2.Bz cs lo hi
 refine Hh (by rw [Ib]; lia) fun j hj => ?_
 refine FA (n := (L2.hts cs lo hi).length - 1) (f := fun k => (L2.hts cs lo ((lo + hi) * hf)).getD k 0) (g := fun k => (FW (L2.hts cs lo hi)).getD k 0) (fun t => ?_) j (by lia)
 have e1 := Fu cs lo ((lo + hi) * hf) t
 rw [show (L2.hts cs lo ((lo + hi) * hf)).length - 1 = (L2.hts cs lo hi).length - 1 by lia] at e1
 rw [e1]
 have e2 : L2.Cn t ((L2.hts cs lo hi).length - 1) (fun k => (FW (L2.hts cs lo hi)).getD k 0) 0 = L2.Cn t ((L2.hts cs lo hi).length - 1) (fun i => L2.Cn hf i (fun k => (L2.hts cs lo hi).getD k 0) 0) 0 := L2.BU t _ _ fun i hi' => by
  show (FW (L2.hts cs lo hi)).getD (0 + i) 0 = L2.Cn hf (0 + i) _ 0
  exact Mg (by lia)
 rw [e2, Fp, Fu]
 congr 1
 have := hf2
 grind
theorem Nz (cs : List Rat) (lo hi : Rat) : L2.hts cs ((lo + hi) * hf) hi = upL (L2.hts cs lo hi) := by
 have l1 := L2.Bz cs ((lo + hi) * hf) hi
 have l2 := L2.Bz cs lo hi
 refine Hh (by rw [Iv]; lia) fun j hj => ?_
 refine FA (n := (L2.hts cs lo hi).length - 1) (f := fun k => (L2.hts cs ((lo + hi) * hf) hi).getD k 0) (g := fun k => (upL (L2.hts cs lo hi)).getD k 0) (fun t => ?_) j (by lia)
 have e1 := Fu cs ((lo + hi) * hf) hi t
 rw [show (L2.hts cs ((lo + hi) * hf) hi).length - 1 = (L2.hts cs lo hi).length - 1 by lia] at e1
 rw [e1]
 have e2 : L2.Cn t ((L2.hts cs lo hi).length - 1) (fun k => (upL (L2.hts cs lo hi)).getD k 0) 0 = L2.Cn t ((L2.hts cs lo hi).length - 1) (fun i => L2.Cn hf ((L2.hts cs lo hi).length - 1 - i) (fun k => (L2.hts cs lo hi).getD k 0) (0 + i)) 0 := L2.BU t _ _ fun i hi' => by
  show (upL (L2.hts cs lo hi)).getD (0 + i) 0 = L2.Cn hf (_ - (0 + i)) _ (0 + (0 + i))
  rw [MR (by lia), T3, T3]
 rw [e2, Gy, Fu]
 congr 1
 have := hf2
 grind
theorem J8 (ts : List Int) : ∀ k i, i + k < ts.length → (((L2.aIN k ts).getD i 0 : Int) : Rat) = L2.An k (fun n => ((ts.getD n 0 : Int) : Rat)) i
 | 0, _, _ => rfl
 | k + 1, i, h => by
   have h0 := J8 ts k i (by lia)
   have h1 := J8 ts k (i + 1) (by lia)
   have hl := L2.DC ts k
   show (((L2.aI (L2.aIN k ts)).getD i 0 : Int) : Rat) = L2.An k _ i + L2.An k _ (i + 1)
   rw [← h0, ← h1, ← RZ]
   congr 1
   unfold L2.aI
   rw [Sl, Ru, SY (by lia)]; rfl
theorem FG (b : Rat) (f : Nat → Rat) : ∀ k i, L2.An k (fun n => f n * b) i = L2.An k f i * b
 | 0, _ => rfl
 | k + 1, i => by
   show L2.An k _ i + L2.An k _ (i + 1) = (L2.An k f i + L2.An k f (i + 1)) * b
   rw [FG b f k i, FG b f k (i + 1)]; grind
theorem LQ (f : Nat → Rat) : ∀ k i, L2.Cn hf k f i * (2 : Rat) ^ k = L2.An k f i
 | 0, i => by show f i * 2 ^ 0 = f i; rw [S6]; grind
 | k + 1, i => by
   show (L2.Cn hf k f i * (1 - hf) + L2.Cn hf k f (i + 1) * hf) * 2 ^ (k + 1) = L2.An k f i + L2.An k f (i + 1)
   rw [IU, ← LQ f k i, ← LQ f k (i + 1), S7]
   have e : hf * 2 = 1 := by have := hf2; grind
   have e2 : ∀ a b c : Rat, (a * hf + b * hf) * (c * 2) = (a * c + b * c) * (hf * 2) := fun a b c => by grind
   rw [e2, e, To]
def mb (n : Nat) : Nat → Nat
 | 0 => n
 | k + 1 => 2 * mb n k + 3
def CB (ts : List Int) (i : Nat) : List Int := (QP i).map fun j => 2 ^ (i - 1 - j) * (L2.aIN j ts).getD 0 0
def upI (ts : List Int) (i : Nat) : List Int := (QP i).map fun j => 2 ^ j * (L2.aIN (i - 1 - j) ts).getD (ts.length - 1 - (i - 1 - j)) 0
theorem K0 (ts : List Int) (i : Nat) : (CB ts i).map (fun z => 2 * z) ++ [(L2.aIN i ts).getD 0 0] = CB ts (i + 1) := by
 unfold CB
 rw [U0, Se, T5]
 congr 1
 ·refine T6 fun j hj => ?_
  have hj := QS.mp hj
  show 2 * (2 ^ (i - 1 - j) * _) = 2 ^ (i + 1 - 1 - j) * _
  rw [show i + 1 - 1 - j = (i - 1 - j) + 1 by lia, SS, ← Ta, T9 2]
 ·show [_] = [2 ^ (i + 1 - 1 - i) * _]
  rw [show i + 1 - 1 - i = 0 by lia, SR, RU]
theorem Kk (ts : List Int) (i : Nat) : [(L2.aIN i ts).getD (ts.length - 1 - i) 0] ++ (upI ts i).map (fun z => 2 * z) = upI ts (i + 1) := by
 unfold upI
 rw [List.range_succ_eq_map, RL, T5, T5]
 show _ :: _ = (2 ^ 0 * (L2.aIN (i + 1 - 1 - 0) ts).getD (ts.length - 1 - (i + 1 - 1 - 0)) 0) :: _
 rw [SR, RU, show i + 1 - 1 - 0 = i by lia]
 congr 1
 refine T6 fun j hj => ?_
 have hj := QS.mp hj
 show 2 * (2 ^ j * _) = 2 ^ (j + 1) * (L2.aIN (i + 1 - 1 - (j + 1)) ts).getD (ts.length - 1 - (i + 1 - 1 - (j + 1))) 0
 rw [show i + 1 - 1 - (j + 1) = i - 1 - j by lia, SS, ← Ta, T9 2]
inductive GB (K : QT) (vs : List V) (H : Hp) (Q : VK) (E_3 : XK) : Prop
 | mk (l : Addr) (ts : List Int) (h1 : vs = [.ref l]) (h2 : SqL K H l (ts.map V.int)) (h3 : ts.length ≤ 20) (h4 : ∀ (t la lb : Addr) (H' : Hp), Ag H H' → H' t = some (.tup [.ref la, .ref lb]) → H' la = some (.lst ((CB ts ts.length).map V.int)) → H' lb = some (.lst ((upI ts ts.length).map V.int)) → Q (.ref t) H') : GB K vs H Q E_3
def chF : Int → List Int → Nat
 | _, [] => 0
 | l, t :: r => if t = 0 then chF l r else (if l * t < 0 then 1 else 0) + chF t r
def adj : List Int → Nat
 | a :: b :: r => (if (decide (0 < b) != decide (0 < a)) = true then 1 else 0) + adj (b :: r)
 | _ => 0
theorem J0 (l : Int) (hl : l ≠ 0) : ∀ ts : List Int, chF l ts = adj (l :: ts.filter (fun t => decide (t ≠ 0)))
 | [] => rfl
 | t :: r => by
   unfold chF
   by_cases h : t = 0
   ·rw [if_pos h, J0 l hl r, U1 (by simp [h])]
   ·rw [if_neg h, J0 t h r, U2 (by simp [h])]
    show _ = (if (decide (0 < t) != decide (0 < l)) = true then 1 else 0) + adj (t :: r.filter fun t => decide (t ≠ 0))
    congr 1
    by_cases h1 : 0 < t
    ·by_cases h2 : 0 < l
     ·rw [decide_eq_true h1, decide_eq_true h2, if_neg (by have := TK h2 h1; lia)]; rfl
     ·rw [decide_eq_true h1, decide_eq_false h2, if_pos (Int.mul_neg_of_neg_of_pos (by lia) h1)]; rfl
    ·by_cases h2 : 0 < l
     ·rw [decide_eq_false h1, decide_eq_true h2, if_pos (TJ h2 (by lia))]; rfl
     ·rw [decide_eq_false h1, decide_eq_false h2, if_neg (by have := U3 (show l < 0 by lia) (show t < 0 by lia); lia)]; rfl
theorem LL : ∀ ts : List Int, chF 0 ts = adj (ts.filter (fun t => decide (t ≠ 0)))
 | [] => rfl
 | t :: r => by
   unfold chF
   by_cases h : t = 0
   ·rw [if_pos h, LL r, U1 (by simp [h])]
   ·rw [if_neg h, J0 t h r, U2 (by simp [h]), Int.zero_mul, if_neg (by decide), T3]
theorem Io (a b : Int) : ∀ l : List Int, adj (l ++ [a, b]) = adj (l ++ [a]) + (if (decide (0 < b) != decide (0 < a)) = true then 1 else 0)
 | [] => by show _ + adj [b] = adj [a] + _; rw [Nat.add_comm]; rfl
 | [c] => by
   show _ + (_ + adj [b]) = (_ + adj [a]) + _
   show _ + (_ + 0) = (_ + 0) + _
   lia
 | c :: d :: r => by
   have ih := Io a b (d :: r)
   show _ + adj ((d :: r) ++ [a, b]) = (_ + adj ((d :: r) ++ [a])) + _
   rw [ih]; lia
theorem Je {a b c d : Int} (h1 : a.sign = c.sign) (h2 : b.sign = d.sign) : (a * b < 0) ↔ (c * d < 0) := by
 rw [← Int.sign_eq_neg_one_iff_neg, ← Int.sign_eq_neg_one_iff_neg, Int.sign_mul, Int.sign_mul, h1, h2]
theorem Hs : ∀ {ts us : List Int} {l m : Int}, l.sign = m.sign → Paired (fun a b : Int => a.sign = b.sign) ts us → chF l ts = chF m us
 | _, _, _, _, _, .nil => rfl
 | _, _, l, m, h, .cons (a := a) (b := b) h1 t => by
   unfold chF
   have e : (a = 0) ↔ (b = 0) := by rw [← Int.sign_eq_zero_iff_zero, h1, Int.sign_eq_zero_iff_zero]
   by_cases ha : a = 0
   ·rw [if_pos ha, if_pos (e.mp ha)]; exact Hs h t
   ·rw [if_neg ha, if_neg (fun z => ha (e.mpr z)), Hs h1 t]
    by_cases hm : l * a < 0
    ·rw [if_pos hm, if_pos ((Je h h1).mp hm)]
    ·rw [if_neg hm, if_neg fun z => hm ((Je h h1).mpr z)]
def VQ (hs : List Rat) : Nat := chF 0 (hs.map (·.num))
theorem MX {t : Int} {q B : Rat} (hB : 0 < B) (h : (t : Rat) = q * B) : t.sign = q.num.sign := by
 rcases Int.lt_trichotomy q.num 0 with z | z | z
 ·have hq : q < 0 := by
   have : ¬ 0 ≤ q := fun h => by have := TV.mpr h; lia
   grind
  have : q * B < 0 := by
   have := TY (a := -q) (b := B) (by grind) hB
   grind
  have ht : t < 0 := by
   have h0 : (t : Rat) < ((0 : Int) : Rat) := by rw [h]; exact this
   exact U4.mp h0
  rw [RT ht, RT z]
 ·have hq : q = 0 := TU.mp z
  rw [hq, Tw] at h
  have ht : t = 0 := by
   have h0 : (t : Rat) = ((0 : Int) : Rat) := h
   exact Rat.intCast_inj.mp h0
  rw [ht, z]
 ·have hq : 0 < q := GO (TV.mp (by lia)) (by lia)
  have ht : 0 < t := by
   have h0 : ((0 : Int) : Rat) < (t : Rat) := by rw [h]; exact TY hq hB
   exact U4.mp h0
  rw [RV ht, RV z]
def Tp (ts : List Int) (hs : List Rat) : Prop := ∃ B : Rat, 0 < B ∧ Paired (fun (t : Int) (q : Rat) => (t : Rat) = q * B) ts hs
theorem Fe {α β γ : Type} {F : α → β → Prop} {G : α → γ → Prop} {f : β → γ} (h : ∀ a b, F a b → G a (f b)) : ∀ {l : List α} {m : List β}, Paired F l m → Paired G l (m.map f)
 | _, _, .nil => .nil
 | _, _, .cons x t => .cons (h _ _ x) (Fe h t)
theorem Tp.chg {ts : List Int} {hs : List Rat} (h : Tp ts hs) : chF 0 ts = VQ hs := by
 obtain ⟨B, hB, p⟩ := h
 exact Hs rfl (Fe (G := fun (a b : Int) => a.sign = b.sign) (f := fun q : Rat => q.num) (fun a b e => MX hB e) p)
theorem DZ {α β : Type} {F : α → β → Prop} {f : Nat → α} {g : Nat → β} (n : Nat) (h : ∀ j, j < n → F (f j) (g j)) : Paired F ((QP n).map f) ((QP n).map g) := by
 induction n with
 | zero => exact .nil
 | succ n ih =>
   rw [U0, Se, Se]
   exact Paired.snoc (ih fun j hj => h j (by lia)) (h n (by lia))
theorem Tp.at {ts : List Int} {hs : List Rat} {B : Rat} (p : Paired (fun (t : Int) (q : Rat) => (t : Rat) = q * B) ts hs) {j : Nat} (hj : j < ts.length) : ((ts.getD j 0 : Int) : Rat) = hs.getD j 0 * B := by
 obtain ⟨q, hq, e⟩ := Paired.get p (Bf hj)
 rw [Sl (l := hs), hq]
 exact e
theorem HQ (n : Nat) : (0 : Rat) < 2 ^ n := by
 induction n with
 | zero => rw [S6]; decide
 | succ n ih => rw [S7]; exact TY ih (by decide)
theorem Jv {ts : List Int} {f : Nat → Rat} {B : Rat} (hf' : ∀ j, j < ts.length → ((ts.getD j 0 : Int) : Rat) = f j * B) {k i : Nat} (h : i + k < ts.length) {e N : Nat} (hN : N = e + k) : ((2 ^ e * (L2.aIN k ts).getD i 0 : Int) : Rat) = L2.Cn hf k f i * (B * 2 ^ N) := by
 rw [S5, J8 ts k i h]
 have e1 : L2.An k (fun n => ((ts.getD n 0 : Int) : Rat)) i = L2.An k f i * B := by
  rw [← FG]
  exact Ef k i fun j hj => hf' (i + j) (by lia)
 rw [e1, ← LQ f k i, hN, Rat.intCast_pow, Nm.pow_add]
 have z : ((2 : Int) : Rat) = 2 := rfl
 rw [z]; grind
theorem Tp.low {ts : List Int} {hs : List Rat} (h : Tp ts hs) : Tp (CB ts ts.length) (FW hs) := by
 obtain ⟨B, hB, p⟩ := h
 have hl := p.length
 refine ⟨B * 2 ^ (ts.length - 1), TY hB (HQ _), ?_⟩
 unfold CB FW
 rw [← hl]
 exact DZ _ fun j hj => Jv (f := fun k => hs.getD k 0) (fun j hj => Tp.at p hj) (by lia) (by lia)
theorem Tp.up {ts : List Int} {hs : List Rat} (h : Tp ts hs) : Tp (upI ts ts.length) (upL hs) := by
 obtain ⟨B, hB, p⟩ := h
 have hl := p.length
 refine ⟨B * 2 ^ (ts.length - 1), TY hB (HQ _), ?_⟩
 unfold upI upL
 rw [← hl]
 exact DZ _ fun j hj => by
  rw [show ts.length - 1 - (ts.length - 1 - j) = j by lia]
  exact Jv (f := fun k => hs.getD k 0) (fun j hj => Tp.at p hj) (by lia) (by lia)
abbrev Pc := Rat × Rat × Nat
def one (cs : List Rat) (lo hi : Rat) : Pc := (lo, hi, VQ (L2.hts cs lo hi))
def pcs (cs : List Rat) : Nat → Rat → Rat → Option (List Pc)
 | 0, lo, hi => if VQ (L2.hts cs lo hi) < 2 then some [one cs lo hi] else none
 | n + 1, lo, hi => if VQ (L2.hts cs lo hi) < 2 then some [one cs lo hi] else
   match pcs cs n lo ((lo + hi) * hf) with
   | none => none
   | some a => match pcs cs n ((lo + hi) * hf) hi with
     | none => none
     | some b => some (a ++ b)
theorem Dz {cs : List Rat} {n : Nat} {lo hi : Rat} (h : VQ (L2.hts cs lo hi) < 2) : pcs cs n lo hi = some [one cs lo hi] := by cases n <;> (unfold pcs; rw [if_pos h])
theorem DY {cs : List Rat} {lo hi : Rat} (h : ¬ VQ (L2.hts cs lo hi) < 2) : pcs cs 0 lo hi = none := by unfold pcs; rw [if_neg h]
theorem Dk {cs : List Rat} {n : Nat} {lo hi : Rat} (h : ¬ VQ (L2.hts cs lo hi) < 2) : pcs cs (n + 1) lo hi = match pcs cs n lo ((lo + hi) * hf) with
 | none => none
 | some a => match pcs cs n ((lo + hi) * hf) hi with
   | none => none
   | some b => some (a ++ b) := by rw [pcs, if_neg h]
theorem GV (cs : List Rat) : ∀ (n : Nat) (lo hi : Rat) (l : List Pc), pcs cs n lo hi = some l → 1 ≤ l.length ∧ l.length ≤ 2 ^ n
 | n, lo, hi, l => fun e => by
   by_cases h : VQ (L2.hts cs lo hi) < 2
   ·rw [Dz h] at e
    cases e
    exact ⟨R8 _, SW⟩
   ·cases n with
    | zero => rw [DY h] at e; cases e
    | succ n =>
      rw [Dk h] at e
      cases ha : pcs cs n lo ((lo + hi) * hf) with
      | none => rw [ha] at e; cases e
      | some a =>
        cases hb : pcs cs n ((lo + hi) * hf) hi with
        | none => rw [ha, hb] at e; cases e
        | some b =>
          rw [ha, hb] at e
          cases e
          have h1 := GV cs n _ _ a ha
          have h2 := GV cs n _ _ b hb
          rw [Rw, SA]
          lia
abbrev Wt := Rat × Rat × Nat
def com (cs : List Rat) : List Wt → Option (List Pc)
 | [] => some []
 | t :: r => match pcs cs (16 - t.2.2) t.1 t.2.1 with
   | none => none
   | some a => match com cs r with
     | none => none
     | some b => some (a ++ b)
theorem Mu {cs : List Rat} {lo hi : Rat} {d : Nat} {r : List Wt} (h : VQ (L2.hts cs lo hi) < 2) : com cs ((lo, hi, d) :: r) = (com cs r).map ([one cs lo hi] ++ ·) := by
 show (match pcs cs (16 - d) lo hi with | none => none | some a => match com cs r with | none => none | some b => some (a ++ b)) = _
 rw [Dz h]
 cases com cs r <;> rfl
theorem LC {cs : List Rat} {lo hi : Rat} {r : List Wt} (h : ¬ VQ (L2.hts cs lo hi) < 2) : com cs ((lo, hi, 16) :: r) = none := by
 show (match pcs cs 0 lo hi with | none => none | some a => match com cs r with | none => none | some b => some (a ++ b)) = none
 rw [DY h]
theorem LD {cs : List Rat} {lo hi : Rat} {d : Nat} {r : List Wt} (hd : d < 16) (h : ¬ VQ (L2.hts cs lo hi) < 2) : com cs ((lo, hi, d) :: r) = com cs ((lo, (lo + hi) * hf, d + 1) :: ((lo + hi) * hf, hi, d + 1) :: r) := by
 obtain ⟨n, hn⟩ : ∃ n, 16 - d = n + 1 := ⟨15 - d, by lia⟩
 have hn' : 16 - (d + 1) = n := by lia
 show (match pcs cs (16 - d) lo hi with | none => none | some a => match com cs r with | none => none | some b => some (a ++ b)) = (match pcs cs (16 - (d + 1)) lo ((lo + hi) * hf) with | none => none | some a => match (match pcs cs (16 - (d + 1)) ((lo + hi) * hf) hi with | none => none | some a => match com cs r with | none => none | some b => some (a ++ b)) with | none => none | some b => some (a ++ b))
 rw [hn, hn', Dk h]
 cases pcs cs n lo ((lo + hi) * hf) with
 | none => rfl
 | some a =>
   cases pcs cs n ((lo + hi) * hf) hi with
   | none => rfl
   | some b =>
     cases com cs r with
     | none => rfl
     | some c => show some (a ++ b ++ c) = some (a ++ (b ++ c)); rw [RI]
def wgt : List Wt → Nat
 | [] => 0
 | t :: r => 2 ^ (18 - t.2.2) - 1 + wgt r
def Dy (D : Int) (d : Nat) (x : Rat) : Prop := ∃ p : Int, x * ((D : Rat) * 2 ^ d) = (p : Rat) ∧ p.natAbs ≤ 2 ^ (100 + d)
theorem Dy.next {D : Int} {d : Nat} {x : Rat} (h : Dy D d x) : Dy D (d + 1) x := by
 obtain ⟨p, e, b⟩ := h
 refine ⟨p * 2, ?_, ?_⟩
 ·rw [S5, ← e, S7]
  have z : ((2 : Int) : Rat) = 2 := rfl
  rw [z]; grind
 ·rw [Sy, show 100 + (d + 1) = 100 + d + 1 by lia, SA]
  exact Tr b (by decide)
theorem Dy.mid {D : Int} {d : Nat} {x y : Rat} (h1 : Dy D d x) (h2 : Dy D d y) : Dy D (d + 1) ((x + y) * hf) := by
 obtain ⟨p, e, b⟩ := h1
 obtain ⟨q, e2, b2⟩ := h2
 refine ⟨p + q, ?_, ?_⟩
 ·rw [RZ, ← e, ← e2, S7]
  have : hf * 2 = 1 := by have := hf2; grind
  have e3 : (x + y) * hf * ((D : Rat) * (2 ^ d * 2)) = (x + y) * ((D : Rat) * 2 ^ d) * (hf * 2) := by grind
  rw [e3, this]; grind
 ·rw [show 100 + (d + 1) = 100 + d + 1 by lia, SA]
  lia
theorem Dy.rb {D : Int} {d : Nat} {x : Rat} (h : Dy D d x) (h0 : 0 < D) (h1 : D ≤ 2 ^ 40) (hd : d ≤ 17) : RB 120 x := by
 obtain ⟨p, e, b⟩ := h
 have p1 : (2 : Nat) ^ (100 + d) ≤ 2 ^ 117 := Sx (by decide) (by lia)
 have p2 : (2 : Int) ^ d ≤ 2 ^ 17 := by
  have : (2 : Nat) ^ d ≤ 2 ^ 17 := Sx (by decide) hd
  exact_mod_cast this
 have p3 : (0 : Int) < 2 ^ d := Int.pow_pos (by decide)
 have p4 : D * 2 ^ d ≤ 2 ^ 40 * 2 ^ 17 := Int.mul_le_mul h1 p2 (by lia) (by decide)
 have p5 : 0 < D * 2 ^ d := TK h0 p3
 have z : x = RS p (D * 2 ^ d) := (Nm.div_eq (by lia) (by rw [← e, S5, Rat.intCast_pow]; rfl)).symm
 rw [z]
 exact RB.div (m := 0) (by unfold Bd; lia) (by unfold Bd; lia) (by lia)
theorem Dy.start2 {x y : Rat} (h1 : RB 80 x) (k1 : Bd 20 (x.den : Int)) (h2 : RB 80 y) (k2 : Bd 20 (y.den : Int)) : ∃ D : Int, 0 < D ∧ D ≤ 2 ^ 40 ∧ Dy D 0 x ∧ Dy D 0 y := by
 have a1 : x.num.natAbs < 2 ^ 80 := h1.1
 have a2 : ((x.den : Int)).natAbs < 2 ^ 20 := k1
 have b1 : y.num.natAbs < 2 ^ 80 := h2.1
 have b2 : ((y.den : Int)).natAbs < 2 ^ 20 := k2
 have hd : 0 < x.den := x.den_pos
 have he : 0 < y.den := y.den_pos
 have m1 : (x.den : Int) * (y.den : Int) ≤ 2 ^ 20 * 2 ^ 20 := Int.mul_le_mul (by lia) (by lia) (by lia) (by decide)
 have n1 := Nm.num_mul x
 have n2 := Nm.num_mul y
 refine ⟨(x.den : Int) * (y.den : Int), TK (by lia) (by lia), by lia, ⟨x.num * (y.den : Int), ?_, ?_⟩, ⟨y.num * (x.den : Int), ?_, ?_⟩⟩
 ·rw [S6, To, S5, S5, n1]; grind
 ·rw [Sy]
  exact QU (Tr (show _ ≤ 2 ^ 80 by lia) (show _ ≤ 2 ^ 20 by lia)) (by decide)
 ·rw [S6, To, S5, S5, n2]; grind
 ·rw [Sy]
  exact QU (Tr (show _ ≤ 2 ^ 80 by lia) (show _ ≤ 2 ^ 20 by lia)) (by decide)
theorem Ml {lo : Int} {n : Nat} {js : List Nat} {tc : TT} {te : TE} {σ : St} {H : Hp} {Fin : List V → Hp → Prop} (Pv : Nat → List V → Hp → Prop) (h0 : Pv 0 [] H) (hl : ∀ i zs H, i ≤ n → Pv i zs H → zs.length ≤ i) (hz : n ≤ sizeLine)
 (hs : ∀ i zs H, i < n → Pv i zs H → tc ((cS 1 js σ).set 0 (some (.int (lo + i)))) H fun b H3 => if b = true then te ((cS 1 js σ).set 0 (some (.int (lo + i)))) H3 fun y H4 => Pv (i + 1) (zs ++ [y]) H4 else Pv (i + 1) zs H3) (fin : ∀ zs H', Pv n zs H' → Fin zs H') :
 ∃ (n' : Nat) (W : Nat → List V → Hp → Prop), W 0 [] H ∧ LcW (Itr lo n) n' 1 js σ (BW 0) tc te Fin W := by
 refine ⟨n, Pv, h0, ⟨?_, ?_, ?_⟩⟩
 ·intro i zs H' hi p
  have := hl i zs H' (QV hi) p
  exact ⟨hi, by lia⟩
 ·rintro i zs H' x H1 hi p ⟨rfl, rfl⟩
  exact hs i zs _ hi p
 ·intro zs H' p
  have := hl n zs H' (R8 _) p
  exact ⟨R8 _, by lia, fin zs H' p⟩
theorem LK {l : List Int} {i : Nat} (h : i + 1 < l.length) : adj (l.take (i + 2)) = adj (l.take (i + 1)) + (if (decide (0 < l.getD (i + 1) 0) != decide (0 < l.getD i 0)) = true then 1 else 0) := by
 have e1 : l.take (i + 1) = l.take i ++ [l.getD i 0] := by rw [Sd, Bf (by lia)]; rfl
 have e2 : l.take (i + 2) = l.take i ++ [l.getD i 0, l.getD (i + 1) 0] := by rw [Sd, e1, Bf h]; simp
 rw [e1, e2, Io]
inductive M0 (K : QT) (vs : List V) (H : Hp) (Q : VK) (E_3 : XK) : Prop
 | mk (l : Addr) (ts : List Int) (h1 : vs = [.ref l]) (h2 : SqL K H l (ts.map V.int)) (h3 : ts.length ≤ 1000) (h4 : ∀ H', Ag H H' → Q (.int ((chF 0 ts : Nat) : Int)) H') : M0 K vs H Q E_3
inductive CJ (K : QT) (vs : List V) (H : Hp) (Q : VK) (E_3 : XK) : Prop
 | mk (p rl rh rt : Addr) (lo hi : Rat) (ts : List Int) (d : Nat) (h1 : vs = [.ref p]) (h2 : SqT K H p [.ref rl, .ref rh, .ref rt, .int (d : Int)]) (h3 : Au K H (.ref rl) lo) (h4 : Au K H (.ref rh) hi) (h5 : RB 120 lo) (h6 : RB 120 hi) (h7 : H rt = some (.lst (ts.map V.int))) (h8 : ts.length ≤ 20) (h9 : d ≠ 16) (h10 : ∀ (u p1 p2 rm la lb : Addr) (H' : Hp), Ag H H' → H' u = some (.lst [.ref p1, .ref p2]) → SqT K H' p1 [.ref rm, .ref rh, .ref lb, .int ((d + 1 : Nat) : Int)] → SqT K H' p2 [.ref rl, .ref rm, .ref la, .int ((d + 1 : Nat) : Int)] → Au K H' (.ref rm) ((lo + hi) * hf) → H' la = some (.lst ((CB ts ts.length).map V.int)) → H' lb = some (.lst ((upI ts ts.length).map V.int)) → Q (.ref u) H') : CJ K vs H Q E_3
inductive Cs (K : QT) (C : Addr) (vs : List V) (H : Hp) (E_2 : VK) (E : XK) : Prop
 | mk (p : Addr) (x y z : V) (h1 : vs = [.ref p]) (h2 : SqT K H p [x, y, z, .int 16]) (h3 : E (.ref C) none H) : Cs K C vs H E_2 E
def PcV (K : QT) (H : Hp) (v : V) (t : Pc) : Prop := ∃ p rl rh : Addr, v = .ref p ∧ SqT K H p [.ref rl, .ref rh, .int ((t.2.2 : Nat) : Int)] ∧ Au K H (.ref rl) t.1 ∧ Au K H (.ref rh) t.2.1
abbrev Pcs (K : QT) (H : Hp) : List V → List Pc → Prop := Paired (PcV K H)
theorem PcV.same {K : QT} {H H' : Hp} {v : V} {t : Pc} (h : PcV K H v t) (s : Ag H H') : PcV K H' v t := let ⟨p, a, b, e, h1, h2, h3⟩ := h; ⟨p, a, b, e, h1.same s, h2.same s, h3.same s⟩
theorem PcV.put {K : QT} {H : Hp} {v : V} {t : Pc} {p : Addr} {ys : List V} {o : HO} (h : PcV K H v t) (hp : H p = some (.lst ys)) : PcV K (upd H p o) v t := let ⟨p, a, b, e, h1, h2, h3⟩ := h; ⟨p, a, b, e, h1.put hp, h2.put hp, h3.put hp⟩
theorem Pcs.same {K : QT} {H H' : Hp} {ys : List V} {ts : List Pc} (h : Pcs K H ys ts) (s : Ag H H') : Pcs K H' ys ts := Paired.mapP h fun _ _ z => z.same s
theorem Pcs.put {K : QT} {H : Hp} {ys : List V} {ts : List Pc} {p : Addr} {xs : List V} {o : HO} (h : Pcs K H ys ts) (hp : H p = some (.lst xs)) : Pcs K (upd H p o) ys ts := Paired.mapP h fun _ _ z => z.put hp
theorem Mf {H : Hp} {w a : Addr} {ws : List V} {ns : List Int} (h1 : H w = some (.lst ws)) (h2 : H a = some (.lst (ns.map V.int))) (hr : ∀ v ∈ ws, ∃ r, v = .ref r) (hn : ns ≠ []) : a ≠ w := fun z => by
 rw [z, h1] at h2
 have e : ws = ns.map V.int := HO.lst.inj (QK.inj h2)
 cases ns with
 | nil => exact hn rfl
 | cons t r =>
   obtain ⟨r, hr⟩ := hr (.int t) (by rw [e]; exact QX)
   cases hr
def PcI (K : QT) (cs : List Rat) (D : Int) (H : Hp) (v : V) (t : Wt) : Prop := ∃ (p rl rh rt : Addr) (ts : List Int), v = .ref p ∧ SqT K H p [.ref rl, .ref rh, .ref rt, .int ((t.2.2 : Nat) : Int)] ∧ Au K H (.ref rl) t.1 ∧ Au K H (.ref rh) t.2.1 ∧ H rt = some (.lst (ts.map V.int)) ∧ ts ≠ [] ∧ ts.length ≤ 20 ∧ Tp ts (L2.hts cs t.1 t.2.1) ∧ Dy D t.2.2 t.1 ∧ Dy D t.2.2 t.2.1 ∧ t.2.2 ≤ 16
theorem PcI.same {K : QT} {cs : List Rat} {D : Int} {H H' : Hp} {v : V} {t : Wt} (h : PcI K cs D H v t) (s : Ag H H') : PcI K cs D H' v t := let ⟨p, a, b, c, ts, e, h1, h2, h3, h4, h5⟩ := h; ⟨p, a, b, c, ts, e, h1.same s, h2.same s, h3.same s, s _ _ h4, h5⟩
theorem PcI.put {K : QT} {cs : List Rat} {D : Int} {H : Hp} {v : V} {t : Wt} {w : Addr} {ws : List V} {o : HO} (h : PcI K cs D H v t) (hw : H w = some (.lst ws)) (hr : ∀ v ∈ ws, ∃ r, v = .ref r) : PcI K cs D (upd H w o) v t := by
 obtain ⟨p, a, b, c, ts, e, h1, h2, h3, h4, h5, h6⟩ := h
 exact ⟨p, a, b, c, ts, e, h1.put hw, h2.put hw, h3.put hw, by rw [AB (Mf hw h4 hr h5)]; exact h4, h5, h6⟩
theorem PcI.refs {K : QT} {cs : List Rat} {D : Int} {H : Hp} {ws : List V} {st : List Wt} (h : Paired (PcI K cs D H) ws st) : ∀ v ∈ ws, ∃ r, v = .ref r := fun v hv => by
 obtain ⟨i, hi⟩ := Tu hv
 obtain ⟨t, _, p, _, _, _, _, e, _⟩ := Paired.get h hi
 exact ⟨p, e⟩
theorem Pcs.refs {K : QT} {H : Hp} {ys : List V} {ts : List Pc} (h : Pcs K H ys ts) : ∀ v ∈ ys, ∃ r, v = .ref r := fun v hv => by
 obtain ⟨i, hi⟩ := Tu hv
 obtain ⟨t, _, p, _, _, e, _⟩ := Paired.get h hi
 exact ⟨p, e⟩
theorem Ez {α β : Type} {F : α → β → Prop} {f : β → α} : ∀ l : List β, (∀ b ∈ l, F (f b) b) → Paired F (l.map f) l
 | [], _ => .nil
 | b :: r, h => .cons (h b QX) (Ez r fun c hc => h c (QY _ hc))
theorem J9 : ∀ st : List Wt, (∀ t ∈ st, t.2.2 ≤ 16) → st.length ≤ wgt st
 | [], _ => R8 _
 | t :: r, h => by
   have ih := J9 r fun c hc => h c (QY _ hc)
   have ht := h t QX
   have h2 : 2 ^ 2 ≤ 2 ^ (18 - t.2.2) := Sx (by decide) (by lia)
   show r.length + 1 ≤ 2 ^ (18 - t.2.2) - 1 + wgt r
   lia
theorem PcI.deep {K : QT} {cs : List Rat} {D : Int} {H : Hp} {ws : List V} {st : List Wt} (h : Paired (PcI K cs D H) ws st) : ∀ t ∈ st, t.2.2 ≤ 16 := fun t ht => by
 obtain ⟨i, hi⟩ := Tu ht
 obtain ⟨v, _, _, _, _, _, _, _, _, _, _, _, _, _, _, _, _, hd⟩ := Paired.get' h hi
 exact hd
theorem LS (d : Nat) (h : d < 16) : 2 ^ (18 - (d + 1)) - 1 + (2 ^ (18 - (d + 1)) - 1) < 2 ^ (18 - d) - 1 := by
 rw [show 18 - d = 18 - (d + 1) + 1 by lia, SA]
 have : 1 ≤ 2 ^ (18 - (d + 1)) := SW
 lia
theorem Kc (cs : List Rat) (lo hi : Rat) : pcs cs 16 lo hi = (com cs [(lo, hi, 0)]).map ([] ++ ·) := by
 show _ = (match pcs cs 16 lo hi with | none => none | some a => some (a ++ [])).map ([] ++ ·)
 cases pcs cs 16 lo hi with
 | none => rfl
 | some a => show _ = some ([] ++ (a ++ [])); rw [Ri, List.nil_append]
theorem map_map {o : Option (List Pc)} {f g : List Pc} : (o.map (g ++ ·)).map (f ++ ·) = o.map ((f ++ g) ++ ·) := by
 cases o with
 | none => rfl
 | some a => show some (f ++ (g ++ a)) = some (f ++ g ++ a); rw [RI]
theorem Ll (c b lo hi : Rat) : L2.hts [c, b, 1] lo hi = [Cv.ev [c, b, 1] lo, c + b * ((lo + hi) * hf) + lo * hi, Cv.ev [c, b, 1] hi] := by
 have hl := L2.Bz [c, b, 1] lo hi
 have hl : (L2.hts [c, b, 1] lo hi).length = 3 := hl
 refine Hh hl fun j hj => ?_
 refine FA (n := 2) (f := fun k => (L2.hts [c, b, 1] lo hi).getD k 0) (g := fun k => ([Cv.ev [c, b, 1] lo, c + b * ((lo + hi) * hf) + lo * hi, Cv.ev [c, b, 1] hi] : List Rat).getD k 0) (fun t => ?_) j (by lia)
 have e := Fu [c, b, 1] lo hi t
 rw [hl] at e
 rw [e]
 have ev3 : ∀ x, Cv.ev [c, b, 1] x = c + x * (b + x) := fun x => by show c + x * (b + x * ((1 : Rat) + x * 0)) = _; grind
 show Cv.ev [c, b, 1] (lo + (hi - lo) * t) = (Cv.ev [c, b, 1] lo * (1 - t) + (c + b * ((lo + hi) * hf) + lo * hi) * t) * (1 - t) + ((c + b * ((lo + hi) * hf) + lo * hi) * (1 - t) + Cv.ev [c, b, 1] hi * t) * t
 rw [ev3, ev3, ev3]
 obtain ⟨m, em⟩ : ∃ m, m = (lo + hi) * hf := ⟨_, rfl⟩
 have e2 : m + m = lo + hi := by
  have := hf2
  rw [em, ← Rat.mul_add, this, To]
 rw [← em]
 have eh : hi = m + m - lo := by grind
 subst eh
 grind
theorem OR {a b c : Int} (h : 2 ≤ chF 0 [a, b, c]) : (0 < a ∧ b < 0 ∧ 0 < c) ∨ (a < 0 ∧ 0 < b ∧ c < 0) := by
 have e : chF 0 [a, b, c] = if a = 0 then (if b = 0 then (if c = 0 then 0 else (if 0 * c < 0 then 1 else 0) + 0) else (if 0 * b < 0 then 1 else 0) + (if c = 0 then 0 else (if b * c < 0 then 1 else 0) + 0)) else (if 0 * a < 0 then 1 else 0) + (if b = 0 then (if c = 0 then 0 else (if a * c < 0 then 1 else 0) + 0) else (if a * b < 0 then 1 else 0) + (if c = 0 then 0 else (if b * c < 0 then 1 else 0) + 0)) := rfl
 rw [e] at h
 simp only [Int.zero_mul, show ¬ ((0 : Int) < 0) by decide, if_false] at h
 have k : ∀ (p : Prop) [Decidable p], (if p then 1 else 0 : Nat) ≤ 1 := fun p _ => by split <;> lia
 have k1 := k (b * c < 0)
 have k2 := k (a * b < 0)
 have k3 := k (a * c < 0)
 by_cases ha : a = 0
 ·rw [if_pos ha] at h
  exfalso
  split at h
  ·split at h <;> lia
  ·split at h <;> lia
 rw [if_neg ha] at h
 by_cases hb : b = 0
 ·rw [if_pos hb] at h
  exfalso
  split at h <;> lia
 rw [if_neg hb] at h
 by_cases hc : c = 0
 ·rw [if_pos hc] at h
  split at h <;> lia
 rw [if_neg hc] at h
 have h1 : a * b < 0 := by
  by_cases z : a * b < 0
  ·exact z
  ·rw [if_neg z] at h; split at h <;> lia
 have h2 : b * c < 0 := by
  by_cases z : b * c < 0
  ·exact z
  ·rw [if_neg z] at h; split at h <;> lia
 by_cases pa : 0 < a
 ·have pb : b < 0 := by
   have : ¬ 0 < b := fun z => by have := TK pa z; lia
   lia
  have pc : 0 < c := by
   have : ¬ c < 0 := fun z => by have := U3 pb z; lia
   lia
  exact .inl ⟨pa, pb, pc⟩
 ·have na : a < 0 := by lia
  have pb : 0 < b := by
   have : ¬ b < 0 := fun z => by have := U3 na z; lia
   lia
  have pc : c < 0 := by
   have : ¬ 0 < c := fun z => by have := TK pb z; lia
   lia
  exact .inr ⟨na, pb, pc⟩
theorem Ou {a b c : Int} (ha : 0 < a) (hb : b < 0) (hc : 0 < c) : chF 0 [a, b, c] = 2 := by
 have e : chF 0 [a, b, c] = if a = 0 then (if b = 0 then (if c = 0 then 0 else (if 0 * c < 0 then 1 else 0) + 0) else (if 0 * b < 0 then 1 else 0) + (if c = 0 then 0 else (if b * c < 0 then 1 else 0) + 0)) else (if 0 * a < 0 then 1 else 0) + (if b = 0 then (if c = 0 then 0 else (if a * c < 0 then 1 else 0) + 0) else (if a * b < 0 then 1 else 0) + (if c = 0 then 0 else (if b * c < 0 then 1 else 0) + 0)) := rfl
 rw [e, if_neg (by lia), Int.zero_mul, if_neg (by decide), if_neg (by lia), if_pos (TJ ha hb), if_neg (by lia), if_pos (Int.mul_neg_of_neg_of_pos hb hc)]
theorem Gf {q : Rat} : 0 < q.num ↔ 0 < q := by
 constructor
 ·intro h; exact GO (TV.mp (by lia)) (by lia)
 ·intro h
  have h1 := TV.mpr (U5 h)
  have h2 : q.num ≠ 0 := fun z => by have := TU.mp z; grind
  lia
theorem Jn {q : Rat} : q.num < 0 ↔ q < 0 := by
 have := Gf (q := -q)
 rw [Rat.neg_num] at this
 constructor
 ·intro h; have := this.mp (by lia); grind
 ·intro h; have := this.mpr (by grind); lia
theorem GP {x y lo hi : Rat} (hxy : x < y) (hlt : lo < hi) : 2 ≤ VQ (L2.hts [x * y, 0 - (x + y), 1] lo hi) ↔ lo < x ∧ y < hi := by
 have ev3 : ∀ z, Cv.ev [x * y, 0 - (x + y), 1] z = (z - x) * (z - y) := fun z => by show x * y + z * (0 - (x + y) + z * ((1 : Rat) + z * 0)) = _; grind
 have e1 : x * y + (0 - (x + y)) * ((lo + hi) * hf) + lo * hi = ((lo - x) * (hi - y) + (lo - y) * (hi - x)) * hf := by
  have := hf2
  have a : x * y + lo * hi = (x * y + lo * hi) * (hf + hf) := by rw [this, To]
  have b : x * y + (0 - (x + y)) * ((lo + hi) * hf) + lo * hi = (x * y + lo * hi) + (0 - (x + y)) * ((lo + hi) * hf) := by grind
  rw [b, a]; grind
 rw [Ll, ev3, ev3, e1]
 have hp : (0 : Rat) < hf := by decide
 have key : ∀ p q r : Rat, VQ [p, q, r] = chF 0 [p.num, q.num, r.num] := fun _ _ _ => rfl
 rw [key]
 obtain ⟨S, eS⟩ : ∃ S, S = (lo - x) * (hi - y) + (lo - y) * (hi - x) := ⟨_, rfl⟩
 rw [← eS]
 have sp : 0 < S * hf → 0 < S := fun h => by
  have : ¬ S ≤ 0 := fun z => by have := U6 (a := -S) (b := hf) (by grind) (U5 hp); grind
  grind
 have sn : S * hf < 0 → S < 0 := fun h => by
  have : ¬ 0 ≤ S := fun z => by have := U6 z (U5 hp); grind
  grind
 constructor
 ·intro h
  rcases OR h with ⟨h0, h1, h2⟩ | ⟨h0, h1, h2⟩
  ·have h0 := Gf.mp h0
   have h1 := sn (Jn.mp h1)
   have h2 := Gf.mp h2
   have a : lo < x := by
    have : ¬ x ≤ lo := fun z => by
     have hy : y < lo := by
      have : ¬ lo ≤ y := fun w => by have := U6 (a := lo - x) (b := y - lo) (by grind) (by grind); grind
      grind
     have p1 := U6 (a := lo - x) (b := hi - y) (by grind) (by grind)
     have p2 := U6 (a := lo - y) (b := hi - x) (by grind) (by grind)
     grind
    grind
   have b : y < hi := by
    have : ¬ hi ≤ y := fun z => by
     have hx : hi < x := by
      have : ¬ x ≤ hi := fun w => by have := U6 (a := hi - x) (b := y - hi) (by grind) (by grind); grind
      grind
     have p1 := U6 (a := x - lo) (b := y - hi) (by grind) (by grind)
     have p2 := U6 (a := y - lo) (b := x - hi) (by grind) (by grind)
     grind
    grind
   exact ⟨a, b⟩
  ·exfalso
   have h0 := Jn.mp h0
   have h1 := sp (Gf.mp h1)
   have h2 := Jn.mp h2
   have a1 : x < lo := by
    have : ¬ lo ≤ x := fun z => by have := U6 (a := x - lo) (b := y - lo) (by grind) (by grind); grind
    grind
   have b1 : hi < y := by
    have : ¬ y ≤ hi := fun z => by have := U6 (a := hi - x) (b := hi - y) (by grind) (by grind); grind
    grind
   have p1 := TY (a := lo - x) (b := y - hi) (by grind) (by grind)
   have p2 := TY (a := y - lo) (b := hi - x) (by grind) (by grind)
   grind
 ·rintro ⟨a, b⟩
  have p0 := TY (a := x - lo) (b := y - lo) (by grind) (by grind)
  have p2 := TY (a := hi - x) (b := hi - y) (by grind) (by grind)
  have p3 := TY (a := x - lo) (b := hi - y) (by grind) (by grind)
  have p4 := TY (a := y - lo) (b := hi - x) (by grind) (by grind)
  have sN : S < 0 := by grind
  have p5 := TY (a := -S) (b := hf) (by grind) hp
  rw [Ou (Gf.mpr (by grind)) (Jn.mpr (by grind)) (Gf.mpr (by grind))]
  exact R8 _
def gr : Rat := ⟨1, 65536, by decide, by decide⟩
theorem IV : (0 : Rat) < gr := by decide
theorem Ln : gr * 65536 = 1 := by decide +kernel
def g (k : Int) : Rat := (k : Rat) * gr
theorem K7 {j k : Int} (h : j ≤ k) : g j ≤ g k := by
 unfold g
 have : (j : Rat) ≤ (k : Rat) := TX.mpr h
 exact Rat.mul_le_mul_of_nonneg_right this (U5 IV)
theorem Oq {j k : Int} (h : j < k) : g j < g k := by
 have a : (j : Rat) < (k : Rat) := U4.mpr h
 have := TY (a := (k : Rat) - (j : Rat)) (b := gr) (by grind) IV
 unfold g
 grind
theorem MH (k : Int) (n : Nat) : (g k + g (k + 2 ^ (n + 1))) * hf = g (k + 2 ^ n) := by
 unfold g
 have e : (2 : Int) ^ (n + 1) = 2 ^ n + 2 ^ n := by rw [SS]; lia
 rw [e, RZ, RZ, RZ]
 generalize (((2 : Int) ^ n : Int) : Rat) = A
 generalize (k : Rat) = B
 have := hf2
 have h1 : (B * gr + (B + (A + A)) * gr) * hf = ((B + A) * gr) * (hf + hf) := by grind
 rw [h1, this, To]
theorem El {x y : Rat} (hxy : x < y) : ∀ (n : Nat) (k : Int), (pcs [x * y, 0 - (x + y), 1] n (g k) (g (k + 2 ^ n)) = none → ∃ j : Int, g j < x ∧ y < g (j + 1)) ∧ ((∃ j : Int, g j < x ∧ y < g (j + 1)) → g k < x → y < g (k + 2 ^ n) → pcs [x * y, 0 - (x + y), 1] n (g k) (g (k + 2 ^ n)) = none)
 | 0, k => by
   have hlt : g k < g (k + 2 ^ 0) := Oq (by show k < k + 1; lia)
   refine ⟨fun h => ?_, fun _ h1 h2 => ?_⟩
   ·by_cases hv : VQ (L2.hts [x * y, 0 - (x + y), 1] (g k) (g (k + 2 ^ 0))) < 2
    ·rw [Dz hv] at h; cases h
    ·exact ⟨k, (GP hxy hlt).mp (by lia)⟩
   ·have := (GP hxy hlt).mpr ⟨h1, h2⟩
    exact DY (by lia)
 | n + 1, k => by
   have h2n : (0 : Int) < 2 ^ n := Int.pow_pos (by decide)
   have e2 : (2 : Int) ^ (n + 1) = 2 ^ n + 2 ^ n := by rw [SS]; lia
   have hlt : g k < g (k + 2 ^ (n + 1)) := Oq (by lia)
   have i1 := El hxy n k
   have i2 := El hxy n (k + 2 ^ n)
   have e3 : k + 2 ^ n + 2 ^ n = k + 2 ^ (n + 1) := by lia
   rw [e3] at i2
   refine ⟨fun h => ?_, fun hj h1 h2 => ?_⟩
   ·by_cases hv : VQ (L2.hts [x * y, 0 - (x + y), 1] (g k) (g (k + 2 ^ (n + 1)))) < 2
    ·rw [Dz hv] at h; cases h
    ·rw [Dk hv, MH] at h
     cases ha : pcs [x * y, 0 - (x + y), 1] n (g k) (g (k + 2 ^ n)) with
     | none => exact i1.1 ha
     | some a =>
       cases hb : pcs [x * y, 0 - (x + y), 1] n (g (k + 2 ^ n)) (g (k + 2 ^ (n + 1))) with
       | none => exact i2.1 hb
       | some b => rw [ha, hb] at h; cases h
   ·have hv := (GP hxy hlt).mpr ⟨h1, h2⟩
    rw [Dk (by lia), MH]
    obtain ⟨j, j1, j2⟩ := hj
    by_cases hm : k + 2 ^ n ≤ j
    ·have := i2.2 ⟨j, j1, j2⟩ (by have := K7 hm; grind) h2
     cases ha : pcs [x * y, 0 - (x + y), 1] n (g k) (g (k + 2 ^ n)) with
     | none => rfl
     | some a => show (match pcs [x * y, 0 - (x + y), 1] n (g (k + 2 ^ n)) (g (k + 2 ^ (n + 1))) with | none => none | some b => some (a ++ b)) = none; rw [this]
    ·have := i1.2 ⟨j, j1, j2⟩ h1 (by have := K7 (show j + 1 ≤ k + 2 ^ n by lia); grind)
     rw [this]
theorem NA : g 0 = 0 := by unfold g; rw [Ti, Tw]
theorem Oo : g (0 + 2 ^ 16) = 1 := by
 show ((65536 : Int) : Rat) * gr = 1
 rw [T4]; exact Ln
theorem cell {q : Rat} {j : Int} (hj : j = (q.num * 65536).fdiv (q.den : Int)) : g j ≤ q ∧ q < g (j + 1) ∧ (g j = q ↔ (q.num * 65536).fmod (q.den : Int) = 0) := by
 have hd : 0 < (q.den : Int) := by have := q.den_pos; lia
 have e := (Int.mul_fdiv_add_fmod (q.num * 65536) (q.den : Int)).symm
 have r0 := Int.fmod_nonneg_of_pos (q.num * 65536) hd
 have r1 := Int.fmod_lt_of_pos (q.num * 65536) hd
 rw [← hj] at e
 generalize (q.num * 65536).fmod (q.den : Int) = r at e r0 r1 ⊢
 have n1 := Nm.num_mul q
 have dq : (0 : Rat) < ((q.den : Int) : Rat) := by
  have : ((0 : Int) : Rat) < ((q.den : Int) : Rat) := U4.mpr hd
  exact this
 have E : q * ((q.den : Int) : Rat) * 65536 = ((q.den : Int) : Rat) * (j : Rat) + (r : Rat) := by
  rw [← n1]
  have := congrArg (fun z : Int => (z : Rat)) e
  rw [S5, RZ, S5] at this
  exact this
 have hr0 : (0 : Rat) ≤ (r : Rat) := by have : ((0 : Int) : Rat) ≤ (r : Rat) := TX.mpr r0; exact this
 have hr1 : (r : Rat) < ((q.den : Int) : Rat) := U4.mpr r1
 generalize ((q.den : Int) : Rat) = D at E dq hr1
 have k1 := Ln
 have kp := IV
 -- (q - g j) D 65536 = r
 have F : (q - g j) * D = (r : Rat) * gr := by
  unfold g
  have : (q - (j : Rat) * gr) * D = (q * D * 65536 - D * (j : Rat)) * gr := by
   have a : q * D = q * D * 65536 * gr := by rw [Tn (q * D), T4 65536, k1, To]
   grind
  rw [this, E]; grind
 have F2 : (g (j + 1) - q) * D = (D - (r : Rat)) * gr := by
  have : g (j + 1) = g j + gr := by unfold g; rw [RZ, Rat.add_mul]; show _ + (1 : Rat) * gr = _; grind
  rw [this]; grind
 refine ⟨?_, ?_, ?_⟩
 ·have : ¬ q < g j := fun z => by
   have a := TY (a := g j - q) (b := D) (by grind) dq
   have b := U6 hr0 (U5 kp)
   grind
  grind
 ·have b := TY (a := D - (r : Rat)) (b := gr) (by grind) kp
  have : ¬ g (j + 1) ≤ q := fun z => by
   have := U6 (a := q - g (j + 1)) (b := D) (by grind) (U5 dq)
   grind
  grind
 ·constructor
  ·intro z
   have : (r : Rat) * gr = 0 := by rw [← F, z]; grind
   rcases Sh.mp this with w | w
   ·have : (r : Rat) = ((0 : Int) : Rat) := w
    exact Rat.intCast_inj.mp this
   ·grind
  ·intro z
   rw [z] at F
   have : (q - g j) * D = 0 := by rw [F]; exact Tw _
   rcases Sh.mp this with w | w
   ·grind
   ·grind
theorem Gz {x y : Rat} (hxy : x < y) {b : Int} (hb : b = (x.num * 65536).fdiv (x.den : Int)) : ((x.num * 65536).fmod (x.den : Int) ≠ 0 ∧ (y.num * 65536).fdiv (y.den : Int) = b) ↔ ∃ j : Int, g j < x ∧ y < g (j + 1) := by
 obtain ⟨a1, a2, a3⟩ := cell hb
 obtain ⟨c1, c2, c3⟩ := cell (q := y) rfl
 constructor
 ·rintro ⟨h1, h2⟩
  rw [h2] at c2
  exact ⟨b, by have : g b ≠ x := fun z => h1 (a3.mp z); grind, c2⟩
 ·rintro ⟨j, j1, j2⟩
  have e1 : b = j := by
   have h1 : ¬ b < j := fun z => by have := K7 (show b + 1 ≤ j by lia); grind
   have h2 : ¬ j < b := fun z => by have := K7 (show j + 1 ≤ b by lia); grind
   lia
  have e2 : (y.num * 65536).fdiv (y.den : Int) = j := by
   generalize (y.num * 65536).fdiv (y.den : Int) = m at c1 c2
   have h1 : ¬ m < j := fun z => by have := K7 (show m + 1 ≤ j by lia); grind
   have h2 : ¬ j < m := fun z => by have := K7 (show j + 1 ≤ m by lia); grind
   lia
  exact ⟨fun z => by have := a3.mpr z; rw [e1] at this; grind, by rw [e1]; exact e2⟩
theorem II {l : List Rat} {D : Int} (d0 : 0 < D) (d1 : D ≤ 2 ^ 40) : ∀ (n d : Nat) (lo hi : Rat) (ps : List Pc), d + n ≤ 17 → Dy D d lo → Dy D d hi → pcs l n lo hi = some ps → ∀ t ∈ ps, RB 120 t.1 ∧ RB 120 t.2.1
 | n, d, lo, hi, ps, hd, y1, y2, e => by
   by_cases h : VQ (L2.hts l lo hi) < 2
   ·rw [Dz h] at e
    cases e
    intro t ht
    rw [Ss.mp ht]
    exact ⟨y1.rb d0 d1 (by lia), y2.rb d0 d1 (by lia)⟩
   ·cases n with
    | zero => rw [DY h] at e; cases e
    | succ n =>
      rw [Dk h] at e
      cases ha : pcs l n lo ((lo + hi) * hf) with
      | none => rw [ha] at e; cases e
      | some a =>
        cases hb : pcs l n ((lo + hi) * hf) hi with
        | none => rw [ha, hb] at e; cases e
        | some b =>
          rw [ha, hb] at e
          cases e
          have a1 := II d0 d1 n (d + 1) _ _ a (by lia) y1.next (y1.mid y2) ha
          have b1 := II d0 d1 n (d + 1) _ _ b (by lia) (y1.mid y2) y2.next hb
          intro t ht
          rcases R0.mp ht with z | z
          ·exact a1 t z
          ·exact b1 t z
inductive BY (K : QT) (C : Addr) (vs : List V) (H : Hp) (E_2 : VK) (E : XK) : Prop
 | mk (c rl rh : Addr) (lo hi : Rat) (h1 : vs = [.ref c, .ref rl, .ref rh]) (h2 : Au K H (.ref rl) lo) (h3 : Au K H (.ref rh) hi) (h4 : ¬ lo < hi) (h5 : RB 80 lo) (h6 : RB 80 hi) (h7 : E (.ref C) none H) : BY K C vs H E_2 E
inductive D7 (K : QT) (C : Addr) (vs : List V) (H : Hp) (E_2 : VK) (E : XK) : Prop
 | mk (r rl rh : Addr) (h1 : vs = [.ref r, .ref rl, .ref rh]) (h2 : SqT K H r []) (h3 : E (.ref C) none H) : D7 K C vs H E_2 E
inductive D6 (K : QT) (C : Addr) (vs : List V) (H : Hp) (E_2 : VK) (E : XK) : Prop
 | mk (r rl rh : Addr) (fs : List Rat) (lo hi : Rat) (h1 : vs = [.ref r, .ref rl, .ref rh]) (h2 : Crv K H r fs) (h3 : AN fs) (h4 : fs ≠ []) (h5 : (∀ q ∈ fs, RB 100 q)) (h6 : fs.length ≤ 6) (h7 : Au K H (.ref rl) lo) (h8 : Au K H (.ref rh) hi) (h9 : ¬ lo < hi) (h10 : RB 80 lo) (h11 : RB 80 hi) (h12 : ∀ H', Ag H H' → E (.ref C) none H') : D6 K C vs H E_2 E
inductive ET (K : QT) (C : Addr) (vs : List V) (H : Hp) (Q : VK) (E : XK) : Prop
 | mk (r rl rh : Addr) (fs : List Rat) (lo hi : Rat) (h1 : vs = [.ref r, .ref rl, .ref rh]) (h2 : Crv K H r fs) (h3 : AN fs) (h4 : fs ≠ []) (h5 : (∀ q ∈ fs, RB 100 q)) (h6 : fs.length ≤ 6) (h7 : Cop fs (dL fs)) (h8 : fs[fs.length - 1]? = some 1) (h9 : Au K H (.ref rl) lo) (h10 : Au K H (.ref rh) hi) (h11 : lo < hi) (h12 : RB 80 lo) (h13 : RB 80 hi) (h14 : Bd 20 (lo.den : Int)) (h15 : Bd 20 (hi.den : Int)) (h16 : (∀ (ps : List Pc) (p : Addr) (H' : Hp) (ys : List V), pcs fs 16 lo hi = some ps → Ag H H' → H p = none → H' p = some (.lst ys) → Pcs K H' ys ps → Q (.ref p) H')) (h17 : (∀ H', pcs fs 16 lo hi = none → Ag H H' → E (.ref C) none H')) : ET K C vs H Q E
inductive Ga (K : QT) (C : Addr) (vs : List V) (H : Hp) (Q : VK) (E : XK) : Prop
 | mk (r rl rh : Addr) (fs : List Rat) (lo hi : Rat) (h1 : vs = [.ref r, .ref rl, .ref rh]) (h2 : Crv K H r fs) (h3 : AN fs) (h4 : fs ≠ []) (h5 : (∀ q ∈ fs, RB 100 q)) (h6 : fs.length ≤ 6) (h7 : Cop fs (dL fs)) (h8 : fs[fs.length - 1]? = some 1) (h9 : Au K H (.ref rl) lo) (h10 : Au K H (.ref rh) hi) (h11 : lo < hi) (h12 : RB 80 lo) (h13 : RB 80 hi) (h14 : Bd 20 (lo.den : Int)) (h15 : Bd 20 (hi.den : Int)) (h16 : (∀ (ps : List Pc) (k : Int) (H' : Hp), pcs fs 16 lo hi = some ps → Ag H H' → Q (.int k) H')) (h17 : (∀ H', pcs fs 16 lo hi = none → Ag H H' → E (.ref C) none H')) : Ga K C vs H Q E
theorem KO {fs : List Rat} (c : Cop fs (dL fs)) (gf : AN fs) {g os : List Rat} (P : Ed fs (Cu fs) g) (go : AN os) (eo : ∀ x, Cv.ev fs x = Cv.ev os x * Cv.ev g x) : os = fs := by
 have eg : g = [1] := P.one (c.like (fun _ => rfl) fun x => L2.Ky x fs).part (Com.refl _ _)
 exact BS go gf fun x => by rw [eo x, eg]; show _ = _ * ((1 : Rat) + x * 0); grind
inductive GA (K : QT) (vs : List V) (H : Hp) (Q : VK) (E_3 : XK) : Prop
 | mk (w : Int) (r rl rh : Addr) (lo hi : Rat) (h1 : vs = [.int w, .ref r, .ref rl, .ref rh]) (h2 : 0 ≤ w) (h3 : w < 4) (h4 : Au K H (.ref rl) lo) (h5 : Au K H (.ref rh) hi) (h6 : RB 80 lo) (h7 : RB 80 hi) (h8 : ((SqT K H r [] ∧ ∀ H', Ag H H' → Q (if w < 2 then (if lo < hi then .non else .str (Str.ofString "stretch")) else .str (Str.ofString "curve")) H') ∨ (∃ fs, Crv K H r fs ∧ AN fs ∧ fs ≠ [] ∧ (∀ q ∈ fs, RB 100 q) ∧ fs.length ≤ 6 ∧ ¬ lo < hi ∧ ∀ H', Ag H H' → Q (.str (Str.ofString "stretch")) H') ∨ (∃ fs, Crv K H r fs ∧ AN fs ∧ fs ≠ [] ∧ (∀ q ∈ fs, RB 100 q) ∧ fs.length ≤ 6 ∧ Cop fs (dL fs) ∧ fs[fs.length - 1]? = some 1 ∧ lo < hi ∧ Bd 20 (lo.den : Int) ∧ Bd 20 (hi.den : Int) ∧ ∀ H', Ag H H' → Q (if w < 2 ∨ (pcs fs 16 lo hi).isSome = true then .non else .str (Str.ofString "deep")) H'))) : GA K vs H Q E_3
inductive EV (K : QT) (vs : List V) (H : Hp) (Q : VK) (E_3 : XK) : Prop
 | mk (a : Addr) (h1 : vs = [.ref a]) (h2 : Pen H a) (h3 : ∀ (t c : Addr) (b : Bool) (x y : Rat) (H' : Hp), Mv a H H' → Pen H' a → H' t = some (.tup [.ref c, .bl b]) → Crv K H' c [x * y, 0 - (x + y), 1] → 0 < x → x < y → y < 1 → RB 20 x → RB 20 y → (b = true ↔ ∃ j : Int, g j < x ∧ y < g (j + 1)) → Q (.ref t) H') : EV K vs H Q E_3
theorem Nq {a r : Addr} {G G' : Hp} {q : Rat} (h : G r = some (nT q)) (p : Pen G a) (m : Mv a G G') : G' r = some (nT q) := m _ _ (p.ne h fun _ _ _ z => by cases z) h
theorem IY {s t b : Int} (hb : 0 < b) (h : s < t) : RS s b < RS t b := by
 have e1 := Dq (b := b) (by lia) s
 have e2 := Dq (b := b) (by lia) t
 have bp : (0 : Rat) < ((b : Int) : Rat) := by
  have : ((0 : Int) : Rat) < (b : Rat) := U4.mpr hb
  exact this
 have st : (s : Rat) < (t : Rat) := U4.mpr h
 have : ¬ RS t b ≤ RS s b := fun z => by
  have := U6 (a := RS s b - RS t b) (b := (b : Rat)) (by grind) (U5 bp)
  grind
 grind
section
variable {P : Program} {w : World} {K : QT} {mg : Str → Option Value} {base : Heap}
theorem CC : As ["_law_script", "_law_k", "_law_cell"] ["_law_script", "_law_k"] (Af (top 51)) := ⟨rfl, rfl, rfl, by decide +kernel, rfl, by decide +kernel, by decide +kernel⟩
theorem HW {f : Addr} {fd : FuncData} (F : Fun K "_law_pen" "_law_pen" (top 51) f fd) (OW : mg "len" = none) (hT : P.given.tree = none) :
 AI P w K mg base CX0 33 f fd ["_law_script", "_law_k"] (Kx K) := by
 refine F.ok CC (fun vs H Q E h => ?_) (fun cdv A outer s H vs Q E hr h => ?_)
 ·obtain ⟨_, _, _, rfl, _⟩ := h; rfl
 refine ⟨_, (Ae (K := K) (Aj (i := 2) CC.nd rfl (Or.inl rfl) (Ah AF (Ah Ap Ab (pv 1)) Ab))
  (Ae (K := K) (AX (K := K) (Av Ff (pv 1) (Al (BC K) rfl OW AJ (Aa (pv 0) Ac)) (Ay _)) (Ai (Aj (i := 2) CC.nd rfl (Or.inl rfl) (Ak (ixL K) (pv 0) (pv 1) (fun u v => rfl)))) (Ai (AX (K := K) (Av CN (Al (BC K) rfl OW AJ (Aa (pv 0) Ac)) Ab (Ay _)) (Ai (Aj (i := 2) CC.nd rfl (Or.inl rfl) (Ah AF (Ak (ixL K) (pv 0) (Ah BR (pv 1) (Al (BC K) rfl OW AJ (Aa (pv 0) Ac))) (fun u v => rfl)) (Ah Ap Ab (pv 1))))) AO (by rfl) (by rfl))) (by rfl) (by rfl))
  (Ae (K := K) (AX (K := K) (Av Oe (pv 2) (Ah CW Ab Ab) (Ay _)) (Ai (Aw (AU (Aa (Ah Bo (pv 2) (Ah CW Ab Ab)) (Aa (Ah BR (pv 2) Ab) (Aa Ab Ac)))))) AO (by rfl) (by rfl))
  (Ai (Aw (AU (Aa Ab (Aa (Ah AF (Ah BR (pv 2) Ab) (Ah Ap Ab (pv 1))) (Aa Ab Ac)))))) (by rfl)) (by rfl)) (by rfl)), ?_⟩
 obtain ⟨a, ns, k, rfl, hS, h63, h0, h62, q⟩ := h
 have hl : (ns.map V.int).length = ns.length := Rx _
 have P3 : 3 ≤ sizeLine := by decide
 have C1 : FF 10 18 := by unfold FF; decide
 refine ⟨_, rfl, _, _, rfl, rfl, .inl ⟨by decide, by decide⟩, _, _, rfl, rfl, ?_⟩
 refine ⟨_, rfl, _, rfl, a, _, rfl, .inl hS, _, _, rfl, rfl, _, rfl, ?_⟩
 rw [hl]
 have hk1 : k < (ns.length : Int) → ∃ v : Int, atI (ns.map V.int) k = some (.int v) := fun c => JK h0 c
 have hk2 : 0 < (ns.length : Int) → ∃ v : Int, atI (ns.map V.int) (k % (ns.length : Int)) = some (.int v) := fun c => JK (U7 _ (by lia)) (U8 _ c)
 refine FX (fun c => ?_) (fun c => ?_)
 ·obtain ⟨v, hv⟩ := (hk1 (of_decide_eq_true c))
  refine ⟨_, rfl, _, rfl, a, _, _, _, rfl, rfl, hS, hv, ?_⟩
  refine ⟨_, rfl, _, _, rfl, rfl, C1, _, _, rfl, rfl, _, rfl, ?_⟩
  refine FX (fun c => ?_) (fun c => ?_)
  ·exact ⟨_, rfl, _, _, rfl, rfl, C1, _, _, rfl, rfl, _, rfl, _, _, rfl, rfl, (by first | decide | (dsimp only; decide)), P3, fun p hp => q p _ _ hp⟩
  ·exact ⟨_, rfl, _, _, rfl, rfl, (by first | decide | (dsimp only; decide)), _, rfl, _, _, rfl, rfl, .inl ⟨by decide, by decide⟩, _, _, rfl, rfl, P3, fun p hp => q p _ _ hp⟩
 ·refine ⟨_, rfl, a, _, rfl, .inl hS, _, _, rfl, rfl, _, rfl, ?_⟩
  rw [hl]
  refine FX (fun c => ?_) (fun c => ?_)
  ·obtain ⟨v, hv⟩ := (hk2 (of_decide_eq_true c))
   have c' : 0 < (((ns.map V.int).length : Nat) : Int) := by rw [hl]; exact of_decide_eq_true c
   rw [← hl] at hv
   refine ⟨_, rfl, _, rfl, _, rfl, a, _, rfl, .inl hS, _, _, rfl, rfl, c', a, _, _, _, rfl, rfl, hS, hv, _, rfl, _, _, rfl, rfl, .inl ⟨by decide, by decide⟩, _, _, rfl, rfl, ?_⟩
   refine ⟨_, rfl, _, _, rfl, rfl, C1, _, _, rfl, rfl, _, rfl, ?_⟩
   refine FX (fun c => ?_) (fun c => ?_)
   ·exact ⟨_, rfl, _, _, rfl, rfl, C1, _, _, rfl, rfl, _, rfl, _, _, rfl, rfl, (by first | decide | (dsimp only; decide)), P3, fun p hp => q p _ _ hp⟩
   ·exact ⟨_, rfl, _, _, rfl, rfl, (by first | decide | (dsimp only; decide)), _, rfl, _, _, rfl, rfl, .inl ⟨by decide, by decide⟩, _, _, rfl, rfl, P3, fun p hp => q p _ _ hp⟩
  ·refine ⟨_, rfl, _, _, rfl, rfl, C1, _, _, rfl, rfl, _, rfl, ?_⟩
   refine FX (fun c => ?_) (fun c => ?_)
   ·exact ⟨_, rfl, _, _, rfl, rfl, C1, _, _, rfl, rfl, _, rfl, _, _, rfl, rfl, (by first | decide | (dsimp only; decide)), P3, fun p hp => q p _ _ hp⟩
   ·exact ⟨_, rfl, _, _, rfl, rfl, (by first | decide | (dsimp only; decide)), _, rfl, _, _, rfl, rfl, .inl ⟨by decide, by decide⟩, _, _, rfl, rfl, P3, fun p hp => q p _ _ hp⟩
theorem Cq : As ["_law_pen_here", "_law_many", "_law_drawn", "_law_number_here"] ["_law_pen_here", "_law_many"] (Af (top 52)) := ⟨rfl, rfl, rfl, by decide +kernel, rfl, by decide +kernel, by decide +kernel⟩
theorem Hg {f : Addr} {fd : FuncData} (F : Fun K "_law_draw" "_law_draw" (top 52) f fd) (hT : P.given.tree = none) :
 AI P w K mg base CX0 33 f fd ["_law_pen_here", "_law_many"] (Ej) := by
 refine F.ok Cq (fun vs H Q E h => ?_) (fun cdv A outer s H vs Q E hr h => ?_)
 ·obtain ⟨_, _, rfl, _⟩ := h; rfl
 refine ⟨_, (Ae (K := K) (Em (Ah AF (Ak (ixL K) (pv 0) Ab (fun u v => rfl)) Ab) (EZ (pv 0) Ab Df))
  (Ae (K := K) (AX (K := K) (Av CN (Ak (ixL K) (pv 0) Ab (fun u v => rfl)) Ab (Ay _)) (Ae (K := K) (Aj (i := 2) Cq.nd rfl (Or.inl rfl) (Ah BR (Ak (ixL K) (pv 0) Ab (fun u v => rfl)) (pv 1)))
  (Ae (K := K) (Em (Ah (Bv hr hT) (Ak (ixL K) (pv 0) Ab (fun u v => rfl)) (pv 1)) (EZ (pv 0) Ab Df))
  (Ai (Aw (pv 2))) (by rfl)) (by rfl)) AO (by rfl) (by rfl))
  (Ae (K := K) (Aj (i := 3) Cq.nd rfl (Or.inl rfl) (Ah BR (Ah Ap (Ah AF (Ah AF (Ak (ixL K) (pv 0) Ab (fun u v => rfl)) (Ah Ap Ab (Ak (ixL K) (pv 0) Ab (fun u v => rfl)))) Ab) Ab) Ab))
  (Ae (K := K) (Aj (i := 3) Cq.nd rfl (Or.inl rfl) (Ah BR (Ah Ap (pv 3) (Ah AF (Ah AF (Ah BR (pv 3) Ab) (Ak (ixL K) (pv 0) Ab (fun u v => rfl))) Ab)) Ab))
  (Ai (Aw (Ah BR (Ah (Bv hr hT) (Ah BR (Ah Ap (pv 3) (Ah AF (Ah BR (pv 3) Ab) Ab)) Ab) Ab) (pv 1)))) (by rfl)) (by rfl)) (by rfl)) (by rfl)), ?_⟩
 obtain ⟨a, m, rfl, ⟨c0, c1, c2, hp⟩, h1, h2, q0⟩ := h
 have q : ∀ d c0' c2' : Int, 0 ≤ d → d < m → Q (.int d) (upd H a (.lst [.int c0', .int c1, .int c2'])) := fun d _ _ h3 h4 => q0 d _ h3 h4 .put .put
 have hm : m ≠ 0 := by lia
 have q' : ∀ (o : HO) (d c0' c2' : Int), 0 ≤ d → d < m → Q (.int d) (upd (upd H a o) a (.lst [.int c0', .int c1, .int c2'])) := fun o d c0' c2' h3 h4 => by rw [LW]; exact q d c0' c2' h3 h4
 refine ⟨_, rfl, a, _, _, _, rfl, rfl, SqL.of hp, rfl, _, _, rfl, rfl, _, rfl, a, _, _, _, rfl, rfl, hp, rfl, ?_⟩
 refine ⟨_, rfl, a, _, _, _, rfl, rfl, SqL.of Ad, rfl, _, _, rfl, rfl, _, rfl, ?_⟩
 refine FX (fun c => ?_) (fun c => ?_)
 ·refine ⟨_, rfl, a, _, _, _, rfl, rfl, SqL.of Ad, rfl, _, rfl, _, _, rfl, rfl, (by lia : 0 < m), ?_⟩
  refine ⟨_, rfl, a, _, _, _, rfl, rfl, SqL.of Ad, rfl, _, rfl, _, _, rfl, rfl, hm, _, rfl, a, _, _, _, rfl, rfl, Ad, rfl, ?_⟩
  refine ⟨_, rfl, ?_⟩
  exact q' _ _ _ _ (U7 _ (by lia)) (U8 _ (by lia))
 ·have cl : ∀ z : Int, 0 < z → (0 : Int) < z := fun _ h => h
  refine ⟨_, rfl, a, _, _, _, rfl, rfl, SqL.of Ad, rfl, _, rfl, a, _, _, _, rfl, rfl, SqL.of Ad, rfl, _, _, rfl, rfl, .inl ⟨by decide, by decide⟩, _, _, rfl, rfl, _, _, rfl, rfl, _, _, rfl, rfl, .inr (.inl ⟨by decide, by decide⟩), _, _, rfl, rfl, (by first | decide | (dsimp only; decide)), ?_⟩
  have n1 := U7 ((c1 + 40503 * (c2 + 1) + 1) * 48271) (show (2147483647 : Int) ≠ 0 by decide)
  have n2 := U8 ((c1 + 40503 * (c2 + 1) + 1) * 48271) (show (0 : Int) < 2147483647 by decide)
  generalize hN : (c1 + 40503 * (c2 + 1) + 1) * 48271 % 2147483647 = N at n1 n2
  refine ⟨_, rfl, _, rfl, _, _, rfl, rfl, (by first | decide | (dsimp only; decide)), _, rfl, a, _, _, _, rfl, rfl, SqL.of Ad, rfl, _, _, rfl, rfl, _, _, rfl, rfl, _, _, rfl, rfl, .inl ?_, _, _, rfl, rfl, (by first | decide | (dsimp only; decide)), ?_⟩
  ·(try rw [hN]); lia
  try rw [hN]
  have n3 := U7 (N * (N % 65521 + (c2 + 1) + 3)) (show (2147483629 : Int) ≠ 0 by decide)
  have n4 := U8 (N * (N % 65521 + (c2 + 1) + 3)) (show (0 : Int) < 2147483629 by decide)
  generalize N * (N % 65521 + (c2 + 1) + 3) % 2147483629 = M at n3 n4
  refine ⟨_, rfl, _, rfl, _, _, rfl, rfl, (by first | decide | (dsimp only; decide)), _, _, rfl, rfl, _, _, rfl, rfl, .inl ⟨by lia, by lia⟩, _, _, rfl, rfl, (by first | decide | (dsimp only; decide)), _, _, rfl, rfl, (by first | decide | (dsimp only; decide)), _, rfl, _, _, rfl, rfl, (by lia : 0 < m), ?_⟩
  exact q _ _ _ (U7 _ (by lia)) (U8 _ (by lia))
theorem BF : As ["_law_top", "_law_bottom", "_law_one", "_law_other"] ["_law_top", "_law_bottom"] (Af (top 53)) := ⟨rfl, rfl, rfl, by decide +kernel, rfl, by decide +kernel, by decide +kernel⟩
theorem Fm {f : Addr} {fd : FuncData} (F : Fun K "_law_lowest" "_law_lowest" (top 53) f fd) (Pe : mg "abs" = none) (hT : P.given.tree = none) :
 AI P w K mg base CX0 33 f fd ["_law_top", "_law_bottom"] (Cm) := by
 refine F.ok BF (fun vs H Q E h => ?_) (fun cdv A outer s H vs Q E hr h => ?_)
 ·obtain ⟨_, _, rfl, _⟩ := h; rfl
 refine ⟨_, (Ae (K := K) (Aj (i := 2) BF.nd rfl (Or.inl rfl) (Al Eb rfl Pe Hy (Aa (pv 0) Ac)))
  (Ae (K := K) (Aj (i := 3) BF.nd rfl (Or.inl rfl) (Al Eb rfl Pe Hy (Aa (pv 1) Ac)))
  (Ae (K := K) (BQ PassesOwn.never (Av CN (pv 3) Ab (Ay _)) (Ai (N5 (i := 2) (j := 3) rfl BF.nd rfl rfl (by decide) rfl rfl (Aa (pv 3) (Aa (Ah BR (pv 2) (pv 3)) Ac)) (by with_unfolding_all rfl))))
  (Ae (K := K) (AX (K := K) (Av Ff (pv 1) Ab (Ay _)) (Ai (Aj (i := 2) BF.nd rfl (Or.inl rfl) (Ah Bo Ab (pv 2)))) AO (by rfl) (by rfl))
  (Ai (Aw (Ax (Aa (Ah (Bv hr hT) (pv 0) (pv 2)) (Aa (Ah (Bv hr hT) (pv 1) (pv 2)) Ac))))) (by rfl)) (by rfl)) (by rfl)) (by rfl)), ?_⟩
 obtain ⟨a, b, rfl, hb, q⟩ := h
 refine ⟨_, rfl, a, rfl, ?_⟩
 refine ⟨_, rfl, b, rfl, ?_⟩
 refine HG (L3 H a b fun H a b σ H' => H' = H ∧ ∃ (x y : Int), σ = [some (.int a), some (.int b), some (.int x), some (.int y)] ∧ 0 ≤ x ∧ 0 ≤ y ∧ RO x y = RO a b) (fun σ _ => mu 3 σ)
  ⟨rfl, _, _, rfl, ?_, ?_, ?_⟩ ?_ ?_
 ·rw [Nm.abs_if]; exact U9 _
 ·rw [Nm.abs_if]; exact U9 _
 ·rw [Nm.abs_if, Nm.abs_if]; rfl
 ·rintro σ H' hR1
  refine Ck hR1 fun hq1 hz3 => ?_
  refine E8 hz3 fun x y hz3' => ?_
  clear hz3
  refine LJ hz3' fun hq2 hx hy hg => ?_
  clear hz3'
  obtain rfl := hq1
  obtain rfl := hq2
  try clear hR1
  refine ⟨_, rfl, _, _, rfl, rfl, _, rfl, ?_⟩
  by_cases hy0 : y = 0
  ·subst hy0
   refine Dc ?_
   have e : (RO a b : Int) = x := by rw [← hg, Int.gcd_zero]; lia
   subst e
   refine ⟨_, rfl, _, _, rfl, rfl, _, rfl, ?_⟩
   have hd : Nm.msr a b ≠ 0 := Nm.msr_ne hb
   have fin : ∀ p, H' p = none → Q (.ref p) (upd H' p (.tup [.int (a.fdiv (Nm.msr a b)), .int (b.fdiv (Nm.msr a b))])) := fun p hp => by
    rw [Nm.top_msr hb, Nm.bottom_msr hb]; exact q p hp
   by_cases hb0 : b < 0
   ·have hd' : Nm.msr a b = 0 - (RO a b : Int) := by unfold Nm.msr; rw [if_pos hb0]; lia
    rw [hd'] at hd fin
    refine Bs (by rw [decide_eq_true hb0] <;> rfl) ⟨_, rfl, _, _, rfl, rfl, ?_⟩
    exact ⟨_, rfl, _, rfl, _, _, rfl, rfl, hd, _, rfl, _, rfl, _, _, rfl, rfl, hd, (by decide : 2 ≤ sizeLine), fin⟩
   ·have hd' : Nm.msr a b = (RO a b : Int) := by unfold Nm.msr; rw [if_neg hb0]
    rw [hd'] at hd fin
    refine AV (by rw [decide_eq_false hb0] <;> rfl) ?_
    exact ⟨_, rfl, _, rfl, _, _, rfl, rfl, hd, _, rfl, _, rfl, _, _, rfl, rfl, hd, (by decide : 2 ≤ sizeLine), fin⟩
  ·have hyp : 0 < y := by lia
   refine Bs (by rw [decide_eq_true hyp] <;> rfl) ?_
   refine ⟨_, rfl, _, rfl, _, rfl, _, _, rfl, rfl, hyp, _, _, rfl, ⟨rfl, y, x % y, rfl, hy, U7 _ hy0, ?_⟩, ?_⟩
   ·rw [Nm.gcd_turn]; exact hg
   ·show (x % y).toNat < y.toNat
    have := U8 x hyp
    lia
 ·rintro σ H' Q1 Q2 hm hR2
  obtain ⟨v, e, i, j, e1, e2, k, ek, q1⟩ := hR2
  try clear hR2
  exact ⟨v, e, i, j, e1, e2, k, ek, hm _ _ q1⟩
theorem Cw : As ["_law_pen_here", "_law_way", "_law_top"] ["_law_pen_here"] (Af (top 57)) := ⟨rfl, rfl, rfl, by decide +kernel, rfl, by decide +kernel, by decide +kernel⟩
theorem Fl {f : Addr} {fd : FuncData} (F : Fun K "_law_number" "_law_number" (top 57) f fd) (OY : Fd P w K mg base 33 "_law_draw" ["_law_pen_here", "_law_many"] (Ej)) (Pa : Fd P w K mg base 33 "_law_lowest" ["_law_top", "_law_bottom"] (Cm)) (hT : P.given.tree = none) :
 AI P w K mg base CX0 34 f fd ["_law_pen_here"] (Jb 40) := by
 refine F.ok Cw (fun vs H Q E h => ?_) (fun cdv A outer s H vs Q E hr h => ?_)
 ·obtain ⟨_, rfl, _⟩ := h; rfl
 refine ⟨_, (Ae (K := K) (Aj (i := 1) Cw.nd rfl (Or.inl rfl) (Am OY hr rfl (Aa (pv 0) (Aa Ab Ac))))
  (Ae (K := K) (AX (K := K) (Av Ff (pv 1) Ab (Ay _)) (Ai (Aw (Am Pa hr rfl (Aa (Ah Bo (Am OY hr rfl (Aa (pv 0) (Aa Ab Ac))) Ab) (Aa (Ah AF Ab (Am OY hr rfl (Aa (pv 0) (Aa (Ak (ixL K) (AU (Aa Ab (Aa Ab (Aa Ab Ac)))) (Ah BR (pv 1) Ab) (fun u v => rfl)) Ac)))) Ac))))) AO (by rfl) (by rfl))
  (Ae (K := K) (AX (K := K) (Av Ff (pv 1) Ab (Ay _)) (Ai (Aw (Am Pa hr rfl (Aa (Ah Bo (Am OY hr rfl (Aa (pv 0) (Aa Ab Ac))) Ab) (Aa (Ah AF Ab (Am OY hr rfl (Aa (pv 0) (Aa Ab Ac)))) Ac))))) AO (by rfl) (by rfl))
  (Ae (K := K) (Aj (i := 2) Cw.nd rfl (Or.inl rfl) (Ah Bo (Ah AF (Ah Ap (Am OY hr rfl (Aa (pv 0) (Aa (Ah CW Ab Ab) Ac))) (Ah CW Ab Ab)) (Am OY hr rfl (Aa (pv 0) (Aa (Ah CW Ab Ab) Ac)))) (Ah Ap Ab (Ah CW Ab Ab))))
  (Ai (Aw (Am Pa hr rfl (Aa (pv 2) (Aa (Ah AF Ab (Am OY hr rfl (Aa (pv 0) (Aa (Ah CW Ab Ab) Ac)))) Ac))))) (by rfl)) (by rfl)) (by rfl)) (by rfl)), ?_⟩
 obtain ⟨a, rfl, pn, q⟩ := h
 have C6 : FF 10 6 := by unfold FF; decide
 have C11 : FF 10 11 := by unfold FF; decide
 refine ⟨_, rfl, a, 8, rfl, pn, by decide, by decide, fun w H1 w0 w1 o1 p1 => ?_⟩
 have b64 : ∀ x : Int, -(10 ^ 12) < x → x < 10 ^ 12 → Bd 40 x := fun x h1 h2 => by unfold Bd; lia
 refine ⟨_, rfl, _, _, rfl, rfl, _, rfl, ?_⟩
 refine FX (fun c => ?_) (fun c => ?_)
 ·refine ⟨_, rfl, a, 19, rfl, p1, by decide, by decide, fun d H2 d0 d1 o2 p2 => ⟨_, _, rfl, rfl, ?_⟩⟩
  refine ⟨_, rfl, (by decide : 3 ≤ sizeLine), fun l hl => ?_⟩
  obtain ⟨v, hv, hm⟩ := Mx (xs := [1, 1, 4]) (i := w % 3) (U7 _ (by first | decide | (dsimp only; decide))) (U8 _ (by first | decide | (dsimp only; decide)))
  have hv1 : 1 ≤ v ∧ v ≤ 4 := by
   simp at hm; lia
  refine ⟨_, rfl, _, _, rfl, rfl, (by first | decide | (dsimp only; decide)), l, _, _, _, rfl, rfl, SqL.of Ad, hv, ?_⟩
  refine ⟨a, v, rfl, p2.same hl, by lia, by lia, fun e H3 e0 e1 o3 p3 => ⟨_, _, rfl, rfl, _, _, rfl, by lia, fun r hr => ?_⟩⟩
  exact q _ r _ (o1.mv.trans (o2.mv.trans ((Mv.new hl).trans (o3.mv.trans (Mv.new hr))))) (p3.same hr) Ad (Bd.num (b64 _ (by lia) (by lia))) (Bd.den (by lia) (b64 _ (by lia) (by lia)))
 refine ⟨_, rfl, _, _, rfl, rfl, _, rfl, ?_⟩
 refine FX (fun c => ?_) (fun c => ?_)
 ·refine ⟨_, rfl, a, 199, rfl, p1, by decide, by decide, fun d H2 d0 d1 o2 p2 => ⟨_, _, rfl, rfl, ?_⟩⟩
  refine ⟨_, rfl, a, 9, rfl, p2, by decide, by decide, fun e H3 e0 e1 o3 p3 => ⟨_, _, rfl, rfl, _, _, rfl, by lia, fun r hr => ?_⟩⟩
  exact q _ r _ (o1.mv.trans (o2.mv.trans (o3.mv.trans (Mv.new hr)))) (p3.same hr) Ad (Bd.num (b64 _ (by lia) (by lia))) (Bd.den (by lia) (b64 _ (by lia) (by lia)))
 refine ⟨_, rfl, _, _, rfl, rfl, C6, a, _, rfl, p1, by decide, by decide, fun d H2 d0 d1 o2 p2 => ⟨_, _, rfl, rfl, C6, _, _, rfl, rfl, .inl ?_, ?_⟩⟩
 ·change d < 10 ^ 6 at d1; lia
 refine ⟨_, rfl, _, _, rfl, rfl, C6, a, _, rfl, p2, by decide, by decide, fun e H3 e0 e1 o3 p3 => ⟨_, _, rfl, rfl, _, _, rfl, rfl, C11, _, _, rfl, rfl, .inl ⟨by decide, by decide⟩, _, _, rfl, rfl, ?_⟩⟩
 refine ⟨_, rfl, _, rfl, _, _, rfl, rfl, C6, a, _, rfl, p3, by decide, by decide, fun g H4 g0 g1 o4 p4 => ⟨_, _, rfl, rfl, _, _, rfl, by lia, fun r hr => ?_⟩⟩
 change d < 10 ^ 6 at d1
 change e < 10 ^ 6 at e1
 change g < 10 ^ 6 at g1
 exact q _ r _ (o1.mv.trans (o2.mv.trans (o3.mv.trans (o4.mv.trans (Mv.new hr))))) (p4.same hr) Ad (Bd.num (b64 _ (by show -(10 ^ 12) < d * 10 ^ 6 + e - 5 * 10 ^ 11; lia) (by show d * 10 ^ 6 + e - 5 * 10 ^ 11 < 10 ^ 12; lia))) (Bd.den (by lia) (b64 _ (by lia) (by lia)))
theorem GN : As ["_law_a", "_law_b"] ["_law_a", "_law_b"] (Af (top 54)) := ⟨rfl, rfl, rfl, by decide +kernel, rfl, by decide +kernel, by decide +kernel⟩
theorem He {f : Addr} {fd : FuncData} (F : Fun K "_law_plus" "_law_plus" (top 54) f fd) (Pa : Fd P w K mg base 33 "_law_lowest" ["_law_top", "_law_bottom"] (Cm)) (hT : P.given.tree = none) :
 AI P w K mg base CX0 34 f fd ["_law_a", "_law_b"] (BO K (· + ·)) := by
 refine F.ok GN (fun vs H Q E h => ?_) (fun cdv A outer s H vs Q E hr h => ?_)
 ·obtain ⟨_, _, _, _, _, _, rfl, _⟩ := h; rfl
 refine ⟨_, (Ai (Aw (Am Pa hr rfl (Aa (Ah AF (Ah Ap (Ak (ixT K) (pv 0) Ab (fun u v => rfl)) (Ak (ixT K) (pv 1) Ab (fun u v => rfl))) (Ah Ap (Ak (ixT K) (pv 1) Ab (fun u v => rfl)) (Ak (ixT K) (pv 0) Ab (fun u v => rfl)))) (Aa (Ah Ap (Ak (ixT K) (pv 0) Ab (fun u v => rfl)) (Ak (ixT K) (pv 1) Ab (fun u v => rfl))) Ac))))), ?_⟩
 obtain ⟨x, y, p, q, m, n, rfl, ⟨r, rfl, hr⟩, ⟨u, rfl, hu⟩, hp, hq, hmn, k⟩ := h
 refine ⟨_, rfl, r, _, _, _, rfl, rfl, hr, rfl, _, rfl, u, _, _, _, rfl, rfl, hu, rfl, _, _, rfl, rfl, Bj.bd hp.1 hq.2, _, rfl, u, _, _, _, rfl, rfl, hu, rfl, _, rfl, r, _, _, _, rfl, rfl, hr, rfl, _, _, rfl, rfl, Bj.bd hq.1 hp.2, _, _, rfl, rfl, ?_⟩
 refine ⟨_, rfl, r, _, _, _, rfl, rfl, hr, rfl, _, rfl, u, _, _, _, rfl, rfl, hu, rfl, _, _, rfl, rfl, Bj.bd hp.2 hq.2, ?_⟩
 refine ⟨_, _, rfl, RY (Nm.den_ne p) (Nm.den_ne q), fun z hz => ?_⟩
 have e := k z hz
 try dsimp only at e
 rw [← Nm.plus_eq] at e
 exact e
theorem FK : As ["_law_a", "_law_b"] ["_law_a", "_law_b"] (Af (top 56)) := ⟨rfl, rfl, rfl, by decide +kernel, rfl, by decide +kernel, by decide +kernel⟩
theorem FT {f : Addr} {fd : FuncData} (F : Fun K "_law_times" "_law_times" (top 56) f fd) (Pa : Fd P w K mg base 33 "_law_lowest" ["_law_top", "_law_bottom"] (Cm)) (hT : P.given.tree = none) :
 AI P w K mg base CX0 34 f fd ["_law_a", "_law_b"] (BO K (· * ·)) := by
 refine F.ok FK (fun vs H Q E h => ?_) (fun cdv A outer s H vs Q E hr h => ?_)
 ·obtain ⟨_, _, _, _, _, _, rfl, _⟩ := h; rfl
 refine ⟨_, (Ai (Aw (Am Pa hr rfl (Aa (Ah Ap (Ak (ixT K) (pv 0) Ab (fun u v => rfl)) (Ak (ixT K) (pv 1) Ab (fun u v => rfl))) (Aa (Ah Ap (Ak (ixT K) (pv 0) Ab (fun u v => rfl)) (Ak (ixT K) (pv 1) Ab (fun u v => rfl))) Ac))))), ?_⟩
 obtain ⟨x, y, p, q, m, n, rfl, ⟨r, rfl, hr⟩, ⟨u, rfl, hu⟩, hp, hq, hmn, k⟩ := h
 refine ⟨_, rfl, r, _, _, _, rfl, rfl, hr, rfl, _, rfl, u, _, _, _, rfl, rfl, hu, rfl, _, _, rfl, rfl, Bj.bd hp.1 hq.1, ?_⟩
 refine ⟨_, rfl, r, _, _, _, rfl, rfl, hr, rfl, _, rfl, u, _, _, _, rfl, rfl, hu, rfl, _, _, rfl, rfl, Bj.bd hp.2 hq.2, ?_⟩
 refine ⟨_, _, rfl, RY (Nm.den_ne p) (Nm.den_ne q), fun z hz => ?_⟩
 have e := k z hz
 try dsimp only at e
 rw [← Nm.times_eq] at e
 exact e
theorem FL : As ["_law_a", "_law_b"] ["_law_a", "_law_b"] (Af (top 55)) := ⟨rfl, rfl, rfl, by decide +kernel, rfl, by decide +kernel, by decide +kernel⟩
theorem FU {f : Addr} {fd : FuncData} (F : Fun K "_law_minus" "_law_minus" (top 55) f fd) (Pa : Fd P w K mg base 33 "_law_lowest" ["_law_top", "_law_bottom"] (Cm)) (hT : P.given.tree = none) :
 AI P w K mg base CX0 34 f fd ["_law_a", "_law_b"] (BO K (· - ·)) := by
 refine F.ok FL (fun vs H Q E h => ?_) (fun cdv A outer s H vs Q E hr h => ?_)
 ·obtain ⟨_, _, _, _, _, _, rfl, _⟩ := h; rfl
 refine ⟨_, (Ai (Aw (Am Pa hr rfl (Aa (Ah Bo (Ah Ap (Ak (ixT K) (pv 0) Ab (fun u v => rfl)) (Ak (ixT K) (pv 1) Ab (fun u v => rfl))) (Ah Ap (Ak (ixT K) (pv 1) Ab (fun u v => rfl)) (Ak (ixT K) (pv 0) Ab (fun u v => rfl)))) (Aa (Ah Ap (Ak (ixT K) (pv 0) Ab (fun u v => rfl)) (Ak (ixT K) (pv 1) Ab (fun u v => rfl))) Ac))))), ?_⟩
 obtain ⟨x, y, p, q, m, n, rfl, ⟨r, rfl, hr⟩, ⟨u, rfl, hu⟩, hp, hq, hmn, k⟩ := h
 refine ⟨_, rfl, r, _, _, _, rfl, rfl, hr, rfl, _, rfl, u, _, _, _, rfl, rfl, hu, rfl, _, _, rfl, rfl, Bj.bd hp.1 hq.2, _, rfl, u, _, _, _, rfl, rfl, hu, rfl, _, rfl, r, _, _, _, rfl, rfl, hr, rfl, _, _, rfl, rfl, Bj.bd hq.1 hp.2, _, _, rfl, rfl, ?_⟩
 refine ⟨_, rfl, r, _, _, _, rfl, rfl, hr, rfl, _, rfl, u, _, _, _, rfl, rfl, hu, rfl, _, _, rfl, rfl, Bj.bd hp.2 hq.2, ?_⟩
 refine ⟨_, _, rfl, RY (Nm.den_ne p) (Nm.den_ne q), fun z hz => ?_⟩
 have e := k z hz
 try dsimp only at e
 rw [← Nm.minus_eq] at e
 exact e
theorem BH : As ["_law_pen_here", "_law_thirds", "_law_x", "_law_y", "_law_below", "_law_together"] ["_law_pen_here"] (Af (top 61)) := ⟨rfl, rfl, rfl, by decide +kernel, rfl, by decide +kernel, by decide +kernel⟩
theorem Hf {f : Addr} {fd : FuncData} (F : Fun K "_law_near" "_law_near" (top 61) f fd) (Pa : Fd P w K mg base 33 "_law_lowest" ["_law_top", "_law_bottom"] (Cm)) (OY : Fd P w K mg base 33 "_law_draw" ["_law_pen_here", "_law_many"] (Ej)) (Qn : Fd P w K mg base 34 "_law_times" ["_law_a", "_law_b"] (BO K (· * ·))) (Qo : Fd P w K mg base 34 "_law_minus" ["_law_a", "_law_b"] (BO K (· - ·))) (Pp : Fd P w K mg base 34 "_law_plus" ["_law_a", "_law_b"] (BO K (· + ·))) (hT : P.given.tree = none) :
 AI P w K mg base CX0 35 f fd ["_law_pen_here"] (EV K) := by
 refine F.ok BH (fun vs H Q E h => ?_) (fun cdv A outer s H vs Q E hr h => ?_)
 ·obtain ⟨_, rfl, _⟩ := h; rfl
 refine ⟨_, (Ae (K := K) (Aj (i := 1) BH.nd rfl (Or.inl rfl) (Ah AF (Ah AF (Ah Ap Ab (Am OY hr rfl (Aa (pv 0) (Aa Ab Ac)))) Ab) (Am OY hr rfl (Aa (pv 0) (Aa Ab Ac)))))
  (Ae (K := K) (Aj (i := 2) BH.nd rfl (Or.inl rfl) (Am Pa hr rfl (Aa (pv 1) (Aa Ab Ac))))
  (Ae (K := K) (Aj (i := 3) BH.nd rfl (Or.inl rfl) (Am Pa hr rfl (Aa (Ah AF (Ah AF (pv 1) Ab) (Am OY hr rfl (Aa (pv 0) (Aa Ab Ac)))) (Aa Ab Ac))))
  (Ae (K := K) (Aj (i := 4) BH.nd rfl (Or.inl rfl) (Ah (Bv hr hT) (Ah Ap (Ak (ixT K) (pv 2) Ab (fun u v => rfl)) Ab) (Ak (ixT K) (pv 2) Ab (fun u v => rfl))))
  (Ae (K := K) (Aj (i := 5) BH.nd rfl (Or.inl rfl) (Nf (Dx DI (Ah BR (Ah Ap (Ak (ixT K) (pv 2) Ab (fun u v => rfl)) Ab) (Ak (ixT K) (pv 2) Ab (fun u v => rfl))) Ab (Ay _)) (Nc (Dx Cz (Ah (Bv hr hT) (Ah Ap (Ak (ixT K) (pv 3) Ab (fun u v => rfl)) Ab) (Ak (ixT K) (pv 3) Ab (fun u v => rfl))) (pv 4) (Ay _)))))
  (Ai (Aw (Ax (Aa (Ax (Aa (Am Qn hr rfl (Aa (pv 2) (Aa (pv 3) Ac))) (Aa (Am Qo hr rfl (Aa (Ax (Aa Ab (Aa Ab Ac))) (Aa (Am Pp hr rfl (Aa (pv 2) (Aa (pv 3) Ac))) Ac))) (Aa (Ax (Aa Ab (Aa Ab Ac))) Ac)))) (Aa (pv 5) Ac))))) (by rfl)) (by rfl)) (by rfl)) (by rfl)) (by rfl)), ?_⟩
 obtain ⟨a, rfl, pn, q⟩ := h
 have P2 : 2 ≤ sizeLine := by decide
 have P3 : 3 ≤ sizeLine := by decide
 refine ⟨_, rfl, a, 65534, rfl, pn, by decide, by decide, fun e H1 e0 e1 o1 p1 => ⟨_, _, rfl, rfl, .inl ⟨by decide, by decide⟩, _, _, rfl, rfl, _, rfl, a, 2, rfl, p1, by decide, by decide, fun f H2 f0 f1 o2 p2 => ⟨_, _, rfl, rfl, ?_⟩⟩⟩
 obtain ⟨A, hA⟩ : ∃ A : Int, A = 3 * e + 1 + f := ⟨_, rfl⟩
 rw [← hA]
 have m2 := o1.mv.trans o2.mv
 refine ⟨_, rfl, _, _, rfl, by decide, fun rx hrx => ?_⟩
 refine ⟨_, rfl, _, _, rfl, rfl, _, rfl, a, 2, rfl, p2.same hrx, by decide, by decide, fun i H3 i0 i1 o3 p3 => ⟨_, _, rfl, rfl, _, _, rfl, by decide, fun ry hry => ?_⟩⟩
 have ex : (upd H3 ry (nT (RS (A + 1 + i) 196608))) rx = some (nT (RS A 196608)) := (Ag.new hry) _ _ (Nq Ad (p2.same hrx) o3.mv)
 have ey : (upd H3 ry (nT (RS (A + 1 + i) 196608))) ry = some (nT (RS (A + 1 + i) 196608)) := Ad
 have mG : Mv a H (upd H3 ry (nT (RS (A + 1 + i) 196608))) := ((m2.trans (Mv.new hrx)).trans o3.mv).trans (Mv.new hry)
 have pG : Pen (upd H3 ry (nT (RS (A + 1 + i) 196608))) a := p3.same hry
 generalize upd H3 ry (nT (RS (A + 1 + i) 196608)) = G at ex ey mG pG ⊢
 have hx0 : 0 < RS A 196608 := by have := IY (s := 0) (t := A) (b := 196608) (by decide) (by lia); rw [Rat.zero_divInt] at this; exact this
 have hxy : RS A 196608 < RS (A + 1 + i) 196608 := IY (by decide) (by lia)
 have hy1 : RS (A + 1 + i) 196608 < 1 := by
  have h := IY (s := A + 1 + i) (t := 196608) (b := 196608) (by decide) (by lia)
  have e1 : RS 196608 196608 = 1 := by decide +kernel
  rw [e1] at h; exact h
 have bX : RB 20 (RS A 196608) := RB.div (m := 0) (by unfold Bd; lia) (by unfold Bd; decide) (by decide)
 have bY : RB 20 (RS (A + 1 + i) 196608) := RB.div (m := 0) (by unfold Bd; lia) (by unfold Bd; decide) (by decide)
 generalize RS A 196608 = X at ex hx0 hxy bX
 generalize RS (A + 1 + i) 196608 = Y at ey hxy hy1 bY
 have dX : 0 < (X.den : Int) := by have := X.den_pos; lia
 have dY : 0 < (Y.den : Int) := by have := Y.den_pos; lia
 have small : -(2 ^ 64) < (65536 : Int) ∧ (65536 : Int) < 2 ^ 64 := ⟨by decide, by decide⟩
 refine ⟨_, rfl, rx, _, _, _, rfl, rfl, SqT.of ex, AA (j := 0) rfl, _, _, rfl, rfl, .inr (.inl small), _, rfl, rx, _, _, _, rfl, rfl, SqT.of ex, AA (j := 1) rfl, _, _, rfl, rfl, (show (X.den : Int) ≠ 0 by lia), ?_⟩
 have tog := Gz hxy (b := (X.num * 65536).fdiv (X.den : Int)) rfl
 rw [Int.fmod_eq_emod_of_nonneg _ (Int.le_of_lt dX)] at tog
 have fin : ∀ b : Bool, (b = true ↔ ∃ j : Int, g j < X ∧ Y < g (j + 1)) → NW (Ks (BV (Ks (BV (G9 (BO K fun x1 x2 => x1 * x2) [] E0 (BV (DD 2) (BV (DD 3) FH))) (BV (G9 (BO K fun x1 x2 => x1 - x2) [] E0 (BV (Ks (BV (tC (V.int 0)) (BV (tC (V.int 1)) FH))) (BV (G9 (BO K fun x1 x2 => x1 + x2) [] E0 (BV (DD 2) (BV (DD 3) FH))) FH))) (BV (Ks (BV (tC (V.int 1)) (BV (tC (V.int 1)) FH))) FH)))) (BV (DD 5) FH))) { nx := fun x H' => Q V.non H', rt := Q } [some (.ref a), some (.int A), some (.ref rx), some (.ref ry), some (.int ((X.num * 65536).fdiv (X.den : Int))), some (.bl b)] G := fun b hb => by
  refine ⟨_, rfl, _, rfl, _, _, X, Y, 20, 20, rfl, Au.of ex, Au.of ey, bX, bY, by decide, fun t1 ht1 => ⟨P2, fun t2 ht2 => ?_⟩⟩
  have s1 := Ag.new (o := nT (X * Y)) ht1
  have s2 := s1.trans (Ag.new (o := .tup [.int 0, .int 1]) ht2)
  refine ⟨_, rfl, _, rfl, _, _, X, Y, 20, 20, rfl, Au.of (s2 _ _ ex), Au.of (s2 _ _ ey), bX, bY, by decide, fun t3 ht3 => ?_⟩
  have s3 := s2.trans (Ag.new (o := nT (X + Y)) ht3)
  refine ⟨_, _, 0, X + Y, 1, 41, rfl, Au.of ((Ag.new ht3) _ _ (Ad (o := nT 0))), Au.of Ad, RB.zero (by decide), bX.plus bY, by decide, fun t4 ht4 => ⟨P2, fun t5 ht5 => ⟨P3, fun t6 ht6 => ⟨_, rfl, P2, fun t7 ht7 => ?_⟩⟩⟩⟩
  have s4 := Ag.new (o := nT (0 - (X + Y))) ht4
  have s5 := Ag.new (o := .tup [.int 1, .int 1]) ht5
  have s6 := Ag.new (o := .tup [.ref t1, .ref t4, .ref t5]) ht6
  have s7 := Ag.new (o := .tup [.ref t6, .bl b]) ht7
  have sA := s3.trans (((s4.trans s5).trans s6).trans s7)
  have c1 := (((Ag.new (o := .tup [.int 0, .int 1]) ht2).trans (Ag.new (o := nT (X + Y)) ht3)).trans (((s4.trans s5).trans s6).trans s7)) _ _ Ad
  refine q t7 t6 b X Y _ (mG.trans sA.mv) (pG.sm sA) Ad ⟨_, SqT.of (s7 _ _ Ad), .cons (Au.of c1) (.cons (Au.of (s7 _ _ (s6 _ _ (s5 _ _ Ad)))) (.cons (Au.of (s7 _ _ (s6 _ _ (Ad (o := nT 1))))) .nil))⟩ hx0 hxy hy1 bX bY hb
 refine ⟨_, rfl, rx, _, _, _, rfl, rfl, SqT.of ex, AA (j := 0) rfl, _, _, rfl, rfl, .inr (.inl small), _, rfl, rx, _, _, _, rfl, rfl, SqT.of ex, AA (j := 1) rfl, _, _, rfl, rfl, dX, rfl, ?_⟩
 by_cases hm : X.num * 65536 % (X.den : Int) = 0
 ·have e : (!decide (V.int (X.num * 65536 % (X.den : Int)) = V.int 0)) = false := by rw [hm]; rfl
  exact ⟨false, by rw [e], Dc (fin false ⟨nofun, fun z => absurd hm (tog.mpr z).1⟩)⟩
 ·have e : (!decide (V.int (X.num * 65536 % (X.den : Int)) = V.int 0)) = true := by
   have : V.int (X.num * 65536 % (X.den : Int)) ≠ V.int 0 := fun z => hm (V.int.inj z)
   simp [this]
  refine ⟨true, by rw [e], Li ⟨_, rfl, ry, _, _, _, rfl, rfl, SqT.of ey, AA (j := 0) rfl, _, _, rfl, rfl, .inr (.inl small), _, rfl, ry, _, _, _, rfl, rfl, SqT.of ey, AA (j := 1) rfl, _, _, rfl, rfl, (show (Y.den : Int) ≠ 0 by lia), _, rfl, rfl, fin _ ?_⟩⟩
  rw [← tog]
  exact ⟨fun z => ⟨hm, V.int.inj (of_decide_eq_true z)⟩, fun z => decide_eq_true (by rw [z.2])⟩
theorem DG : As ["_law_pen_here", "_law_most", "_law_some"] ["_law_pen_here", "_law_most"] (Af (top 58)) := ⟨rfl, rfl, rfl, by decide +kernel, rfl, by decide +kernel, by decide +kernel⟩
theorem FV {f : Addr} {fd : FuncData} (F : Fun K "_law_curve" "_law_curve" (top 58) f fd) (Pz : Fd P w K mg base 34 "_law_number" ["_law_pen_here"] (Jb 40)) (OY : Fd P w K mg base 33 "_law_draw" ["_law_pen_here", "_law_many"] (Ej)) (Pb : mg "tuple" = none) (OX : mg "range" = none) (hT : P.given.tree = none) :
 AI P w K mg base CX0 35 f fd ["_law_pen_here", "_law_most"] (GH K 40) := by
 refine F.ok DG (fun vs H Q E h => ?_) (fun cdv A outer s H vs Q E hr h => ?_)
 ·obtain ⟨_, _, rfl, _⟩ := h; rfl
 refine ⟨_, (Ae (K := K) (Jh (i := 2) rfl DG.nd rfl rfl (N := ["_law_k", "_law_pen_here"]) (nt := 1) (js := [0]) (AY.look (NX := ["_law_pen_here", "_law_most", "_law_some"]) (sc := Af (top 58)) rfl rfl (by decide +kernel)) (BA rfl OX (Aa (Am OY hr rfl (Aa (pv 0) (Aa (Ah AF (pv 1) Ab) Ac))) Ac)) (fun u1 u2 u3 u4 u5 => (AE (i := 0) (show List.Nodup (["_law_k", "_law_pen_here"] : List Str) from by decide +kernel) rfl (Or.inl rfl))) (AG (by decide)) (fun u1 u2 u3 u4 u5 => Bx) (fun u1 u2 u3 u4 u5 => (Am Pz hr rfl (Aa (pv 1) Ac))) rfl)
  (Ae (K := K) (BQ PassesOwn.never (PW.pt (GQ (Av (neD K hr.units) (pv 2) (AU Ac) (Ay _)) (EH (Av (eqD K hr.units) (Ak (ixL K) (pv 2) (CM BX Ab) (fun u v => rfl)) (Ax (Aa Ab (Aa Ab Ac))) (Ay _))))) (Ai (DW (Jl K PySem.F.plainAttrs_list PySem.F.slot_list_pop PySem.F.type_list_pop La (pv 2)))))
  (Ai (Aw (Ct (Iz K) rfl Pb Fz (Aa (pv 2) Ac)))) (by rfl)) (by rfl)), ?_⟩
 obtain ⟨a, most, rfl, pn, h0, h1, q⟩ := h
 have P0 : 0 ≤ sizeLine := by decide
 have P2 : 2 ≤ sizeLine := by decide
 refine Cd ⟨_, rfl, _, rfl, _, _, rfl, rfl, a, most + 1, rfl, pn, by lia, by lia, fun n H1 n0 n1 o1 p1 => ⟨n, rfl, by lia, by lia, ?_⟩⟩
 have hN : (n.toNat : Int) ≤ most := by lia
 generalize n.toNat = N at hN
 refine Hj (L3 a H K fun a H K i zs H' => Mv a H H' ∧ Pen H' a ∧ zs.length = i ∧ ∃ qs, AS K H' zs qs ∧ ∀ q ∈ qs, RB 40 q) ⟨o1.mv, p1, rfl, [], .nil, (fun _ h => nomatch h)⟩ (fun i zs H' _ h => h.2.2.1) (QV (AW (by lia))) ?_ ?_
 ·rintro i zs H' hi hR1
  obtain ⟨mv, pn', hz, qs, hq, hb⟩ := hR1
  try clear hR1
  refine ⟨_, rfl, a, rfl, pn', fun x r H3 m3 p3 hr bn bd => ⟨mv.trans m3, p3, by simp [hz], qs ++ [x], Paired.snoc (AS.mv hq pn' m3) (Au.of hr), fun c hc => ?_⟩⟩
  rcases R0.mp hc with z | z
  ·exact hb c z
  ·have e : c = x := by simpa using z
   subst e; exact ⟨bn, bd⟩
 rintro zs Hz hR2 l hl
 obtain ⟨mvz, pnz, hzl, qs, hqz, hb⟩ := hR2
 try clear hR2
 have hql : qs.length = N := by rw [← hqz.length]; exact hzl
 have la : l ≠ a := by
  refine Hk pnz fun x0 x1 x2 ex => ?_
  exact (Az ex hl).symm
 have hHl : H l = none := by
  cases z : H l with
  | none => rfl
  | some u => rw [mvz l u la z] at hl; cases hl
 refine HI (L8 a H K zs qs most l N fun a H K zs qs most l N σ H' => Mv a H H' ∧ Pen H' a ∧ AS K H' zs qs ∧ σ = [some (.ref a), some (.int most), some (.ref l)] ∧ ∃ v, v ≤ N ∧ H' l = some (.lst (zs.take v)) ∧ ∀ j q, v ≤ j → qs[j]? = some q → q = 0)
  (fun _ H' => match H' l with | some (.lst xs) => xs.length | _ => 0) ⟨Mv.put' mvz hHl, pnz.same hl, AS.same hqz (Ag.new hl), rfl, N, R8 _, by rw [T7 (by lia)]; exact Ad, fun j c hj e => absurd (R3.mp e).1 (by lia)⟩ ?_
 rintro σ Hc hR3
 obtain ⟨mv, pn', hq, rfl, v, hv, el, hall⟩ := hR3
 try clear hR3
 refine ⟨_, rfl, P0, fun e he => ?_⟩
 have sE : Ag Hc (upd Hc e (.lst [])) := Ag.new he
 refine eqL (ps := qs.take v) (qs := []) (SqL.of (sE _ _ el)) (Paired.take v (AS.same hq sE)) (SqL.of Ad) .nil ?_
 refine ⟨_, rfl, ?_⟩
 have fin : (v = 0 ∨ ∃ q, qs[v - 1]? = some q ∧ q ≠ 0) → qs.take v = Cv.strip qs := fun hc => Cv.take_strip qs v hall hc
 by_cases hv0 : v = 0
 ·have e0 : qs.take v = [] := by rw [hv0]; rfl
  refine AV (by rw [decide_eq_true e0] <;> rfl) (Dc ?_)
  refine ⟨_, rfl, l, _, rfl, .inl ⟨SqL.of (sE _ _ el), fun r hr => ?_⟩⟩
  have sZ := sE.trans (Ag.new (o := .tup (zs.take v)) hr)
  refine q (qs.take v) r _ (mv.trans sZ.mv) (pn'.sm sZ) ⟨zs.take v, SqT.of Ad, Paired.take v (AS.same hq sZ)⟩ ?_ ?_ fun c hc => hb c (Tv hc)
  ·rw [fin (.inl hv0)]; exact Be _
  ·rw [Rp]; lia

 have hvi : v - 1 < qs.length := by lia
 have hqv : qs[v - 1]? = some qs[v - 1] := Sv hvi
 have hne : qs.take v ≠ [] := fun z => by
  have := congrArg Ro z
  rw [Rp, RE (by lia)] at this
  exact hv0 this
 refine Bs (by rw [decide_eq_false hne] <;> rfl) ?_
 obtain ⟨x, hx, hxn⟩ := (Paired.get' hq hqv)
 have hlast : (zs.take v)[(zs.take v).length - 1]? = some x := by
  rw [Rp, RE (by lia), Ua, if_pos (by lia)]
  exact hx
 refine ⟨_, rfl, _, rfl, l, _, _, x, rfl, rfl, SqL.of (sE _ _ el), CA hlast, P2, fun t0 ht0 => ?_⟩
 have sF := sE.trans (Ag.new (o := .tup [.int 0, .int 1]) ht0)
 refine eqN (q := 0) (hxn.same sF) (Au.of (Ad (o := nT 0))) ?_
 refine ⟨_, rfl, ?_⟩
 by_cases hq0 : qs[v - 1] = 0
 ·refine Bs (by rw [decide_eq_true hq0] <;> rfl) (HH ?_)
  have elF := sF _ _ el
  refine ⟨_, rfl, .inl ⟨rfl, _, SqL.of elF⟩, l, _, x, rfl, rfl, elF, hlast, ?_⟩
  refine ⟨⟨Mv.put' (mv.trans sF.mv) hHl, ?_, AS.put (AS.same hq sF) elF, rfl, v - 1, by lia, ?_, fun j c hj e => ?_⟩, ?_⟩
  ·refine Hk (pn'.sm sF) fun x0 x1 x2 ex => ?_
   exact ⟨x0, x1, x2, by rw [AB (Ne.symm la)]; exact ex⟩
  ·rw [Ad, List.dropLast_eq_take, Rp, RE (by lia), List.take_take, RE (by lia)]
  ·by_cases hjv : v ≤ j
   ·exact hall j c hjv e
   ·have : j = v - 1 := by lia
    subst this
    rw [hqv] at e
    cases e
    exact hq0
  ·show (match upd _ l _ l with | some (.lst xs) => xs.length | _ => 0) < (match Hc l with | some (.lst xs) => xs.length | _ => 0)
   rw [Ad, el]
   show (zs.take v).dropLast.length < (zs.take v).length
   have e1 : (zs.take v).length = v := by rw [Rp, RE (by lia)]
   rw [List.length_dropLast, e1]
   exact Nat.sub_lt (RP hv0) Nat.zero_lt_one
 ·refine AV (by rw [decide_eq_false hq0] <;> rfl) ?_
  refine ⟨_, rfl, l, _, rfl, .inl ⟨SqL.of (sF _ _ el), fun r hr => ?_⟩⟩
  have sZ := sF.trans (Ag.new (o := .tup (zs.take v)) hr)
  refine q (qs.take v) r _ (mv.trans sZ.mv) (pn'.sm sZ) ⟨zs.take v, SqT.of Ad, Paired.take v (AS.same hq sZ)⟩ ?_ ?_ fun c hc => hb c (Tv hc)
  ·rw [fin (.inr ⟨_, hqv, hq0⟩)]; exact Be _
  ·rw [Rp]; lia
theorem Ba : As ["one", "other", "great", "small", "rest"] ["one", "other"] (Af (top 13)) := ⟨rfl, rfl, rfl, by decide +kernel, rfl, by decide +kernel, by decide +kernel⟩
theorem E4 {f : Addr} {fd : FuncData} (F : Fun K "common_measure" "common_measure" (top 13) f fd) (Pe : mg "abs" = none) (hT : P.given.tree = none) :
 AI P w K mg base CX0 33 f fd ["one", "other"] (Jc) := by
 refine F.ok Ba (fun vs H Q E h => ?_) (fun cdv A outer s H vs Q E hr h => ?_)
 ·obtain ⟨_, _, rfl, _⟩ := h; rfl
 refine ⟨_, (Ae (K := K) (Aj (i := 2) Ba.nd rfl (Or.inl rfl) (Al Eb rfl Pe Hy (Aa (pv 0) Ac)))
  (Ae (K := K) (Aj (i := 3) Ba.nd rfl (Or.inl rfl) (Al Eb rfl Pe Hy (Aa (pv 1) Ac)))
  (Ae (K := K) (BQ PassesOwn.never (Av DI (pv 3) Ab (Ay _)) (Ae (K := K) (Aj (i := 4) Ba.nd rfl (Or.inl rfl) (Ah BR (pv 2) (pv 3)))
  (Ae (K := K) (Aj (i := 2) Ba.nd rfl (Or.inl rfl) (pv 3))
  (Ai (Aj (i := 3) Ba.nd rfl (Or.inl rfl) (pv 4))) (by rfl)) (by rfl)))
  (Ai (Aw (pv 2))) (by rfl)) (by rfl)) (by rfl)), ?_⟩
 obtain ⟨a, b, rfl, q⟩ := h
 refine ⟨_, rfl, a, rfl, ?_⟩
 refine ⟨_, rfl, b, rfl, ?_⟩
 refine HG (L3 H a b fun H a b σ H' => H' = H ∧ ∃ (x y : Int) (r : Option V), σ = [some (.int a), some (.int b), some (.int x), some (.int y), r] ∧ 0 ≤ x ∧ 0 ≤ y ∧ RO x y = RO a b) (fun σ _ => mu 3 σ)
  ⟨rfl, _, _, none, rfl, ?_, ?_, ?_⟩ ?_ ?_
 ·rw [Nm.abs_if]; exact U9 _
 ·rw [Nm.abs_if]; exact U9 _
 ·rw [Nm.abs_if, Nm.abs_if]; rfl
 ·rintro σ H' hR1
  refine Ck hR1 fun hq11 hz13 => ?_
  refine Hk hz13 fun x y r hz13' => ?_
  clear hz13
  refine LJ hz13' fun hq12 hx hy hg => ?_
  clear hz13'
  obtain rfl := hq11
  obtain rfl := hq12
  try clear hR1
  refine ⟨_, rfl, rfl, _, rfl, ?_⟩
  by_cases hy0 : y = 0
  ·subst hy0
   refine AV (by rw [decide_eq_true rfl] <;> rfl) ⟨_, rfl, ?_⟩
   have e : (RO a b : Int) = x := by rw [← hg, Int.gcd_zero]; lia
   rw [e] at q
   exact q
  ·refine Bs (by rw [decide_eq_false (fun z => hy0 (V.int.inj z))] <;> rfl) ?_
   have hyp : 0 < y := by lia
   refine ⟨_, rfl, _, rfl, _, _, rfl, rfl, hyp, ?_⟩
   refine ⟨_, rfl, _, rfl, ⟨rfl, y, x % y, _, rfl, hy, U7 _ hy0, ?_⟩, ?_⟩
   ·rw [Nm.gcd_turn]; exact hg
   ·show (x % y).toNat < y.toNat
    have := U8 x hyp
    lia
 ·rintro σ H' Q1 Q2 hm hR2
  obtain ⟨v, e, s1, k, ek, q1⟩ := hR2
  try clear hR2
  exact ⟨v, e, s1, k, ek, hm _ _ q1⟩
theorem CT : As ["top", "bottom", "measure"] ["top", "bottom"] (Af (top 14)) := ⟨rfl, rfl, rfl, by decide +kernel, rfl, by decide +kernel, by decide +kernel⟩
theorem GY {f : Addr} {fd : FuncData} (F : Fun K "number_of" "number_of" (top 14) f fd) (PF : Fd P w K mg base 33 "common_measure" ["one", "other"] (Jc)) (hT : P.given.tree = none) :
 AI P w K mg base CX0 34 f fd ["top", "bottom"] (Cm) := by
 refine F.ok CT (fun vs H Q E h => ?_) (fun cdv A outer s H vs Q E hr h => ?_)
 ·obtain ⟨_, _, rfl, _⟩ := h; rfl
 refine ⟨_, (Ae (K := K) (AX (K := K) (Av Cz (pv 1) Ab (Ay _)) (Ai CL) AO (by rfl) (by rfl))
  (Ae (K := K) (Aj (i := 2) CT.nd rfl (Or.inl rfl) (Am PF hr rfl (Aa (pv 0) (Aa (pv 1) Ac))))
  (Ae (K := K) (AX (K := K) (Av Ff (pv 1) Ab (Ay _)) (Ai (Aj (i := 2) CT.nd rfl (Or.inl rfl) (CM BX (pv 2)))) AO (by rfl) (by rfl))
  (Ai (Aw (Ax (Aa (Ah (Bv hr hT) (pv 0) (pv 2)) (Aa (Ah (Bv hr hT) (pv 1) (pv 2)) Ac))))) (by rfl)) (by rfl)) (by rfl)), ?_⟩
 obtain ⟨a, b, rfl, hb, q⟩ := h
 refine ⟨_, rfl, rfl, _, rfl, ?_⟩
 refine AV (by rw [decide_eq_false (fun z => hb (V.int.inj z))] <;> rfl) ?_
 refine ⟨_, rfl, _, rfl, a, b, rfl, ?_⟩
 refine ⟨_, rfl, _, _, rfl, rfl, _, rfl, ?_⟩
 have hd : Nm.msr a b ≠ 0 := Nm.msr_ne hb
 have fin : ∀ p, H p = none → Q (.ref p) (upd H p (.tup [.int (a.fdiv (Nm.msr a b)), .int (b.fdiv (Nm.msr a b))])) := fun p hp => by
  rw [Nm.top_msr hb, Nm.bottom_msr hb]; exact q p hp
 by_cases hb0 : b < 0
 ·have hd' : Nm.msr a b = -(RO a b : Int) := by unfold Nm.msr; rw [if_pos hb0]
  rw [hd'] at hd fin
  refine Bs (by rw [decide_eq_true hb0] <;> rfl) ⟨_, rfl, _, rfl, ?_⟩
  exact ⟨_, rfl, _, rfl, _, _, rfl, rfl, hd, _, rfl, _, rfl, _, _, rfl, rfl, hd, (by decide : 2 ≤ sizeLine), fin⟩
 ·have hd' : Nm.msr a b = (RO a b : Int) := by unfold Nm.msr; rw [if_neg hb0]
  rw [hd'] at hd fin
  refine AV (by rw [decide_eq_false hb0] <;> rfl) ?_
  exact ⟨_, rfl, _, rfl, _, _, rfl, rfl, hd, _, rfl, _, rfl, _, _, rfl, rfl, hd, (by decide : 2 ≤ sizeLine), fin⟩
theorem M5 : As ["a", "b"] ["a", "b"] (Af (top 18)) := ⟨rfl, rfl, rfl, by decide +kernel, rfl, by decide +kernel, by decide +kernel⟩
theorem Md {f : Addr} {fd : FuncData} (F : Fun K "over" "over" (top 18) f fd) (P6 : Fd P w K mg base 34 "number_of" ["top", "bottom"] (Cm)) (hT : P.given.tree = none) :
 AI P w K mg base CX0 35 f fd ["a", "b"] (EU K) := by
 refine F.ok M5 (fun vs H Q E h => ?_) (fun cdv A outer s H vs Q E hr h => ?_)
 ·obtain ⟨_, _, _, _, _, _, rfl, _⟩ := h; rfl
 refine ⟨_, (Ai (Aw (Am P6 hr rfl (Aa (Ah Ap (Ak (ixT K) (pv 0) Ab (fun u v => rfl)) (Ak (ixT K) (pv 1) Ab (fun u v => rfl))) (Aa (Ah Ap (Ak (ixT K) (pv 0) Ab (fun u v => rfl)) (Ak (ixT K) (pv 1) Ab (fun u v => rfl))) Ac))))), ?_⟩
 obtain ⟨x, y, p, q, m, n, rfl, ⟨r, rfl, hr'⟩, ⟨u, rfl, hu⟩, q0, hp, hq, hmn, k⟩ := h
 have hn : q.num ≠ 0 := fun z => q0 (TU.mp z)
 refine ⟨_, rfl, r, _, _, _, rfl, rfl, hr', rfl, _, rfl, u, _, _, _, rfl, rfl, hu, rfl, _, _, rfl, rfl, Bj.bd hp.1 hq.2, ?_⟩
 refine ⟨_, rfl, r, _, _, _, rfl, rfl, hr', rfl, _, rfl, u, _, _, _, rfl, rfl, hu, rfl, _, _, rfl, rfl, Bj.bd hp.2 hq.1, ?_⟩
 refine ⟨_, _, rfl, RY (Nm.den_ne p) hn, fun z hz => ?_⟩
 have e := k z hz
 rw [← Jm p q q0] at e
 exact e
theorem BD : As ["along", "parts", "ways", "k"] ["along"] (Af (top 39)) := ⟨rfl, rfl, rfl, by decide +kernel, rfl, by decide +kernel, by decide +kernel⟩
theorem Fi {f : Addr} {fd : FuncData} (F : Fun K "parts_along" "parts_along" (top 39) f fd) (Pu : Fd P w K mg base 35 "over" ["a", "b"] (EU K)) (OX : mg "range" = none) (OW : mg "len" = none) (hT : P.given.tree = none) :
 AI P w K mg base CX0 36 f fd ["along"] (EF K) := by
 refine F.ok BD (fun vs H Q E h => ?_) (fun cdv A outer s H vs Q E hr h => ?_)
 ·obtain ⟨_, _, _, rfl, _⟩ := h; rfl
 refine ⟨_, (Ae (K := K) (Aj (i := 1) BD.nd rfl (Or.inl rfl) (AU Ac))
  (Ae (K := K) (Aj (i := 2) BD.nd rfl (Or.inl rfl) Ab)
  (Ae (K := K) (BK (K := K) PassesOwn.never rfl (BA rfl OX (Aa (Al (BC K) rfl OW AJ (Aa (pv 0) Ac)) Ac)) (AE (i := 3) BD.nd rfl (Or.inl rfl)) (Ae (K := K) (DW (Er K PySem.F.plainAttrs_list PySem.F.slot_list_append PySem.F.type_list_append Ew (pv 1) (Aa (Am Pu hr rfl (Aa (Ak (ixT K) (pv 0) (pv 3) (fun u v => rfl)) (Aa (Ax (Aa (pv 2) (Aa Ab Ac))) Ac))) Ac)))
  (Ai (Aj (i := 2) BD.nd rfl (Or.inl rfl) (Ah (Bv hr hT) (Ah Ap (pv 2) (Ah Bo (Ah Bo (Al (BC K) rfl OW AJ (Aa (pv 0) Ac)) Ab) (pv 3))) (Ah AF (pv 3) Ab)))) (by rfl)) (by rfl))
  (Ai (Aw (pv 1))) (by rfl)) (by rfl)) (by rfl)), ?_⟩
 obtain ⟨r, al, n, rfl, ⟨xs, hS, hn⟩, h1, h20, hb, hn4, hn1, q⟩ := h
 have P0 : 0 ≤ sizeLine := by decide
 have P2 : 2 ≤ sizeLine := by decide
 have hl := hn.length
 refine ⟨P0, fun p hp => ?_⟩
 refine ⟨_, rfl, r, xs, rfl, .inr (hS.same (Ag.new hp)), _, rfl, by lia, by lia, ?_⟩
 rw [show ((xs.length : Nat) : Int).toNat = al.length by lia]
 refine BN (n := al.length) (L5 H r p al K fun H r p al K k σ H' => Ag H H' ∧ ∃ zs z, σ = [some (.ref r), some (.ref p), some (.int ((ch (al.length - 1) k : Nat) : Int)), z] ∧ H' p = some (.lst zs) ∧ AS K H' zs ((QP k).map fun k => al.getD k 0 / ((ch (al.length - 1) k : Nat) : Rat)))
  ⟨Ag.new hp, [], none, by rw [CF]; rfl, Ad, .nil⟩ ?_ ?_
 ·rintro k σ H' hk hR1
  refine Ck hR1 fun sm hz16 => ?_
  refine E8 hz16 fun zs z hz16' => ?_
  clear hz16
  refine HB hz16' fun hq15 ep hz => ?_
  clear hz16'
  obtain rfl := hq15
  try clear hR1
  have hzl : zs.length = k := by rw [hz.length, Rx, SX]
  obtain ⟨x, hx, hxn⟩ := (Paired.get' hn (Gm hk))
  have hat : atI xs (0 + (k : Int)) = some x := by rw [show 0 + (k : Int) = ((k : Nat) : Int) by lia]; exact AA hx
  have hS' := hS.same sm
  have c64 : -(2 ^ 64) < ((ch (al.length - 1) k : Nat) : Int) ∧ ((ch (al.length - 1) k : Nat) : Int) < 2 ^ 64 := by
   have h1 := JF (al.length - 1) k
   have h2 : 2 ^ (al.length - 1) ≤ 2 ^ 20 := Sx (by decide) (by lia)
   lia
  refine ⟨_, rfl, .inl ⟨rfl, _, SqL.of ep⟩, _, rfl, _, rfl, r, xs, _, x, rfl, rfl, hS', hat, _, rfl, P2, fun t ht => ?_⟩
  have ht' : Au K (upd H' t (.tup [.int ((ch (al.length - 1) k : Nat) : Int), .int 1])) (.ref t) ((ch (al.length - 1) k : Nat) : Rat) := Au.of (by rw [Ad, Np])
  have st : Ag H' (upd H' t (.tup [.int ((ch (al.length - 1) k : Nat) : Int), .int 1])) := Ag.new ht
  generalize upd H' t (.tup [.int ((ch (al.length - 1) k : Nat) : Int), .int 1]) = Ht at ht' st ⊢
  refine ⟨_, _, _, _, n, 22, rfl, (hxn.same sm).same st, ht', MM (by lia), hb _ (Rv (Gm hk)), ML (by lia), by lia, fun u hu => ?_⟩
  have su := st.trans (Ag.new (o := nT (al.getD k 0 / ((ch (al.length - 1) k : Nat) : Rat))) hu)
  have eu : (upd Ht u (nT (al.getD k 0 / ((ch (al.length - 1) k : Nat) : Rat)))) u = some (nT (al.getD k 0 / ((ch (al.length - 1) k : Nat) : Rat))) := Ad
  generalize upd Ht u (nT (al.getD k 0 / ((ch (al.length - 1) k : Nat) : Rat))) = Hu at su eu ⊢
  have epu := su _ _ ep
  refine ⟨p, zs, .ref u, rfl, rfl, epu, QM (show zs.length < 300 by lia) (by decide), ?_⟩
  have sP : Ag H (upd Hu p (.lst (zs ++ [.ref u]))) := (sm.trans su).put hp
  refine ⟨_, rfl, _, rfl, r, xs, rfl, .inr (hS.same sP), _, _, rfl, rfl, _, rfl, _, _, rfl, rfl, _, _, rfl, rfl, .inl c64, _, rfl, _, _, rfl, rfl, _, _, rfl, rfl, (show (0 : Int) + (k : Int) + 1 ≠ 0 by lia), ?_⟩
  refine ⟨sP, zs ++ [.ref u], some (.int (0 + (k : Int))), ?_, Ad, ?_⟩
  ·have e := Mw (n := al.length - 1) (k := k) (by lia)
   have e2 : (((ch (al.length - 1) k : Nat) : Int) * ((xs.length : Int) - 1 - (0 + (k : Int)))).fdiv (0 + (k : Int) + 1) = ((ch (al.length - 1) (k + 1) : Nat) : Int) := by
    rw [← e, show (xs.length : Int) - 1 - (0 + (k : Int)) = ((al.length - 1 : Nat) : Int) - (k : Int) by lia, show 0 + (k : Int) + 1 = (k : Int) + 1 by lia]
   show [some (V.ref r), some (V.ref p), some (V.int ((((ch (al.length - 1) k : Nat) : Int) * ((xs.length : Int) - 1 - (0 + (k : Int)))).fdiv (0 + (k : Int) + 1))), some (V.int (0 + (k : Int)))] = _
   rw [e2]
  ·rw [U0, Se]
   exact AS.put (Paired.snoc (AS.same hz su) (Au.of eu)) epu
 ·rintro σ H' hR2
  refine Ck hR2 fun sm hz18 => ?_
  refine E8 hz18 fun zs z hz18' => ?_
  clear hz18
  refine HB hz18' fun hq17 ep hz => ?_
  clear hz18'
  obtain rfl := hq17
  try clear hR2
  exact ⟨_, rfl, q p H' zs sm ep hz (KN h20 hn1 hb)⟩
theorem Cp : As ["numbers", "bottom", "number"] ["numbers"] (Af (top 23)) := ⟨rfl, rfl, rfl, by decide +kernel, rfl, by decide +kernel, by decide +kernel⟩
theorem Hb {f : Addr} {fd : FuncData} (F : Fun K "bottom_of" "bottom_of" (top 23) f fd) (PF : Fd P w K mg base 33 "common_measure" ["one", "other"] (Jc)) (hT : P.given.tree = none) :
 AI P w K mg base CX0 34 f fd ["numbers"] (D8 K) := by
 refine F.ok Cp (fun vs H Q E h => ?_) (fun cdv A outer s H vs Q E hr h => ?_)
 ·obtain ⟨_, _, _, _, _, rfl, _⟩ := h; rfl
 refine ⟨_, (Ae (K := K) (Aj (i := 1) Cp.nd rfl (Or.inl rfl) Ab)
  (Ae (K := K) (BK (K := K) PassesOwn.never rfl (piS K (pv 0)) (AE (i := 2) Cp.nd rfl (Or.inl rfl)) (Ai (Aj (i := 1) Cp.nd rfl (Or.inl rfl) (Ah Ap (pv 1) (Ah (Bv hr hT) (Ak (ixT K) (pv 2) Ab (fun u v => rfl)) (Am PF hr rfl (Aa (pv 1) (Aa (Ak (ixT K) (pv 2) Ab (fun u v => rfl)) Ac))))))) (by rfl))
  (Ai (Aw (pv 1))) (by rfl)) (by rfl)), ?_⟩
 obtain ⟨b, r, xs, qs, n, rfl, hS, hn, hB, hz, q⟩ := h
 have hl := hn.length
 refine Mq (b := b) (a := r) (xs := xs) rfl (L4 H r qs n fun H r qs n i σ H' => H' = H ∧ ∃ (B : Int) (z : Option V), σ = [some (.ref r), some (.int B), z] ∧ 0 < B ∧ (∀ q ∈ qs.take i, (q.den : Int) ∣ B) ∧ Bd (n * i + 1) B) ⟨rfl, 1, none, rfl, by decide, fun q hq => by simp at hq, by unfold Bd; rw [Nat.mul_zero]; decide⟩ (fun i σ H' _ p => by rw [p.1]; exact hS) ?_ ?_
 ·rintro i x σ H' hx hR1
  refine Ck hR1 fun hq19 hz21 => ?_
  refine E8 hz21 fun B z hz21' => ?_
  clear hz21
  refine LJ hz21' fun hq20 hB0 hdv hbd => ?_
  clear hz21'
  obtain rfl := hq19
  obtain rfl := hq20
  try clear hR1
  obtain ⟨c, hc, r', rfl, hr⟩ := (Paired.get hn hx)
  have hi : i < qs.length := (R3.mp hc).1
  have hcm : c ∈ qs := Rv hc
  have hd0 : 0 < (c.den : Int) := by have := c.den_pos; lia
  obtain ⟨l1, l2, l3⟩ := (Ld hB0 hd0)
  have g0 : (RO B c.den : Int) ≠ 0 := by have := Nm.gcd_pos (a := B) (b := c.den) (by lia); lia
  have bd2 : Bd n (Ts c.den (RO B c.den : Int)) := (hB c hcm).fdiv
  have hni : n * i ≤ n * qs.length := TR n (by lia)
  have hnm : n * (qs.length + 2) = n * qs.length + 2 * n := by rw [SU]; lia
  refine ⟨_, rfl, _, rfl, r', _, _, _, rfl, rfl, hr, rfl, _, rfl, _, rfl, r', _, _, _, rfl, rfl, hr, rfl, _, _, rfl, _, _, rfl, rfl, g0, _, _, rfl, rfl, Bj.bd hbd bd2 (by lia), ?_⟩
  refine ⟨rfl, _, _, rfl, l1, fun q' hq' => ?_, ?_⟩
  ·rw [Sd, hc] at hq'
   rcases R0.mp hq' with z | z
   ·exact Int.dvd_trans (hdv q' z) l2
   ·have : q' = c := by simpa using z
    subst this; exact l3
  ·have := hbd.mul bd2
   rw [SU, Nat.mul_one, show n * i + n + 1 = n * i + 1 + n by lia]
   exact this
 ·rintro σ H' hR2
  refine Ck hR2 fun hq24 hz26 => ?_
  refine E8 hz26 fun B z hz26' => ?_
  clear hz26
  refine LJ hz26' fun hq25 hB0 hdv hbd => ?_
  clear hz26'
  obtain rfl := hq24
  obtain rfl := hq25
  try clear hR2
  rw [hl, Sf] at hdv
  rw [hl] at hbd
  exact ⟨_, rfl, q B hB0 hdv hbd⟩
theorem GL : As ["numbers", "bottom"] ["numbers", "bottom"] (Af (top 24)) := ⟨rfl, rfl, rfl, by decide +kernel, rfl, by decide +kernel, by decide +kernel⟩
theorem GX {f : Addr} {fd : FuncData} (F : Fun K "tops_over" "tops_over" (top 24) f fd) (hT : P.given.tree = none) :
 AI P w K mg base CX0 33 f fd ["numbers", "bottom"] (Ci K) := by
 refine F.ok GL (fun vs H Q E h => ?_) (fun cdv A outer s H vs Q E hr h => ?_)
 ·obtain ⟨_, _, _, _, _, _, _, rfl, _⟩ := h; rfl
 refine ⟨_, (Ai (Aw (CD rfl (N := ["number", "bottom"]) (nt := 1) (js := [1]) (AY.look (NX := ["numbers", "bottom"]) (sc := Af (top 24)) rfl rfl (by decide +kernel)) (piS K (pv 0)) (fun u1 u2 u3 u4 u5 => (AE (i := 0) (show List.Nodup (["number", "bottom"] : List Str) from by decide +kernel) rfl (Or.inl rfl))) (AG (by decide)) (fun u1 u2 u3 u4 u5 => Bx) (fun u1 u2 u3 u4 u5 => (Ah Ap (Ak (ixT K) (pv 0) Ab (fun u v => rfl)) (Ah (Bv hr hT) (pv 1) (Ak (ixT K) (pv 0) Ab (fun u v => rfl)))))))), ?_⟩
 obtain ⟨b, r, xs, qs, B, m, n, rfl, hS, hn, hbB, hbn, hmn, hz, q⟩ := h
 have hl := hn.length
 refine IT (b := b) (a := r) (xs := xs) rfl (fun i zs H' => H' = H ∧ zs = ((qs.take i).map (Ao B)).map V.int) ⟨rfl, rfl⟩ (fun i zs H' hi p => ⟨by rw [p.1]; exact hS, by rw [p.2, Rx, Rx, Rp]; lia⟩) (by rw [hl]; exact QV (AW hz)) ?_ ?_
 ·rintro i x zs H' hx ⟨rfl, rfl⟩
  obtain ⟨c, hc, r', rfl, hr⟩ := (Paired.get hn hx)
  have hcm : c ∈ qs := Rv hc
  have hd0 : (c.den : Int) ≠ 0 := by have := c.den_pos; lia
  refine ⟨_, rfl, r', _, _, _, rfl, rfl, hr, rfl, _, rfl, _, rfl, r', _, _, _, rfl, rfl, hr, rfl, _, _, rfl, rfl, hd0, _, _, rfl, rfl, Bj.bd (hbn c hcm) (hbB.fdiv (y := c.den)) (by lia), rfl, ?_⟩
  rw [Sd, hc, Se, Se]
  rfl
 ·rintro zs H' ⟨rfl, rfl⟩ p hp
  rw [hl, Sf]
  exact q p hp
theorem IG : As ["a", "b"] ["a", "b"] (Af (top 19)) := ⟨rfl, rfl, rfl, by decide +kernel, rfl, by decide +kernel, by decide +kernel⟩
theorem IK {f : Addr} {fd : FuncData} (F : Fun K "is_less" "is_less" (top 19) f fd) (hT : P.given.tree = none) :
 AI P w K mg base CX0 33 f fd ["a", "b"] (GD K) := by
 refine F.ok IG (fun vs H Q E h => ?_) (fun cdv A outer s H vs Q E hr h => ?_)
 ·obtain ⟨_, _, _, _, _, _, rfl, _⟩ := h; rfl
 refine ⟨_, (Ai (Aw (Dx Ff (Ah Ap (Ak (ixT K) (pv 0) Ab (fun u v => rfl)) (Ak (ixT K) (pv 1) Ab (fun u v => rfl))) (Ah Ap (Ak (ixT K) (pv 1) Ab (fun u v => rfl)) (Ak (ixT K) (pv 0) Ab (fun u v => rfl))) (Ay _)))), ?_⟩
 obtain ⟨x, y, p, q, m, n, rfl, ⟨r, rfl, hr'⟩, ⟨u, rfl, hu⟩, hp, hq, hmn, k⟩ := h
 refine ⟨_, rfl, r, _, _, _, rfl, rfl, hr', rfl, _, rfl, u, _, _, _, rfl, rfl, hu, rfl, _, _, rfl, rfl, Bj.bd hp.1 hq.2, ?_⟩
 refine ⟨_, rfl, u, _, _, _, rfl, rfl, hu, rfl, _, rfl, r, _, _, _, rfl, rfl, hr', rfl, _, _, rfl, rfl, Bj.bd hq.1 hp.2, _, _, rfl, rfl, ?_⟩
 have e := Mh p q
 show Q (.bl (decide (p.num * q.den < q.num * p.den))) H
 rw [e]
 exact k
theorem Dg : As ["numbers", "width"] ["numbers"] (Af (top 22)) := ⟨rfl, rfl, rfl, by decide +kernel, rfl, by decide +kernel, by decide +kernel⟩
theorem HV {f : Addr} {fd : FuncData} (F : Fun K "curve_of" "curve_of" (top 22) f fd) (OW : mg "len" = none) (Pb : mg "tuple" = none) {a_NOUGHT : Addr} (c_NOUGHT : mg "NOUGHT" = some (.ref a_NOUGHT)) (n_NOUGHT : ∀ H : Hp, Au K H (.ref a_NOUGHT) (0)) (hT : P.given.tree = none) :
 AI P w K mg base CX0 33 f fd ["numbers"] (Ek K) := by
 refine F.ok Dg (fun vs H Q E h => ?_) (fun cdv A outer s H vs Q E hr h => ?_)
 ·obtain ⟨_, _, _, rfl, _⟩ := h; rfl
 refine ⟨_, (Ae (K := K) (Aj (i := 1) Dg.nd rfl (Or.inl rfl) (Al (BC K) rfl OW AJ (Aa (pv 0) Ac)))
  (Ae (K := K) (BQ PassesOwn.never (PW.pt (GQ (Av CN (pv 1) Ab (Ay _)) (EH (Av (eqD K hr.units) (Ak (ixL K) (pv 0) (Ah Bo (pv 1) Ab) (fun u v => rfl)) (By (v := .ref a_NOUGHT) rfl c_NOUGHT rfl) (Ay _))))) (Ai (Aj (i := 1) Dg.nd rfl (Or.inl rfl) (Ah Bo (pv 1) Ab))))
  (Ai (Aw (Ct (Iz K) rfl Pb Fz (Aa (F0 (slL K) (pv 0) GU (GS (pv 1))) Ac)))) (by rfl)) (by rfl)), ?_⟩
 obtain ⟨r, xs, qs, rfl, hS, hn, hz, q⟩ := h
 have hl := hn.length
 refine ⟨_, rfl, r, xs, rfl, .inl hS, ?_⟩
 refine HI (L3 H r qs fun H r qs σ H' => H' = H ∧ ∃ (v : Nat), σ = [some (.ref r), some (.int (v : Int))] ∧ v ≤ qs.length ∧ ∀ j q, v ≤ j → qs[j]? = some q → q = 0) (fun σ _ => mu 1 σ) ⟨rfl, qs.length, by rw [← hl]; rfl, R8 _, fun j q hj e => absurd (R3.mp e).1 (by lia)⟩ ?_
 rintro σ H' hR1
 refine Ck hR1 fun hq29 hz31 => ?_
 refine Lr hz31 fun v hz31' => ?_
 clear hz31
 refine HB hz31' fun hq30 hv hall => ?_
 clear hz31'
 obtain rfl := hq29
 obtain rfl := hq30
 try clear hR1
 have fin : (v = 0 ∨ ∃ q, qs[v - 1]? = some q ∧ q ≠ 0) → ∀ p, H' p = none → ∀ p', upd H' p (.lst (DE xs none (some (v : Int)))) p' = none → Q (.ref p') (upd (upd H' p (.lst (DE xs none (some (v : Int))))) p' (.tup (DE xs none (some (v : Int))))) := fun hc p hp p' hp' => by
  have e : DE xs none (some (v : Int)) = xs.take v := by
   unfold DE
   have e1 : HT.sIx xs.length 0 none = 0 := rfl
   have e2 : HT.sIx xs.length xs.length (some (v : Int)) = min v xs.length := HT.sIx_nat _ _ v
   rw [e1, e2, SO, SQ]
   apply Sm
   intro i
   rw [Ua, Ua]
   split <;> split <;> first | rfl | lia | (rename_i h1 h2; exact (SV (by lia)).symm) | (rename_i h1 h2; exact SV (by lia))
  have sm : Ag H' (upd (upd H' p (.lst (DE xs none (some (v : Int))))) p' (.tup (DE xs none (some (v : Int))))) := (Ag.new hp).trans (Ag.new hp')
  refine q p' _ sm ⟨xs.take v, SqT.of (by rw [e]; exact Ad), ?_⟩
  rw [← Cv.take_strip qs v hall hc]
  exact Paired.take v (AS.same hn sm)
 refine ⟨_, rfl, _, _, rfl, rfl, _, rfl, ?_⟩
 by_cases hv0 : v = 0
 ·subst hv0
  refine Dc (Dc ?_)
  exact ⟨_, rfl, _, rfl, _, rfl, r, xs, rfl, hS, fun p hp => ⟨p, _, rfl, .inl ⟨SqL.of Ad, fun p' hp' => fin (.inl rfl) p hp p' hp'⟩⟩⟩
 ·refine Bs (by rw [decide_eq_true (show (0 : Int) < (v : Int) by lia)] <;> rfl) ?_
  have hvi : v - 1 < qs.length := by lia
  have hq : qs[v - 1]? = some qs[v - 1] := Sv hvi
  obtain ⟨x, hx, hxn⟩ := (Paired.get' hn hq)
  have hat : atI xs ((v : Int) - 1) = some x := by
   rw [show (v : Int) - 1 = ((v - 1 : Nat) : Int) by lia]
   exact AA hx
  refine ⟨_, rfl, _, rfl, _, _, rfl, rfl, r, xs, _, x, rfl, rfl, hS, hat, ?_⟩
  refine eqN hxn (n_NOUGHT _) ?_
  refine ⟨_, rfl, ?_⟩
  by_cases hq0 : qs[v - 1] = 0
  ·refine Bs (by rw [decide_eq_true hq0] <;> rfl) (HH ?_)
   refine ⟨_, rfl, _, _, rfl, rfl, ⟨rfl, v - 1, ?_, by lia, fun j q' hj e => ?_⟩, ?_⟩
   ·show [some (V.ref r), some (V.int ((v : Int) - 1))] = [some (V.ref r), some (V.int ((v - 1 : Nat) : Int))]
    rw [show (v : Int) - 1 = ((v - 1 : Nat) : Int) by lia]
   ·by_cases hjv : v ≤ j
    ·exact hall j q' hjv e
    ·have : j = v - 1 := by lia
     subst this
     rw [hq] at e
     cases e
     exact hq0
   ·show ((v : Int) - 1).toNat < (v : Int).toNat
    lia
  ·refine AV (by rw [decide_eq_false hq0] <;> rfl) ?_
   exact ⟨_, rfl, _, rfl, _, rfl, r, xs, rfl, hS, fun p hp => ⟨p, _, rfl, .inl ⟨SqL.of Ad, fun p' hp' => fin (.inr ⟨_, hq, hq0⟩) p hp p' hp'⟩⟩⟩
theorem FJ : As ["tops", "bottom"] ["tops", "bottom"] (Af (top 25)) := ⟨rfl, rfl, rfl, by decide +kernel, rfl, by decide +kernel, by decide +kernel⟩
theorem FR {f : Addr} {fd : FuncData} (F : Fun K "curve_over" "curve_over" (top 25) f fd) (Qp : Fd P w K mg base 33 "curve_of" ["numbers"] (Ek K)) (P6 : Fd P w K mg base 34 "number_of" ["top", "bottom"] (Cm)) (hT : P.given.tree = none) :
 AI P w K mg base CX0 35 f fd ["tops", "bottom"] (Ca K) := by
 refine F.ok FJ (fun vs H Q E h => ?_) (fun cdv A outer s H vs Q E hr h => ?_)
 ·obtain ⟨_, _, _, rfl, _⟩ := h; rfl
 refine ⟨_, (Ai (Aw (Am Qp hr rfl (Aa (CD rfl (N := ["top", "bottom"]) (nt := 1) (js := [1]) (AY.look (NX := ["tops", "bottom"]) (sc := Af (top 25)) rfl rfl (by decide +kernel)) (piS K (pv 0)) (fun u1 u2 u3 u4 u5 => (AE (i := 0) (show List.Nodup (["top", "bottom"] : List Str) from by decide +kernel) rfl (Or.inl rfl))) (AG (by decide)) (fun u1 u2 u3 u4 u5 => Bx) (fun u1 u2 u3 u4 u5 => (Am P6 hr rfl (Aa (pv 0) (Aa (pv 1) Ac))))) Ac)))), ?_⟩
 obtain ⟨l, ts, b, rfl, hS, hb, hz, q⟩ := h
 have ll : (ts.map V.int).length = ts.length := Rx _
 refine IT (b := true) (a := l) (xs := ts.map V.int) rfl (L4 H K ts b fun H K ts b i zs H' => Ag H H' ∧ zs.length = i ∧ AS K H' zs ((ts.take i).map fun t => RS t b)) ⟨Ag.refl _, rfl, .nil⟩ (fun i zs H' _ p => ⟨Ag.seq p.1 hS, p.2.1⟩) (by rw [ll]; exact QV (AW hz)) ?_ ?_
 ·rintro i x zs H' hx ⟨sm, hl, hn⟩
  rw [Ru] at hx
  cases et : ts[i]? with
  | none => rw [et] at hx; cases hx
  | some t =>
    rw [et] at hx
    cases hx
    refine ⟨_, rfl, _, rfl, t, b, rfl, hb, fun p hp => ⟨sm.trans (Ag.new hp), by simp [hl], ?_⟩⟩
    rw [Sd, et, Se]
    exact Paired.snoc (AS.same hn (Ag.new hp)) (Au.of Ad)
 ·rintro zs H' ⟨sm, hl, hn⟩ p hp
  rw [ll, Sf] at hn
  refine ⟨p, zs, _, rfl, SqL.of Ad, AS.same hn (Ag.new hp), by rw [Rx]; exact hz, fun r H2 s2 c => q r H2 ((sm.trans (Ag.new hp)).trans s2) c⟩
theorem BG : As ["first", "second", "product", "k", "j"] ["first", "second"] (Af (top 28)) := ⟨rfl, rfl, rfl, by decide +kernel, rfl, by decide +kernel, by decide +kernel⟩
theorem Et {f : Addr} {fd : FuncData} (F : Fun K "whole_product" "whole_product" (top 28) f fd) (OX : mg "range" = none) (OW : mg "len" = none) (hT : P.given.tree = none) :
 AI P w K mg base CX0 33 f fd ["first", "second"] (IF K) := by
 refine F.ok BG (fun vs H Q E h => ?_) (fun cdv A outer s H vs Q E hr h => ?_)
 ·obtain ⟨_, _, _, _, _, _, rfl, _⟩ := h; rfl
 refine ⟨_, (Ae (K := K) (Aj (i := 2) BG.nd rfl (Or.inl rfl) (Ah Nh (AU (Aa Ab Ac)) (Ah Bo (Ah AF (Al (BC K) rfl OW AJ (Aa (pv 0) Ac)) (Al (BC K) rfl OW AJ (Aa (pv 1) Ac))) Ab)))
  (Ae (K := K) (BK (K := K) PassesOwn.never rfl (BA rfl OX (Aa (Al (BC K) rfl OW AJ (Aa (pv 0) Ac)) Ac)) (AE (i := 3) BG.nd rfl (Or.inl rfl)) (Ai (BK (K := K) PassesOwn.never rfl (BA rfl OX (Aa (Al (BC K) rfl OW AJ (Aa (pv 1) Ac)) Ac)) (AE (i := 4) BG.nd rfl (Or.inl rfl)) (Ai (Em (Ah AF (Ak (ixL K) (pv 2) (Ah AF (pv 3) (pv 4)) (fun u v => rfl)) (Ah Ap (Ak (ixL K) (pv 0) (pv 3) (fun u v => rfl)) (Ak (ixL K) (pv 1) (pv 4) (fun u v => rfl)))) (EZ (pv 2) (Ah AF (pv 3) (pv 4)) Df))) (by rfl))) (by rfl))
  (Ai (Aw (pv 2))) (by rfl)) (by rfl)), ?_⟩
 obtain ⟨f, g, fs, gs, m, n, rfl, hf, hg, hg1, hf1000, hg1000, hbf, hbg, hmn, q⟩ := h
 have lf : (fs.map V.int).length = fs.length := Rx _
 have lg : (gs.map V.int).length = gs.length := Rx _
 have P1 : 1 ≤ sizeLine := by decide
 have hfg : fs.length * gs.length ≤ 1000 * 1000 := Tr hf1000 hg1000
 refine ⟨P1, fun o ho => ?_⟩
 have hf0 : SqL K (upd H o (.lst [.int 0])) f (fs.map V.int) := Kv hf ho
 have hg0 : SqL K (upd H o (.lst [.int 0])) g (gs.map V.int) := Kv hg ho
 refine ⟨_, rfl, f, _, rfl, .inl hf0, _, rfl, g, _, rfl, .inl hg0, _, _, rfl, rfl, _, _, rfl, rfl, o, _, _, rfl, rfl, Ad, ?_, ?_, ?_, fun p hp => ?_⟩
 ·rw [lf, lg]; lia
 ·rw [lf, lg]; lia
 ·show 1 * (((fs.map V.int).length : Int) + ((gs.map V.int).length : Int) - 1).toNat ≤ sizeLine
  rw [lf, lg, SI]
  exact QU (JX hf1000 hg1000) (by decide : 2 * 1000 ≤ sizeLine)
 have hpH : H p = none := by
  cases z : H p with
  | none => rfl
  | some u => rw [(Ag.new ho) p u z] at hp; cases hp
 have eL : (((fs.map V.int).length : Int) + ((gs.map V.int).length : Int) - 1).toNat = fs.length + gs.length - 1 := by rw [lf, lg]; exact KU hg1
 rw [eL]
 have s0 : Ag H (upd (upd H o (.lst [.int 0])) p (.lst (Rm (fs.length + gs.length - 1) [V.int 0]).flatten)) := (Ag.new ho).trans (Ag.new hp)
 have e0 : (Rm (fs.length + gs.length - 1) [V.int 0]).flatten = (Rm (fs.length + gs.length - 1) (0 : Int)).map V.int := by rw [List.flatten_replicate_singleton, List.map_replicate]
 rw [e0] at s0 ⊢
 refine ⟨_, rfl, f, _, rfl, .inl (Ag.seq s0 hf), _, rfl, by rw [lf]; lia, by rw [lf]; lia, ?_⟩
 rw [lf, RD]
 refine BN (n := fs.length) (L8 H f g p fs gs m n fun H f g p fs gs m n i σ H' => Ag H H' ∧ ∃ (ps : List Int) (z3 z4 : Option V), σ = [some (.ref f), some (.ref g), some (.ref p), z3, z4] ∧ H' p = some (.lst (ps.map V.int)) ∧ ps.length = fs.length + gs.length - 1 ∧ (∀ x, Cv.evI ps x = Cv.evI (fs.take i) x * Cv.evI gs x) ∧ ∀ t ∈ ps, Up (i * gs.length) (m + n) t)
  ⟨s0, _, none, none, rfl, Ad, Ry, fun x => ?_, fun t ht => ?_⟩ ?_ ?_
 ·rw [Cv.evI_zeros, List.take_zero]
  show (0 : Rat) = 0 * _
  grind
 ·rw [(List.mem_replicate.mp ht).2]; exact Rb _
 ·rintro i σ H' hi hR1
  refine Ck hR1 fun sm hz33 => ?_
  refine Hk hz33 fun ps z3 z4 hz33' => ?_
  clear hz33
  refine HA hz33' fun hq32 ep hpl hev hup => ?_
  clear hz33'
  obtain rfl := hq32
  try clear hR1
  have hfi : fs[i]? = some fs[i] := Sv hi
  refine ⟨_, rfl, g, _, rfl, .inl (Ag.seq sm hg), _, rfl, by rw [lg]; lia, by rw [lg]; lia, ?_⟩
  rw [lg, RD]
  refine BN (n := gs.length) (fun j σ H' => Ag H H' ∧ ∃ (ps : List Int) (z4 : Option V), σ = [some (.ref f), some (.ref g), some (.ref p), some (.int (0 + (i : Int))), z4] ∧ H' p = some (.lst (ps.map V.int)) ∧ ps.length = fs.length + gs.length - 1 ∧ (∀ x, Cv.evI ps x = Cv.evI (fs.take i) x * Cv.evI gs x + (fs[i] : Rat) * x ^ i * Cv.evI (gs.take j) x) ∧ ∀ t ∈ ps, Up (i * gs.length + j) (m + n) t)
   ⟨sm, ps, z4, rfl, ep, hpl, fun x => ?_, hup⟩ ?_ ?_
  ·rw [hev x, List.take_zero]
   show _ = _ + _ * (0 : Rat)
   grind
  ·rintro j σ H2 hj hR2
   refine Ck hR2 fun sm2 hz35 => ?_
   refine E8 hz35 fun ps2 z4' hz35' => ?_
   clear hz35
   refine HA hz35' fun hq34 ep2 hpl2 hev2 hup2 => ?_
   clear hz35'
   obtain rfl := hq34
   try clear hR2
   have hgj : gs[j]? = some gs[j] := Sv hj
   have hij : i + j < ps2.length := Nn hi hj hpl2
   have hpj : ps2[i + j]? = some ps2[i + j] := Sv hij
   have bm : Bj fs[i] gs[j] := Bj.bd (hbf _ (Sw hi)) (hbg _ (Sw hj)) (by lia)
   refine ⟨_, rfl, _, rfl, _, rfl, _, _, rfl, rfl, p, _, _, _, rfl, rfl, SqL.of ep2, C8 hpj (by lia), _, rfl, _, rfl, f, _, _, _, rfl, rfl, Ag.seq sm2 hf, C8 hfi (by lia), _, rfl, _, rfl, g, _, _, _, rfl, rfl, Ag.seq sm2 hg, C8 hgj (by lia), _, _, rfl, rfl, bm, _, _, rfl, rfl, ?_⟩
   refine ⟨_, rfl, _, rfl, _, rfl, _, _, rfl, rfl, p, _, _, i + j, rfl, rfl, ep2, Fq (by rw [Rx]; exact hij) (by lia), ?_⟩
   refine ⟨sm2.put hpH, ps2.set (i + j) (ps2[i + j] + fs[i] * gs[j]), _, rfl, ?_, by rw [RF]; exact hpl2, fun x => ?_, fun t ht => ?_⟩
   ·rw [Ad, Sb]
   ·rw [Cv.evI_set x ps2 (i + j) _ _ hpj, hev2 x, Cv.evI_take_succ x gs j _ hgj, S5, Nm.pow_add]
    grind
   ·rcases List.mem_or_eq_of_mem_set ht with z | z
    ·exact (hup2 t z).mono (by lia)
    ·subst z
     exact (hup2 _ (Sw hij)).add ((hbf _ (Sw hi)).mul (hbg _ (Sw hj)))
  ·rintro σ H2 hR3
   refine Ck hR3 fun sm2 hz37 => ?_
   refine E8 hz37 fun ps2 z4' hz37' => ?_
   clear hz37
   refine HA hz37' fun hq36 ep2 hpl2 hev2 hup2 => ?_
   clear hz37'
   obtain rfl := hq36
   try clear hR3
   refine ⟨sm2, ps2, _, _, rfl, ep2, hpl2, fun x => ?_, fun t ht => ?_⟩
   ·rw [hev2 x, Sf, Cv.evI_take_succ x fs i _ hfi]
    grind
   ·have := hup2 t ht
    rw [SH, SI]
    exact this
 ·rintro σ H' hR4
  refine Ck hR4 fun sm hz39 => ?_
  refine Hk hz39 fun ps z3 z4 hz39' => ?_
  clear hz39
  refine HA hz39' fun hq38 ep hpl hev hup => ?_
  clear hz39'
  obtain rfl := hq38
  try clear hR4
  refine ⟨_, rfl, q p H' ps sm hpH ep hpl (fun x => ?_) (fun t ht => ?_)⟩
  ·rw [hev x, Sf]
  ·exact (hup t ht).bd (k := 20) (by lia)
theorem Bi : As ["curve", "a", "b", "under", "line", "bottom", "tops", "scale", "top"] ["curve", "a", "b"] (Af (top 30)) := ⟨rfl, rfl, rfl, by decide +kernel, rfl, by decide +kernel, by decide +kernel⟩
theorem GW {f : Addr} {fd : FuncData} (F : Fun K "with_line" "with_line" (top 30) f fd) (OZ : Fd P w K mg base 34 "bottom_of" ["numbers"] (D8 K)) (P5 : Fd P w K mg base 33 "tops_over" ["numbers", "bottom"] (Ci K)) (Pj : Fd P w K mg base 35 "curve_over" ["tops", "bottom"] (Ca K)) (Qq : Fd P w K mg base 33 "whole_product" ["first", "second"] (IF K)) (Pk : mg "reversed" = none) (hT : P.given.tree = none) :
 AI P w K mg base CX0 36 f fd ["curve", "a", "b"] (GC K) := by
 refine F.ok Bi (fun vs H Q E h => ?_) (fun cdv A outer s H vs Q E hr h => ?_)
 ·obtain ⟨_, _, _, _, _, _, _, rfl, _⟩ := h; rfl
 refine ⟨_, (Ae (K := K) (Aj (i := 3) Bi.nd rfl (Or.inr rfl) (Am OZ hr rfl (Aa (AU (Aa (pv 2) (Aa (pv 1) Ac))) Ac)))
  (Ae (K := K) (Aj (i := 4) Bi.nd rfl (Or.inl rfl) (Am P5 hr rfl (Aa (AU (Aa (pv 2) (Aa (pv 1) Ac))) (Aa (pv 3) Ac))))
  (Ae (K := K) (Aj (i := 5) Bi.nd rfl (Or.inl rfl) (Am OZ hr rfl (Aa (pv 0) Ac)))
  (Ae (K := K) (Aj (i := 6) Bi.nd rfl (Or.inl rfl) (AU Ac))
  (Ae (K := K) (Aj (i := 7) Bi.nd rfl (Or.inl rfl) Ab)
  (Ae (K := K) (BK (K := K) PassesOwn.never rfl (MD K rfl Pk (Am P5 hr rfl (Aa (pv 0) (Aa (pv 5) Ac)))) (AE (i := 8) Bi.nd rfl (Or.inl rfl)) (Ae (K := K) (Aj (i := 6) Bi.nd rfl (Or.inl rfl) (Am Qq hr rfl (Aa (pv 6) (Aa (pv 4) Ac))))
  (Ae (K := K) (Em (Ah AF (Ak (ixL K) (pv 6) Ab (fun u v => rfl)) (Ah Ap (pv 8) (pv 7))) (EZ (pv 6) Ab Df))
  (Ai (Aj (i := 7) Bi.nd rfl (Or.inl rfl) (Ah Ap (pv 7) (pv 3)))) (by rfl)) (by rfl)) (by rfl))
  (Ai (Aw (Am Pj hr rfl (Aa (CD rfl (N := ["top", "under"]) (nt := 1) (js := [3]) (AY.look (NX := ["curve", "a", "b", "under", "line", "bottom", "tops", "scale", "top"]) (sc := Af (top 30)) rfl rfl (by decide +kernel)) (piS K (pv 6)) (fun u1 u2 u3 u4 u5 => (AE (i := 0) (show List.Nodup (["top", "under"] : List Str) from by decide +kernel) rfl (Or.inl rfl))) (AG (by decide)) (fun u1 u2 u3 u4 u5 => Bx) (fun u1 u2 u3 u4 u5 => (Ah Ap (pv 0) (pv 1)))) (Aa (Ah Ap (pv 5) (pv 7)) Ac))))) (by rfl)) (by rfl)) (by rfl)) (by rfl)) (by rfl)) (by rfl)), ?_⟩
 obtain ⟨r, ra, rb, qs, a, b, n, rfl, ⟨xs, hS, hn⟩, ⟨_, era, ha⟩, ⟨_, erb, hb⟩, hB, hba, hbb, hn1, h100, q⟩ := h
 cases era
 cases erb
 have hl := hn.length
 have P2 : 2 ≤ sizeLine := by decide
 have bB : ∀ c ∈ [b, a], RB n c := fun c hc => by
  rcases QZ.mp hc with z | z
  ·rw [z]; exact hbb
  ·rw [Ss.mp z]; exact hba
 have hnq : n * qs.length ≤ 1000 * 100 := Tr hn1 h100
 refine ⟨_, rfl, _, rfl, P2, fun l1 h1 => ?_⟩
 have nl1 : AS K (upd H l1 (.lst [.ref rb, .ref ra])) [.ref rb, .ref ra] [b, a] := .cons ⟨rb, rfl, SqT.same hb (Ag.new h1)⟩ (.cons ⟨ra, rfl, SqT.same ha (Ag.new h1)⟩ .nil)
 refine ⟨true, l1, _, [b, a], n, rfl, SqL.of Ad, nl1, (fun c hc => (bB c hc).2), by show n * 4 ≤ _; lia, fun U hU0 hdU hbU => ?_⟩
 have e2n : n * ([b, a] : List Rat).length + 1 = n * 2 + 1 := rfl
 rw [e2n] at hbU
 refine ⟨_, rfl, _, rfl, P2, fun l2 h2 => ?_⟩
 have nl2 : AS K (upd (upd H l1 (.lst [.ref rb, .ref ra])) l2 (.lst [.ref rb, .ref ra])) [.ref rb, .ref ra] [b, a] := AS.same nl1 (Ag.new h2)
 refine ⟨_, rfl, true, l2, _, [b, a], U, n * 2 + 1, n, rfl, SqL.of Ad, nl2, hbU, (fun c hc => (bB c hc).1), by lia, (show 2 ≤ 1000 by decide), fun ll h3 => ?_⟩
 have s3 : Ag H (upd (upd (upd H l1 (.lst [.ref rb, .ref ra])) l2 (.lst [.ref rb, .ref ra])) ll (.lst (([b, a].map (Ao U)).map V.int))) := ((Ag.new h1).trans (Ag.new h2)).trans (Ag.new h3)
 have ell : (upd (upd (upd H l1 (.lst [.ref rb, .ref ra])) l2 (.lst [.ref rb, .ref ra])) ll (.lst (([b, a].map (Ao U)).map V.int))) ll = some (.lst (([b, a].map (Ao U)).map V.int)) := Ad
 generalize upd (upd (upd H l1 (.lst [.ref rb, .ref ra])) l2 (.lst [.ref rb, .ref ra])) ll (.lst (([b, a].map (Ao U)).map V.int)) = H3 at s3 ell ⊢
 have hlin : ∀ x, Cv.evI ([b, a].map (Ao U)) x = (a * x + b) * (U : Rat) := fun x => by
  show ((Ao U b : Int) : Rat) + x * (((Ao U a : Int) : Rat) + x * 0) = _
  rw [BM (hdU b QX), BM (hdU a (QY _ QX))]
  grind
 have blin : ∀ t ∈ [b, a].map (Ao U), Bd (n * 3 + 1) t := fun t ht => by
  obtain ⟨c, hc, rfl⟩ := (Tt.mp ht)
  exact ((bB c hc).1.mul (hbU.fdiv (y := c.den))).mono (by lia)
 refine ⟨_, rfl, false, r, xs, qs, n, rfl, SqT.same hS s3, AS.same hn s3, (fun c hc => (hB c hc).2), by rw [SU]; lia, fun B hB0 hdv hbB => ?_⟩
 refine ⟨(by decide : 0 ≤ sizeLine), fun tp h4 => ?_⟩
 have s4 : Ag H (upd H3 tp (.lst [])) := s3.trans (Ag.new h4)
 refine ⟨_, rfl, _, rfl, false, r, xs, qs, B, n * qs.length + 1, n, rfl, SqT.same hS s4, AS.same hn s4, hbB, (fun c hc => (hB c hc).1), by lia, by lia, fun l h5 => ⟨_, rfl, l, _, rfl, SqL.of Ad, ?_⟩⟩
 have hHl : H l = none := by
  cases z : H l with
  | none => rfl
  | some u => rw [s4 l u z] at h5; cases h5
 have s5 : Ag H (upd (upd H3 tp (.lst [])) l (.lst ((qs.map (Ao B)).map V.int))) := s4.trans (Ag.new h5)
 have ell5 := (Ag.new (o := .lst ((qs.map (Ao B)).map V.int)) h5) _ _ ((Ag.new (o := .lst []) h4) _ _ ell)
 have etp5 := (Ag.new (o := .lst ((qs.map (Ao B)).map V.int)) h5) _ _ (Ad (H := H3) (a := tp) (o := .lst []))
 have el5 : (upd (upd H3 tp (.lst [])) l (.lst ((qs.map (Ao B)).map V.int))) l = some (.lst ((qs.map (Ao B)).map V.int)) := Ad
 have tl : (List.map V.int (qs.map (Ao B))).length = qs.length := by rw [Rx, Rx]
 have tB : ∀ c ∈ qs, Bd (n * qs.length + n + 1) (Ao B c) := fun c hc => ((hB c hc).1.mul (hbB.fdiv (y := c.den))).mono (by lia)
 generalize hH5 : upd (upd H3 tp (.lst [])) l (.lst ((qs.map (Ao B)).map V.int)) = H5 at s5 ell5 etp5 el5 ⊢
 refine Jy (L11 H5 r ra rb U ll B qs a b n fun H5 r ra rb U ll B qs a b n i σ H' => Ag H5 H' ∧ ∃ (tp : Addr) (ts : List Int) (s : Int) (z : Option V), σ = [some (.ref r), some (.ref ra), some (.ref rb), some (.int U), some (.ref ll), some (.int B), some (.ref tp), some (.int s), z] ∧ H' tp = some (.lst (ts.map V.int)) ∧ ts.length = i ∧ s ≠ 0 ∧
  (∀ x, Cv.evI ts x * (U : Rat) = Cv.ev (((qs.map (Ao B)).map fun t : Int => (t : Rat)).drop (qs.length - i)) (a * x + b) * (s : Rat)) ∧ (∀ t ∈ ts, Bd (3 * (n * i) + 22 * i + n * qs.length + 3 * n + 10) t) ∧ Bd (2 * (n * i) + i + 1) s)
  ⟨Ag.refl _, tp, [], 1, none, rfl, etp5, rfl, by decide, fun x => ?_, (fun _ h => nomatch h), ?_⟩ (fun i σ H' _ p => SqL.of (p.1 _ _ el5)) ?_ ?_
 ·rw [SQ, List.drop_eq_nil_of_le (by rw [Rx, Rx]; exact R8 _)]
  show (0 : Rat) * _ = 0 * _
  grind
 ·exact (show Bd 1 1 by unfold Bd; decide).mono (by lia)
 ·rintro i v σ H' hi hv hR1
  refine Ck hR1 fun sm hz41 => ?_
  refine Mr hz41 fun tp' ts s z hz41' => ?_
  clear hz41
  refine My hz41' fun hq40 etp htl hs0 he hbt hbs => ?_
  clear hz41'
  obtain rfl := hq40
  try clear hR1
  rw [tl] at hi hv
  have hj : qs.length - 1 - i < qs.length := by lia
  rw [Ru, Ru, Sv hj] at hv
  cases hv
  have hcm : qs[qs.length - 1 - i] ∈ qs := Sw hj
  have bt := tB _ hcm
  have hni : n * i ≤ 1000 * 100 := Tr hn1 (by lia)
  have hni1 : n * (i + 1) = n * i + n := by rw [SU, Nat.mul_one]
  refine ⟨_, rfl, _, rfl, tp', ll, ts, [b, a].map (Ao U), 3 * (n * i) + 22 * i + n * qs.length + 3 * n + 10, n * 3 + 1, rfl, SqL.of etp, SqL.of (sm _ _ ell5), (show 1 ≤ 2 by decide), by lia, (show 2 ≤ 1000 by decide), hbt, blin, by lia, fun pr H6 ps s6 hpr epr hpl hpe hpb => ?_⟩
  have hpl' : ps.length = i + 1 := by rw [hpl, htl]; rfl
  have h0 : ps[0]? = some ps[0] := Sv (by lia)
  have mts : Bj (Ao B qs[qs.length - 1 - i]) s := Bj.bd bt hbs (by lia)
  refine ⟨_, rfl, pr, _, _, _, rfl, rfl, SqL.of epr, C8 h0 rfl, _, rfl, _, rfl, _, _, rfl, rfl, mts, _, _, rfl, rfl, ?_⟩
  refine ⟨_, rfl, pr, _, _, 0, rfl, rfl, epr, Fq (by rw [Rx]; lia) rfl, ?_⟩
  refine ⟨_, rfl, _, rfl, _, _, rfl, rfl, Bj.bd hbs hbU (by lia), ?_⟩
  have sm2 : Ag H5 (upd H6 pr (.lst ((ps.map V.int).set 0 (.int (ps[0] + Ao B qs[qs.length - 1 - i] * s))))) := fun bb u zz => by
   have z1 := sm bb u zz
   rw [AB (Az z1 hpr)]
   exact s6 bb u z1
  refine ⟨sm2, pr, ps.set 0 (ps[0] + Ao B qs[qs.length - 1 - i] * s), s * U, _, rfl, ?_, by rw [RF]; exact hpl', RY hs0 (by lia), fun x => ?_, fun t ht => ?_, ?_⟩
  ·rw [Ad, Sb]
  ·rw [Cv.evI_set x ps 0 _ _ h0, hpe x, hlin x, S6]
   have hd : qs.length - i = (qs.length - (i + 1)) + 1 := by lia
   have hlen : qs.length - (i + 1) < ((qs.map (Ao B)).map fun t : Int => (t : Rat)).length := by rw [Rx, Rx]; lia
   rw [List.drop_eq_getElem_cons hlen, ← hd]
   have hg : ((qs.map (Ao B)).map fun t : Int => (t : Rat))[qs.length - (i + 1)] = ((Ao B qs[qs.length - 1 - i] : Int) : Rat) := by
    rw [TZ, TZ]
    congr 3
    lia
   rw [hg]
   have h6 := he x
   show (Cv.evI ts x * ((a * x + b) * (U : Rat)) + ((Ao B qs[qs.length - 1 - i] * s : Int) : Rat) * 1) * (U : Rat) = (_ + (a * x + b) * _) * ((s * U : Int) : Rat)
   rw [S5, S5]
   grind
  ·rcases List.mem_or_eq_of_mem_set ht with zz | zz
   ·exact (hpb t zz).mono (by lia)
   ·subst zz
    have b1 := (hpb _ (Sw (by lia : 0 < ps.length))).mono (n := 3 * (n * i) + 22 * i + n * qs.length + 3 * n + 10 + (n * 3 + 1) + 20) (by lia)
    have b2 := (bt.mul hbs).mono (n := 3 * (n * i) + 22 * i + n * qs.length + 3 * n + 10 + (n * 3 + 1) + 20) (by lia)
    exact (Bd.add b1 b2).mono (by lia)
  ·exact (hbs.mul hbU).mono (by lia)
 ·rintro σ H' hR2
  refine Ck hR2 fun sm hz43 => ?_
  refine Mr hz43 fun tp' ts s z hz43' => ?_
  clear hz43
  refine My hz43' fun hq42 etp htl hs0 he hbt hbs => ?_
  clear hz43'
  obtain rfl := hq42
  try clear hR2
  rw [tl] at htl he hbs hbt
  refine IT (b := true) (a := tp') (xs := ts.map V.int) rfl (fun i zs H2 => H2 = H' ∧ zs = ((ts.take i).map (· * U)).map V.int) ⟨rfl, rfl⟩ (fun i zs H2 hi p => ⟨by rw [p.1]; exact SqL.of etp, by rw [p.2, Rx, Rx, Rp]; rw [Rx] at hi; lia⟩) (by rw [Rx, htl]; exact QV (AW (by lia))) ?_ ?_
  ·rintro i v zs H2 hv ⟨rfl, rfl⟩
   rw [Ru] at hv
   cases et : ts[i]? with
   | none => rw [et] at hv; cases hv
   | some t =>
     rw [et] at hv
     cases hv
     refine ⟨_, rfl, _, rfl, _, _, rfl, rfl, Bj.bd (hbt t (Rv et)) hbU (by lia), rfl, ?_⟩
     rw [Sd, et, Se, Se]
     rfl
  rintro zs H2 ⟨rfl, rfl⟩ p hp
  rw [Rx, Sf]
  have hb0 : B * s ≠ 0 := RY (by lia) hs0
  refine ⟨_, rfl, _, rfl, _, _, rfl, rfl, Bj.bd hbB hbs (by lia), ?_⟩
  refine ⟨p, ts.map (· * U), B * s, rfl, SqL.of Ad, hb0, by rw [Rx]; lia, fun u H6 s6 c6 => ?_⟩
  refine q u H6 _ ((s5.trans (sm.trans (Ag.new hp))).trans s6) c6 (by have := Cv.strip_length ((ts.map (· * U)).map fun t => RS t (B * s)); rw [Rx, Rx] at this; lia) (Be _) (fun c hc => ?_) fun x => ?_
  ·have hc' := Cv.strip_mem _ c hc
   obtain ⟨t', ht', rfl⟩ := (Tt.mp hc')
   obtain ⟨t, ht, rfl⟩ := (Tt.mp ht')
   exact RB.div (m := 0) (((hbt t ht).mul hbU).mono (by lia)) ((hbB.mul hbs).mono (by lia)) hb0
  rw [Cv.ev_strip]
  have e : ((ts.map (· * U)).map fun t => RS t (B * s)) = (ts.map fun t : Int => (t : Rat)).map (· * ((U : Rat) / ((B * s : Int) : Rat))) := by
   rw [T5, T5]
   refine T6 fun t _ => ?_
   show RS (t * U) (B * s) = (t : Rat) * ((U : Rat) / ((B * s : Int) : Rat))
   rw [RW, S5, TL, TL]
   grind
  rw [e, Cv.ev_scale]
  have h7 := he x
  rw [Te, SO, Ds hdv] at h7
  show Cv.evI ts x * _ = _
  have hne : ((B * s : Int) : Rat) ≠ 0 := Nm.cast_ne hb0
  have hc : ((B * s : Int) : Rat) = (B : Rat) * (s : Rat) := S5 ..
  have h8 : ((B * s : Int) : Rat) * ((B * s : Int) : Rat)⁻¹ = 1 := Tj _ hne
  rw [TL, ← Tn, h7, Tn (Cv.ev qs (a * x + b)), ← hc, Tn, h8, To]
theorem KC : As ["a", "b"] ["a", "b"] (Af (top 16)) := ⟨rfl, rfl, rfl, by decide +kernel, rfl, by decide +kernel, by decide +kernel⟩
theorem KS {f : Addr} {fd : FuncData} (F : Fun K "minus" "minus" (top 16) f fd) (P6 : Fd P w K mg base 34 "number_of" ["top", "bottom"] (Cm)) (hT : P.given.tree = none) :
 AI P w K mg base CX0 35 f fd ["a", "b"] (BO K (· - ·)) := by
 refine F.ok KC (fun vs H Q E h => ?_) (fun cdv A outer s H vs Q E hr h => ?_)
 ·obtain ⟨_, _, _, _, _, _, rfl, _⟩ := h; rfl
 refine ⟨_, (Ai (Aw (Am P6 hr rfl (Aa (Ah Bo (Ah Ap (Ak (ixT K) (pv 0) Ab (fun u v => rfl)) (Ak (ixT K) (pv 1) Ab (fun u v => rfl))) (Ah Ap (Ak (ixT K) (pv 1) Ab (fun u v => rfl)) (Ak (ixT K) (pv 0) Ab (fun u v => rfl)))) (Aa (Ah Ap (Ak (ixT K) (pv 0) Ab (fun u v => rfl)) (Ak (ixT K) (pv 1) Ab (fun u v => rfl))) Ac))))), ?_⟩
 obtain ⟨x, y, p, q, m, n, rfl, ⟨r, rfl, hr⟩, ⟨u, rfl, hu⟩, hp, hq, hmn, k⟩ := h
 refine ⟨_, rfl, r, _, _, _, rfl, rfl, hr, rfl, _, rfl, u, _, _, _, rfl, rfl, hu, rfl, _, _, rfl, rfl, Bj.bd hp.1 hq.2, _, rfl, u, _, _, _, rfl, rfl, hu, rfl, _, rfl, r, _, _, _, rfl, rfl, hr, rfl, _, _, rfl, rfl, Bj.bd hq.1 hp.2, _, _, rfl, rfl, ?_⟩
 refine ⟨_, rfl, r, _, _, _, rfl, rfl, hr, rfl, _, rfl, u, _, _, _, rfl, rfl, hu, rfl, _, _, rfl, rfl, Bj.bd hp.2 hq.2, ?_⟩
 refine ⟨_, _, rfl, RY (Nm.den_ne p) (Nm.den_ne q), fun z hz => ?_⟩
 have e := k z hz
 try dsimp only at e
 rw [← Nm.minus_eq] at e
 exact e
theorem Br : As ["curve", "low", "high", "parts", "bottom", "row", "heights"] ["curve", "low", "high"] (Af (top 40)) := ⟨rfl, rfl, rfl, by decide +kernel, rfl, by decide +kernel, by decide +kernel⟩
theorem DK {f : Addr} {fd : FuncData} (F : Fun K "heights_of" "heights_of" (top 40) f fd) (Q7 : Fd P w K mg base 36 "parts_along" ["along"] (EF K)) (OZ : Fd P w K mg base 34 "bottom_of" ["numbers"] (D8 K)) (P5 : Fd P w K mg base 33 "tops_over" ["numbers", "bottom"] (Ci K)) (PH : Fd P w K mg base 33 "is_less" ["a", "b"] (GD K)) (Q8 : Fd P w K mg base 36 "with_line" ["curve", "a", "b"] (GC K)) (Q9 : Fd P w K mg base 35 "minus" ["a", "b"] (BO K (· - ·))) (P6 : Fd P w K mg base 34 "number_of" ["top", "bottom"] (Cm)) (OW : mg "len" = none) (OX : mg "range" = none) {a_NOUGHT : Addr} (c_NOUGHT : mg "NOUGHT" = some (.ref a_NOUGHT)) (n_NOUGHT : ∀ H : Hp, Au K H (.ref a_NOUGHT) (0)) (hT : P.given.tree = none) :
 AI P w K mg base CX0 37 f fd ["curve", "low", "high"] (DF K) := by
 refine F.ok Br (fun vs H Q E h => ?_) (fun cdv A outer s H vs Q E hr h => ?_)
 ·obtain ⟨_, _, _, _, _, _, _, rfl, _⟩ := h; rfl
 refine ⟨_, (Ae (K := K) (AX (K := K) (IH (GR (Am PH hr rfl (Aa (pv 1) (Aa (pv 2) Ac))))) (Ai CL) AO (by rfl) (by rfl))
  (Ae (K := K) (AX (K := K) (Av Cz (Al (BC K) rfl OW AJ (Aa (pv 0) Ac)) Ab (Ay _)) (Ai (Aw (AU (Aa (By (v := .ref a_NOUGHT) rfl c_NOUGHT rfl) Ac)))) AO (by rfl) (by rfl))
  (Ae (K := K) (Aj (i := 3) Br.nd rfl (Or.inl rfl) (Am Q7 hr rfl (Aa (Am Q8 hr rfl (Aa (pv 0) (Aa (Am Q9 hr rfl (Aa (pv 2) (Aa (pv 1) Ac))) (Aa (pv 1) Ac)))) Ac)))
  (Ae (K := K) (Aj (i := 4) Br.nd rfl (Or.inl rfl) (Am OZ hr rfl (Aa (pv 3) Ac)))
  (Ae (K := K) (Aj (i := 5) Br.nd rfl (Or.inr rfl) (Am P5 hr rfl (Aa (pv 3) (Aa (pv 4) Ac))))
  (Ae (K := K) (Aj (i := 6) Br.nd rfl (Or.inl rfl) (AU Ac))
  (Ae (K := K) (BQ PassesOwn.never (Av CN (Al (BC K) rfl OW AJ (Aa (pv 5) Ac)) Ab (Ay _)) (Ae (K := K) (DW (Er K PySem.F.plainAttrs_list PySem.F.slot_list_append PySem.F.type_list_append Ew (pv 6) (Aa (Am P6 hr rfl (Aa (Ak (ixL K) (pv 5) Ab (fun u v => rfl)) (Aa (pv 4) Ac))) Ac)))
  (Ai (Aj (i := 5) Br.nd rfl (Or.inr rfl) (CD rfl (N := ["k", "row"]) (nt := 1) (js := [5]) (AY.look (NX := ["curve", "low", "high", "parts", "bottom", "row", "heights"]) (sc := Af (top 40)) rfl rfl (by decide +kernel)) (BA rfl OX (Aa (Ah Bo (Al (BC K) rfl OW AJ (Aa (pv 5) Ac)) Ab) Ac)) (fun u1 u2 u3 u4 u5 => (AE (i := 0) (show List.Nodup (["k", "row"] : List Str) from by decide +kernel) rfl (Or.inl rfl))) (AG (by decide)) (fun u1 u2 u3 u4 u5 => Bx) (fun u1 u2 u3 u4 u5 => (Ah AF (Ak (ixL K) (pv 1) (pv 0) (fun u v => rfl)) (Ak (ixL K) (pv 1) (Ah AF (pv 0) Ab) (fun u v => rfl))))))) (by rfl)))
  (Ai (Aw (pv 6))) (by rfl)) (by rfl)) (by rfl)) (by rfl)) (by rfl)) (by rfl)) (by rfl)), ?_⟩
 obtain ⟨c, rl, rh, cs, lo, hi, n, rfl, hc, gc, hlo, hhi, hlt, hbc, hbl, hbh, hn, h7, q⟩ := h
 have P0 : 0 ≤ sizeLine := by decide
 have P1 : 1 ≤ sizeLine := by decide
 refine ⟨_, rfl, _, rfl, _, _, _, _, n, n, rfl, hlo, hhi, hbl, hbh, by lia, ⟨_, rfl, ?_⟩⟩
 refine AV (by rw [decide_eq_true hlt] <;> rfl) ?_
 obtain ⟨xs, hS, hcn⟩ := (id hc)
 have hcl := hcn.length
 refine ⟨_, rfl, c, xs, rfl, .inr hS, rfl, _, rfl, ?_⟩
 by_cases hnil : cs = []
 ·rw [decide_eq_true (show V.int (xs.length : Int) = V.int 0 by rw [hcl, hnil]; rfl)]
  have e : hts cs lo hi = [0] := by unfold hts; rw [if_pos hnil]
  rw [e] at q
  refine Li ⟨P1, fun p hp => q p _ [.ref a_NOUGHT] (Ag.new hp) hp Ad (.cons (n_NOUGHT _) .nil) fun c hc => ?_⟩
  rw [Ss.mp hc]; exact RB.zero (by decide)
 have hpos : 0 < cs.length := S8.mpr hnil
 refine AV (by rw [decide_eq_false (show ¬ V.int (xs.length : Int) = V.int 0 from fun z => by have := V.int.inj z; lia)] <;> rfl) ?_
 refine ⟨_, rfl, _, rfl, _, rfl, _, _, _, _, n, n, rfl, hhi, hlo, hbh, hbl, by lia, fun d hd => ?_⟩
 have s1 : Ag H (upd H d (nT (hi - lo))) := Ag.new hd
 have hdn : Au K (upd H d (nT (hi - lo))) (.ref d) (hi - lo) := Au.of Ad
 generalize upd H d (nT (hi - lo)) = H1 at s1 hdn ⊢
 have hne : hi - lo ≠ 0 := fun z => by
  have e : hi = lo := by grind
  rw [e] at hlt
  exact absurd hlt (Rat.lt_irrefl)
 refine ⟨_, rfl, c, d, rl, cs, hi - lo, lo, 201, rfl, hc.same s1, hdn, hlo.same s1, fun q hq => (hbc q hq).mono (by lia), (hbh.minus hbl).mono (by lia), hbl.mono (by lia), by decide, by lia, fun al H2 rs s2 hal hle hg hb2 hev => ?_⟩
 have ers : rs = CS (hi - lo) lo cs := BS hg (Gp hne gc) fun x => by rw [hev x, Hn]
 have hrl : rs.length = cs.length := by rw [ers, Ce]
 have hb7 : ∀ q ∈ rs, RB 7000 q := fun q hq => (hb2 q hq).mono (by lia)
 refine ⟨al, rs, 7000, rfl, hal, by lia, by lia, hb7, by decide, by decide, fun pt H3 zs s3 ept hpt hbp => ?_⟩
 have eh : hts cs lo hi = FY rs := by unfold hts; rw [if_neg hnil, ers]
 have pl := DH rs
 obtain ⟨ps, hps⟩ : ∃ ps, ps = BZ rs := ⟨_, rfl⟩
 rw [← hps] at hpt hbp pl
 have hpL : ps.length ≤ 7 := by lia
 have hnl : 7022 * ps.length ≤ 7022 * 7 := TR _ hpL
 refine ⟨_, rfl, true, pt, zs, ps, 7022, rfl, SqL.of ept, hpt, (fun c hc => (hbp c hc).2), by rw [SU]; lia, fun B hB0 hdv hbB => ?_⟩
 have hB : B ≠ 0 := by lia
 refine ⟨_, rfl, _, rfl, true, pt, zs, ps, B, 7022 * ps.length + 1, 7022, rfl, SqL.of ept, hpt, hbB, (fun c hc => (hbp c hc).1), by lia, by lia, fun r0 hr0 => ?_⟩
 obtain ⟨T, hT'⟩ : ∃ T, T = ps.map (Ao B) := ⟨_, rfl⟩
 rw [← hT']
 have tl : T.length = ps.length := by rw [hT', Rx]
 have tB : ∀ t ∈ T, Bd 56300 t := fun t ht => by
  rw [hT'] at ht
  obtain ⟨c, hc, rfl⟩ := (Tt.mp ht)
  exact ((hbp c hc).1.mul (hbB.fdiv (y := c.den))).mono (by lia)
 have tb : T.map (fun t => RS t B) = ps := by rw [hT']; exact NT hB hdv
 refine ⟨P0, fun p hp => ?_⟩
 have s03 := (s1.trans s2).trans s3
 have er0 : (upd H3 r0 (.lst (T.map V.int))) r0 = some (.lst (T.map V.int)) := Ad
 have rp : r0 ≠ p := Az er0 hp
 have s4 : Ag H (upd (upd H3 r0 (.lst (T.map V.int))) p (.lst [])) := (s03.trans (Ag.new hr0)).trans (Ag.new hp)
 have hpH : H p = none := (s03.trans (Ag.new (o := .lst (T.map V.int)) hr0)).free hp
 refine HI (L9 H c rl rh pt B p T K fun H c rl rh pt B p T K σ H' => Ag H H' ∧ ∃ (rr : Addr) (j : Nat) (ys : List V), σ = [some (.ref c), some (.ref rl), some (.ref rh), some (.ref pt), some (.int B), some (.ref rr), some (.ref p)] ∧ rr ≠ p ∧ H' rr = some (.lst ((aIN j T).map V.int)) ∧ H' p = some (.lst ys) ∧ AS K H' ys ((QP j).map fun i => RS ((aIN i T).getD 0 0) B) ∧ j ≤ T.length) (fun _ H' => match H' p with | some (.lst xs) => 1000 - xs.length | _ => 0)
  ⟨s4, r0, 0, [], rfl, rp, (Ag.new hp) _ _ er0, Ad, .nil, Rb _⟩ ?_
 rintro σ H' hR1
 refine Ck hR1 fun sm hz45 => ?_
 refine Hk hz45 fun rr j ys hz45' => ?_
 clear hz45
 refine IZ hz45' fun hq44 rrp er ep hys hj => ?_
 clear hz45'
 obtain rfl := hq44
 try clear hR1
 have hyl : ys.length = j := by rw [hys.length, Rx, SX]
 have al' : (aIN j T).length = T.length - j := DC T j
 have tb2 := J1 tB j
 generalize hrow : aIN j T = row at er al' tb2
 have rml : (row.map V.int).length = T.length - j := by rw [Rx]; exact al'
 refine ⟨_, rfl, rr, _, rfl, .inl (SqL.of er), _, _, rfl, rfl, _, rfl, ?_⟩
 by_cases hjc : j < T.length
 ·refine Bs (by rw [decide_eq_true (show (0 : Int) < (((row.map V.int).length : Nat) : Int) by lia)] <;> rfl) (HH ?_)
  have g0 := Bf (l := row) (i := 0) (by lia)
  refine ⟨_, rfl, .inl ⟨rfl, _, SqL.of ep⟩, _, rfl, rr, _, _, _, rfl, rfl, SqL.of er, C8 g0 rfl, _, rfl, row.getD 0 0, B, rfl, hB, fun u hu => ?_⟩
  have su : Ag H' (upd H' u (nT (RS (row.getD 0 0) B))) := Ag.new hu
  have eu : (upd H' u (nT (RS (row.getD 0 0) B))) u = some (nT (RS (row.getD 0 0) B)) := Ad
  generalize upd H' u (nT (RS (row.getD 0 0) B)) = Hu at su eu ⊢
  have epu := su _ _ ep
  refine ⟨p, ys, .ref u, rfl, rfl, epu, QM (show ys.length < 300 by lia) (by decide), ?_⟩
  have sP : Ag H (upd Hu p (.lst (ys ++ [.ref u]))) := (sm.trans su).put hpH
  have erP : (upd Hu p (.lst (ys ++ [.ref u]))) rr = some (.lst (row.map V.int)) := by rw [AB rrp]; exact su _ _ er
  have epP : (upd Hu p (.lst (ys ++ [.ref u]))) p = some (.lst (ys ++ [.ref u])) := Ad
  have hysP : AS K (upd Hu p (.lst (ys ++ [.ref u]))) (ys ++ [.ref u]) ((QP (j + 1)).map fun i => RS ((aIN i T).getD 0 0) B) := by
   rw [U0, Se]
   refine AS.put (Paired.snoc (AS.same hys su) (Au.of ?_)) epu
   show Hu u = some (nT (RS ((aIN j T).getD 0 0) B))
   rw [hrow]; exact eu
  generalize upd Hu p (.lst (ys ++ [.ref u])) = HP at sP erP epP hysP ⊢
  refine Cd ⟨_, rfl, rr, _, rfl, .inl (SqL.of erP), _, _, rfl, rfl, _, rfl, by lia, by lia, ?_⟩
  rw [show (((row.map V.int).length : Int) - 1).toNat = row.length - 1 by lia]
  refine Hj (L2 HP row fun HP row i zs H2 => H2 = HP ∧ zs = ((QP i).map fun j => row.getD j 0 + row.getD (j + 1) 0).map V.int) ⟨rfl, rfl⟩ (fun i zs H2 _ h => by rw [h.2, Rx, Rx, SX]) (QV (AW (by lia))) ?_ ?_
  ·rintro i zs H2 hi ⟨rfl, rfl⟩
   have g1 := Bf (l := row) (i := i + 1) (by lia)
   have g0 := Bf (l := row) (i := i) (by lia)
   refine ⟨_, rfl, _, rfl, rr, _, _, _, rfl, rfl, SqL.of erP, C8 g0 (by lia), _, rfl, _, rfl, _, _, rfl, rfl, rr, _, _, _, rfl, rfl, SqL.of erP, C8 g1 (by lia), _, _, rfl, rfl, rfl, ?_⟩
   rw [U0, Se, Se]
   rfl
  rintro zs H2 ⟨rfl, rfl⟩ nl hnl
  have np : nl ≠ p := (Az epP hnl).symm
  have e0 : ((QP (row.length - 1)).map fun j => row.getD j 0 + row.getD (j + 1) 0) = aIN (j + 1) T := by
   show _ = aI (aIN j T)
   rw [hrow]; rfl
  rw [e0]
  have sn : Ag H2 (upd H2 nl (.lst ((aIN (j + 1) T).map V.int))) := Ag.new hnl
  refine ⟨⟨sP.trans sn, nl, j + 1, ys ++ [.ref u], rfl, np, Ad, sn _ _ epP, AS.same hysP sn, by lia⟩, ?_⟩
  show (match (upd H2 nl (.lst ((aIN (j + 1) T).map V.int))) p with | some (.lst xs) => 1000 - xs.length | _ => 0) < (match H' p with | some (.lst xs) => 1000 - xs.length | _ => 0)
  rw [sn _ _ epP, ep]
  show 1000 - (ys ++ [V.ref u]).length < 1000 - ys.length
  rw [Rw, RJ]
  lia
 ·rw [decide_eq_false (show ¬ (0 : Int) < (((row.map V.int).length : Nat) : Int) by lia)]
  have ej : j = T.length := by lia
  have eq : ((QP j).map fun i => RS ((aIN i T).getD 0 0) B) = FY rs := by
   unfold FY
   rw [ej, tl, pl]
   refine T6 fun i _ => ?_
   rw [← hps, ← tb, JM hB, Lo]
  rw [eq] at hys
  rw [eh] at q
  refine Dc ⟨_, rfl, q p H' ys sm hpH ep hys fun c hc => ?_⟩
  rw [← eq] at hc
  obtain ⟨i, hi, rfl⟩ := (Tt.mp hc)
  have hi' := QS.mp hi
  have bt : Bd 60000 ((aIN i T).getD 0 0) := by
   rw [Sl]
   cases e : (aIN i T)[0]? with
   | none => exact (show Bd 0 0 by unfold Bd; decide).mono (Rb _)
   | some t => exact (J1 tB i t (Rv e)).mono (by lia)
  exact RB.div (m := 0) bt (hbB.mono (by lia)) hB
theorem Fh {f : Addr} {fd : FuncData} (F : Fun K "heights_of" "heights_of" (top 40) f fd) {a_NoStretch : Addr} (k_NoStretch : Ir K "NoStretch" a_NoStretch) (Q7 : Fd P w K mg base 36 "parts_along" ["along"] (EF K)) (OZ : Fd P w K mg base 34 "bottom_of" ["numbers"] (D8 K)) (P5 : Fd P w K mg base 33 "tops_over" ["numbers", "bottom"] (Ci K)) (PH : Fd P w K mg base 33 "is_less" ["a", "b"] (GD K)) (Q8 : Fd P w K mg base 36 "with_line" ["curve", "a", "b"] (GC K)) (Q9 : Fd P w K mg base 35 "minus" ["a", "b"] (BO K (· - ·))) (P6 : Fd P w K mg base 34 "number_of" ["top", "bottom"] (Cm)) (OW : mg "len" = none) (OX : mg "range" = none) {a_NOUGHT : Addr} (c_NOUGHT : mg "NOUGHT" = some (.ref a_NOUGHT)) (n_NOUGHT : ∀ H : Hp, Au K H (.ref a_NOUGHT) (0)) (hT : P.given.tree = none) :
 AI P w K mg base (CX2 P w) 37 f fd ["curve", "low", "high"] (BY K a_NoStretch) := by
 refine F.okY Br (fun vs H Q E h => ?_) (fun cdv A outer s H vs Q E hr h => ?_)
 ·obtain ⟨_, _, _, _, _, rfl, _⟩ := h; rfl
 refine ⟨_, (Dj (AX (K := K) (IH (GR (Am PH hr rfl (Aa (pv 1) (Aa (pv 2) Ac))))) (Ai (EY k_NoStretch rfl IP rfl (Aa Bk Ac))) AO (by rfl) (by rfl))
  Dw), ?_⟩
 obtain ⟨c, rl, rh, lo, hi, rfl, hlo, hhi, hlt, bl, bh, q⟩ := h
 have P1 : 1 ≤ sizeLine := by decide
 refine ⟨_, rfl, _, rfl, _, _, _, _, 80, 80, rfl, hlo, hhi, bl, bh, by decide, ⟨_, rfl, ?_⟩⟩
 rw [decide_eq_false hlt]
 exact Li ⟨P1, q⟩
theorem Bc : As ["_law_caught", "_law_some", "_law_found"] ["_law_caught"] (Af (top 59)) := ⟨rfl, rfl, rfl, by decide +kernel, rfl, by decide +kernel, by decide +kernel⟩
theorem Es {f : Addr} {fd : FuncData} (F : Fun K "_law_refusal" "_law_refusal" (top 59) f fd) {a_TooMany a_NoPoints a_NoPoint a_NoNumber a_NoCurve a_NoStretch a_TooDeep a_TooFew a_NoText a_NoRow : Addr} (c_TooMany : mg "TooMany" = some (.ref a_TooMany)) (c_NoPoints : mg "NoPoints" = some (.ref a_NoPoints)) (c_NoPoint : mg "NoPoint" = some (.ref a_NoPoint)) (c_NoNumber : mg "NoNumber" = some (.ref a_NoNumber)) (c_NoCurve : mg "NoCurve" = some (.ref a_NoCurve)) (c_NoStretch : mg "NoStretch" = some (.ref a_NoStretch)) (c_TooDeep : mg "TooDeep" = some (.ref a_TooDeep)) (c_TooFew : mg "TooFew" = some (.ref a_TooFew)) (c_NoText : mg "NoText" = some (.ref a_NoText)) (c_NoRow : mg "NoRow" = some (.ref a_NoRow)) (P7 : mg "isinstance" = none) (OW : mg "len" = none) (PJ : mg "ValueError" = none) (hT : P.given.tree = none) :
 FnH P w K mg base 33 f fd "_law_caught" (IE K [a_TooMany, a_NoPoints, a_NoPoint, a_NoNumber, a_NoCurve, a_NoStretch, a_TooDeep, a_TooFew, a_NoText, a_NoRow]) := by
 refine F.okH Bc (fun cdv A outer s H ea oe Q hr hx h => ?_)
 refine ⟨_, (Ae (K := K) (Aj (i := 1) Bc.nd rfl (Or.inl rfl) (AU (Aa (Ax (Aa Bk (Aa (Al (Fs K hx) rfl P7 AM (Aa (pv 0) (Aa (By (v := .ref a_TooMany) rfl c_TooMany rfl) Ac))) Ac))) (Aa (Ax (Aa Bk (Aa (Al (Fs K hx) rfl P7 AM (Aa (pv 0) (Aa (By (v := .ref a_NoPoints) rfl c_NoPoints rfl) Ac))) Ac))) Ac))))
  (Ae (K := K) (Aj (i := 1) Bc.nd rfl (Or.inl rfl) (Ah Dl (pv 1) (AU (Aa (Ax (Aa Bk (Aa (Al (Fs K hx) rfl P7 AM (Aa (pv 0) (Aa (By (v := .ref a_NoPoint) rfl c_NoPoint rfl) Ac))) Ac))) (Aa (Ax (Aa Bk (Aa (Al (Fs K hx) rfl P7 AM (Aa (pv 0) (Aa (By (v := .ref a_NoNumber) rfl c_NoNumber rfl) Ac))) Ac))) Ac)))))
  (Ae (K := K) (Aj (i := 1) Bc.nd rfl (Or.inl rfl) (Ah Dl (pv 1) (AU (Aa (Ax (Aa Bk (Aa (Al (Fs K hx) rfl P7 AM (Aa (pv 0) (Aa (By (v := .ref a_NoCurve) rfl c_NoCurve rfl) Ac))) Ac))) (Aa (Ax (Aa Bk (Aa (Al (Fs K hx) rfl P7 AM (Aa (pv 0) (Aa (By (v := .ref a_NoStretch) rfl c_NoStretch rfl) Ac))) Ac))) Ac)))))
  (Ae (K := K) (Aj (i := 1) Bc.nd rfl (Or.inl rfl) (Ah Dl (pv 1) (AU (Aa (Ax (Aa Bk (Aa (Al (Fs K hx) rfl P7 AM (Aa (pv 0) (Aa (By (v := .ref a_TooDeep) rfl c_TooDeep rfl) Ac))) Ac))) (Aa (Ax (Aa Bk (Aa (Al (Fs K hx) rfl P7 AM (Aa (pv 0) (Aa (By (v := .ref a_TooFew) rfl c_TooFew rfl) Ac))) Ac))) Ac)))))
  (Ae (K := K) (Aj (i := 1) Bc.nd rfl (Or.inl rfl) (Ah Dl (pv 1) (AU (Aa (Ax (Aa Bk (Aa (Al (Fs K hx) rfl P7 AM (Aa (pv 0) (Aa (By (v := .ref a_NoText) rfl c_NoText rfl) Ac))) Ac))) (Aa (Ax (Aa Bk (Aa (Al (Fs K hx) rfl P7 AM (Aa (pv 0) (Aa (By (v := .ref a_NoRow) rfl c_NoRow rfl) Ac))) Ac))) Ac)))))
  (Ae (K := K) (N6 (K := K) hx (i := 2) Bc.nd rfl rfl (N := ["_law_word_here", "_law_one"]) (nt := 2) (js := []) (AY.look (NX := ["_law_caught", "_law_some", "_law_found"]) (sc := Af (top 59)) rfl rfl (by decide +kernel)) (pv 1) (fun u1 u2 u3 u4 u5 hxx => (OI (K := K) (n := 2) hxx (DX (AE (i := 0) (show List.Nodup (["_law_word_here", "_law_one"] : List Str) from by decide +kernel) rfl (Or.inl rfl)) (DX (AE (i := 1) (show List.Nodup (["_law_word_here", "_law_one"] : List Str) from by decide +kernel) rfl (Or.inl rfl)) Jj)))) (JR (Ey (by decide) (Ey (by decide) ID))) (fun u1 u2 u3 u4 u5 => EI (GR (pv 1))) (fun u1 u2 u3 u4 u5 => (pv 0)) rfl)
  (Ae (K := K) (AX (K := K) (PW.pt (O9 (Av DI (Al (BC K) rfl OW AJ (Aa (pv 2) Ac)) Ab (Ay _)) (N4 (IH (GR (Al (Fs K hx) rfl P7 AM (Aa (pv 0) (Aa (M8 (v := .ty "ValueError") rfl PJ G6 rfl) Ac)))))))) (Ai (Aw Bk)) AO (by rfl) (by rfl))
  (Ai (Aw (Ak (ixL K) (pv 2) Ab (fun u v => rfl)))) (by rfl)) (by rfl)) (by rfl)) (by rfl)) (by rfl)) (by rfl)) (by rfl)), ?_⟩
 obtain ⟨D, n, w, hD, R, hw, q⟩ := h
 have P2 : 2 ≤ sizeLine := by decide
 have P10 : 10 ≤ sizeLine := by decide
 refine ⟨_, rfl, D, _, _, _, hD, R.ty, rfl, rfl, R.of 0 _ rfl, P2, fun p0 h1 => ?_⟩
 have s1 : Ag H (upd H p0 (.tup [.str "many", .bl (0 == n)])) := Ag.new h1
 have w1 : WB K (upd H p0 (.tup [.str "many", .bl (0 == n)])) (.ref p0) ("many", (0 == n)) := ⟨p0, rfl, SqT.of Ad⟩
 generalize upd H p0 (.tup [.str "many", .bl (0 == n)]) = A0 at s1 w1 ⊢
 refine ⟨_, rfl, D, _, _, _, hD, R.ty, rfl, rfl, R.of 1 _ rfl, P2, fun u0 h2 => ?_⟩
 have s2 : Ag A0 (upd A0 u0 (.tup [.str "points", .bl (1 == n)])) := Ag.new h2
 have w2 : WB K (upd A0 u0 (.tup [.str "points", .bl (1 == n)])) (.ref u0) ("points", (1 == n)) := ⟨u0, rfl, SqT.of Ad⟩
 have w1 := w1.same s2
 have s2 := s1.trans s2
 generalize upd A0 u0 (.tup [.str "points", .bl (1 == n)]) = B0 at s2 w1 w2 ⊢
 refine ⟨P2, fun b0 hl => ?_⟩
 have s3 : Ag B0 (upd B0 b0 (.lst [.ref p0, .ref u0])) := Ag.new hl
 have eb : upd B0 b0 (.lst [.ref p0, .ref u0]) b0 = some (.lst [.ref p0, .ref u0]) := Ad
 have w1 := w1.same s3
 have w2 := w2.same s3
 have sT := s2.trans s3
 generalize upd B0 b0 (.lst [.ref p0, .ref u0]) = C0 at sT eb w1 w2 ⊢
 clear s1 s2 s3 h1 h2 hl
 have l0 := b0
 have S0 := sT
 have el0 := eb
 have hn0 : [V.ref p0, V.ref u0].length = 2 := rfl
 have wS0 : Paired (WB K C0) [.ref p0, .ref u0] [("many", (0 == n)), ("points", (1 == n))] := .cons w1 (.cons w2 .nil)
 generalize [V.ref p0, V.ref u0] = xs0 at el0 wS0 hn0
 clear sT eb w1 w2
 refine ⟨_, rfl, _, rfl, D, _, _, _, hD, R.ty, rfl, rfl, R.of 2 _ rfl, P2, fun p1 h1 => ?_⟩
 have s1 : Ag C0 (upd C0 p1 (.tup [.str "point", .bl (2 == n)])) := Ag.new h1
 have w1 : WB K (upd C0 p1 (.tup [.str "point", .bl (2 == n)])) (.ref p1) ("point", (2 == n)) := ⟨p1, rfl, SqT.of Ad⟩
 generalize upd C0 p1 (.tup [.str "point", .bl (2 == n)]) = A1 at s1 w1 ⊢
 refine ⟨_, rfl, D, _, _, _, hD, R.ty, rfl, rfl, R.of 3 _ rfl, P2, fun u1 h2 => ?_⟩
 have s2 : Ag A1 (upd A1 u1 (.tup [.str "number", .bl (3 == n)])) := Ag.new h2
 have w2 : WB K (upd A1 u1 (.tup [.str "number", .bl (3 == n)])) (.ref u1) ("number", (3 == n)) := ⟨u1, rfl, SqT.of Ad⟩
 have w1 := w1.same s2
 have s2 := s1.trans s2
 generalize upd A1 u1 (.tup [.str "number", .bl (3 == n)]) = B1 at s2 w1 w2 ⊢
 refine ⟨P2, fun b1 hl => ?_⟩
 have s3 : Ag B1 (upd B1 b1 (.lst [.ref p1, .ref u1])) := Ag.new hl
 have eb : upd B1 b1 (.lst [.ref p1, .ref u1]) b1 = some (.lst [.ref p1, .ref u1]) := Ad
 have w1 := w1.same s3
 have w2 := w2.same s3
 have sT := s2.trans s3
 generalize upd B1 b1 (.lst [.ref p1, .ref u1]) = C1 at sT eb w1 w2 ⊢
 clear s1 s2 s3 h1 h2 hl
 have wS := WBs.snoc (WBs.same wS0 sT) w1 w2
 have ST := S0.trans sT
 refine ⟨b0, b1, xs0, _, rfl, rfl, sT _ _ el0, eb, by rw [hn0]; exact (show 2 + 2 ≤ sizeLine by decide), fun l1 hl => ?_⟩
 have s4 : Ag C1 (upd C1 l1 (.lst (xs0 ++ [.ref p1, .ref u1]))) := Ag.new hl
 have el1 : upd C1 l1 (.lst (xs0 ++ [.ref p1, .ref u1])) l1 = some (.lst (xs0 ++ [.ref p1, .ref u1])) := Ad
 have wS1 : Paired (WB K (upd C1 l1 (.lst (xs0 ++ [.ref p1, .ref u1])))) _ [("many", (0 == n)), ("points", (1 == n)), ("point", (2 == n)), ("number", (3 == n))] := WBs.same wS s4
 have S1 := ST.trans s4
 have hn1 : (xs0 ++ [V.ref p1, V.ref u1]).length = 2 + 2 := by rw [Rw, hn0]; rfl
 generalize upd C1 l1 (.lst (xs0 ++ [.ref p1, .ref u1])) = D1 at S1 el1 wS1 ⊢
 generalize xs0 ++ [V.ref p1, V.ref u1] = xs1 at el1 wS1 hn1
 clear wS sT ST S0 eb w1 w2 s4 hl wS0 el0 hn0
 refine ⟨_, rfl, _, rfl, D, _, _, _, hD, R.ty, rfl, rfl, R.of 4 _ rfl, P2, fun p2 h1 => ?_⟩
 have s1 : Ag D1 (upd D1 p2 (.tup [.str "curve", .bl (4 == n)])) := Ag.new h1
 have w1 : WB K (upd D1 p2 (.tup [.str "curve", .bl (4 == n)])) (.ref p2) ("curve", (4 == n)) := ⟨p2, rfl, SqT.of Ad⟩
 generalize upd D1 p2 (.tup [.str "curve", .bl (4 == n)]) = A2 at s1 w1 ⊢
 refine ⟨_, rfl, D, _, _, _, hD, R.ty, rfl, rfl, R.of 5 _ rfl, P2, fun u2 h2 => ?_⟩
 have s2 : Ag A2 (upd A2 u2 (.tup [.str "stretch", .bl (5 == n)])) := Ag.new h2
 have w2 : WB K (upd A2 u2 (.tup [.str "stretch", .bl (5 == n)])) (.ref u2) ("stretch", (5 == n)) := ⟨u2, rfl, SqT.of Ad⟩
 have w1 := w1.same s2
 have s2 := s1.trans s2
 generalize upd A2 u2 (.tup [.str "stretch", .bl (5 == n)]) = B2 at s2 w1 w2 ⊢
 refine ⟨P2, fun b2 hl => ?_⟩
 have s3 : Ag B2 (upd B2 b2 (.lst [.ref p2, .ref u2])) := Ag.new hl
 have eb : upd B2 b2 (.lst [.ref p2, .ref u2]) b2 = some (.lst [.ref p2, .ref u2]) := Ad
 have w1 := w1.same s3
 have w2 := w2.same s3
 have sT := s2.trans s3
 generalize upd B2 b2 (.lst [.ref p2, .ref u2]) = C2 at sT eb w1 w2 ⊢
 clear s1 s2 s3 h1 h2 hl
 have wS := WBs.snoc (WBs.same wS1 sT) w1 w2
 have ST := S1.trans sT
 refine ⟨l1, b2, xs1, _, rfl, rfl, sT _ _ el1, eb, by rw [hn1]; exact (show 4 + 2 ≤ sizeLine by decide), fun l2 hl => ?_⟩
 have s4 : Ag C2 (upd C2 l2 (.lst (xs1 ++ [.ref p2, .ref u2]))) := Ag.new hl
 have el2 : upd C2 l2 (.lst (xs1 ++ [.ref p2, .ref u2])) l2 = some (.lst (xs1 ++ [.ref p2, .ref u2])) := Ad
 have wS2 : Paired (WB K (upd C2 l2 (.lst (xs1 ++ [.ref p2, .ref u2])))) _ [("many", (0 == n)), ("points", (1 == n)), ("point", (2 == n)), ("number", (3 == n)), ("curve", (4 == n)), ("stretch", (5 == n))] := WBs.same wS s4
 have S2 := ST.trans s4
 have hn2 : (xs1 ++ [V.ref p2, V.ref u2]).length = 4 + 2 := by rw [Rw, hn1]; rfl
 generalize upd C2 l2 (.lst (xs1 ++ [.ref p2, .ref u2])) = D2 at S2 el2 wS2 ⊢
 generalize xs1 ++ [V.ref p2, V.ref u2] = xs2 at el2 wS2 hn2
 clear wS sT ST S1 eb w1 w2 s4 hl wS1 el1 hn1
 refine ⟨_, rfl, _, rfl, D, _, _, _, hD, R.ty, rfl, rfl, R.of 6 _ rfl, P2, fun p3 h1 => ?_⟩
 have s1 : Ag D2 (upd D2 p3 (.tup [.str "deep", .bl (6 == n)])) := Ag.new h1
 have w1 : WB K (upd D2 p3 (.tup [.str "deep", .bl (6 == n)])) (.ref p3) ("deep", (6 == n)) := ⟨p3, rfl, SqT.of Ad⟩
 generalize upd D2 p3 (.tup [.str "deep", .bl (6 == n)]) = A3 at s1 w1 ⊢
 refine ⟨_, rfl, D, _, _, _, hD, R.ty, rfl, rfl, R.of 7 _ rfl, P2, fun u3 h2 => ?_⟩
 have s2 : Ag A3 (upd A3 u3 (.tup [.str "few", .bl (7 == n)])) := Ag.new h2
 have w2 : WB K (upd A3 u3 (.tup [.str "few", .bl (7 == n)])) (.ref u3) ("few", (7 == n)) := ⟨u3, rfl, SqT.of Ad⟩
 have w1 := w1.same s2
 have s2 := s1.trans s2
 generalize upd A3 u3 (.tup [.str "few", .bl (7 == n)]) = B3 at s2 w1 w2 ⊢
 refine ⟨P2, fun b3 hl => ?_⟩
 have s3 : Ag B3 (upd B3 b3 (.lst [.ref p3, .ref u3])) := Ag.new hl
 have eb : upd B3 b3 (.lst [.ref p3, .ref u3]) b3 = some (.lst [.ref p3, .ref u3]) := Ad
 have w1 := w1.same s3
 have w2 := w2.same s3
 have sT := s2.trans s3
 generalize upd B3 b3 (.lst [.ref p3, .ref u3]) = C3 at sT eb w1 w2 ⊢
 clear s1 s2 s3 h1 h2 hl
 have wS := WBs.snoc (WBs.same wS2 sT) w1 w2
 have ST := S2.trans sT
 refine ⟨l2, b3, xs2, _, rfl, rfl, sT _ _ el2, eb, by rw [hn2]; exact (show 6 + 2 ≤ sizeLine by decide), fun l3 hl => ?_⟩
 have s4 : Ag C3 (upd C3 l3 (.lst (xs2 ++ [.ref p3, .ref u3]))) := Ag.new hl
 have el3 : upd C3 l3 (.lst (xs2 ++ [.ref p3, .ref u3])) l3 = some (.lst (xs2 ++ [.ref p3, .ref u3])) := Ad
 have wS3 : Paired (WB K (upd C3 l3 (.lst (xs2 ++ [.ref p3, .ref u3])))) _ [("many", (0 == n)), ("points", (1 == n)), ("point", (2 == n)), ("number", (3 == n)), ("curve", (4 == n)), ("stretch", (5 == n)), ("deep", (6 == n)), ("few", (7 == n))] := WBs.same wS s4
 have S3 := ST.trans s4
 have hn3 : (xs2 ++ [V.ref p3, V.ref u3]).length = 6 + 2 := by rw [Rw, hn2]; rfl
 generalize upd C3 l3 (.lst (xs2 ++ [.ref p3, .ref u3])) = D3 at S3 el3 wS3 ⊢
 generalize xs2 ++ [V.ref p3, V.ref u3] = xs3 at el3 wS3 hn3
 clear wS sT ST S2 eb w1 w2 s4 hl wS2 el2 hn2
 refine ⟨_, rfl, _, rfl, D, _, _, _, hD, R.ty, rfl, rfl, R.of 8 _ rfl, P2, fun p4 h1 => ?_⟩
 have s1 : Ag D3 (upd D3 p4 (.tup [.str "text", .bl (8 == n)])) := Ag.new h1
 have w1 : WB K (upd D3 p4 (.tup [.str "text", .bl (8 == n)])) (.ref p4) ("text", (8 == n)) := ⟨p4, rfl, SqT.of Ad⟩
 generalize upd D3 p4 (.tup [.str "text", .bl (8 == n)]) = A4 at s1 w1 ⊢
 refine ⟨_, rfl, D, _, _, _, hD, R.ty, rfl, rfl, R.of 9 _ rfl, P2, fun u4 h2 => ?_⟩
 have s2 : Ag A4 (upd A4 u4 (.tup [.str "row", .bl (9 == n)])) := Ag.new h2
 have w2 : WB K (upd A4 u4 (.tup [.str "row", .bl (9 == n)])) (.ref u4) ("row", (9 == n)) := ⟨u4, rfl, SqT.of Ad⟩
 have w1 := w1.same s2
 have s2 := s1.trans s2
 generalize upd A4 u4 (.tup [.str "row", .bl (9 == n)]) = B4 at s2 w1 w2 ⊢
 refine ⟨P2, fun b4 hl => ?_⟩
 have s3 : Ag B4 (upd B4 b4 (.lst [.ref p4, .ref u4])) := Ag.new hl
 have eb : upd B4 b4 (.lst [.ref p4, .ref u4]) b4 = some (.lst [.ref p4, .ref u4]) := Ad
 have w1 := w1.same s3
 have w2 := w2.same s3
 have sT := s2.trans s3
 generalize upd B4 b4 (.lst [.ref p4, .ref u4]) = C4 at sT eb w1 w2 ⊢
 clear s1 s2 s3 h1 h2 hl
 have wS := WBs.snoc (WBs.same wS3 sT) w1 w2
 have ST := S3.trans sT
 refine ⟨l3, b4, xs3, _, rfl, rfl, sT _ _ el3, eb, by rw [hn3]; exact (show 8 + 2 ≤ sizeLine by decide), fun l4 hl => ?_⟩
 have s4 : Ag C4 (upd C4 l4 (.lst (xs3 ++ [.ref p4, .ref u4]))) := Ag.new hl
 have el4 : upd C4 l4 (.lst (xs3 ++ [.ref p4, .ref u4])) l4 = some (.lst (xs3 ++ [.ref p4, .ref u4])) := Ad
 have wS4 : Paired (WB K (upd C4 l4 (.lst (xs3 ++ [.ref p4, .ref u4])))) _ [("many", (0 == n)), ("points", (1 == n)), ("point", (2 == n)), ("number", (3 == n)), ("curve", (4 == n)), ("stretch", (5 == n)), ("deep", (6 == n)), ("few", (7 == n)), ("text", (8 == n)), ("row", (9 == n))] := WBs.same wS s4
 have S4 := ST.trans s4
 have hn4 : (xs3 ++ [V.ref p4, V.ref u4]).length = 8 + 2 := by rw [Rw, hn3]; rfl
 generalize upd C4 l4 (.lst (xs3 ++ [.ref p4, .ref u4])) = D4 at S4 el4 wS4 ⊢
 generalize xs3 ++ [V.ref p4, V.ref u4] = xs4 at el4 wS4 hn4
 clear wS sT ST S3 eb w1 w2 s4 hl wS3 el3 hn3
 refine Cd ⟨_, rfl, l4, rfl, ⟨xs4, SqL.of el4⟩, ?_⟩
 have e : Cy [("many", (0 == n)), ("points", (1 == n)), ("point", (2 == n)), ("number", (3 == n)), ("curve", (4 == n)), ("stretch", (5 == n)), ("deep", (6 == n)), ("few", (7 == n)), ("text", (8 == n)), ("row", (9 == n))] = [.str w] := KQ hw
 generalize [("many", (0 == n)), ("points", (1 == n)), ("point", (2 == n)), ("number", (3 == n)), ("curve", (4 == n)), ("stretch", (5 == n)), ("deep", (6 == n)), ("few", (7 == n)), ("text", (8 == n)), ("row", (9 == n))] = ps at wS4 e
 refine Mj (SqL.of el4) wS4 (by rw [hn4]; exact P10) (fun f hf => ?_)
 rw [e]
 have sf : Ag D4 (upd D4 f (.lst [.str w])) := Ag.new hf
 have ef : upd D4 f (.lst [.str w]) f = some (.lst [.str w]) := Ad
 have SF := S4.trans sf
 generalize upd D4 f (.lst [.str w]) = D5 at ef SF ⊢
 refine ⟨_, rfl, f, _, rfl, .inl (SqL.of ef), rfl, _, rfl, AV (by first | rfl | decide) ?_⟩
 refine ⟨_, rfl, D, _, _, _, hD, R.ty, rfl, rfl, R.ve, _, rfl, AV rfl ?_⟩
 exact ⟨_, rfl, f, _, _, _, rfl, rfl, SqL.of ef, rfl, q _ SF⟩
theorem BP : As ["curve", "low", "high", "heights", "tops"] ["curve", "low", "high"] (Af (top 41)) := ⟨rfl, rfl, rfl, by decide +kernel, rfl, by decide +kernel, by decide +kernel⟩
theorem E5 {f : Addr} {fd : FuncData} (F : Fun K "bounds_of" "bounds_of" (top 41) f fd) (Pq : Fd P w K mg base 37 "heights_of" ["curve", "low", "high"] (DF K)) (P5 : Fd P w K mg base 33 "tops_over" ["numbers", "bottom"] (Ci K)) (OZ : Fd P w K mg base 34 "bottom_of" ["numbers"] (D8 K)) (Pl : mg "min" = none) (Pm : mg "max" = none) (hT : P.given.tree = none) :
 AI P w K mg base CX0 38 f fd ["curve", "low", "high"] (HL K) := by
 refine F.ok BP (fun vs H Q E h => ?_) (fun cdv A outer s H vs Q E hr h => ?_)
 ·obtain ⟨_, _, _, _, _, _, _, rfl, _⟩ := h; rfl
 refine ⟨_, (Ae (K := K) (Aj (i := 3) BP.nd rfl (Or.inl rfl) (Am Pq hr rfl (Aa (pv 0) (Aa (pv 1) (Aa (pv 2) Ac)))))
  (Ae (K := K) (Aj (i := 4) BP.nd rfl (Or.inl rfl) (Am P5 hr rfl (Aa (pv 3) (Aa (Am OZ hr rfl (Aa (pv 3) Ac)) Ac))))
  (Ai (Aw (Ax (Aa (Ak (ixL K) (pv 3) (Er K PySem.F.plainAttrs_list PySem.F.slot_list_index PySem.F.type_list_index Ia (pv 4) (Aa (Al (Kf rfl) rfl Pl NK (Aa (pv 4) Ac)) Ac)) (fun u v => rfl)) (Aa (Ak (ixL K) (pv 3) (Er K PySem.F.plainAttrs_list PySem.F.slot_list_index PySem.F.type_list_index Ia (pv 4) (Aa (Al (Kg rfl) rfl Pm NL (Aa (pv 4) Ac)) Ac)) (fun u v => rfl)) Ac))))) (by rfl)) (by rfl)), ?_⟩
 obtain ⟨c, rl, rh, cs, lo, hi, n, rfl, hc, gc, hlo, hhi, hlt, hbc, hbl, hbh, hn, h7, q⟩ := h
 have P2 : 2 ≤ sizeLine := by decide
 refine ⟨_, rfl, _, rfl, _, rfl, c, rl, rh, cs, lo, hi, n, rfl, hc, gc, hlo, hhi, hlt, hbc, hbl, hbh, hn, h7, fun hp H1 zs s1 hhp ehp hzs hbz => ?_⟩
 have hhl := Bz cs lo hi
 generalize hts cs lo hi = hs at hzs hbz hhl q
 have hzl := hzs.length
 refine ⟨_, rfl, _, rfl, true, hp, zs, hs, 60000, rfl, SqL.of ehp, hzs, (fun c hc => (hbz c hc).2), by lia, fun B hB0 hdv hbB => ?_⟩
 refine ⟨true, hp, zs, hs, B, 60000 * hs.length + 1, 60000, rfl, SqL.of ehp, hzs, hbB, (fun c hc => (hbz c hc).1), by lia, by lia, fun tp htp => ?_⟩
 have s2 : Ag H1 (upd H1 tp (.lst ((hs.map (Ao B)).map V.int))) := Ag.new htp
 have etp : (upd H1 tp (.lst ((hs.map (Ao B)).map V.int))) tp = some (.lst ((hs.map (Ao B)).map V.int)) := Ad
 generalize upd H1 tp (.lst ((hs.map (Ao B)).map V.int)) = H2 at s2 etp ⊢
 have ehp2 := s2 _ _ ehp
 have hzs2 := AS.same hzs s2
 have hpos : 0 < (hs.map (Ao B)).length := by rw [Rx]; lia
 refine ⟨_, rfl, _, rfl, .inl ⟨rfl, _, SqL.of etp⟩, _, rfl, tp, hs.map (Ao B), rfl, etp, hpos, fun m hm hmin => ?_⟩
 refine Lr (Ob hm) fun lq hz46' => ?_
 refine HB hz46' fun hl1 hl2 hl3 => ?_
 clear hz46'
 obtain ⟨x, hx, hxn⟩ := (Paired.get' hzs2 hl1)
 refine ⟨tp, hs.map (Ao B), m, rfl, rfl, etp, hm, hp, zs, _, x, rfl, rfl, SqL.of ehp2, AA hx, ?_⟩
 refine ⟨_, rfl, _, rfl, .inl ⟨rfl, _, SqL.of etp⟩, _, rfl, tp, hs.map (Ao B), rfl, etp, hpos, fun M hM hmax => ?_⟩
 refine Lr (Ob hM) fun gq hz47' => ?_
 refine HB hz47' fun hg1 hg2 hg3 => ?_
 clear hz47'
 obtain ⟨y, hy, hyn⟩ := (Paired.get' hzs2 hg1)
 refine ⟨tp, hs.map (Ao B), M, rfl, rfl, etp, hM, hp, zs, _, y, rfl, rfl, SqL.of ehp2, AA hy, P2, fun p hp' => ?_⟩
 have s3 : Ag H2 (upd H2 p (.tup [x, y])) := Ag.new hp'
 refine q p _ x y lq gq ((s1.trans s2).trans s3) Ad (hxn.same s3) (hyn.same s3) hl3 hg3 (fun c hc => ⟨?_, ?_⟩) (hbz _ hl3) (hbz _ hg3)
 ·exact Kq hB0 (hdv _ hl3) (hdv _ hc) (by rw [hl2]; exact hmin _ (List.mem_map_of_mem hc))
 ·exact Kq hB0 (hdv _ hc) (hdv _ hg3) (by rw [hg2]; exact hmax _ (List.mem_map_of_mem hc))
theorem FQ {f : Addr} {fd : FuncData} (F : Fun K "bounds_of" "bounds_of" (top 41) f fd) {a_NoStretch : Addr} (X_heights_of : FdY P w K mg base 37 "heights_of" ["curve", "low", "high"] (BY K a_NoStretch)) (Pq : Fd P w K mg base 37 "heights_of" ["curve", "low", "high"] (DF K)) (P5 : Fd P w K mg base 33 "tops_over" ["numbers", "bottom"] (Ci K)) (OZ : Fd P w K mg base 34 "bottom_of" ["numbers"] (D8 K)) (Pl : mg "min" = none) (Pm : mg "max" = none) (hT : P.given.tree = none) :
 AI P w K mg base (CX2 P w) 38 f fd ["curve", "low", "high"] (BY K a_NoStretch) := by
 refine F.okY BP (fun vs H Q E h => ?_) (fun cdv A outer s H vs Q E hr h => ?_)
 ·obtain ⟨_, _, _, _, _, rfl, _⟩ := h; rfl
 refine ⟨_, (Dj (Aj (i := 3) BP.nd rfl (Or.inl rfl) (Fc X_heights_of hr rfl HS (Aa (pv 0) (Aa (pv 1) (Aa (pv 2) Ac)))))
  Dw), ?_⟩
 obtain ⟨c, rl, rh, lo, hi, rfl, hlo, hhi, hlt, bl, bh, q⟩ := h
 exact ⟨_, rfl, _, rfl, _, rfl, c, rl, rh, lo, hi, rfl, hlo, hhi, hlt, bl, bh, q⟩
theorem AH : As ["first", "second", "lead", "often", "rest", "shift", "top", "k"] ["first", "second"] (Af (top 33)) := ⟨rfl, rfl, rfl, by decide +kernel, rfl, by decide +kernel, by decide +kernel⟩
theorem E1 {f : Addr} {fd : FuncData} (F : Fun K "whole_division" "whole_division" (top 33) f fd) (Pn : mg "list" = none) (OX : mg "range" = none) (OW : mg "len" = none) (hT : P.given.tree = none) :
 AI P w K mg base CX0 33 f fd ["first", "second"] (Jd K) := by
 refine F.ok AH (fun vs H Q E h => ?_) (fun cdv A outer s H vs Q E hr h => ?_)
 ·obtain ⟨_, _, _, _, _, _, _, rfl, _⟩ := h; rfl
 refine ⟨_, (Ae (K := K) (Aj (i := 2) AH.nd rfl (Or.inr rfl) (Ak (ixL K) (pv 1) (CM BX Ab) (fun u v => rfl)))
  (Ae (K := K) (Aj (i := 3) AH.nd rfl (Or.inl rfl) (AU Ac))
  (Ae (K := K) (Aj (i := 4) AH.nd rfl (Or.inl rfl) (Ct (MF K) rfl Pn JH (Aa (pv 0) Ac)))
  (Ae (K := K) (BK (K := K) PassesOwn.never rfl (M7 rfl OX (Aa (Ah Bo (Al (BC K) rfl OW AJ (Aa (pv 0) Ac)) (Al (BC K) rfl OW AJ (Aa (pv 1) Ac))) (Aa (CM BX Ab) (Aa (CM BX Ab) Ac)))) (AE (i := 5) AH.nd rfl (Or.inl rfl)) (Ae (K := K) (Aj (i := 6) AH.nd rfl (Or.inl rfl) (Ak (ixL K) (pv 4) (CM BX Ab) (fun u v => rfl)))
  (Ae (K := K) (Aj (i := 3) AH.nd rfl (Or.inl rfl) (Ah Dl (AU (Aa (pv 6) Ac)) (CD rfl (N := ["number", "lead"]) (nt := 1) (js := [2]) (AY.look (NX := ["first", "second", "lead", "often", "rest", "shift", "top", "k"]) (sc := Af (top 33)) rfl rfl (by decide +kernel)) (piL K (pv 3)) (fun u1 u2 u3 u4 u5 => (AE (i := 0) (show List.Nodup (["number", "lead"] : List Str) from by decide +kernel) rfl (Or.inl rfl))) (AG (by decide)) (fun u1 u2 u3 u4 u5 => Bx) (fun u1 u2 u3 u4 u5 => (Ah Ap (pv 1) (pv 0))))))
  (Ae (K := K) (Jh (i := 4) rfl AH.nd rfl rfl (N := ["number", "lead"]) (nt := 1) (js := [2]) (AY.look (NX := ["first", "second", "lead", "often", "rest", "shift", "top", "k"]) (sc := Af (top 33)) rfl rfl (by decide +kernel)) (piL K (F0 (slL K) (pv 4) GU (GS (CM BX Ab)))) (fun u1 u2 u3 u4 u5 => (AE (i := 0) (show List.Nodup (["number", "lead"] : List Str) from by decide +kernel) rfl (Or.inl rfl))) (AG (by decide)) (fun u1 u2 u3 u4 u5 => Bx) (fun u1 u2 u3 u4 u5 => (Ah Ap (pv 1) (pv 0))) rfl)
  (Ai (BK (K := K) PassesOwn.never rfl (BA rfl OX (Aa (Ah Bo (Al (BC K) rfl OW AJ (Aa (pv 1) Ac)) Ab) Ac)) (AE (i := 7) AH.nd rfl (Or.inl rfl)) (Ai (Em (Ah Bo (Ak (ixL K) (pv 4) (Ah AF (pv 7) (pv 5)) (fun u v => rfl)) (Ah Ap (pv 6) (Ak (ixL K) (pv 1) (pv 7) (fun u v => rfl)))) (EZ (pv 4) (Ah AF (pv 7) (pv 5)) Df))) (by rfl))) (by rfl)) (by rfl)) (by rfl)) (by rfl))
  (Ai (Aw (Ax (Aa (pv 3) (Aa (pv 4) Ac))))) (by rfl)) (by rfl)) (by rfl)) (by rfl)), ?_⟩
 obtain ⟨f, g, fs, gs, lead, M, L, rfl, hf, hg, hlead, hf1000, hg1000, hbf, hbg, hM, hL, q⟩ := h
 have P0 : 0 ≤ sizeLine := by decide
 have P1 : 1 ≤ sizeLine := by decide
 have P2 : 2 ≤ sizeLine := by decide
 have lf : (fs.map V.int).length = fs.length := Rx _
 have lg : (gs.map V.int).length = gs.length := Rx _
 have hg1 : 1 ≤ gs.length := by have := (R3.mp hlead).1; lia
 have hlv : (gs.map V.int)[(gs.map V.int).length - 1]? = some (V.int lead) := by rw [lg, Ru, hlead]; rfl
 have bl : Bd L lead := hbg _ (Rv hlead)
 refine ⟨_, rfl, _, rfl, g, _, _, _, rfl, rfl, hg, CA hlv, ?_⟩
 refine ⟨P0, fun oa hoa => ?_⟩
 have s1 : Ag H (upd H oa (.lst [])) := Ag.new hoa
 refine ⟨_, rfl, f, _, rfl, .inl (Ag.seq s1 hf), fun ra hra => ?_⟩
 have s2 := s1.trans (Ag.new (o := .lst (fs.map V.int)) hra)
 have hraH : H ra = none := by
  cases z : H ra with
  | none => rfl
  | some u => rw [s1 ra u z] at hra; cases hra
 refine ⟨_, rfl, f, _, rfl, .inl (Ag.seq s2 hf), _, rfl, g, _, rfl, .inl (Ag.seq s2 hg), _, _, rfl, rfl, _, rfl, _, rfl, _, _, rfl, ⟨by rw [lf, lg]; lia, by rw [lf, lg]; lia, by decide, by decide⟩, ?_⟩
 have eT : (((fs.map V.int).length : Int) - ((gs.map V.int).length : Int) - -1).toNat = fs.length + 1 - gs.length := by rw [lf, lg]; lia
 rw [eT]
 have ra0 : (upd (upd H oa (.lst [])) ra (.lst (fs.map V.int))) ra = some (.lst (fs.map V.int)) := Ad
 have oa0 : (upd (upd H oa (.lst [])) ra (.lst (fs.map V.int))) oa = some (.lst (([] : List Int).map V.int)) := (Ag.new hra) _ _ Ad
 refine Lq (n := fs.length + 1 - gs.length) (L8 H f g lead fs gs M L fun H f g lead fs gs M L j σ H' => Ag H H' ∧ ∃ (oa ra : Addr) (os rs : List Int) (z5 z6 z7 : Option V), σ = [some (.ref f), some (.ref g), some (.int lead), some (.ref oa), some (.ref ra), z5, z6, z7] ∧ H' oa = some (.lst (os.map V.int)) ∧ H' ra = some (.lst (rs.map V.int)) ∧ os.length = j ∧ rs.length = fs.length - j ∧
  (∀ x, Cv.evI fs x * ((lead ^ j : Int) : Rat) = Cv.evI os x * x ^ (fs.length + 1 - gs.length - j) * Cv.evI gs x + Cv.evI rs x) ∧ (∀ t ∈ os, Bd (M + j * (L + 1)) t) ∧ (∀ t ∈ rs, Bd (M + j * (L + 1)) t) ∧ (j = 0 → rs = fs) ∧ (os ≠ [] → ∃ t, fs[fs.length - 1]? = some t ∧ os[os.length - 1]? = some (lead ^ (os.length - 1) * t)))
  ⟨s2, oa, ra, [], fs, none, none, none, rfl, oa0, ra0, rfl, rfl, fun x => ?_, (fun _ h => nomatch h), (fun t ht => (hbf t ht).mono (by lia)), fun _ => rfl, fun h => absurd rfl h⟩ ?_ ?_
 ·rw [SR]
  show Cv.evI fs x * ((1 : Int) : Rat) = 0 * _ * _ + _
  rw [Rat.intCast_one]; grind
 ·rintro j σ H' hj hR1
  refine Ck hR1 fun sm hz49 => ?_
  refine NC hz49 fun oa ra os rs z5 z6 z7 hz49' => ?_
  clear hz49
  refine MP hz49' fun hq48 eo er hol hrl hev hbo hbr hfs htop => ?_
  clear hz49'
  obtain rfl := hq48
  try clear hR1
  have hjL : j * (L + 1) ≤ fs.length * (L + 1) := SJ _ (by lia)
  have hjL1 : (j + 1) * (L + 1) = j * (L + 1) + L + 1 := by rw [SH]; lia
  have hrp : rs.length - 1 < rs.length := by lia
  have hr0 : rs[rs.length - 1]? = some rs[rs.length - 1] := Sv hrp
  generalize htp : rs[rs.length - 1] = tp at hr0
  have btp : Bd (M + j * (L + 1)) tp := by rw [← htp]; exact hbr _ (Sw hrp)
  have hrv : (rs.map V.int)[(rs.map V.int).length - 1]? = some (V.int tp) := by rw [Rx, Ru, hr0]; rfl
  refine ⟨_, rfl, _, rfl, ra, _, _, _, rfl, rfl, SqL.of er, CA hrv, ?_⟩
  refine ⟨_, rfl, P1, fun t1 ht1 => ?_⟩
  have sa : Ag H' (upd H' t1 (.lst [.int tp])) := Ag.new ht1
  refine Cd ⟨_, rfl, oa, rfl, ⟨_, SqL.of (sa _ _ eo)⟩, ?_⟩
  refine DN (xs := os.map V.int) (L5 H' t1 tp os lead fun H' t1 tp os lead i zs H2 => H2 = upd H' t1 (.lst [.int tp]) ∧ zs = ((os.take i).map (lead * ·)).map V.int) ⟨rfl, rfl⟩ (fun i zs H2 hi p => ⟨by rw [p.1]; exact SqL.of (sa _ _ eo), by rw [p.2, Rx, Rx, Rp]; rw [Rx] at hi; lia⟩) (by rw [Rx]; exact QV (AW (by lia))) ?_ ?_
  ·rintro i v zs H2 hv ⟨rfl, rfl⟩
   rw [Ru] at hv
   cases et : os[i]? with
   | none => rw [et] at hv; cases hv
   | some t =>
     rw [et] at hv
     cases hv
     exact ⟨_, rfl, _, rfl, _, _, rfl, rfl, Bj.bd bl (hbo t (Rv et)) (by lia), rfl, Ft i et⟩
  rintro zs H2 ⟨rfl, rfl⟩ l1 hl1
  rw [show os.take (os.map V.int).length = os by rw [Rx, Sf]]
  have sb := sa.trans (Ag.new (o := .lst ((os.map (lead * ·)).map V.int)) hl1)
  have et1 := (Ag.new (o := .lst ((os.map (lead * ·)).map V.int)) hl1) _ _ (Ad (H := H') (a := t1) (o := .lst [.int tp]))
  refine ⟨t1, l1, _, _, rfl, rfl, et1, Ad, by rw [Rx, Rx]; exact QV (AW (by show 1 + os.length ≤ 1000; lia)), fun o2 ho2 => ?_⟩
  have sc := sb.trans (Ag.new (o := .lst ([V.int tp] ++ (os.map (lead * ·)).map V.int)) ho2)
  have eo2 : (upd (upd (upd H' t1 (.lst [.int tp])) l1 (.lst ((os.map (lead * ·)).map V.int))) o2 (.lst ([V.int tp] ++ (os.map (lead * ·)).map V.int))) o2 = some (.lst ((tp :: os.map (lead * ·)).map V.int)) := Ad
  generalize upd (upd (upd H' t1 (.lst [.int tp])) l1 (.lst ((os.map (lead * ·)).map V.int))) o2 (.lst ([V.int tp] ++ (os.map (lead * ·)).map V.int)) = H3 at sc eo2 ⊢
  have er3 := sc _ _ er
  have smc := sm.trans sc
  have rt : (rs.map V.int).take ((rs.map V.int).length - 1) = (rs.take (rs.length - 1)).map V.int := by rw [Rx, List.map_take]
  refine Cd ⟨_, rfl, _, rfl, _, rfl, ra, _, rfl, SqL.of er3, fun c hc => ?_⟩
  rw [LA, rt]
  have sd : Ag H3 (upd H3 c (.lst ((rs.take (rs.length - 1)).map V.int))) := Ag.new hc
  refine ⟨c, rfl, ⟨_, SqL.of Ad⟩, ?_⟩
  refine DN (xs := (rs.take (rs.length - 1)).map V.int) (L4 H3 c rs lead fun H3 c rs lead i zs H2 => H2 = upd H3 c (.lst ((rs.take (rs.length - 1)).map V.int)) ∧ zs = (((rs.take (rs.length - 1)).take i).map (lead * ·)).map V.int) ⟨rfl, rfl⟩ (fun i zs H2 hi p => ⟨by rw [p.1]; exact SqL.of Ad, by rw [p.2, Rx, Rx, Rp]; rw [Rx] at hi; lia⟩) (by rw [Rx, Rp]; exact QV (AW (by lia))) ?_ ?_
  ·rintro i v zs H2 hv ⟨rfl, rfl⟩
   rw [Ru] at hv
   cases et : (rs.take (rs.length - 1))[i]? with
   | none => rw [et] at hv; cases hv
   | some t =>
     rw [et] at hv
     cases hv
     exact ⟨_, rfl, _, rfl, _, _, rfl, rfl, Bj.bd bl (hbr t (Tv (Rv et))) (by lia), rfl, Ft i et⟩
  rintro zs H2 ⟨rfl, rfl⟩ r2 hr2
  have ez : (rs.take (rs.length - 1)).take ((rs.take (rs.length - 1)).map V.int).length = rs.take (rs.length - 1) := by rw [Rx, Sf]
  rw [ez]
  have se := sd.trans (Ag.new (o := .lst (((rs.take (rs.length - 1)).map (lead * ·)).map V.int)) hr2)
  have er2 : (upd (upd H3 c (.lst ((rs.take (rs.length - 1)).map V.int))) r2 (.lst (((rs.take (rs.length - 1)).map (lead * ·)).map V.int))) r2 = some (.lst (((rs.take (rs.length - 1)).map (lead * ·)).map V.int)) := Ad
  have hr2H : H r2 = none := by
   cases z : H r2 with
   | none => rfl
   | some u => rw [sd r2 u (smc r2 u z)] at hr2; cases hr2
  have r2o : r2 ≠ o2 := fun z => by rw [z, sd _ _ eo2] at hr2; cases hr2
  have eo4 := se _ _ eo2
  have sm4 := smc.trans se
  generalize upd (upd H3 c (.lst ((rs.take (rs.length - 1)).map V.int))) r2 (.lst (((rs.take (rs.length - 1)).map (lead * ·)).map V.int)) = H4 at er2 eo4 sm4 ⊢
  have rl4 : ((rs.take (rs.length - 1)).map (lead * ·)).length = fs.length - (j + 1) := by rw [Rx, Rp]; lia
  have ev4 : ∀ x, Cv.evI ((rs.take (rs.length - 1)).map (lead * ·)) x = (lead : Rat) * (Cv.evI rs x - (tp : Rat) * x ^ (rs.length - 1)) := fun x => by
   rw [Cv.evI_scale, Cv.evI_last x rs tp hr0]; grind
  have br4 : ∀ t ∈ (rs.take (rs.length - 1)).map (lead * ·), Bd (M + j * (L + 1) + L) t := fun t ht => by
   obtain ⟨u, hu, rfl⟩ := (Tt.mp ht)
   exact (bl.mul (hbr u (Tv hu))).mono (by lia)
  generalize (rs.take (rs.length - 1)).map (lead * ·) = r4 at er2 rl4 ev4 br4
  refine ⟨_, rfl, g, _, rfl, .inl (Ag.seq sm4 hg), _, _, rfl, rfl, _, rfl, by rw [lg]; lia, by rw [lg]; lia, ?_⟩
  have eN : (((gs.map V.int).length : Int) - 1).toNat = gs.length - 1 := by rw [lg]; lia
  rw [eN]
  have hsh : ((fs.map V.int).length : Int) - ((gs.map V.int).length : Int) - (j : Int) = ((fs.length - gs.length - j : Nat) : Int) := by rw [lf, lg]; lia
  rw [hsh]
  generalize hS : fs.length - gs.length - j = S at hsh ⊢
  refine BN (n := gs.length - 1) (L15 H o2 tp os lead f g r2 S fs j rs gs M L fun H o2 tp os lead f g r2 S fs j rs gs M L i σ H5 => Ag H H5 ∧ H5 o2 = some (.lst ((tp :: os.map (lead * ·)).map V.int)) ∧ ∃ (ps : List Int) (z7 : Option V), σ = [some (.ref f), some (.ref g), some (.int lead), some (.ref o2), some (.ref r2), some (.int (S : Int)), some (.int tp), z7] ∧ H5 r2 = some (.lst (ps.map V.int)) ∧ ps.length = fs.length - (j + 1) ∧
   (∀ x, Cv.evI ps x = (lead : Rat) * (Cv.evI rs x - (tp : Rat) * x ^ (rs.length - 1)) - (tp : Rat) * x ^ S * Cv.evI (gs.take i) x) ∧ (∀ k t, ps[k]? = some t → Bd (if k < S + i then M + j * (L + 1) + L + 1 else M + j * (L + 1) + L) t))
   ⟨sm4, eo4, r4, _, rfl, er2, rl4, fun x => ?_, fun k t ht => ?_⟩ ?_ ?_
  ·rw [ev4 x, List.take_zero]
   show _ = _ - _ * (0 : Rat)
   grind
  ·split
   ·exact (br4 t (Rv ht)).mono (by lia)
   ·exact br4 t (Rv ht)
  ·rintro i σ H5 hi hR2
   refine HB hR2 fun sm5 eo5 hz51 => ?_
   refine E8 hz51 fun ps z7' hz51' => ?_
   clear hz51
   refine HA hz51' fun hq50 ep hpl hev5 hbp => ?_
   clear hz51'
   obtain rfl := hq50
   try clear hR2
   have hgi : gs[i]? = some gs[i] := Sv (by lia)
   have hik : i + S < ps.length := by lia
   have hpk : ps[i + S]? = some ps[i + S] := Sv hik
   have bm : Bj tp gs[i] := Bj.bd btp (hbg _ (Sw (by lia))) (by lia)
   refine ⟨_, rfl, _, rfl, _, rfl, _, _, rfl, rfl, r2, _, _, _, rfl, rfl, SqL.of ep, C8 hpk (by lia), _, rfl, _, rfl, _, rfl, g, _, _, _, rfl, rfl, Ag.seq sm5 hg, C8 hgi (by lia), _, _, rfl, rfl, bm, _, _, rfl, rfl, ?_⟩
   refine ⟨_, rfl, _, rfl, _, rfl, _, _, rfl, rfl, r2, _, _, i + S, rfl, rfl, ep, Fq (by rw [Rx]; exact hik) (by lia), ?_⟩
   refine ⟨sm5.put hr2H, by rw [AB (Ne.symm r2o)]; exact eo5, ps.set (i + S) (ps[i + S] + -(tp * gs[i])), _, rfl, ?_, by rw [RF]; exact hpl, fun x => ?_, fun k t ht => ?_⟩
   ·rw [Ad, Sb, ← SE]
   ·rw [Cv.evI_set x ps (i + S) _ _ hpk, hev5 x, Cv.evI_take_succ x gs i _ hgi, Rat.intCast_neg, S5, Nm.pow_add]
    grind
   ·by_cases hk : k = i + S
    ·subst hk
     rw [R4 hik] at ht
     cases ht
     rw [if_pos (by lia), ← SE]
     have b1 := hbp _ _ hpk
     rw [if_neg (by lia)] at b1
     exact Bd.sub b1 ((btp.mul (hbg _ (Sw (by lia)))).mono (by lia))
    ·rw [R5 (fun z => hk z.symm)] at ht
     have b1 := hbp k t ht
     split
     ·split at b1
      ·exact b1
      ·exact b1.mono (by lia)
     ·rw [if_neg (by lia)] at b1; exact b1
  ·rintro σ H5 hR3
   refine HB hR3 fun sm5 eo5 hz53 => ?_
   refine E8 hz53 fun ps z7' hz53' => ?_
   clear hz53
   refine HA hz53' fun hq52 ep hpl hev5 hbp => ?_
   clear hz53'
   obtain rfl := hq52
   try clear hR3
   have hgl : gs.take (gs.length - 1) = gs.take (gs.length - 1) := rfl
   refine ⟨sm5, o2, r2, tp :: os.map (lead * ·), ps, _, _, _, rfl, eo5, ep, by rw [S9, Rx]; lia, hpl, fun x => ?_, fun t ht => ?_, fun t ht => ?_, fun z => absurd z (by lia), fun _ => ?_⟩
   ·have h1 := hev x
    have h2 := hev5 x
    have h3 := Cv.evI_last x gs lead hlead
    have e1 : fs.length + 1 - gs.length - j = S + 1 := by lia
    have e2 : fs.length + 1 - gs.length - (j + 1) = S := by lia
    have e3 : rs.length - 1 = S + (gs.length - 1) := by lia
    rw [e1] at h1
    rw [e2, h2, Cv.evI_cons, Cv.evI_scale, SS, S5, ← Tn, h1, h3, e3, Nm.pow_add, S7]
    grind
   ·rcases QZ.mp ht with z | z
    ·rw [z]; exact btp.mono (by lia)
    ·obtain ⟨u, hu, rfl⟩ := (Tt.mp z)
     exact (bl.mul (hbo u hu)).mono (by lia)
   ·obtain ⟨k, hk⟩ := (Tu ht)
    have := hbp k t hk
    split at this <;> exact this.mono (by lia)
   ·by_cases hj0 : j = 0
    ·have ho : os = [] := Sg (by lia)
     rw [hfs hj0] at hr0
     refine ⟨tp, hr0, ?_⟩
     rw [ho]
     show some tp = some (lead ^ 0 * tp)
     rw [SR, RU]
    ·obtain ⟨t, ht, ho⟩ := htop (fun z => by rw [z] at hol; exact hj0 hol.symm)
     refine ⟨t, ht, ?_⟩
     rw [S9, Rx, Tb]
     have e : os.length = (os.length - 1) + 1 := by lia
     rw [e, Sa, Ru, ho]
     show some (lead * (lead ^ (os.length - 1) * t)) = some (lead ^ (os.length - 1 + 1) * t)
     rw [SS]
     congr 1
     grind
 ·rintro σ H' hR4
  refine Ck hR4 fun sm hz55 => ?_
  refine NC hz55 fun oa ra os rs z5 z6 z7 hz55' => ?_
  clear hz55
  refine MP hz55' fun hq54 eo er hol hrl hev hbo hbr hfs htop => ?_
  clear hz55'
  obtain rfl := hq54
  try clear hR4
  refine ⟨_, rfl, _, rfl, P2, fun p hp => ?_⟩
  have s9 : Ag H' (upd H' p (.tup [.ref oa, .ref ra])) := Ag.new hp
  refine q p oa ra _ os rs (sm.trans s9) Ad (s9 _ _ eo) (s9 _ _ er) ⟨hol, ?_, fun x => ?_, (fun t ht => by rw [hol]; exact hbo t ht), (fun t ht => by rw [hol]; exact hbr t ht), htop⟩
  ·rw [hrl]; lia
  ·have := hev x
   rw [Te, S6, To] at this
   rw [hol]
   exact this
theorem Dv : As ["base", "many", "power", "turn"] ["base", "many"] (Af (top 32)) := ⟨rfl, rfl, rfl, by decide +kernel, rfl, by decide +kernel, by decide +kernel⟩
theorem JV {f : Addr} {fd : FuncData} (F : Fun K "raised" "raised" (top 32) f fd) (OX : mg "range" = none) (hT : P.given.tree = none) :
 AI P w K mg base CX0 33 f fd ["base", "many"] (DR) := by
 refine F.ok Dv (fun vs H Q E h => ?_) (fun cdv A outer s H vs Q E hr h => ?_)
 ·obtain ⟨_, _, _, rfl, _⟩ := h; rfl
 refine ⟨_, (Ae (K := K) (Aj (i := 2) Dv.nd rfl (Or.inl rfl) Ab)
  (Ae (K := K) (BK (K := K) PassesOwn.never rfl (BA rfl OX (Aa (pv 1) Ac)) (AE (i := 3) Dv.nd rfl (Or.inl rfl)) (Ai (Aj (i := 2) Dv.nd rfl (Or.inl rfl) (Ah Ap (pv 2) (pv 0)))) (by rfl))
  (Ai (Aw (pv 2))) (by rfl)) (by rfl)), ?_⟩
 obtain ⟨b, n, L, rfl, hn, hb, hL, q⟩ := h
 refine ⟨_, rfl, _, rfl, by lia, by lia, ?_⟩
 rw [RD]
 refine BN (n := n) (L3 H b n fun H b n i σ H' => H' = H ∧ ∃ z, σ = [some (.int b), some (.int n), some (.int (b ^ i)), z]) ⟨rfl, none, by rw [SR]; rfl⟩ ?_ ?_
 ·rintro i σ H' hi ⟨rfl, z, rfl⟩
  have hLi : L * i ≤ L * n := TR _ (by lia)
  exact ⟨_, rfl, _, rfl, _, _, rfl, rfl, Bj.bd (Bd.pow hb i) hb (by lia), rfl, some (.int (0 + (i : Int))), by rw [SS]; rfl⟩
 ·rintro σ H' ⟨rfl, z, rfl⟩
  exact ⟨_, rfl, q⟩
theorem BL : As ["one", "other", "bottom", "under", "second", "parts", "scale", "often"] ["one", "other"] (Af (top 34)) := ⟨rfl, rfl, rfl, by decide +kernel, rfl, by decide +kernel, by decide +kernel⟩
theorem IL {f : Addr} {fd : FuncData} (F : Fun K "divided" "divided" (top 34) f fd) (OZ : Fd P w K mg base 34 "bottom_of" ["numbers"] (D8 K)) (P5 : Fd P w K mg base 33 "tops_over" ["numbers", "bottom"] (Ci K)) (PL : Fd P w K mg base 33 "whole_division" ["first", "second"] (Jd K)) (Pj : Fd P w K mg base 35 "curve_over" ["tops", "bottom"] (Ca K)) (Pr : Fd P w K mg base 33 "raised" ["base", "many"] (DR)) (OW : mg "len" = none) (hT : P.given.tree = none) :
 AI P w K mg base CX0 36 f fd ["one", "other"] (EG K) := by
 refine F.ok BL (fun vs H Q E h => ?_) (fun cdv A outer s H vs Q E hr h => ?_)
 ·obtain ⟨_, _, _, _, _, _, _, rfl, _⟩ := h; rfl
 refine ⟨_, (Ae (K := K) (AX (K := K) (Av Cz (Al (BC K) rfl OW AJ (Aa (pv 1) Ac)) Ab (Ay _)) (Ai CL) AO (by rfl) (by rfl))
  (Ae (K := K) (Aj (i := 2) BL.nd rfl (Or.inl rfl) (Am OZ hr rfl (Aa (pv 0) Ac)))
  (Ae (K := K) (Aj (i := 3) BL.nd rfl (Or.inr rfl) (Am OZ hr rfl (Aa (pv 1) Ac)))
  (Ae (K := K) (Aj (i := 4) BL.nd rfl (Or.inl rfl) (Am P5 hr rfl (Aa (pv 1) (Aa (pv 3) Ac))))
  (Ae (K := K) (Aj (i := 5) BL.nd rfl (Or.inl rfl) (Am PL hr rfl (Aa (Am P5 hr rfl (Aa (pv 0) (Aa (pv 2) Ac))) (Aa (pv 4) Ac))))
  (Ae (K := K) (Aj (i := 6) BL.nd rfl (Or.inl rfl) (Ah Ap (pv 2) (Am Pr hr rfl (Aa (Ak (ixL K) (pv 4) (CM BX Ab) (fun u v => rfl)) (Aa (Al (BC K) rfl OW AJ (Aa (Ak (ixT K) (pv 5) Ab (fun u v => rfl)) Ac)) Ac)))))
  (Ae (K := K) (Aj (i := 7) BL.nd rfl (Or.inl rfl) (Am Pj hr rfl (Aa (CD rfl (N := ["top", "under"]) (nt := 1) (js := [3]) (AY.look (NX := ["one", "other", "bottom", "under", "second", "parts", "scale", "often"]) (sc := Af (top 34)) rfl rfl (by decide +kernel)) (piL K (Ak (ixT K) (pv 5) Ab (fun u v => rfl))) (fun u1 u2 u3 u4 u5 => (AE (i := 0) (show List.Nodup (["top", "under"] : List Str) from by decide +kernel) rfl (Or.inl rfl))) (AG (by decide)) (fun u1 u2 u3 u4 u5 => Bx) (fun u1 u2 u3 u4 u5 => (Ah Ap (pv 0) (pv 1)))) (Aa (pv 6) Ac))))
  (Ai (Aw (Ax (Aa (pv 7) (Aa (Am Pj hr rfl (Aa (Ak (ixT K) (pv 5) Ab (fun u v => rfl)) (Aa (pv 6) Ac))) Ac))))) (by rfl)) (by rfl)) (by rfl)) (by rfl)) (by rfl)) (by rfl)) (by rfl)), ?_⟩
 obtain ⟨r, u, qs, ps, m, L, C, rfl, ⟨xs, hS, hn⟩, ⟨ys, hT', hm⟩, gq, hne, gp, hB, hC, hm1, hL1, hCC, hq8, hp8, q⟩ := h
 have P2 : 2 ≤ sizeLine := by decide
 have hl := hn.length
 have hly := hm.length
 have hp1 : 1 ≤ ps.length := S8.mpr hne
 have nq : m * qs.length ≤ 100000 * 8 := Tr hm1 hq8
 have np : L * ps.length ≤ 1000000 * 8 := Tr hL1 hp8
 refine ⟨_, rfl, u, ys, rfl, .inr hT', rfl, _, rfl, ?_⟩
 refine AV (by rw [decide_eq_false (fun z => by have := V.int.inj z; lia)] <;> rfl) ?_
 refine ⟨_, rfl, false, r, xs, qs, m, rfl, hS, hn, (fun c hc => (hB c hc).2), by rw [SU]; lia, fun B hB0 hdB hbB => ?_⟩
 refine ⟨_, rfl, false, u, ys, ps, L, rfl, hT', hm, (fun c hc => (hC c hc).2), by rw [SU]; lia, fun U hU0 hdU hbU => ?_⟩
 refine ⟨_, rfl, _, rfl, false, u, ys, ps, U, L * ps.length + 1, L, rfl, hT', hm, hbU, (fun c hc => (hC c hc).1), by lia, by lia, fun se hse => ?_⟩
 have s1 : Ag H (upd H se (.lst ((ps.map (Ao U)).map V.int))) := Ag.new hse
 refine ⟨_, rfl, _, rfl, false, r, xs, qs, B, m * qs.length + 1, m, rfl, SqT.same hS s1, AS.same hn s1, hbB, (fun c hc => (hB c hc).1), by lia, by lia, fun fa hfa => ?_⟩
 have s2 := s1.trans (Ag.new (o := .lst ((qs.map (Ao B)).map V.int)) hfa)
 have ese := (Ag.new (o := .lst ((qs.map (Ao B)).map V.int)) hfa) _ _ (Ad (H := H) (a := se) (o := .lst ((ps.map (Ao U)).map V.int)))
 have efa : (upd (upd H se (.lst ((ps.map (Ao U)).map V.int))) fa (.lst ((qs.map (Ao B)).map V.int))) fa = some (.lst ((qs.map (Ao B)).map V.int)) := Ad
 generalize upd (upd H se (.lst ((ps.map (Ao U)).map V.int))) fa (.lst ((qs.map (Ao B)).map V.int)) = H2 at s2 ese efa ⊢
 obtain ⟨lead, hlead, hl0⟩ := (Dr gp hne hU0 hdU)
 have bF : ∀ t ∈ qs.map (Ao B), Bd (m * qs.length + m + 1) t := fun t ht => by
  obtain ⟨c, hc, rfl⟩ := (Tt.mp ht)
  exact ((hB c hc).1.mul (hbB.fdiv (y := c.den))).mono (by lia)
 have bG : ∀ t ∈ ps.map (Ao U), Bd (L * ps.length + L + 1) t := fun t ht => by
  obtain ⟨c, hc, rfl⟩ := (Tt.mp ht)
  exact ((hC c hc).1.mul (hbU.fdiv (y := c.den))).mono (by lia)
 refine ⟨_, rfl, fa, se, qs.map (Ao B), ps.map (Ao U), lead, m * qs.length + m + 1, L * ps.length + L + 1, rfl, SqL.of efa, SqL.of ese, hlead, by rw [Rx]; lia, by rw [Rx]; lia, bF, bG, by rw [Rx]; have := SJ (L * ps.length + L + 1 + 1) hq8; lia, by lia, fun pt pa pb H3 os rs s3 ept epa epb dv => ?_⟩
 have ese3 := s3 _ _ ese
 have hol : os.length = qs.length + 1 - ps.length := by have := dv.ol; rw [Rx, Rx] at this; exact this
 have hk8 : os.length ≤ 8 := by lia
 rw [← hol] at hCC
 have hkb : os.length * (L * ps.length + L + 1 + 1) ≤ 8 * (L * ps.length + L + 1 + 1) := SJ _ hk8
 have hkc : (L * ps.length + L + 1) * os.length ≤ os.length * (L * ps.length + L + 1 + 1) := by rw [RK]; exact TR _ (Sr _)
 have hlv : ((ps.map (Ao U)).map V.int)[((ps.map (Ao U)).map V.int).length - 1]? = some (V.int lead) := by rw [Rx, Ru, hlead]; rfl
 have blead : Bd (L * ps.length + L + 1) lead := bG _ (Rv hlead)
 have lo : (os.map V.int).length = os.length := Rx _
 have bpow : Bd ((L * ps.length + L + 1) * os.length + 1) (lead ^ os.length) := Bd.pow blead _
 refine ⟨_, rfl, _, rfl, _, rfl, se, _, _, _, rfl, rfl, SqL.of ese3, CA hlv, _, rfl, pt, _, _, _, rfl, rfl, SqT.of ept, rfl, pa, _, rfl, .inl (SqL.of epa), lead, os.length, L * ps.length + L + 1, by rw [lo]; rfl, by lia, blead, by lia, _, _, rfl, rfl, Bj.bd hbB bpow (by lia), ?_⟩
 have hsc : B * lead ^ os.length ≠ 0 := RY (by lia) (Td hl0)
 refine Cd ⟨_, rfl, pt, _, _, _, rfl, rfl, SqT.of ept, rfl, pa, rfl, ⟨_, SqL.of epa⟩, ?_⟩
 refine DN (xs := os.map V.int) (fun i zs H4 => H4 = H3 ∧ zs = ((os.take i).map (· * U)).map V.int) ⟨rfl, rfl⟩ (fun i zs H4 hi p => ⟨by rw [p.1]; exact SqL.of epa, by rw [p.2, Rx, Rx, Rp]; rw [Rx] at hi; lia⟩) (by rw [lo]; exact QV (AW (by lia))) ?_ ?_
 ·rintro i v zs H4 hv ⟨rfl, rfl⟩
  rw [Ru] at hv
  cases et : os[i]? with
  | none => rw [et] at hv; cases hv
  | some t =>
    rw [et] at hv
    cases hv
    refine ⟨_, rfl, _, rfl, _, _, rfl, rfl, Bj.bd (dv.ob t (Rv et)) hbU (by lia), rfl, ?_⟩
    rw [Sd, et, Se, Se]
    rfl
 rintro zs H4 ⟨rfl, rfl⟩ l1 hl1
 rw [show os.take (os.map V.int).length = os by rw [lo, Sf]]
 have s4 : Ag H4 (upd H4 l1 (.lst ((os.map (· * U)).map V.int))) := Ag.new hl1
 refine ⟨_, rfl, l1, os.map (· * U), _, rfl, SqL.of Ad, hsc, by rw [Rx]; lia, fun a H5 s5 ca => ?_⟩
 have s45 := s4.trans s5
 refine ⟨_, rfl, _, rfl, pt, _, _, _, rfl, rfl, SqT.of (s45 _ _ ept), rfl, _, rfl, pb, rs, _, rfl, SqL.of (s45 _ _ epb), hsc, by rw [dv.rl, Rx, Rx]; lia, fun b H6 s6 cb => ?_⟩
 refine ⟨P2, fun p hp => ?_⟩
 have s7 : Ag H6 (upd H6 p (.tup [.ref a, .ref b])) := Ag.new hp
 have go : AN ((os.map (· * U)).map fun t => RS t (B * lead ^ os.length)) := by
  by_cases h0 : os = []
  ·left; rw [h0]; rfl
  ·obtain ⟨t, ht, ho⟩ := (dv.top h0)
   have hqn : qs ≠ [] := fun z => by rw [z] at ht; cases ht
   obtain ⟨t', ht', h0'⟩ := (Dr gq hqn hB0 hdB)
   rw [ht] at ht'
   cases ht'
   right
   refine ⟨_, by rw [Rx, Rx, Ru, Ru, ho]; rfl, fun z => ?_⟩
   have z2 : (lead ^ (os.length - 1) * t * U) ≠ 0 := RY (RY (Td hl0) h0') (by lia)
   exact NF z2 hsc z
 rw [ES go] at ca
 have hsl := Cv.strip_length (rs.map fun t => RS t (B * lead ^ os.length))
 refine q p a b _ _ _ (((((s2.trans s3).trans s45).trans s6).trans s7)) Ad (ca.same (s6.trans s7)) (cb.same s7) go (Be _) (by rw [Rx, Rx]; exact hol) ?_ (fun x => ?_) fun c hc => ?_
 ·rw [Rx, dv.rl, Rx, Rx] at hsl
  lia
 ·rw [Cv.ev_strip]
  have h1 := dv.ev x
  have h2 := Hm (os.map (· * U)) _ hsc x
  have h3 := Hm rs _ hsc x
  have h4 : Cv.evI (os.map (· * U)) x = Cv.evI os x * (U : Rat) := by
   have := Cv.evI_scale x U os
   rw [show os.map (· * U) = os.map (U * ·) from T6 fun t _ => T9 t U, this, T4]
  have h5 : Cv.evI (qs.map (Ao B)) x = Cv.ev qs x * (B : Rat) := Ds hdB x
  have h6 : Cv.evI (ps.map (Ao U)) x = Cv.ev ps x * (U : Rat) := Ds hdU x
  have hc : ((B * lead ^ os.length : Int) : Rat) ≠ 0 := Nm.cast_ne hsc
  have h7 : ((B * lead ^ os.length : Int) : Rat) = (B : Rat) * ((lead ^ os.length : Int) : Rat) := S5 ..
  generalize Cv.ev ((os.map (· * U)).map fun t => RS t (B * lead ^ os.length)) x = X at h2 ⊢
  generalize Cv.ev (rs.map fun t => RS t (B * lead ^ os.length)) x = Y at h3 ⊢
  generalize ((B * lead ^ os.length : Int) : Rat) = C at *
  have h8 : (Cv.ev qs x - (X * Cv.ev ps x + Y)) * C = 0 := by
   rw [h5, h6] at h1
   rw [h4] at h2
   have : Cv.ev qs x * C = (X * C) * Cv.ev ps x + Y * C := by rw [h2, h3, h7]; grind
   grind
  rcases Sh.mp h8 with z | z
  ·grind
  ·exact absurd z hc
 ·obtain ⟨t', ht', rfl⟩ := (Tt.mp hc)
  obtain ⟨t, ht, rfl⟩ := (Tt.mp ht')
  exact RB.div (m := 0) (((dv.ob t ht).mul hbU).mono (by lia)) ((hbB.mul bpow).mono (by lia)) hsc
theorem Bu : As ["tops", "width"] ["tops"] (Af (top 35)) := ⟨rfl, rfl, rfl, by decide +kernel, rfl, by decide +kernel, by decide +kernel⟩
theorem CO {f : Addr} {fd : FuncData} (F : Fun K "without_last_noughts" "without_last_noughts" (top 35) f fd) (OW : mg "len" = none) (hT : P.given.tree = none) :
 AI P w K mg base CX0 33 f fd ["tops"] (Kw K) := by
 refine F.ok Bu (fun vs H Q E h => ?_) (fun cdv A outer s H vs Q E hr h => ?_)
 ·obtain ⟨_, _, rfl, _⟩ := h; rfl
 refine ⟨_, (Ae (K := K) (Aj (i := 1) Bu.nd rfl (Or.inl rfl) (Al (BC K) rfl OW AJ (Aa (pv 0) Ac)))
  (Ae (K := K) (BQ PassesOwn.never (PW.pt (GQ (Av CN (pv 1) Ab (Ay _)) (EH (Av Cz (Ak (ixL K) (pv 0) (Ah Bo (pv 1) Ab) (fun u v => rfl)) Ab (Ay _))))) (Ai (Aj (i := 1) Bu.nd rfl (Or.inl rfl) (Ah Bo (pv 1) Ab))))
  (Ai (Aw (F0 (slL K) (pv 0) GU (GS (pv 1))))) (by rfl)) (by rfl)), ?_⟩
 obtain ⟨r, ts, rfl, hS, q⟩ := h
 have hl : (ts.map V.int).length = ts.length := Rx _
 refine ⟨_, rfl, r, _, rfl, .inl hS, ?_⟩
 refine HI (L3 H r ts fun H r ts σ H' => H' = H ∧ ∃ (v : Nat), σ = [some (.ref r), some (.int (v : Int))] ∧ v ≤ ts.length ∧ ∀ j, v ≤ j → ts.getD j 0 = 0) (fun σ _ => mu 1 σ) ⟨rfl, ts.length, by rw [← hl]; rfl, R8 _, fun j hj => by rw [Sl, SV hj]; rfl⟩ ?_
 rintro σ H' hR1
 refine Ck hR1 fun hq56 hz58 => ?_
 refine Lr hz58 fun v hz58' => ?_
 clear hz58
 refine HB hz58' fun hq57 hv hall => ?_
 clear hz58'
 obtain rfl := hq56
 obtain rfl := hq57
 try clear hR1
 have fin : (1 ≤ v → ts.getD (v - 1) 0 ≠ 0) → ∀ p, H' p = none → Q (.ref p) (upd H' p (.lst (DE (ts.map V.int) none (some (v : Int))))) := fun hc p hp => by
  rw [NG, ← List.map_take]
  exact q p _ v hv hall hc (Ag.new hp) Ad
 refine ⟨_, rfl, _, _, rfl, rfl, _, rfl, ?_⟩
 by_cases hv0 : v = 0
 ·subst hv0
  refine Dc (Dc ?_)
  exact ⟨_, rfl, _, rfl, _, rfl, r, _, rfl, hS, fun p hp => fin (fun h => absurd h (by lia)) p hp⟩
 ·refine Bs (by rw [decide_eq_true (show (0 : Int) < (v : Int) by lia)] <;> rfl) ?_
  have hat : atI (ts.map V.int) ((v : Int) - 1) = some (.int (ts.getD (v - 1) 0)) := C8 (i := v - 1) (by rw [Sl, Sv (show v - 1 < ts.length by lia)]; rfl) (by lia)
  refine ⟨_, rfl, _, rfl, _, _, rfl, rfl, r, _, _, _, rfl, rfl, hS, hat, rfl, _, rfl, ?_⟩
  by_cases hq0 : ts.getD (v - 1) 0 = 0
  ·refine Bs (by rw [decide_eq_true (show V.int (ts.getD (v - 1) 0) = V.int 0 by rw [hq0])] <;> rfl) (HH ?_)
   refine ⟨_, rfl, _, _, rfl, rfl, ⟨rfl, v - 1, ?_, by lia, fun j hj => ?_⟩, ?_⟩
   ·show [some (V.ref r), some (V.int ((v : Int) - 1))] = [some (V.ref r), some (V.int ((v - 1 : Nat) : Int))]
    rw [show (v : Int) - 1 = ((v - 1 : Nat) : Int) by lia]
   ·by_cases hjv : v ≤ j
    ·exact hall j hjv
    ·rw [show j = v - 1 by lia]; exact hq0
   ·show ((v : Int) - 1).toNat < (v : Int).toNat
    lia
  ·refine AV (by rw [decide_eq_false (show ¬ V.int (ts.getD (v - 1) 0) = V.int 0 from fun z => hq0 (V.int.inj z))] <;> rfl) ?_
   exact ⟨_, rfl, _, rfl, _, rfl, r, _, rfl, hS, fun p hp => fin (fun _ => hq0) p hp⟩
theorem AZ : As ["great", "small", "lead", "held", "drop", "factor", "rest"] ["great", "small"] (Af (top 36)) := ⟨rfl, rfl, rfl, by decide +kernel, rfl, by decide +kernel, by decide +kernel⟩
theorem GZ {f : Addr} {fd : FuncData} (F : Fun K "last_rest" "last_rest" (top 36) f fd) (Qr : Fd P w K mg base 33 "without_last_noughts" ["tops"] (Kw K)) (Pr : Fd P w K mg base 33 "raised" ["base", "many"] (DR)) (PL : Fd P w K mg base 33 "whole_division" ["first", "second"] (Jd K)) (OW : mg "len" = none) (hT : P.given.tree = none) :
 AI P w K mg base CX0 34 f fd ["great", "small"] (GF K) := by
 refine F.ok AZ (fun vs H Q E h => ?_) (fun cdv A outer s H vs Q E hr h => ?_)
 ·obtain ⟨_, _, _, _, _, _, rfl, _⟩ := h; rfl
 refine ⟨_, (Ae (K := K) (Aj (i := 2) AZ.nd rfl (Or.inl rfl) Ab)
  (Ae (K := K) (Aj (i := 3) AZ.nd rfl (Or.inl rfl) Ab)
  (Ae (K := K) (BQ PassesOwn.never (Av CN (Al (BC K) rfl OW AJ (Aa (pv 1) Ac)) Ab (Ay _)) (Ae (K := K) (Aj (i := 4) AZ.nd rfl (Or.inl rfl) (Ah Bo (Al (BC K) rfl OW AJ (Aa (pv 0) Ac)) (Al (BC K) rfl OW AJ (Aa (pv 1) Ac))))
  (Ae (K := K) (Aj (i := 5) AZ.nd rfl (Or.inr rfl) (Ah Ap (pv 2) (Am Pr hr rfl (Aa (pv 3) (Aa (pv 4) Ac)))))
  (Ae (K := K) (Aj (i := 6) AZ.nd rfl (Or.inl rfl) (Am Qr hr rfl (Aa (Ak (ixT K) (Am PL hr rfl (Aa (pv 0) (Aa (pv 1) Ac))) Ab (fun u v => rfl)) Ac)))
  (Ae (K := K) (Aj (i := 0) AZ.nd rfl (Or.inl rfl) (pv 1))
  (Ae (K := K) (Jh (i := 1) rfl AZ.nd rfl rfl (N := ["top", "factor"]) (nt := 1) (js := [5]) (AY.look (NX := ["great", "small", "lead", "held", "drop", "factor", "rest"]) (sc := Af (top 36)) rfl rfl (by decide +kernel)) (piL K (pv 6)) (fun u1 u2 u3 u4 u5 => (AE (i := 0) (show List.Nodup (["top", "factor"] : List Str) from by decide +kernel) rfl (Or.inl rfl))) (AG (by decide)) (fun u1 u2 u3 u4 u5 => Bx) (fun u1 u2 u3 u4 u5 => (Ah (Bv hr hT) (pv 0) (pv 1))) rfl)
  (Ae (K := K) (Aj (i := 2) AZ.nd rfl (Or.inl rfl) (Ak (ixL K) (pv 0) (CM BX Ab) (fun u v => rfl)))
  (Ai (AX (K := K) (Av CN (pv 4) Ab (Ay _)) (Ai (Aj (i := 3) AZ.nd rfl (Or.inl rfl) (Ah (Bv hr hT) (Am Pr hr rfl (Aa (pv 2) (Aa (pv 4) Ac))) (Am Pr hr rfl (Aa (pv 3) (Aa (Ah Bo (pv 4) Ab) Ac)))))) AO (by rfl) (by rfl))) (by rfl)) (by rfl)) (by rfl)) (by rfl)) (by rfl)) (by rfl)))
  (Ai (Aw (pv 0))) (by rfl)) (by rfl)) (by rfl)), ?_⟩
 obtain ⟨f, g, fs, gs, W, X, rfl, hf, hg, h1, hle, h8, t1, t2, hbf, hbg, hX, hX8, q⟩ := h
 have I0 := LRJ.first h1 hle h8 t1 t2 hbf hbg hX
 have hSb : ∀ k j, Bd X ((fun k j => Dt.sub (fs.length - 1) (gs.length - 1) k (tf fs) (tf gs) j) k j) := fun k j => MV h8 hle hbf hbg hX k j
 generalize (fun k j => Dt.sub (fs.length - 1) (gs.length - 1) k (tf fs) (tf gs) j) = S at I0 hSb
 refine HI (L6 H K S fs gs X fun H K S fs gs X σ H' => Ag H H' ∧ ∃ (f' g' : Addr) (fs' gs' : List Int) (lead held : Int) (z4 z5 z6 : Option V), σ = [some (.ref f'), some (.ref g'), some (.int lead), some (.int held), z4, z5, z6] ∧ SqL K H' f' (fs'.map V.int) ∧ H' g' = some (.lst (gs'.map V.int)) ∧ LRJ S fs gs fs' gs' lead held X ∧ fs'.length ≤ fs.length) (ml 1)
  ⟨Ag.refl _, f, g, fs, gs, 1, 1, none, none, none, rfl, hf, hg, I0, R8 _⟩ ?_
 rintro σ H' hR1
 refine Ck hR1 fun sm hz60 => ?_
 refine OM hz60 fun f' g' fs' gs' lead held z4 z5 z6 hz60' => ?_
 clear hz60
 refine HA hz60' fun hq59 hf' hg' I hl' => ?_
 clear hz60'
 obtain rfl := hq59
 try clear hR1
 have lf : (fs'.map V.int).length = fs'.length := Rx _
 have lg : (gs'.map V.int).length = gs'.length := Rx _
 refine ⟨_, rfl, g', _, rfl, .inl (SqL.of hg'), _, _, rfl, rfl, _, rfl, ?_⟩
 by_cases h0 : gs' = []
 ·refine AV (by rw [decide_eq_false (show ¬ ((0 : Int) < ((gs'.map V.int).length : Int)) by rw [h0]; decide)] <;> rfl) ?_
  have c := I.com
  rw [h0] at c
  exact ⟨_, rfl, q f' H' fs' sm hf' I.lr.fp hl' I.t1 c I.bf⟩
 have hg1 : 1 ≤ gs'.length := S8.mpr h0
 refine Bs (by rw [decide_eq_true (show (0 : Int) < ((gs'.map V.int).length : Int) by rw [lg]; lia)] <;> rfl) (HH ?_)
 have hle' := I.le
 have l8 := I.l10
 have hfp := I.lr.fp
 have ed : ((fs'.map V.int).length : Int) - ((gs'.map V.int).length : Int) = ((fs'.length - gs'.length : Nat) : Int) := by rw [lf, lg]; lia
 refine ⟨_, rfl, f', _, rfl, .inl hf', _, rfl, g', _, rfl, .inl (SqL.of hg'), _, _, rfl, rfl, ?_⟩
 rw [ed]
 have c4 : X + fs'.length * (X + 1) + X ≤ 100000000 := by
  have := SJ (X + 1) l8
  lia
 have c2 : X * (fs'.length - gs'.length) + X ≤ 100000000 := by
  have := TR X (show fs'.length - gs'.length ≤ 10 by lia)
  lia
 have bh := I.bh
 have bp := Bd.pow bh (fs'.length - gs'.length)
 have hgl : gs'[gs'.length - 1]? = some (gs'[gs'.length - 1]'(by lia)) := Sv _
 generalize gs'[gs'.length - 1]'(by lia) = gl at hgl
 have hlv : (gs'.map V.int)[(gs'.map V.int).length - 1]? = some (V.int gl) := by rw [lg, Ru, hgl]; rfl
 have bgl : Bd X gl := I.bg _ (Rv hgl)
 refine ⟨_, rfl, _, rfl, _, rfl, held, fs'.length - gs'.length, X, rfl, by lia, bh, c2, _, _, rfl, rfl, Bj.bd I.bl bp (by lia), ?_⟩
 refine ⟨_, rfl, _, rfl, f', g', fs', gs', gl, X, X, rfl, hf', SqL.of hg', hgl, by lia, by lia, I.bf, I.bg, c4, by lia, fun pt pa pb H3 os rs s3 ept epa epb dv => ?_⟩
 refine ⟨pt, _, _, _, rfl, rfl, SqT.of ept, rfl, pb, rs, rfl, SqL.of epb, fun rp H4 w hw hz hlast s4 e4 => ?_⟩
 have sm4 := s3.trans s4
 have ho := dv.ol
 have hr : rs.length = gs'.length - 1 := by have := dv.rl; lia
 have key := fun held' => LRJ.next (held' := held') I hSb hgl ho hr dv.ev hw hz hlast
 generalize hF : lead * held ^ (fs'.length - gs'.length) = φ at key ⊢
 have hφ : φ ≠ 0 := by
  rcases Nat.eq_or_lt_of_le hle' with z | z
  ·exact (key held (.inr ⟨z.symm, rfl⟩)).1
  ·exact (key _ (.inl ⟨z, rfl⟩)).1
 refine ⟨_, rfl, ?_⟩
 refine Cd ⟨_, rfl, rp, rfl, ⟨_, SqL.of e4⟩, ?_⟩
 have lt : ((rs.take w).map V.int).length = w := by rw [Rx, Rp]; lia
 refine DN (xs := (rs.take w).map V.int) (L3 H4 rs w fun H4 rs w i zs H5 => H5 = H4 ∧ zs = (((rs.take w).take i).map fun t => Ts t φ).map V.int) ⟨rfl, rfl⟩ (fun i zs H5 hi p => ⟨by rw [p.1]; exact SqL.of e4, by rw [p.2, Rx, Rx, Rp, Rp]; lia⟩) (by rw [lt]; exact QV (AW (by lia))) ?_ ?_
 ·rintro i v zs H5 hv ⟨rfl, rfl⟩
  rw [Ru] at hv
  cases et : (rs.take w)[i]? with
  | none => rw [et] at hv; cases hv
  | some t =>
    rw [et] at hv
    cases hv
    refine ⟨_, rfl, _, rfl, _, _, rfl, rfl, hφ, rfl, ?_⟩
    rw [Sd, et, Se, Se]
    rfl
 rintro zs H5 ⟨rfl, rfl⟩ nl hnl
 rw [show (rs.take w).take ((rs.take w).map V.int).length = rs.take w by rw [lt, T7 (by rw [Rp]; lia)]]
 generalize hh : ((rs.take w).map fun t => Ts t φ) = hs at key ⊢
 have hhl : hs.length = w := by rw [← hh, Rx, Rp]; lia
 have s5 : Ag H5 (upd H5 nl (.lst (hs.map V.int))) := Ag.new hnl
 have e5 : (upd H5 nl (.lst (hs.map V.int))) nl = some (.lst (hs.map V.int)) := Ad
 have sm5 := sm4.trans s5
 generalize upd H5 nl (.lst (hs.map V.int)) = H6 at s5 e5 sm5 ⊢
 have hg6 := sm5 _ _ hg'
 have less : hs.length < gs'.length := by lia
 refine ⟨_, rfl, _, rfl, g', _, _, _, rfl, rfl, SqL.of hg6, CA hlv, ?_⟩
 refine ⟨_, rfl, _, _, rfl, rfl, _, rfl, ?_⟩
 have c6 : X * (fs'.length - gs'.length - 1) + X ≤ 100000000 := by
  have := TR X (show fs'.length - gs'.length - 1 ≤ 10 by lia)
  lia
 by_cases hd : gs'.length < fs'.length
 ·refine Bs (by rw [decide_eq_true (show (0 : Int) < ((fs'.length - gs'.length : Nat) : Int) by lia)] <;> rfl) ?_
  have h00 := (I.lr.srs hg1).h0
  refine ⟨_, rfl, _, rfl, gl, fs'.length - gs'.length, X, rfl, by lia, bgl, c2, _, rfl, _, rfl, _, _, rfl, rfl, held, fs'.length - gs'.length - 1, X, by rw [show ((fs'.length - gs'.length : Nat) : Int) - 1 = ((fs'.length - gs'.length - 1 : Nat) : Int) by lia]; rfl, by lia, bh, c6, _, _, rfl, rfl, Td h00, ?_⟩
  obtain ⟨_, J, _⟩ := (key _ (.inl ⟨hd, rfl⟩))
  refine ⟨⟨sm.trans sm5, g', nl, gs', hs, gl, _, _, _, _, rfl, SqL.of hg6, e5, J, by lia⟩, ?_⟩
  show (match H6 nl with | some (.lst xs) => xs.length | _ => 0) < (match H' g' with | some (.lst xs) => xs.length | _ => 0)
  rw [e5, hg']
  show (hs.map V.int).length < (gs'.map V.int).length
  rw [Rx, Rx]; exact less
 ·refine AV (by rw [decide_eq_false (show ¬ (0 : Int) < ((fs'.length - gs'.length : Nat) : Int) by lia)] <;> rfl) ?_
  obtain ⟨_, J, _⟩ := (key held (.inr ⟨by lia, rfl⟩))
  refine ⟨⟨sm.trans sm5, g', nl, gs', hs, gl, _, _, _, _, rfl, SqL.of hg6, e5, J, by lia⟩, ?_⟩
  show (match H6 nl with | some (.lst xs) => xs.length | _ => 0) < (match H' g' with | some (.lst xs) => xs.length | _ => 0)
  rw [e5, hg']
  show (hs.map V.int).length < (gs'.map V.int).length
  rw [Rx, Rx]; exact less
theorem BE : As ["one", "other", "first", "second", "tops"] ["one", "other"] (Af (top 37)) := ⟨rfl, rfl, rfl, by decide +kernel, rfl, by decide +kernel, by decide +kernel⟩
theorem Fj {f : Addr} {fd : FuncData} (F : Fun K "common_part" "common_part" (top 37) f fd) (P5 : Fd P w K mg base 33 "tops_over" ["numbers", "bottom"] (Ci K)) (Pj : Fd P w K mg base 35 "curve_over" ["tops", "bottom"] (Ca K)) (OZ : Fd P w K mg base 34 "bottom_of" ["numbers"] (D8 K)) (Qa : Fd P w K mg base 34 "last_rest" ["great", "small"] (GF K)) (OW : mg "len" = none) (hT : P.given.tree = none) :
 AI P w K mg base CX0 36 f fd ["one", "other"] (GI K) := by
 refine F.ok BE (fun vs H Q E h => ?_) (fun cdv A outer s H vs Q E hr h => ?_)
 ·obtain ⟨_, _, _, _, _, _, rfl, _⟩ := h; rfl
 refine ⟨_, (Ae (K := K) (AX (K := K) (PW.pt (GQ (Av Cz (Al (BC K) rfl OW AJ (Aa (pv 0) Ac)) Ab (Ay _)) (EH (Av Cz (Al (BC K) rfl OW AJ (Aa (pv 1) Ac)) Ab (Ay _))))) (Ai CL) AO (by rfl) (by rfl))
  (Ae (K := K) (Aj (i := 2) BE.nd rfl (Or.inl rfl) (Am P5 hr rfl (Aa (pv 0) (Aa (Am OZ hr rfl (Aa (pv 0) Ac)) Ac))))
  (Ae (K := K) (Aj (i := 3) BE.nd rfl (Or.inl rfl) (Am P5 hr rfl (Aa (pv 1) (Aa (Am OZ hr rfl (Aa (pv 1) Ac)) Ac))))
  (Ae (K := K) (AX (K := K) (Av Ff (Al (BC K) rfl OW AJ (Aa (pv 2) Ac)) (Al (BC K) rfl OW AJ (Aa (pv 3) Ac)) (Ay _)) (Ai (Aj (i := 4) BE.nd rfl (Or.inl rfl) (Am Qa hr rfl (Aa (pv 3) (Aa (pv 2) Ac))))) (Ai (Aj (i := 4) BE.nd rfl (Or.inl rfl) (Am Qa hr rfl (Aa (pv 2) (Aa (pv 3) Ac))))) (by rfl) (by rfl))
  (Ai (Aw (Am Pj hr rfl (Aa (pv 4) (Aa (Ak (ixL K) (pv 4) (CM BX Ab) (fun u v => rfl)) Ac))))) (by rfl)) (by rfl)) (by rfl)) (by rfl)), ?_⟩
 obtain ⟨r, u, qs, ps, n, N, rfl, ⟨xs, hS, hn⟩, ⟨ys, hT', hm⟩, gq, gp, hne, hB, hC, hn1, hN, hq8, hp8, q⟩ := h
 have nN : n * N ≤ 40000 * 10 := Tr hn1 hN
 have hl := hn.length
 have hly := hm.length
 have nq : n * qs.length ≤ n * N := TR _ hq8
 have np : n * ps.length ≤ n * N := TR _ hp8
 refine EW (s := Ku _ _ _) (L3 H r u fun H r u σ' H' => H' = H ∧ σ' = [some (.ref r), some (.ref u), none, none, none]) (fun nx hnx => ?_) ?_
 ·refine ⟨_, rfl, r, xs, rfl, .inr hS, rfl, _, rfl, ?_⟩
  by_cases hq0 : qs = []
  ·refine Bs (by rw [decide_eq_true (show V.int (xs.length : Int) = V.int 0 by rw [hl, hq0]; rfl)] <;> rfl) ?_
   refine ⟨_, rfl, u, ys, rfl, .inr hT', rfl, _, rfl, ?_⟩
   have hp0 : ps ≠ [] := by
    rcases hne with z | z
    ·exact absurd hq0 z
    ·exact z
   have hp1 := S8.mpr hp0
   exact AV (by rw [decide_eq_false (show ¬ V.int (ys.length : Int) = V.int 0 from fun z => by have := V.int.inj z; lia)] <;> rfl) (hnx _ _ ⟨rfl, rfl⟩)
  ·have hq1 := S8.mpr hq0
   exact AV (by rw [decide_eq_false (show ¬ V.int (xs.length : Int) = V.int 0 from fun z => by have := V.int.inj z; lia)] <;> rfl) (Dc (hnx _ _ ⟨rfl, rfl⟩))
 rintro σ' H' ⟨rfl, rfl⟩
 refine ⟨_, rfl, _, rfl, false, r, xs, qs, n, rfl, hS, hn, (fun c hc => (hB c hc).2), by rw [SU]; lia, fun B hB0 hdB hbB => ?_⟩
 refine ⟨false, r, xs, qs, B, n * qs.length + 1, n, rfl, hS, hn, hbB, (fun c hc => (hB c hc).1), by lia, by lia, fun fa hfa => ?_⟩
 have s1 : Ag H' (upd H' fa (.lst ((qs.map (Ao B)).map V.int))) := Ag.new hfa
 have efa : (upd H' fa (.lst ((qs.map (Ao B)).map V.int))) fa = some (.lst ((qs.map (Ao B)).map V.int)) := Ad
 generalize upd H' fa (.lst ((qs.map (Ao B)).map V.int)) = H1 at s1 efa ⊢
 refine ⟨_, rfl, _, rfl, false, u, ys, ps, n, rfl, hT'.same s1, AS.same hm s1, (fun c hc => (hC c hc).2), by rw [SU]; lia, fun U hU0 hdU hbU => ?_⟩
 refine ⟨false, u, ys, ps, U, n * ps.length + 1, n, rfl, hT'.same s1, AS.same hm s1, hbU, (fun c hc => (hC c hc).1), by lia, by lia, fun fb hfb => ?_⟩
 have s2 := s1.trans (Ag.new (o := .lst ((ps.map (Ao U)).map V.int)) hfb)
 have efa2 := (Ag.new (o := .lst ((ps.map (Ao U)).map V.int)) hfb) _ _ efa
 have efb : (upd H1 fb (.lst ((ps.map (Ao U)).map V.int))) fb = some (.lst ((ps.map (Ao U)).map V.int)) := Ad
 generalize upd H1 fb (.lst ((ps.map (Ao U)).map V.int)) = H2 at s2 efa2 efb ⊢
 have T1 : Ec (qs.map (Ao B)) := fun t ht => by
  by_cases z : qs = []
  ·rw [z] at ht; cases ht
  ·obtain ⟨t', e, h⟩ := (Dr gq z hB0 hdB)
   rw [ht] at e; cases e; exact h
 have T2 : Ec (ps.map (Ao U)) := fun t ht => by
  by_cases z : ps = []
  ·rw [z] at ht; cases ht
  ·obtain ⟨t', e, h⟩ := (Dr gp z hU0 hdU)
   rw [ht] at e; cases e; exact h
 have bF : ∀ t ∈ qs.map (Ao B), Bd (n * N + n + 1) t := fun t ht => by
  obtain ⟨c, hc, rfl⟩ := (Tt.mp ht)
  exact ((hB c hc).1.mul (hbB.fdiv (y := c.den))).mono (by lia)
 have bG : ∀ t ∈ ps.map (Ao U), Bd (n * N + n + 1) t := fun t ht => by
  obtain ⟨c, hc, rfl⟩ := (Tt.mp ht)
  exact ((hC c hc).1.mul (hbU.fdiv (y := c.den))).mono (by lia)
 have c0 : Com qs ps (cst (qs.map (Ao B))) (cst (ps.map (Ao U))) := Com.scale (Nm.cast_ne (show B ≠ 0 by lia)) (Nm.cast_ne (show U ≠ 0 by lia)) (fun x => Ds hdB x) (fun x => Ds hdU x)
 have lF : (qs.map (Ao B)).length = qs.length := Rx _
 have lG : (ps.map (Ao U)).length = ps.length := Rx _
 generalize qs.map (Ao B) = F at *
 generalize ps.map (Ao U) = G at *
 have lFv : (F.map V.int).length = F.length := Rx _
 have lGv : (G.map V.int).length = G.length := Rx _
 try dsimp only
 refine JT (L10 H2 r u fa fb K N qs ps n fun H2 r u fa fb K N qs ps n σ' H3 => Ag H2 H3 ∧ ∃ (tp : Addr) (hs : List Int), σ' = [some (.ref r), some (.ref u), some (.ref fa), some (.ref fb), some (.ref tp)] ∧ SqL K H3 tp (hs.map V.int) ∧ 1 ≤ hs.length ∧ hs.length ≤ N ∧ Ec hs ∧ Com qs ps (cst hs) [] ∧ ∀ t ∈ hs, Bd (18 * (n * N + n + 6) + 1) t) (fun nx hnx => ?_) ?_
 ·refine ⟨_, rfl, fa, _, rfl, .inl (SqL.of efa2), _, rfl, fb, _, rfl, .inl (SqL.of efb), _, _, rfl, rfl, _, rfl, ?_⟩
  by_cases hlt : F.length < G.length
  ·refine Bs (by rw [decide_eq_true (show ((F.map V.int).length : Int) < ((G.map V.int).length : Int) by lia)] <;> rfl) ?_
   refine ⟨_, rfl, _, rfl, fb, fa, G, F, n * N + n + 1, 18 * (n * N + n + 6) + 1, rfl, SqL.of efb, efa2, by lia, by lia, by lia, T2, T1, bG, bF, by lia, by lia, fun p H3 hs s3 hp h1 h8 ht hc hd => ?_⟩
   exact hnx _ _ ⟨s3, p, hs, rfl, hp, h1, by lia, ht, (c0.trans (Com.turn _ _)).trans hc, hd⟩
  ·refine AV (by rw [decide_eq_false (show ¬ ((F.map V.int).length : Int) < ((G.map V.int).length : Int) by lia)] <;> rfl) ?_
   have hF1 : 1 ≤ F.length := by
    rcases hne with z | z
    ·have := S8.mpr z; lia
    ·have := S8.mpr z; lia
   refine ⟨_, rfl, _, rfl, fa, fb, F, G, n * N + n + 1, 18 * (n * N + n + 6) + 1, rfl, SqL.of efa2, efb, hF1, by lia, by lia, T1, T2, bF, bG, by lia, by lia, fun p H3 hs s3 hp h1 h8 ht hc hd => ?_⟩
   exact hnx _ _ ⟨s3, p, hs, rfl, hp, h1, by lia, ht, c0.trans hc, hd⟩
 rintro σ' H3 hR1
 refine Ck hR1 fun s3 hz62 => ?_
 refine E8 hz62 fun tp hs hz62' => ?_
 clear hz62
 refine My hz62' fun hq61 hp h1 h8 ht hc hD => ?_
 clear hz62'
 obtain rfl := hq61
 try clear hR1
 have hla : hs[hs.length - 1]? = some (hs[hs.length - 1]'(by lia)) := Sv _
 generalize hs[hs.length - 1]'(by lia) = la at hla
 have la0 := ht la hla
 have hlv : (hs.map V.int)[(hs.map V.int).length - 1]? = some (V.int la) := by rw [Rx, Ru, hla]; rfl
 refine ⟨_, rfl, _, rfl, _, rfl, tp, _, _, _, rfl, rfl, hp, CA hlv, tp, hs, la, rfl, hp, la0, by lia, fun p H4 s4 cv => ?_⟩
 have e1 : RS la la = 1 := by
  rw [RW, TL]
  exact Tj _ (Nm.cast_ne la0)
 have mono : (hs.map fun t => RS t la)[(hs.map fun t => RS t la).length - 1]? = some 1 := by
  rw [Rx, Ru, hla]
  show some (RS la la) = some 1
  rw [e1]
 have good : AN (hs.map fun t => RS t la) := .inr ⟨1, mono, by decide⟩
 rw [ES good] at cv
 refine q p H4 _ ((s2.trans s3).trans s4) cv (Ed.of (c := (la : Rat)) (F := cst hs) (Nm.cast_ne la0) hc good mono fun x => Hm hs la la0 x) (by rw [Rx]; exact h8) fun c hcm => ?_
 obtain ⟨t, htm, rfl⟩ := (Tt.mp hcm)
 exact RB.div (m := 0) (hD t htm) (hD la (Rv hla)) la0
theorem KA : As ["a", "b"] ["a", "b"] (Af (top 17)) := ⟨rfl, rfl, rfl, by decide +kernel, rfl, by decide +kernel, by decide +kernel⟩
theorem KR {f : Addr} {fd : FuncData} (F : Fun K "times" "times" (top 17) f fd) (P6 : Fd P w K mg base 34 "number_of" ["top", "bottom"] (Cm)) (hT : P.given.tree = none) :
 AI P w K mg base CX0 35 f fd ["a", "b"] (BO K (· * ·)) := by
 refine F.ok KA (fun vs H Q E h => ?_) (fun cdv A outer s H vs Q E hr h => ?_)
 ·obtain ⟨_, _, _, _, _, _, rfl, _⟩ := h; rfl
 refine ⟨_, (Ai (Aw (Am P6 hr rfl (Aa (Ah Ap (Ak (ixT K) (pv 0) Ab (fun u v => rfl)) (Ak (ixT K) (pv 1) Ab (fun u v => rfl))) (Aa (Ah Ap (Ak (ixT K) (pv 0) Ab (fun u v => rfl)) (Ak (ixT K) (pv 1) Ab (fun u v => rfl))) Ac))))), ?_⟩
 obtain ⟨x, y, p, q, m, n, rfl, ⟨r, rfl, hr⟩, ⟨u, rfl, hu⟩, hp, hq, hmn, k⟩ := h
 refine ⟨_, rfl, r, _, _, _, rfl, rfl, hr, rfl, _, rfl, u, _, _, _, rfl, rfl, hu, rfl, _, _, rfl, rfl, Bj.bd hp.1 hq.1, ?_⟩
 refine ⟨_, rfl, r, _, _, _, rfl, rfl, hr, rfl, _, rfl, u, _, _, _, rfl, rfl, hu, rfl, _, _, rfl, rfl, Bj.bd hp.2 hq.2, ?_⟩
 refine ⟨_, _, rfl, RY (Nm.den_ne p) (Nm.den_ne q), fun z hz => ?_⟩
 have e := k z hz
 try dsimp only at e
 rw [← Nm.times_eq] at e
 exact e
theorem HM : As ["curve"] ["curve"] (Af (top 29)) := ⟨rfl, rfl, rfl, by decide +kernel, rfl, by decide +kernel, by decide +kernel⟩
theorem HU {f : Addr} {fd : FuncData} (F : Fun K "slope_of" "slope_of" (top 29) f fd) (F_times : Fd P w K mg base 35 "times" ["a", "b"] (BO K (· * ·))) (Pb : mg "tuple" = none) (OX : mg "range" = none) (OW : mg "len" = none) (hT : P.given.tree = none) :
 AI P w K mg base CX0 36 f fd ["curve"] (EE K) := by
 refine F.ok HM (fun vs H Q E h => ?_) (fun cdv A outer s H vs Q E hr h => ?_)
 ·obtain ⟨_, _, _, rfl, _⟩ := h; rfl
 refine ⟨_, (Ai (Aw (Ct (Iz K) rfl Pb Fz (Aa (CD rfl (N := ["k", "curve"]) (nt := 1) (js := [0]) (AY.look (NX := ["curve"]) (sc := Af (top 29)) rfl rfl (by decide +kernel)) (Ep rfl OX (Aa Ab (Aa (Al (BC K) rfl OW AJ (Aa (pv 0) Ac)) Ac))) (fun u1 u2 u3 u4 u5 => (AE (i := 0) (show List.Nodup (["k", "curve"] : List Str) from by decide +kernel) rfl (Or.inl rfl))) (AG (by decide)) (fun u1 u2 u3 u4 u5 => Bx) (fun u1 u2 u3 u4 u5 => (Am F_times hr rfl (Aa (Ak (ixT K) (pv 1) (pv 0) (fun u v => rfl)) (Aa (Ax (Aa (pv 0) (Aa Ab Ac))) Ac))))) Ac)))), ?_⟩
 obtain ⟨r, qs, n, rfl, ⟨xs, hS, hn⟩, hz, hB, hn7, q⟩ := h
 have hl := hn.length
 have bk : ∀ k : Nat, k ≤ 1000 → RB 11 ((k : Nat) : Rat) := fun k hk => ⟨by show Bd 11 (((k : Nat) : Rat)).num; rw [TN]; unfold Bd; lia, by rw [TQ]; unfold Bd; decide⟩
 refine Cd ⟨_, rfl, r, xs, rfl, .inr hS, 1, (xs.length : Int), rfl, ⟨by decide, by decide, by lia, by lia⟩, ?_⟩
 have en : ((xs.length : Int) - 1).toNat = qs.length - 1 := by rw [hl]; lia
 rw [en]
 refine Hj (L3 H K qs fun H K qs i zs H' => Ag H H' ∧ zs.length = i ∧ AS K H' zs ((QP i).map fun j => qs.getD (j + 1) 0 * ((j + 1 : Nat) : Rat))) ⟨Ag.refl _, rfl, .nil⟩ (fun i zs H' _ p => p.2.1) (QU (Nat.sub_le _ _) (QV (AW hz))) ?_ ?_
 ·rintro i zs H' hi ⟨sm, hzl, hnn⟩
  have hi1 : i + 1 < qs.length := by lia
  have hq : qs[i + 1]? = some qs[i + 1] := Sv hi1
  obtain ⟨x, hx, hxn⟩ := (Paired.get' hn hq)
  have hat : atI xs (1 + (i : Int)) = some x := by
   rw [show 1 + (i : Int) = ((i + 1 : Nat) : Int) by lia]
   exact AA hx
  refine ⟨_, rfl, _, rfl, r, xs, _, x, rfl, rfl, SqT.same hS sm, hat, _, rfl, (by decide : 2 ≤ sizeLine), fun t ht => ?_⟩
  have ht1 : Au K (upd H' t (.tup [.int (1 + (i : Int)), .int 1])) (.ref t) (((i + 1 : Nat)) : Rat) := Au.of (by
   rw [Ad]
   unfold nT
   rw [TN, TQ, show 1 + (i : Int) = ((i + 1 : Nat) : Int) by lia]
   rfl)
  refine ⟨_, _, _, _, n, 11, rfl, (hxn.same sm).same (Ag.new ht), ht1, hB _ (Sw hi1), bk (i + 1) (by lia), by lia, fun p hp => ⟨(sm.trans (Ag.new ht)).trans (Ag.new hp), by simp [hzl], ?_⟩⟩
  rw [U0, Se]
  refine Paired.snoc (AS.same (AS.same hnn (Ag.new ht)) (Ag.new hp)) ?_
  have e : qs.getD (i + 1) 0 = qs[i + 1] := by rw [Sl, hq]; rfl
  show Au K _ _ (qs.getD (i + 1) 0 * ((i + 1 : Nat) : Rat))
  rw [e]
  exact Au.of Ad
 ·rintro zs H' ⟨sm, hzl, hnn⟩ p hp
  exact ⟨p, zs, rfl, .inl ⟨SqL.of Ad, fun u hu => q u _ ((sm.trans (Ag.new hp)).trans (Ag.new hu)) ⟨zs, SqT.of Ad, AS.same (AS.same hnn (Ag.new hp)) (Ag.new hu)⟩⟩⟩
theorem DT : As ["curve"] ["curve"] (Af (top 45)) := ⟨rfl, rfl, rfl, by decide +kernel, rfl, by decide +kernel, by decide +kernel⟩
theorem E3 {f : Addr} {fd : FuncData} (F : Fun K "lone_part" "lone_part" (top 45) f fd) (Qb : Fd P w K mg base 36 "divided" ["one", "other"] (EG K)) (Qc : Fd P w K mg base 36 "common_part" ["one", "other"] (GI K)) (Qd : Fd P w K mg base 36 "slope_of" ["curve"] (EE K)) (OW : mg "len" = none) (hT : P.given.tree = none) :
 AI P w K mg base CX0 37 f fd ["curve"] (Ei K) := by
 refine F.ok DT (fun vs H Q E h => ?_) (fun cdv A outer s H vs Q E hr h => ?_)
 ·obtain ⟨_, _, _, rfl, _⟩ := h; rfl
 refine ⟨_, (Ae (K := K) (AX (K := K) (Av Cz (Al (BC K) rfl OW AJ (Aa (pv 0) Ac)) Ab (Ay _)) (Ai CL) AO (by rfl) (by rfl))
  (Ai (Aw (Ak (ixT K) (Am Qb hr rfl (Aa (pv 0) (Aa (Am Qc hr rfl (Aa (pv 0) (Aa (Am Qd hr rfl (Aa (pv 0) Ac)) Ac))) Ac))) Ab (fun u v => rfl)))) (by rfl)), ?_⟩
 obtain ⟨r, qs, n, rfl, hc, gq, hne, hB, hn1, hn4, h6, q⟩ := h
 obtain ⟨xs, hS, hn⟩ := (id hc)
 have hl := hn.length
 have hq1 := S8.mpr hne
 refine E8 (K2 hn4) fun n' C hz63' => ?_
 refine HA hz63' fun hn' hn3 hC8 hC room => ?_
 clear hz63'
 refine ⟨_, rfl, r, xs, rfl, .inr hS, rfl, _, rfl, AV (decide_eq_false fun z => by have := V.int.inj z; lia) ?_⟩
 refine ⟨_, rfl, _, rfl, _, rfl, r, qs, n, rfl, hc, by lia, hB, by lia, fun p1 H1 s1 c1 => ?_⟩
 refine ⟨r, p1, qs, Cu qs, n', 6, rfl, hc.same s1, c1, gq, IW gq, .inl hne, (fun c hm => (hB c hm).mono (by lia)), (fun c hm => (JS (by lia) hn1 hB c hm).mono hn'), by lia, by decide, h6, by rw [GJ]; lia, fun p2 H2 g s2 c2 P gl gb => ?_⟩
 have g1 := S8.mpr P.ne
 have rm := room qs.length g.length g1 gl h6
 refine ⟨r, p2, qs, g, n, 18 * (n' * 6 + n' + 6) + 1, C, rfl, hc.same (s1.trans s2), c2, gq, P.ne, P.good, hB, gb, by lia, by lia, rm, by lia, by lia, fun f fa fb H5 os rs s5 ef ha hb go gr lo lr hev bo => ?_⟩
 have er : rs = [] := AR.rest P.into.1 P.good P.ne go gr lr hev
 refine ⟨f, _, _, _, rfl, rfl, SqT.of ef, rfl, q fa H5 g os ((s1.trans s2).trans s5) ha go P (fun x => ?_) (by lia) fun h8 c hm => (bo c hm).mono (hC8 h8)⟩
 have := hev x
 rw [er] at this
 rw [this]
 exact Rat.add_zero _
theorem FP {f : Addr} {fd : FuncData} (F : Fun K "lone_part" "lone_part" (top 45) f fd) {a_NoCurve : Addr} (k_NoCurve : Ir K "NoCurve" a_NoCurve) (Qb : Fd P w K mg base 36 "divided" ["one", "other"] (EG K)) (Qc : Fd P w K mg base 36 "common_part" ["one", "other"] (GI K)) (Qd : Fd P w K mg base 36 "slope_of" ["curve"] (EE K)) (OW : mg "len" = none) (hT : P.given.tree = none) :
 AI P w K mg base (CX2 P w) 37 f fd ["curve"] (Du K a_NoCurve) := by
 refine F.okY DT (fun vs H Q E h => ?_) (fun cdv A outer s H vs Q E hr h => ?_)
 ·obtain ⟨_, rfl, _⟩ := h; rfl
 refine ⟨_, (Dj (AX (K := K) (Av Cz (Al (BC K) rfl OW AJ (Aa (pv 0) Ac)) Ab (Ay _)) (Ai (EY k_NoCurve rfl IP rfl (Aa Bk Ac))) AO (by rfl) (by rfl))
  Dw), ?_⟩
 obtain ⟨r, rfl, hS, q⟩ := h
 have P1 : 1 ≤ sizeLine := by decide
 exact ⟨_, rfl, r, [], rfl, .inr hS, rfl, _, rfl, Bs (by first | rfl | decide) ⟨P1, q⟩⟩
theorem D9 : As ["tops", "kept"] ["tops"] (Af (top 46)) := ⟨rfl, rfl, rfl, by decide +kernel, rfl, by decide +kernel, by decide +kernel⟩
theorem EC {f : Addr} {fd : FuncData} (F : Fun K "sign_changes" "sign_changes" (top 46) f fd) (OW : mg "len" = none) (OX : mg "range" = none) (hT : P.given.tree = none) :
 AI P w K mg base CX0 33 f fd ["tops"] (M0 K) := by
 refine F.ok D9 (fun vs H Q E h => ?_) (fun cdv A outer s H vs Q E hr h => ?_)
 ·obtain ⟨_, _, rfl, _⟩ := h; rfl
 refine ⟨_, (Ae (K := K) (Aj (i := 1) D9.nd rfl (Or.inr rfl) (CD rfl (N := ["top"]) (nt := 1) (js := []) (AY.look (NX := ["tops", "kept"]) (sc := Af (top 46)) rfl rfl (by decide +kernel)) (piL K (pv 0)) (fun u1 u2 u3 u4 u5 => (AE (i := 0) (show List.Nodup (["top"] : List Str) from by decide +kernel) rfl (Or.inl rfl))) (AG (by decide)) (fun u1 u2 u3 u4 u5 => EI (Av DI (pv 0) Ab (Ay _))) (fun u1 u2 u3 u4 u5 => (pv 0))))
  (Ai (Aw (Al (BC K) rfl OW AJ (Aa (CD rfl (N := ["k", "kept"]) (nt := 1) (js := [1]) (AY.look (NX := ["tops", "kept"]) (sc := Af (top 46)) rfl rfl (by decide +kernel)) (Ep rfl OX (Aa Ab (Aa (Al (BC K) rfl OW AJ (Aa (pv 1) Ac)) Ac))) (fun u1 u2 u3 u4 u5 => (AE (i := 0) (show List.Nodup (["k", "kept"] : List Str) from by decide +kernel) rfl (Or.inl rfl))) (AG (by decide)) (fun u1 u2 u3 u4 u5 => EI (Av DI (Dx CN (Ak (ixL K) (pv 1) (pv 0) (fun u v => rfl)) Ab (Ay _)) (Dx CN (Ak (ixL K) (pv 1) (Ah Bo (pv 0) Ab) (fun u v => rfl)) Ab (Ay _)) (Ay _))) (fun u1 u2 u3 u4 u5 => (pv 0))) Ac)))) (by rfl)), ?_⟩
 obtain ⟨l, ts, rfl, hS, h1000, q⟩ := h
 refine Cd ⟨_, rfl, l, rfl, ⟨_, hS⟩, ?_⟩
 refine Js (xs := ts.map V.int) (L2 H ts fun H ts i zs H' => H' = H ∧ zs = ((ts.take i).filter (fun t => decide (t ≠ 0))).map V.int) ⟨rfl, rfl⟩ (fun i zs H' hi h => ⟨by rw [h.1]; exact hS, by rw [h.2, Rx]; have := TH (fun t => decide (t ≠ 0)) (ts.take i); rw [Rp] at this; lia⟩) (QV (AW (by rw [Rx]; lia))) ?_ ?_
 ·rintro i x zs H' hx ⟨rfl, rfl⟩
  rw [Ru] at hx
  cases ht : ts[i]? with
  | none => rw [ht] at hx; cases hx
  | some t =>
    rw [ht] at hx
    cases hx
    have e : ts.take (i + 1) = ts.take i ++ [t] := by rw [Sd, ht]; rfl
    refine ⟨_, rfl, rfl, _, rfl, ?_⟩
    by_cases hz : t = 0
    ·exact AV (by rw [decide_eq_true (show V.int t = V.int 0 by rw [hz])] <;> rfl) ⟨rfl, by rw [e, TF, U1 (by simp [hz]), List.filter_nil, Ri]⟩
    ·exact Bs (by rw [decide_eq_false (show ¬ V.int t = V.int 0 from fun z => hz (V.int.inj z))] <;> rfl) ⟨_, rfl, rfl, by rw [e, TF, U2 (by simp [hz]), List.filter_nil, Se]; rfl⟩
 rintro zs H' ⟨rfl, rfl⟩ p hp
 rw [Rx, Sf]
 have hq := LL ts
 have hkl : (ts.filter (fun t => decide (t ≠ 0))).length ≤ ts.length := TH _ _
 generalize ts.filter (fun t => decide (t ≠ 0)) = ks at hq hkl ⊢
 have sp := Ag.new (o := .lst (ks.map V.int)) hp
 have ep : SqL K (upd H' p (.lst (ks.map V.int))) p (ks.map V.int) := SqL.of Ad
 generalize upd H' p (.lst (ks.map V.int)) = H1 at sp ep ⊢
 have hml : (ks.map V.int).length = ks.length := Rx ..
 refine Cd ⟨_, rfl, p, _, rfl, .inl ep, 1, ((ks.map V.int).length : Int), rfl, ⟨by decide, by decide, by lia, by lia⟩, ?_⟩
 have en : (((ks.map V.int).length : Int) - 1).toNat = ks.length - 1 := by lia
 rw [en]
 refine Ml (fun i zs H' => H' = H1 ∧ zs.length = adj (ks.take (i + 1)) ∧ zs.length ≤ i) ⟨rfl, by cases ks <;> rfl, R8 _⟩ (fun i zs H' _ h => h.2.2) (QV (AW (by lia))) ?_ ?_
 ·rintro i zs H2 hi ⟨rfl, hz, hzi⟩
  have g1 : (ks.map V.int)[i + 1]? = some (.int (ks.getD (i + 1) 0)) := by rw [Ru, Bf (by lia)]; rfl
  have g0 : (ks.map V.int)[i]? = some (.int (ks.getD i 0)) := by rw [Ru, Bf (by lia)]; rfl
  have ha := LK (l := ks) (i := i) (by lia)
  refine ⟨_, rfl, _, rfl, p, _, _, _, rfl, rfl, ep, atV g1 (by lia), _, _, rfl, rfl, _, rfl, _, rfl, _, _, rfl, rfl, p, _, _, _, rfl, rfl, ep, atV g0 (by lia), _, _, rfl, rfl, rfl, _, rfl, ?_⟩
  have e : ∀ x y : Bool, (!decide (V.bl x = V.bl y)) = (x != y) := fun x y => by cases x <;> cases y <;> simp
  refine FX (fun hc => ?_) (fun hc => ?_)
  ·rw [e] at hc
   rw [hc, if_pos rfl] at ha
   exact ⟨_, rfl, rfl, by rw [Rw, ha, hz]; rfl, by rw [Rw]; show zs.length + 1 ≤ _; lia⟩
  ·rw [e] at hc
   rw [if_neg hc] at ha
   exact ⟨rfl, by rw [ha, hz]; rfl, by lia⟩
 rintro zs H2 ⟨rfl, hz, hzi⟩ r hr2
 refine ⟨r, zs, rfl, .inl (SqL.of Ad), ?_⟩
 rw [T7 (by lia)] at hz
 rw [hz, ← hq]
 exact q _ (sp.trans (Ag.new hr2))
theorem Bb : As ["tops", "row", "lower", "upper"] ["tops"] (Af (top 42)) := ⟨rfl, rfl, rfl, by decide +kernel, rfl, by decide +kernel, by decide +kernel⟩
theorem EB {f : Addr} {fd : FuncData} (F : Fun K "whole_halves" "whole_halves" (top 42) f fd) (Pn : mg "list" = none) (OW : mg "len" = none) (OX : mg "range" = none) (hT : P.given.tree = none) :
 AI P w K mg base CX0 33 f fd ["tops"] (GB K) := by
 refine F.ok Bb (fun vs H Q E h => ?_) (fun cdv A outer s H vs Q E hr h => ?_)
 ·obtain ⟨_, _, rfl, _⟩ := h; rfl
 refine ⟨_, (Ae (K := K) (Aj (i := 1) Bb.nd rfl (Or.inr rfl) (Ct (MF K) rfl Pn JH (Aa (pv 0) Ac)))
  (Ae (K := K) (Aj (i := 2) Bb.nd rfl (Or.inl rfl) (AU Ac))
  (Ae (K := K) (Aj (i := 3) Bb.nd rfl (Or.inl rfl) (AU Ac))
  (Ae (K := K) (BQ PassesOwn.never (Av CN (Al (BC K) rfl OW AJ (Aa (pv 1) Ac)) Ab (Ay _)) (Ae (K := K) (Aj (i := 2) Bb.nd rfl (Or.inl rfl) (Ah Dl (CD rfl (N := ["top"]) (nt := 1) (js := []) (AY.look (NX := ["tops", "row", "lower", "upper"]) (sc := Af (top 42)) rfl rfl (by decide +kernel)) (piL K (pv 2)) (fun u1 u2 u3 u4 u5 => (AE (i := 0) (show List.Nodup (["top"] : List Str) from by decide +kernel) rfl (Or.inl rfl))) (AG (by decide)) (fun u1 u2 u3 u4 u5 => Bx) (fun u1 u2 u3 u4 u5 => (Ah Ap Ab (pv 0)))) (AU (Aa (Ak (ixL K) (pv 1) Ab (fun u v => rfl)) Ac))))
  (Ae (K := K) (Aj (i := 3) Bb.nd rfl (Or.inl rfl) (Ah Dl (AU (Aa (Ak (ixL K) (pv 1) (CM BX Ab) (fun u v => rfl)) Ac)) (CD rfl (N := ["top"]) (nt := 1) (js := []) (AY.look (NX := ["tops", "row", "lower", "upper"]) (sc := Af (top 42)) rfl rfl (by decide +kernel)) (piL K (pv 3)) (fun u1 u2 u3 u4 u5 => (AE (i := 0) (show List.Nodup (["top"] : List Str) from by decide +kernel) rfl (Or.inl rfl))) (AG (by decide)) (fun u1 u2 u3 u4 u5 => Bx) (fun u1 u2 u3 u4 u5 => (Ah Ap Ab (pv 0))))))
  (Ai (Aj (i := 1) Bb.nd rfl (Or.inr rfl) (CD rfl (N := ["k", "row"]) (nt := 1) (js := [1]) (AY.look (NX := ["tops", "row", "lower", "upper"]) (sc := Af (top 42)) rfl rfl (by decide +kernel)) (BA rfl OX (Aa (Ah Bo (Al (BC K) rfl OW AJ (Aa (pv 1) Ac)) Ab) Ac)) (fun u1 u2 u3 u4 u5 => (AE (i := 0) (show List.Nodup (["k", "row"] : List Str) from by decide +kernel) rfl (Or.inl rfl))) (AG (by decide)) (fun u1 u2 u3 u4 u5 => Bx) (fun u1 u2 u3 u4 u5 => (Ah AF (Ak (ixL K) (pv 1) (pv 0) (fun u v => rfl)) (Ak (ixL K) (pv 1) (Ah AF (pv 0) Ab) (fun u v => rfl))))))) (by rfl)) (by rfl)))
  (Ai (Aw (Ax (Aa (pv 2) (Aa (pv 3) Ac))))) (by rfl)) (by rfl)) (by rfl)) (by rfl)), ?_⟩
 obtain ⟨l, ts, rfl, hS, h20, q⟩ := h
 have P0 : 0 ≤ sizeLine := by decide
 have P1 : 1 ≤ sizeLine := by decide
 have P2 : 2 ≤ sizeLine := by decide
 refine ⟨_, rfl, l, _, rfl, .inl hS, fun rw0 hrw => ⟨P0, fun l0 hl0 => ⟨P0, fun u0 hu0 => ?_⟩⟩⟩
 have s1 := ((Ag.new (o := .lst (ts.map V.int)) hrw).trans (Ag.new (o := .lst []) hl0)).trans (Ag.new (o := .lst []) hu0)
 have er : (upd (upd (upd H rw0 (.lst (ts.map V.int))) l0 (.lst [])) u0 (.lst [])) rw0 = some (.lst (ts.map V.int)) := (Ag.new hu0) _ _ ((Ag.new hl0) _ _ Ad)
 have el : (upd (upd (upd H rw0 (.lst (ts.map V.int))) l0 (.lst [])) u0 (.lst [])) l0 = some (.lst []) := (Ag.new hu0) _ _ Ad
 have eu : (upd (upd (upd H rw0 (.lst (ts.map V.int))) l0 (.lst [])) u0 (.lst [])) u0 = some (.lst []) := Ad
 generalize upd (upd (upd H rw0 (.lst (ts.map V.int))) l0 (.lst [])) u0 (.lst []) = H1 at s1 er el eu ⊢
 refine ⟨fun μ σ H' => Ag H H' ∧ ∃ (i : Nat) (r la lb : Addr), σ = [some (.ref l), some (.ref r), some (.ref la), some (.ref lb)] ∧ i ≤ ts.length ∧ μ = ts.length - i ∧ H' r = some (.lst ((L2.aIN i ts).map V.int)) ∧ H' la = some (.lst ((CB ts i).map V.int)) ∧ H' lb = some (.lst ((upI ts i).map V.int)),
  ⟨_, s1, 0, rw0, l0, u0, rfl, Rb _, rfl, er, el, eu⟩, ?_⟩
 rintro μ σ H2 hR1
 refine Ck hR1 fun s2 hz66 => ?_
 refine Mr hz66 fun i r la lb hz66' => ?_
 clear hz66
 refine IZ hz66' fun hq64 hi hq65 er2 ea2 eb2 => ?_
 clear hz66'
 obtain rfl := hq64
 obtain rfl := hq65
 try clear hR1
 have hrl := L2.DC ts i
 refine ⟨_, rfl, r, _, rfl, .inl (SqL.of er2), _, _, rfl, rfl, _, rfl, ?_⟩
 by_cases hgo : i < ts.length
 ·refine Bs (by rw [decide_eq_true (show (0 : Int) < (((L2.aIN i ts).map V.int).length : Int) by rw [Rx]; lia)] <;> rfl) ⟨_, fun _ _ h => h, ?_⟩
  have g0 : ((L2.aIN i ts).map V.int)[0]? = some (.int ((L2.aIN i ts).getD 0 0)) := by rw [Ru, Bf (by lia)]; rfl
  have g1 : ((L2.aIN i ts).map V.int)[((L2.aIN i ts).map V.int).length - 1]? = some (.int ((L2.aIN i ts).getD (ts.length - 1 - i) 0)) := by
   rw [Ru, Rx, Bf (by lia), show (L2.aIN i ts).length - 1 = ts.length - 1 - i by lia]; rfl
  have hal : (CB ts i).length = i := by unfold CB; rw [Rx, SX]
  have hbl : (upI ts i).length = i := by unfold upI; rw [Rx, SX]
  have DBL : ∀ (a : Addr) (H : Hp) (ns : List Int), H a = some (.lst (ns.map V.int)) → ns.length ≤ 20 → ∀ (Q : VK) (σ : St) (n : Nat), σ[n]? = some (some (.ref a)) → (∀ p, H p = none → Q (.ref p) (upd H p (.lst ((ns.map fun z => 2 * z).map V.int)))) → tLC (Gj K (DD n)) 1 [] (BW 0) Kr (tOp (rI Bj fun i j => .int (i * j)) (tC (.int 2)) (DD 0)) σ H Q := fun a H ns e hl Q σ n hσ k => by
   refine Cd ⟨_, hσ, a, rfl, ⟨_, SqL.of e⟩, ?_⟩
   refine DN (xs := ns.map V.int) (fun i zs H' => H' = H ∧ zs = ((ns.take i).map fun z => 2 * z).map V.int) ⟨rfl, rfl⟩ (fun i zs H' hi h => ⟨by rw [h.1]; exact SqL.of e, by rw [h.2, Rx, Rx, Rp]; rw [Rx] at hi; lia⟩) (QV (AW (by rw [Rx]; lia))) ?_ ?_
   ·rintro i v zs H' hv ⟨rfl, rfl⟩
    rw [Ru] at hv
    cases hz : ns[i]? with
    | none => rw [hz] at hv; simp at hv
    | some z =>
      rw [hz] at hv
      cases hv
      refine ⟨_, rfl, _, _, rfl, rfl, .inl ⟨by decide, by decide⟩, rfl, ?_⟩
      rw [Sd, hz]
      simp
   ·rintro zs H' ⟨rfl, rfl⟩ p hp
    rw [Rx, Sf]
    exact k p hp
  refine DBL la H2 (CB ts i) ea2 (by lia) _ _ 2 rfl fun p1 hp1 => ?_
  have sa : Ag H2 (upd H2 p1 (.lst (((CB ts i).map fun z => 2 * z).map V.int))) := Ag.new hp1
  refine ⟨_, rfl, r, _, _, _, rfl, rfl, SqL.of (sa _ _ er2), AA (j := 0) g0, P1, fun p2 hp2 => ?_⟩
  have sb := sa.trans (Ag.new (o := .lst [.int ((L2.aIN i ts).getD 0 0)]) hp2)
  refine ⟨p1, p2, _, _, rfl, rfl, (Ag.new hp2) _ _ Ad, Ad, QU (show _ ≤ 300 by rw [Rx, Rx, hal]; show i + 1 ≤ 300; lia) (by decide), fun p3 hp3 => ?_⟩
  have sc := sb.trans (Ag.new (o := .lst (((CB ts i).map fun z => 2 * z).map V.int ++ [.int ((L2.aIN i ts).getD 0 0)])) hp3)
  have e3 : (upd (upd (upd H2 p1 (.lst (((CB ts i).map fun z => 2 * z).map V.int))) p2 (.lst [.int ((L2.aIN i ts).getD 0 0)])) p3 (.lst (((CB ts i).map fun z => 2 * z).map V.int ++ [.int ((L2.aIN i ts).getD 0 0)]))) p3 = some (.lst ((CB ts (i + 1)).map V.int)) := by
   rw [Ad, ← K0, Se]; rfl
  generalize upd (upd (upd H2 p1 (.lst (((CB ts i).map fun z => 2 * z).map V.int))) p2 (.lst [.int ((L2.aIN i ts).getD 0 0)])) p3 (.lst (((CB ts i).map fun z => 2 * z).map V.int ++ [.int ((L2.aIN i ts).getD 0 0)])) = H3 at sc e3 ⊢
  refine ⟨_, rfl, _, rfl, r, _, _, _, rfl, rfl, SqL.of (sc _ _ er2), CA g1, P1, fun p4 hp4 => ?_⟩
  have sd : Ag H3 (upd H3 p4 (.lst [.int ((L2.aIN i ts).getD (ts.length - 1 - i) 0)])) := Ag.new hp4
  refine DBL lb _ (upI ts i) (sd _ _ (sc _ _ eb2)) (by lia) _ _ 3 rfl fun p5 hp5 => ?_
  have se := sd.trans (Ag.new (o := .lst (((upI ts i).map fun z => 2 * z).map V.int)) hp5)
  refine ⟨p4, p5, _, _, rfl, rfl, (Ag.new hp5) _ _ Ad, Ad, QU (show _ ≤ 300 by rw [Rx, Rx, hbl]; show 1 + i ≤ 300; lia) (by decide), fun p6 hp6 => ?_⟩
  have sf := se.trans (Ag.new (o := .lst ([.int ((L2.aIN i ts).getD (ts.length - 1 - i) 0)] ++ ((upI ts i).map fun z => 2 * z).map V.int)) hp6)
  have e6 : (upd (upd (upd H3 p4 (.lst [.int ((L2.aIN i ts).getD (ts.length - 1 - i) 0)])) p5 (.lst (((upI ts i).map fun z => 2 * z).map V.int))) p6 (.lst ([.int ((L2.aIN i ts).getD (ts.length - 1 - i) 0)] ++ ((upI ts i).map fun z => 2 * z).map V.int))) p6 = some (.lst ((upI ts (i + 1)).map V.int)) := by
   rw [Ad, ← Kk, Se]; rfl
  generalize upd (upd (upd H3 p4 (.lst [.int ((L2.aIN i ts).getD (ts.length - 1 - i) 0)])) p5 (.lst (((upI ts i).map fun z => 2 * z).map V.int))) p6 (.lst ([.int ((L2.aIN i ts).getD (ts.length - 1 - i) 0)] ++ ((upI ts i).map fun z => 2 * z).map V.int)) = H4 at sf e6 ⊢
  have s24 := sc.trans sf
  have er4 := s24 _ _ er2
  refine Cd ⟨_, rfl, r, _, rfl, .inl (SqL.of er4), _, _, rfl, rfl, _, rfl, by rw [Rx]; lia, by rw [Rx]; lia, ?_⟩
  rw [show ((((L2.aIN i ts).map V.int).length : Int) - 1).toNat = (L2.aIN i ts).length - 1 by rw [Rx]; lia]
  refine Hj (L3 H4 i ts fun H4 i ts j zs H' => H' = H4 ∧ zs = ((QP j).map fun j => (L2.aIN i ts).getD j 0 + (L2.aIN i ts).getD (j + 1) 0).map V.int) ⟨rfl, rfl⟩ (fun j zs H' _ h => by rw [h.2, Rx, Rx, SX]) (QV (AW (by lia))) ?_ ?_
  ·rintro j zs H' hj ⟨rfl, rfl⟩
   have k0 : ((L2.aIN i ts).map V.int)[j]? = some (.int ((L2.aIN i ts).getD j 0)) := by rw [Ru, Bf (by lia)]; rfl
   have k1 : ((L2.aIN i ts).map V.int)[j + 1]? = some (.int ((L2.aIN i ts).getD (j + 1) 0)) := by rw [Ru, Bf (by lia)]; rfl
   refine ⟨_, rfl, _, rfl, r, _, _, _, rfl, rfl, SqL.of er4, atV k0 (by lia), _, rfl, _, rfl, _, _, rfl, rfl, r, _, _, _, rfl, rfl, SqL.of er4, atV k1 (by lia), _, _, rfl, rfl, rfl, ?_⟩
   rw [U0, Se, Se]; rfl
  rintro zs Hq ⟨hq, rfl⟩ p7 hp7
  obtain rfl : H4 = Hq := hq.symm
  have s7 : Ag H4 (upd H4 p7 (.lst (((QP ((L2.aIN i ts).length - 1)).map fun j => (L2.aIN i ts).getD j 0 + (L2.aIN i ts).getD (j + 1) 0).map V.int))) := Ag.new hp7
  exact ⟨ts.length - (i + 1), by lia, (s2.trans s24).trans s7, i + 1, p7, p3, p6, rfl, by lia, rfl, Ad, s7 _ _ (sf _ _ e3), s7 _ _ e6⟩
 ·refine AV (by rw [decide_eq_false (show ¬ ((0 : Int) < (((L2.aIN i ts).map V.int).length : Int)) by rw [Rx]; lia)] <;> rfl) ?_
  have ei : i = ts.length := by lia
  subst ei
  refine ⟨_, rfl, _, rfl, P2, fun t ht => ?_⟩
  have s3 : Ag H2 (upd H2 t (.tup [.ref la, .ref lb])) := Ag.new ht
  exact q t la lb _ (s2.trans s3) Ad (s3 _ _ ea2) (s3 _ _ eb2)
theorem M4 : As ["a", "b"] ["a", "b"] (Af (top 15)) := ⟨rfl, rfl, rfl, by decide +kernel, rfl, by decide +kernel, by decide +kernel⟩
theorem Mc {f : Addr} {fd : FuncData} (F : Fun K "plus" "plus" (top 15) f fd) (P6 : Fd P w K mg base 34 "number_of" ["top", "bottom"] (Cm)) (hT : P.given.tree = none) :
 AI P w K mg base CX0 35 f fd ["a", "b"] (BO K (· + ·)) := by
 refine F.ok M4 (fun vs H Q E h => ?_) (fun cdv A outer s H vs Q E hr h => ?_)
 ·obtain ⟨_, _, _, _, _, _, rfl, _⟩ := h; rfl
 refine ⟨_, (Ai (Aw (Am P6 hr rfl (Aa (Ah AF (Ah Ap (Ak (ixT K) (pv 0) Ab (fun u v => rfl)) (Ak (ixT K) (pv 1) Ab (fun u v => rfl))) (Ah Ap (Ak (ixT K) (pv 1) Ab (fun u v => rfl)) (Ak (ixT K) (pv 0) Ab (fun u v => rfl)))) (Aa (Ah Ap (Ak (ixT K) (pv 0) Ab (fun u v => rfl)) (Ak (ixT K) (pv 1) Ab (fun u v => rfl))) Ac))))), ?_⟩
 obtain ⟨x, y, p, q, m, n, rfl, ⟨r, rfl, hr⟩, ⟨u, rfl, hu⟩, hp, hq, hmn, k⟩ := h
 refine ⟨_, rfl, r, _, _, _, rfl, rfl, hr, rfl, _, rfl, u, _, _, _, rfl, rfl, hu, rfl, _, _, rfl, rfl, Bj.bd hp.1 hq.2, _, rfl, u, _, _, _, rfl, rfl, hu, rfl, _, rfl, r, _, _, _, rfl, rfl, hr, rfl, _, _, rfl, rfl, Bj.bd hq.1 hp.2, _, _, rfl, rfl, ?_⟩
 refine ⟨_, rfl, r, _, _, _, rfl, rfl, hr, rfl, _, rfl, u, _, _, _, rfl, rfl, hu, rfl, _, _, rfl, rfl, Bj.bd hp.2 hq.2, ?_⟩
 refine ⟨_, _, rfl, RY (Nm.den_ne p) (Nm.den_ne q), fun z hz => ?_⟩
 have e := k z hz
 try dsimp only at e
 rw [← Nm.plus_eq] at e
 exact e
theorem CK : As ["piece", "middle", "halves", "depth"] ["piece"] (Af (top 48)) := ⟨rfl, rfl, rfl, by decide +kernel, rfl, by decide +kernel, by decide +kernel⟩
theorem Ge {f : Addr} {fd : FuncData} (F : Fun K "halved" "halved" (top 48) f fd) (Pu : Fd P w K mg base 35 "over" ["a", "b"] (EU K)) (Qe : Fd P w K mg base 33 "whole_halves" ["tops"] (GB K)) (F_plus : Fd P w K mg base 35 "plus" ["a", "b"] (BO K (· + ·))) {t_DEEPEST : Tok} (c_DEEPEST : mg "DEEPEST" = some (.int 16 t_DEEPEST)) (hT : P.given.tree = none) :
 AI P w K mg base CX0 36 f fd ["piece"] (CJ K) := by
 refine F.ok CK (fun vs H Q E h => ?_) (fun cdv A outer s H vs Q E hr h => ?_)
 ·obtain ⟨_, _, _, _, _, _, _, _, rfl, _⟩ := h; rfl
 refine ⟨_, (Ae (K := K) (AX (K := K) (Av Cz (Ak (ixT K) (pv 0) Ab (fun u v => rfl)) (By (v := .int 16) rfl c_DEEPEST ⟨_, rfl⟩) (Ay _)) (Ai CL) AO (by rfl) (by rfl))
  (Ae (K := K) (Aj (i := 1) CK.nd rfl (Or.inl rfl) (Am Pu hr rfl (Aa (Am F_plus hr rfl (Aa (Ak (ixT K) (pv 0) Ab (fun u v => rfl)) (Aa (Ak (ixT K) (pv 0) Ab (fun u v => rfl)) Ac))) (Aa (Ax (Aa Ab (Aa Ab Ac))) Ac))))
  (Ae (K := K) (Aj (i := 2) CK.nd rfl (Or.inl rfl) (Am Qe hr rfl (Aa (Ak (ixT K) (pv 0) Ab (fun u v => rfl)) Ac)))
  (Ae (K := K) (Aj (i := 3) CK.nd rfl (Or.inl rfl) (Ah AF (Ak (ixT K) (pv 0) Ab (fun u v => rfl)) Ab))
  (Ai (Aw (AU (Aa (Ax (Aa (pv 1) (Aa (Ak (ixT K) (pv 0) Ab (fun u v => rfl)) (Aa (Ak (ixT K) (pv 2) Ab (fun u v => rfl)) (Aa (pv 3) Ac))))) (Aa (Ax (Aa (Ak (ixT K) (pv 0) Ab (fun u v => rfl)) (Aa (pv 1) (Aa (Ak (ixT K) (pv 2) Ab (fun u v => rfl)) (Aa (pv 3) Ac))))) Ac))))) (by rfl)) (by rfl)) (by rfl)) (by rfl)), ?_⟩
 obtain ⟨p, rl, rh, rt, lo, hi, ts, d, rfl, hS, hlo, hhi, blo, bhi, ht, h20, hd, q⟩ := h
 have P2 : 2 ≤ sizeLine := by decide
 have P4 : 4 ≤ sizeLine := by decide
 refine ⟨_, rfl, p, _, _, _, rfl, rfl, hS, AA (j := 3) rfl, rfl, _, rfl, ?_⟩
 refine AV (by rw [decide_eq_false (show ¬ V.int (d : Int) = V.int 16 from fun z => hd (by have := V.int.inj z; lia))] <;> rfl) ?_
 refine ⟨_, rfl, p, _, _, _, rfl, rfl, hS, AA (j := 0) rfl, _, rfl, p, _, _, _, rfl, rfl, hS, AA (j := 1) rfl, _, _, lo, hi, 120, 120, rfl, hlo, hhi, blo, bhi, by decide, fun t1 ht1 => ⟨P2, fun t2 ht2 => ?_⟩⟩
 have o2 : HO.tup [.int 2, .int 1] = nT 2 := rfl
 have b2 : RB 3 (2 : Rat) := ⟨by unfold Bd; decide, by unfold Bd; decide⟩
 refine ⟨_, _, lo + hi, 2, 241, 3, rfl, Au.of ((Ag.new ht2) _ _ Ad), Au.of (by rw [Ad, o2]), by decide, blo.plus bhi, b2, by decide, fun rm hrm => ?_⟩
 have e2 : (lo + hi) / 2 = (lo + hi) * hf := by
  have h1 : hf * 2 = 1 := by have := hf2; grind
  rw [TL]
  have h2 : (2 : Rat)⁻¹ = hf := by decide +kernel
  rw [h2]
 rw [e2]
 have s3 : Ag H (upd (upd (upd H t1 (nT (lo + hi))) t2 (.tup [.int 2, .int 1])) rm (nT ((lo + hi) * hf))) := ((Ag.new ht1).trans (Ag.new ht2)).trans (Ag.new hrm)
 have em : Au K (upd (upd (upd H t1 (nT (lo + hi))) t2 (.tup [.int 2, .int 1])) rm (nT ((lo + hi) * hf))) (.ref rm) ((lo + hi) * hf) := Au.of Ad
 generalize upd (upd (upd H t1 (nT (lo + hi))) t2 (.tup [.int 2, .int 1])) rm (nT ((lo + hi) * hf)) = H1 at s3 em ⊢
 have hS1 := hS.same s3
 refine ⟨_, rfl, p, _, _, _, rfl, rfl, hS1, AA (j := 2) rfl, rt, ts, rfl, SqL.of (s3 _ _ ht), h20, fun t la lb H2 s4 et ela elb => ?_⟩
 have hS2 := hS1.same s4
 have em2 := em.same s4
 refine ⟨_, rfl, p, _, _, _, rfl, rfl, hS2, AA (j := 3) rfl, _, _, rfl, rfl, ?_⟩
 refine ⟨_, rfl, _, rfl, p, _, _, _, rfl, rfl, hS2, AA (j := 1) rfl, _, rfl, t, _, _, _, rfl, rfl, SqT.of et, AA (j := 1) rfl, _, rfl, P4, fun p1 hp1 => ?_⟩
 have s5 := Ag.new (o := .tup [.ref rm, .ref rh, .ref lb, .int ((d : Int) + 1)]) hp1
 refine ⟨_, rfl, p, _, _, _, rfl, rfl, hS2.same s5, AA (j := 0) rfl, _, rfl, _, rfl, t, _, _, _, rfl, rfl, SqT.of (s5 _ _ et), AA (j := 0) rfl, _, rfl, P4, fun p2 hp2 => ⟨P2, fun u hu => ?_⟩⟩
 have s6 := Ag.new (o := .tup [.ref rl, .ref rm, .ref la, .int ((d : Int) + 1)]) hp2
 have s7 := Ag.new (o := .lst [.ref p1, .ref p2]) hu
 exact q u p1 p2 rm la lb _ (((s3.trans s4).trans s5).trans (s6.trans s7)) Ad (SqT.of (s7 _ _ (s6 _ _ Ad))) (SqT.of (s7 _ _ Ad)) (em2.same ((s5.trans s6).trans s7)) (s7 _ _ (s6 _ _ (s5 _ _ ela))) (s7 _ _ (s6 _ _ (s5 _ _ elb)))
theorem IJ {f : Addr} {fd : FuncData} (F : Fun K "halved" "halved" (top 48) f fd) {a_TooDeep : Addr} (k_TooDeep : Ir K "TooDeep" a_TooDeep) (Pu : Fd P w K mg base 35 "over" ["a", "b"] (EU K)) (Qe : Fd P w K mg base 33 "whole_halves" ["tops"] (GB K)) (F_plus : Fd P w K mg base 35 "plus" ["a", "b"] (BO K (· + ·))) {t_DEEPEST : Tok} (c_DEEPEST : mg "DEEPEST" = some (.int 16 t_DEEPEST)) (hT : P.given.tree = none) :
 AI P w K mg base (CX2 P w) 36 f fd ["piece"] (Cs K a_TooDeep) := by
 refine F.okY CK (fun vs H Q E h => ?_) (fun cdv A outer s H vs Q E hr h => ?_)
 ·obtain ⟨_, _, _, _, rfl, _⟩ := h; rfl
 refine ⟨_, (Dj (AX (K := K) (Av Cz (Ak (ixT K) (pv 0) Ab (fun u v => rfl)) (By (v := .int 16) rfl c_DEEPEST ⟨_, rfl⟩) (Ay _)) (Ai (EY k_TooDeep rfl IP rfl (Aa Bk Ac))) AO (by rfl) (by rfl))
  Dw), ?_⟩
 obtain ⟨p, x, y, z, rfl, hS, q⟩ := h
 have P1 : 1 ≤ sizeLine := by decide
 refine ⟨_, rfl, p, _, _, _, rfl, rfl, hS, AA (j := 3) rfl, rfl, _, rfl, Bs (by first | rfl | decide) ⟨P1, q⟩⟩
theorem Bw : As ["curve", "low", "high", "heights", "waiting", "pieces", "piece", "changes"] ["curve", "low", "high"] (Af (top 47)) := ⟨rfl, rfl, rfl, by decide +kernel, rfl, by decide +kernel, by decide +kernel⟩
theorem E2 {f : Addr} {fd : FuncData} (F : Fun K "pieces_of" "pieces_of" (top 47) f fd) (Pq : Fd P w K mg base 37 "heights_of" ["curve", "low", "high"] (DF K)) (Qs : Fd P w K mg base 37 "lone_part" ["curve"] (Ei K)) (Qf : Fd P w K mg base 33 "sign_changes" ["tops"] (M0 K)) (P5 : Fd P w K mg base 33 "tops_over" ["numbers", "bottom"] (Ci K)) (OZ : Fd P w K mg base 34 "bottom_of" ["numbers"] (D8 K)) (F_halved : Fd P w K mg base 36 "halved" ["piece"] (CJ K)) (OW : mg "len" = none) (hT : P.given.tree = none) :
 AI P w K mg base CX0 38 f fd ["curve", "low", "high"] ((fun _ _ _ _ => False : Sp)) := F.ok Bw (fun vs H Q E h => False.elim h) (fun cdv A outer s H vs Q E hr h => False.elim h)
theorem FO {f : Addr} {fd : FuncData} (F : Fun K "pieces_of" "pieces_of" (top 47) f fd) {a_NoCurve a_NoStretch a_TooDeep : Addr} (Y_lone_part : FdY P w K mg base 37 "lone_part" ["curve"] (fun vs H Q E => (Ei K : Sp) vs H Q E ∨ (Du K a_NoCurve : Sp) vs H Q E)) (Y_heights_of : FdY P w K mg base 37 "heights_of" ["curve", "low", "high"] (fun vs H Q E => (DF K : Sp) vs H Q E ∨ (BY K a_NoStretch : Sp) vs H Q E)) (Y_halved : FdY P w K mg base 36 "halved" ["piece"] (fun vs H Q E => (CJ K : Sp) vs H Q E ∨ (Cs K a_TooDeep : Sp) vs H Q E)) (Pq : Fd P w K mg base 37 "heights_of" ["curve", "low", "high"] (DF K)) (Qs : Fd P w K mg base 37 "lone_part" ["curve"] (Ei K)) (Qf : Fd P w K mg base 33 "sign_changes" ["tops"] (M0 K)) (P5 : Fd P w K mg base 33 "tops_over" ["numbers", "bottom"] (Ci K)) (OZ : Fd P w K mg base 34 "bottom_of" ["numbers"] (D8 K)) (F_halved : Fd P w K mg base 36 "halved" ["piece"] (CJ K)) (OW : mg "len" = none) (hT : P.given.tree = none) :
 AI P w K mg base (CX2 P w) 38 f fd ["curve", "low", "high"] ((fun vs H Q E => (D7 K a_NoCurve : Sp) vs H Q E ∨ (D6 K a_NoStretch : Sp) vs H Q E ∨ (ET K a_TooDeep : Sp) vs H Q E : Sp)) := by
 refine F.okY Bw (fun vs H Q E h => ?_) (fun cdv A outer s H vs Q E hr h => ?_)
 ·rcases h with ⟨_, _, _, rfl, _⟩ | ⟨_, _, _, _, _, _, rfl, _⟩ | ⟨_, _, _, _, _, _, rfl, _⟩ <;> rfl
 refine ⟨_, (Ae (K := K) (Aj (i := 3) Bw.nd rfl (Or.inl rfl) (Fc Y_heights_of hr rfl HS (Aa (Fc Y_lone_part hr rfl HS (Aa (pv 0) Ac)) (Aa (pv 1) (Aa (pv 2) Ac)))))
  (Ae (K := K) (Aj (i := 4) Bw.nd rfl (Or.inl rfl) (AU (Aa (Ax (Aa (pv 1) (Aa (pv 2) (Aa (Am P5 hr rfl (Aa (pv 3) (Aa (Am OZ hr rfl (Aa (pv 3) Ac)) Ac))) (Aa Ab Ac))))) Ac)))
  (Ae (K := K) (Aj (i := 5) Bw.nd rfl (Or.inl rfl) (AU Ac))
  (Ae (K := K) (BQ PassesOwn.leaving (Av CN (Al (BC K) rfl OW AJ (Aa (pv 4) Ac)) Ab (Ay _)) (Ae (K := K) (Aj (i := 6) Bw.nd rfl (Or.inl rfl) (Jl K PySem.F.plainAttrs_list PySem.F.slot_list_pop PySem.F.type_list_pop La (pv 4)))
  (Ae (K := K) (Aj (i := 7) Bw.nd rfl (Or.inl rfl) (Am Qf hr rfl (Aa (Ak (ixT K) (pv 6) Ab (fun u v => rfl)) Ac)))
  (Ai (AX (K := K) (Av CN (pv 7) Ab (Ay _)) (Ai (DW (Er K PySem.F.plainAttrs_list PySem.F.slot_list_extend PySem.F.type_list_extend JZ (pv 4) (Aa (Fc Y_halved hr rfl HS (Aa (pv 6) Ac)) Ac)))) (Ai (DW (Er K PySem.F.plainAttrs_list PySem.F.slot_list_append PySem.F.type_list_append Ew (pv 5) (Aa (Ax (Aa (Ak (ixT K) (pv 6) Ab (fun u v => rfl)) (Aa (Ak (ixT K) (pv 6) Ab (fun u v => rfl)) (Aa (pv 7) Ac)))) Ac)))) (by rfl) (by rfl))) (by rfl)) (by rfl)))
  (Ai (Aw (pv 5))) (by rfl)) (by rfl)) (by rfl)) (by rfl)), ?_⟩
 rcases h with h | h | h
 ·obtain ⟨r, rl, rh, rfl, hS, q⟩ := h
  exact ⟨_, rfl, .inr ⟨r, rfl, hS, q⟩⟩
 ·obtain ⟨r, rl, rh, fs, lo, hi, rfl, hc, gf, nf, bf, lf, hlo, hhi, hlt, blo, bhi, q⟩ := h
  exact ⟨_, rfl, .inl ⟨r, fs, 100, rfl, hc, gf, nf, bf, by decide, by decide, lf, fun p1 H1 g os s1 c1 go PP eo lo' _ => ⟨_, rfl, _, rfl, .inr ⟨p1, rl, rh, lo, hi, rfl, hlo.same s1, hhi.same s1, hlt, blo, bhi, q H1 s1⟩⟩⟩⟩
 obtain ⟨r, rl, rh, fs, lo, hi, rfl, hc, gf, nf, bf, lf, cop, top1, hlo, hhi, hlt, blo, bhi, dlo, dhi, q1, q2⟩ := h
 have P0 : 0 ≤ sizeLine := by decide
 have P1 : 1 ≤ sizeLine := by decide
 have P3 : 3 ≤ sizeLine := by decide
 have P4 : 4 ≤ sizeLine := by decide
 refine ⟨_, rfl, .inl ⟨r, fs, 100, rfl, hc, gf, nf, bf, by decide, by decide, lf, fun p1 H1 g os s1 c1 go PP eo lo' _ => ?_⟩⟩
 obtain rfl := KO cop gf PP go eo
 refine ⟨_, rfl, _, rfl, .inl ⟨p1, rl, rh, os, lo, hi, 100, rfl, c1, go, hlo.same s1, hhi.same s1, hlt, bf, blo.mono (by decide), bhi.mono (by decide), by decide, by lia, fun p2 H2 zs s2 hp2 e2 hz bz => ?_⟩⟩
 have s12 := s1.trans s2
 have hhl := L2.Bz os lo hi
 obtain ⟨hs, ehs⟩ : ∃ hs, hs = L2.hts os lo hi := ⟨_, rfl⟩
 rw [← ehs] at hz bz hhl
 have hh6 : hs.length ≤ 6 := by lia
 have hnl : 60000 * hs.length ≤ 60000 * 6 := TR _ hh6
 refine ⟨_, rfl, _, rfl, _, rfl, _, rfl, true, p2, zs, hs, 60000, rfl, SqL.of e2, hz, (fun c hc => (bz c hc).2), by rw [SU]; lia, fun B hB0 hdv hbB => ?_⟩
 have hB : B ≠ 0 := by lia
 refine ⟨true, p2, zs, hs, B, 60000 * hs.length + 1, 60000, rfl, SqL.of e2, hz, hbB, (fun c hc => (bz c hc).1), by lia, by lia, fun r0 hr0 => ⟨P4, fun p3 hp3 => ⟨P1, fun w hw => ⟨P0, fun z hzn => ?_⟩⟩⟩⟩
 have ez0 := Ag.new (o := .lst []) hzn
 have ew0 := Ag.new (o := .lst [.ref p3]) hw
 have ep0 := Ag.new (o := .tup [.ref rl, .ref rh, .ref r0, .int 0]) hp3
 have er0 := Ag.new (o := .lst ((hs.map (Ao B)).map V.int)) hr0
 have sA := ((er0.trans ep0).trans ew0).trans ez0
 have eW := ez0 _ _ Ad
 have eZ := Ad (H := upd (upd (upd H2 r0 (.lst ((hs.map (Ao B)).map V.int))) p3 (.tup [.ref rl, .ref rh, .ref r0, .int 0])) w (.lst [.ref p3])) (a := z) (o := .lst [])
 have hHw : H w = none := ((s12.trans er0).trans ep0).free hw
 have hHz : H z = none := (((s12.trans er0).trans ep0).trans ew0).free hzn
 have wz : w ≠ z := Az Ad hzn
 obtain ⟨D, d0, d1, y1, y2⟩ := Dy.start2 blo dlo bhi dhi
 have B0 : (0 : Rat) < (B : Rat) := by
  have : ((0 : Int) : Rat) < (B : Rat) := U4.mpr (by lia)
  exact this
 have k0 : PcI K os D (upd (upd (upd (upd H2 r0 (.lst ((hs.map (Ao B)).map V.int))) p3 (.tup [.ref rl, .ref rh, .ref r0, .int 0])) w (.lst [.ref p3])) z (.lst [])) (.ref p3) (lo, hi, 0) := ⟨p3, rl, rh, r0, hs.map (Ao B), rfl, SqT.of (ez0 _ _ (ew0 _ _ Ad)), (hlo.same s12).same sA, (hhi.same s12).same sA, ez0 _ _ (ew0 _ _ (ep0 _ _ Ad)), fun z => by have := congrArg Ro z; rw [Rx] at this; simp only [Tq] at this; lia, by rw [Rx]; lia, by rw [← ehs]; exact ⟨(B : Rat), B0, Ez hs fun q hq => BM (hdv q hq)⟩, y1, y2, Rb _⟩
 have sH := s12.trans sA
 generalize upd (upd (upd (upd H2 r0 (.lst ((hs.map (Ao B)).map V.int))) p3 (.tup [.ref rl, .ref rh, .ref r0, .int 0])) w (.lst [.ref p3])) z (.lst []) = H3 at k0 sH eW eZ ⊢
 clear ez0 ew0 ep0 er0 sA hw hzn hp3 hr0 hz bz hnl e2 s1 s2 s12 c1 PP eo hdv hbB B0
 refine ⟨fun μ σ G => Ag H G ∧ ∃ (ws ys : List V) (st : List Wt) (found : List Pc) (z6 z7 : Option V), σ = [some (.ref r), some (.ref rl), some (.ref rh), some (.ref p2), some (.ref w), some (.ref z), z6, z7] ∧ G w = some (.lst ws) ∧ G z = some (.lst ys) ∧ Paired (PcI K os D G) ws.reverse st ∧ Pcs K G ys found ∧ pcs os 16 lo hi = (com os st).map (found ++ ·) ∧ μ = wgt st ∧ found.length + wgt st ≤ 2 ^ 18,
  ⟨_, sH, [.ref p3], [], [(lo, hi, 0)], [], none, none, rfl, eW, eZ, .cons k0 .nil, .nil, Kc os lo hi, rfl, by show 0 + (2 ^ 18 - 1 + 0) ≤ 2 ^ 18; decide⟩, ?_⟩
 clear k0 sH eW eZ
 rintro μ σ G ⟨sg, ws, ys, st, found, z6, z7, rfl, ew, ez, hst, hfn, hpc, rfl, h18⟩
 have hwl : ws.length = st.length := by rw [← List.length_reverse, hst.length]
 refine ⟨_, rfl, w, ws, rfl, .inl (SqL.of ew), _, _, rfl, rfl, _, rfl, ?_⟩
 have hrf := PcI.refs hst
 have hdp := PcI.deep hst
 have hwg := J9 st hdp
 cases st with
 | nil =>
   rw [decide_eq_false (show ¬ (0 : Int) < ((ws.length : Nat) : Int) by rw [hwl]; decide)]
   refine Dc ⟨_, rfl, q1 found z G ys ?_ sg hHz ez hfn⟩
   rw [hpc]
   show some (found ++ []) = some found
   rw [Ri]
 | cons t st' =>
 obtain ⟨lo', hi', d⟩ := t
 rw [decide_eq_true (show (0 : Int) < ((ws.length : Nat) : Int) by rw [hwl]; show (0 : Int) < ((st'.length + 1 : Nat) : Int); lia)]
 refine Li ⟨_, fun _ _ h => h, ?_⟩
 obtain ⟨v, rr, hvr⟩ : ∃ v rr, ws.reverse = v :: rr := by
  cases e : ws.reverse with
  | nil => rw [e] at hst; cases hst
  | cons v rr => exact ⟨v, rr, rfl⟩
 have ews : ws = rr.reverse ++ [v] := by rw [← Ub ws, hvr, List.reverse_cons]
 rw [hvr] at hst hrf
 cases hst with
 | cons hv hrest =>
 have hrw : ∀ x ∈ ws, ∃ r, x = .ref r := fun x hx => hrf x (by rw [← hvr]; exact List.mem_reverse.mpr hx)
 have hys := Pcs.refs hfn
 refine ⟨_, rfl, .inl ⟨rfl, _, SqL.of ew⟩, w, ws, v, rfl, rfl, ew, by rw [ews, Rw, RJ, show rr.reverse.length + 1 - 1 = rr.reverse.length by lia]; simp, ?_⟩
 rw [show ws.dropLast = rr.reverse by rw [ews, List.dropLast_concat]]
 have sg1 : Ag H (upd G w (.lst rr.reverse)) := sg.put hHw
 have hv1 := hv.put (o := .lst rr.reverse) ew hrw
 have hr1 : Paired (PcI K os D (upd G w (.lst rr.reverse))) rr st' := Paired.mapP hrest fun _ _ z => z.put ew hrw
 have hf1 := Pcs.put (o := .lst rr.reverse) hfn ew
 have ew1 := Ad (H := G) (a := w) (o := .lst rr.reverse)
 have ez1 : (upd G w (.lst rr.reverse)) z = some (.lst ys) := by rw [AB wz.symm]; exact ez
 generalize upd G w (.lst rr.reverse) = G1 at sg1 hv1 hr1 hf1 ew1 ez1 ⊢
 clear hv hrest hfn ew ez sg
 obtain ⟨pp, rl', rh', rt, ts, rfl, hS, nlo, nhi, ert, tne, t20, tp, dy1, dy2, hd16⟩ := id hv1
 have hd16 : d ≤ 16 := hd16
 refine ⟨_, rfl, pp, _, _, _, rfl, rfl, hS, AA (j := 2) rfl, rt, ts, rfl, SqL.of ert, by lia, fun G2 s2 => ?_⟩
 have hV := tp.chg
 rw [hV]
 replace hS := hS.same s2
 have hf2 := Pcs.same hf1 s2
 have hr2 : Paired (PcI K os D G2) rr st' := Paired.mapP hr1 fun _ _ z => z.same s2
 have ew2 := s2 _ _ ew1
 have ez2 := s2 _ _ ez1
 replace nlo := nlo.same s2
 replace nhi := nhi.same s2
 replace ert := s2 _ _ ert
 have sg2 := sg1.trans s2
 clear hv1 hf1 hr1 ew1 ez1 sg1 s2
 refine ⟨_, rfl, _, _, rfl, rfl, _, rfl, ?_⟩
 have hfl := hf2.length
 have hwe : wgt ((lo', hi', d) :: st') = 2 ^ (18 - d) - 1 + wgt st' := rfl
 have hp2 : 2 ^ 2 ≤ 2 ^ (18 - d) := Sx (by decide) (by lia)
 by_cases hf2' : VQ (L2.hts os lo' hi') < 2
 ·rw [decide_eq_false (show ¬ (1 : Int) < ((VQ (L2.hts os lo' hi') : Nat) : Int) by lia)]
  refine Dc ⟨_, rfl, .inl ⟨rfl, _, SqL.of ez2⟩, _, rfl, pp, _, _, _, rfl, rfl, hS, AA (j := 0) rfl, _, rfl, pp, _, _, _, rfl, rfl, hS, AA (j := 1) rfl, _, rfl, P3, fun u hu => ?_⟩
  have s3 := Ag.new (o := .tup [.ref rl', .ref rh', .int ((VQ (L2.hts os lo' hi') : Nat) : Int)]) hu
  have ez3 := s3 _ _ ez2
  refine ⟨z, ys, .ref u, rfl, rfl, ez3, QM (show ys.length < 300000 by lia) (by decide), ?_⟩
  have hu1 : PcV K (upd G2 u (.tup [.ref rl', .ref rh', .int ((VQ (L2.hts os lo' hi') : Nat) : Int)])) (.ref u) (one os lo' hi') := ⟨u, rl', rh', rfl, SqT.of Ad, nlo.same s3, nhi.same s3⟩
  refine ⟨wgt st', by lia, (sg2.trans s3).put hHz, rr.reverse, ys ++ [.ref u], st', found ++ [one os lo' hi'], _, _, rfl, by rw [AB wz]; exact s3 _ _ ew2, Ad, by rw [Ub]; exact Paired.mapP hr2 fun _ _ z => (z.same s3).put ez3 hys, Paired.snoc (Pcs.put (Pcs.same hf2 s3) ez3) (hu1.put ez3), ?_, rfl, by rw [Rw, RJ]; lia⟩
  rw [hpc, Mu hf2', map_map]
 ·rw [decide_eq_true (show (1 : Int) < ((VQ (L2.hts os lo' hi') : Nat) : Int) by lia)]
  refine Li ⟨_, rfl, .inl ⟨rfl, _, SqL.of ew2⟩, _, rfl, ?_⟩
  by_cases hd : d = 16
  ·subst hd
   refine .inr ⟨pp, _, _, _, rfl, hS, q2 G2 ?_ sg2⟩
   rw [hpc, LC hf2']; rfl
  ·have hd' : d < 16 := by lia
   refine .inl ⟨pp, rl', rh', rt, lo', hi', ts, d, rfl, hS, nlo, nhi, dy1.rb d0 d1 (by lia), dy2.rb d0 d1 (by lia), ert, t20, hd, fun u q1' q2' rm la lb G3 s3 eu h1 h2 em ela elb => ?_⟩
   have ew3 := s3 _ _ ew2
   have hrl : rr.length = st'.length := hr2.length
   have hw1 : st'.length + 1 ≤ wgt ((lo', hi', d) :: st') := hwg
   refine ⟨w, u, rr.reverse, _, rfl, rfl, ew3, eu, QU (show rr.reverse.length + 2 ≤ 300000 by rw [List.length_reverse]; lia) (by decide), ?_⟩
   have lne : CB ts ts.length ≠ [] := fun z => by
    have := congrArg Ro z
    unfold CB at this
    rw [Rx, SX] at this
    exact tne (Sg this)
   have une : upI ts ts.length ≠ [] := fun z => by
    have := congrArg Ro z
    unfold upI at this
    rw [Rx, SX] at this
    exact tne (Sg this)
   have ll1 : (CB ts ts.length).length ≤ 20 := by unfold CB; rw [Rx, SX]; exact t20
   have ul1 : (upI ts ts.length).length ≤ 20 := by unfold upI; rw [Rx, SX]; exact t20
   have k1 : PcI K os D G3 (.ref q2') (lo', (lo' + hi') * hf, d + 1) := ⟨q2', rl', rm, la, _, rfl, h2, nlo.same s3, em, ela, lne, ll1, by show Tp _ (L2.hts os lo' ((lo' + hi') * hf)); rw [Mn]; exact tp.low, dy1.next, dy1.mid dy2, hd'⟩
   have k2 : PcI K os D G3 (.ref q1') ((lo' + hi') * hf, hi', d + 1) := ⟨q1', rm, rh', lb, _, rfl, h1, em, nhi.same s3, elb, une, ul1, by show Tp _ (L2.hts os ((lo' + hi') * hf) hi'); rw [Nz]; exact tp.up, dy1.mid dy2, dy2.next, hd'⟩
   have hrw2 : ∀ x ∈ rr.reverse, ∃ r, x = .ref r := fun x hx => hrf x (QY _ (List.mem_reverse.mp hx))
   have hg := LS d hd'
   have hwe2 : wgt ((lo', (lo' + hi') * hf, d + 1) :: ((lo' + hi') * hf, hi', d + 1) :: st') = 2 ^ (18 - (d + 1)) - 1 + (2 ^ (18 - (d + 1)) - 1 + wgt st') := rfl
   refine ⟨wgt ((lo', (lo' + hi') * hf, d + 1) :: ((lo' + hi') * hf, hi', d + 1) :: st'), by lia, (sg2.trans s3).put hHw, rr.reverse ++ [.ref q1', .ref q2'], ys, (lo', (lo' + hi') * hf, d + 1) :: ((lo' + hi') * hf, hi', d + 1) :: st', found, _, _, rfl, Ad, by rw [AB wz.symm]; exact s3 _ _ ez2, ?_, Pcs.put (Pcs.same hf2 s3) ew3, by rw [hpc, LD hd' hf2'], rfl, by lia⟩
   rw [List.reverse_append, Ub]
   exact .cons (k1.put ew3 hrw2) (.cons (k2.put ew3 hrw2) (Paired.mapP hr2 fun _ _ z => (z.same s3).put ew3 hrw2))
theorem Bp : As ["tops", "x", "height", "scale", "top"] ["tops", "x"] (Af (top 26)) := ⟨rfl, rfl, rfl, by decide +kernel, rfl, by decide +kernel, by decide +kernel⟩
theorem EA {f : Addr} {fd : FuncData} (F : Fun K "whole_height" "whole_height" (top 26) f fd) (Pk : mg "reversed" = none) (hT : P.given.tree = none) :
 AI P w K mg base CX0 33 f fd ["tops", "x"] (MW K) := by
 refine F.ok Bp (fun vs H Q E h => ?_) (fun cdv A outer s H vs Q E hr h => ?_)
 ·obtain ⟨_, _, _, _, _, _, rfl, _⟩ := h; rfl
 refine ⟨_, (Ae (K := K) (Aj (i := 2) Bp.nd rfl (Or.inl rfl) Ab)
  (Ae (K := K) (Aj (i := 3) Bp.nd rfl (Or.inl rfl) Ab)
  (Ae (K := K) (BK (K := K) PassesOwn.never rfl (MD K rfl Pk (pv 0)) (AE (i := 4) Bp.nd rfl (Or.inl rfl)) (Ae (K := K) (Aj (i := 2) Bp.nd rfl (Or.inl rfl) (Ah AF (Ah Ap (pv 2) (Ak (ixT K) (pv 1) Ab (fun u v => rfl))) (Ah Ap (pv 4) (pv 3))))
  (Ai (Aj (i := 3) Bp.nd rfl (Or.inl rfl) (Ah Ap (pv 3) (Ak (ixT K) (pv 1) Ab (fun u v => rfl))))) (by rfl)) (by rfl))
  (Ai (Aw (Ax (Aa (Ah Ap (pv 2) (Ak (ixT K) (pv 1) Ab (fun u v => rfl))) (Aa (pv 3) Ac))))) (by rfl)) (by rfl)) (by rfl)), ?_⟩
 obtain ⟨l, rx, ts, x, m, n, rfl, hS, ⟨_, erx, hx⟩, hB, hbx, hz, q⟩ := h
 cases erx
 have tl : (ts.map V.int).length = ts.length := Rx _
 have hz2 : m + n * ts.length + 4 * n + ts.length + 4 ≤ 100000000 := by
  have e : (n + 1) * (ts.length + 4) = n * ts.length + 4 * n + ts.length + 4 := by rw [SH, SU]; lia
  lia
 have P2 : 2 ≤ sizeLine := by decide
 refine ⟨_, rfl, _, rfl, l, _, rfl, hS, ?_⟩
 refine Jy (L7 H l rx x ts m n fun H l rx x ts m n i σ H' => H' = H ∧ ∃ (h s : Int) (z : Option V), σ = [some (.ref l), some (.ref rx), some (.int h), some (.int s), z] ∧ s = (x.den : Int) ^ i ∧ s ≠ 0 ∧
  (h : Rat) * ((x.den : Int) : Rat) = Cv.evI (ts.drop (ts.length - i)) x * (s : Rat) ∧ Bd (m + n * i + i + 2) h ∧ Bd (n * i + 1) s)
  ⟨rfl, 0, 1, none, rfl, rfl, by decide, ?_, ?_, ?_⟩ (fun i σ H' _ p => by rw [p.1]; exact hS) ?_ ?_
 ·rw [SQ, List.drop_eq_nil_of_le (R8 _)]
  show ((0 : Int) : Rat) * _ = 0 * _
  rw [Ti]; grind
 ·exact (show Bd 1 0 by unfold Bd; decide).mono (by lia)
 ·exact (show Bd 1 1 by unfold Bd; decide).mono (by lia)
 ·rintro i v σ H' hi hv hR1
  refine Ck hR1 fun hq67 hz69 => ?_
  refine Hk hz69 fun h s z hz69' => ?_
  clear hz69
  refine IZ hz69' fun hq68 es hs0 he hbh hbs => ?_
  clear hz69'
  obtain rfl := hq67
  obtain rfl := hq68
  try clear hR1
  rw [tl] at hi hv
  have hj : ts.length - 1 - i < ts.length := by lia
  have htq : ts[ts.length - 1 - i]? = some ts[ts.length - 1 - i] := Sv hj
  have htm : ts[ts.length - 1 - i] ∈ ts := Sw hj
  rw [Ru, htq] at hv
  cases hv
  generalize ts[ts.length - 1 - i] = t at htq htm
  have bt := hB _ htm
  have hni : n * i ≤ n * ts.length := TR n (by lia)
  have hni1 : n * (i + 1) = n * i + n := by rw [SU, Nat.mul_one]
  refine ⟨_, rfl, _, rfl, rx, _, _, _, rfl, rfl, hx, rfl, _, _, rfl, rfl, Bj.bd hbh hbx.1 (by lia), _, rfl, _, rfl, _, _, rfl, rfl, Bj.bd bt hbs (by lia), _, _, rfl, rfl, ?_⟩
  refine ⟨_, rfl, _, rfl, rx, _, _, _, rfl, rfl, hx, rfl, _, _, rfl, rfl, Bj.bd hbs hbx.2 (by lia), ⟨rfl, _, _, _, rfl, ?_, RY hs0 (Nm.den_ne x), ?_, ?_, ?_⟩⟩
  ·rw [es, SS]
  ·rw [Ms rfl hi htq, Cv.evI_cons, RZ, S5, S5, S5, Nm.num_mul x]
   grind
  ·have b1 := hbh.mul hbx.1
   have b2 := bt.mul hbs
   exact (Bd.add (b1.mono (n := m + n * i + i + 2 + n) (by lia)) (b2.mono (by lia))).mono (by lia)
  ·exact (hbs.mul hbx.2).mono (by lia)
 ·rintro σ H' hR2
  refine Ck hR2 fun hq70 hz72 => ?_
  refine Hk hz72 fun h s z hz72' => ?_
  clear hz72
  refine IZ hz72' fun hq71 es hs0 he hbh hbs => ?_
  clear hz72'
  obtain rfl := hq70
  obtain rfl := hq71
  try clear hR2
  rw [tl] at es he hbh hbs
  rw [Te, SO] at he
  refine ⟨_, rfl, _, rfl, rx, _, _, _, rfl, rfl, hx, rfl, _, _, rfl, rfl, Bj.bd hbh hbx.2 (by lia), _, rfl, P2, fun p hp => ?_⟩
  exact q _ _ p es hs0 (by rw [S5]; exact he) ((hbh.mul hbx.2).mono (by rw [SH, SU]; lia)) hbs hp
theorem CU : As ["curve", "x", "bottom", "told"] ["curve", "x"] (Af (top 27)) := ⟨rfl, rfl, rfl, by decide +kernel, rfl, by decide +kernel, by decide +kernel⟩
theorem H0 {f : Addr} {fd : FuncData} (F : Fun K "height_at" "height_at" (top 27) f fd) (OZ : Fd P w K mg base 34 "bottom_of" ["numbers"] (D8 K)) (Qt : Fd P w K mg base 33 "whole_height" ["tops", "x"] (MW K)) (P6 : Fd P w K mg base 34 "number_of" ["top", "bottom"] (Cm)) (P5 : Fd P w K mg base 33 "tops_over" ["numbers", "bottom"] (Ci K)) (hT : P.given.tree = none) :
 AI P w K mg base CX0 35 f fd ["curve", "x"] (DS K) := by
 refine F.ok CU (fun vs H Q E h => ?_) (fun cdv A outer s H vs Q E hr h => ?_)
 ·obtain ⟨_, _, _, _, _, rfl, _⟩ := h; rfl
 refine ⟨_, (Ae (K := K) (Aj (i := 2) CU.nd rfl (Or.inl rfl) (Am OZ hr rfl (Aa (pv 0) Ac)))
  (Ae (K := K) (Aj (i := 3) CU.nd rfl (Or.inl rfl) (Am Qt hr rfl (Aa (Am P5 hr rfl (Aa (pv 0) (Aa (pv 2) Ac))) (Aa (pv 1) Ac))))
  (Ai (Aw (Am P6 hr rfl (Aa (Ak (ixT K) (pv 3) Ab (fun u v => rfl)) (Aa (Ah Ap (pv 2) (Ak (ixT K) (pv 3) Ab (fun u v => rfl))) Ac))))) (by rfl)) (by rfl)), ?_⟩
 obtain ⟨r, rx, qs, x, n, rfl, ⟨xs, hS, hn⟩, ⟨_, erx, hx⟩, hB, hbx, hz, h1000, q⟩ := h
 cases erx
 have hl := hn.length
 have hsq : (qs.length + 4) ≤ (qs.length + 4) * (qs.length + 4) := Nat.le_mul_of_pos_left _ (by lia)
 have hz1 : (n + 1) * (qs.length + 4) ≤ 30000000 := QU (TR _ hsq) hz
 have hz2 : n * qs.length + 4 * n + qs.length + 4 ≤ 30000000 := by
  have e : (n + 1) * (qs.length + 4) = n * qs.length + 4 * n + qs.length + 4 := by rw [SH, SU]; lia
  lia
 refine ⟨_, rfl, false, r, xs, qs, n, rfl, hS, hn, (fun q hq => (hB q hq).2), by rw [SU]; lia, fun B hB0 hdv hbB => ?_⟩
 refine ⟨_, rfl, _, rfl, false, r, xs, qs, B, n * qs.length + 1, n, rfl, hS, hn, hbB, (fun q hq => (hB q hq).1), by lia, h1000, fun l hl0 => ?_⟩
 have tl : (qs.map (Ao B)).length = qs.length := Rx _
 have hx1 : SqT K (upd H l (.lst ((qs.map (Ao B)).map V.int))) rx [.int x.num, .int x.den] := SqT.same hx (Ag.new hl0)
 have tB : ∀ t ∈ qs.map (Ao B), Bd (n * qs.length + n + 1) t := fun t ht => by
  obtain ⟨c, hc, rfl⟩ := (Tt.mp ht)
  exact ((hB c hc).1.mul (hbB.fdiv (y := c.den))).mono (by lia)
 refine ⟨_, rfl, l, rx, qs.map (Ao B), x, n * qs.length + n + 1, n, rfl, SqL.of Ad, ⟨rx, rfl, hx1⟩, tB, hbx, by rw [tl]; lia, fun h s p es hs0 he hbh hbs hp => ?_⟩
 rw [tl] at hbs
 have ep : SqT K (upd (upd H l (.lst ((qs.map (Ao B)).map V.int))) p (.tup [.int h, .int s])) p [.int h, .int s] := SqT.of Ad
 have hb0 : B * s ≠ 0 := RY (by lia) hs0
 refine ⟨_, rfl, p, _, _, _, rfl, rfl, ep, rfl, _, rfl, _, rfl, p, _, _, _, rfl, rfl, ep, rfl, _, _, rfl, rfl, Bj.bd hbB hbs (by lia), _, _, rfl, hb0, fun u hu => ?_⟩
 have ev := Ds hdv x
 have e : RS h (B * s) = Cv.ev qs x := Nm.div_eq hb0 (by
  have he' : (h : Rat) = Cv.ev ((qs.map (Ao B)).map fun t : Int => (t : Rat)) x * (s : Rat) := he
  rw [he', ev, S5]; grind)
 refine q u _ (((Ag.new hl0).trans (Ag.new hp)).trans (Ag.new hu)) ?_
 rw [← e]; exact Ad
theorem BI : As ["curve", "low", "high", "pieces", "ends", "at_ends"] ["curve", "low", "high"] (Af (top 49)) := ⟨rfl, rfl, rfl, by decide +kernel, rfl, by decide +kernel, by decide +kernel⟩
theorem DJ {f : Addr} {fd : FuncData} (F : Fun K "noughts_of" "noughts_of" (top 49) f fd) (Qg : Fd P w K mg base 38 "pieces_of" ["curve", "low", "high"] ((fun _ _ _ _ => False : Sp))) (Qh : Fd P w K mg base 35 "height_at" ["curve", "x"] (DS K)) (OW : mg "len" = none) (Po : mg "sum" = none) {a_NOUGHT : Addr} (c_NOUGHT : mg "NOUGHT" = some (.ref a_NOUGHT)) (n_NOUGHT : ∀ H : Hp, Au K H (.ref a_NOUGHT) (0)) (hT : P.given.tree = none) :
 AI P w K mg base CX0 39 f fd ["curve", "low", "high"] ((fun _ _ _ _ => False : Sp)) := F.ok BI (fun vs H Q E h => False.elim h) (fun cdv A outer s H vs Q E hr h => False.elim h)
theorem Fg {f : Addr} {fd : FuncData} (F : Fun K "noughts_of" "noughts_of" (top 49) f fd) {a_NoCurve a_NoStretch a_TooDeep : Addr} (Y_pieces_of : FdY P w K mg base 38 "pieces_of" ["curve", "low", "high"] (fun vs H Q E => ((fun _ _ _ _ => False : Sp) : Sp) vs H Q E ∨ ((fun vs H Q E => (D7 K a_NoCurve : Sp) vs H Q E ∨ (D6 K a_NoStretch : Sp) vs H Q E ∨ (ET K a_TooDeep : Sp) vs H Q E : Sp) : Sp) vs H Q E)) (Qg : Fd P w K mg base 38 "pieces_of" ["curve", "low", "high"] ((fun _ _ _ _ => False : Sp))) (Qh : Fd P w K mg base 35 "height_at" ["curve", "x"] (DS K)) (OW : mg "len" = none) (Po : mg "sum" = none) {a_NOUGHT : Addr} (c_NOUGHT : mg "NOUGHT" = some (.ref a_NOUGHT)) (n_NOUGHT : ∀ H : Hp, Au K H (.ref a_NOUGHT) (0)) (hT : P.given.tree = none) :
 AI P w K mg base (CX2 P w) 39 f fd ["curve", "low", "high"] ((fun vs H Q E => (D7 K a_NoCurve : Sp) vs H Q E ∨ (D6 K a_NoStretch : Sp) vs H Q E ∨ (Ga K a_TooDeep : Sp) vs H Q E : Sp)) := by
 refine F.okY BI (fun vs H Q E h => ?_) (fun cdv A outer s H vs Q E hr h => ?_)
 ·rcases h with ⟨_, _, _, rfl, _⟩ | ⟨_, _, _, _, _, _, rfl, _⟩ | ⟨_, _, _, _, _, _, rfl, _⟩ <;> rfl
 refine ⟨_, (Ae (K := K) (Aj (i := 3) BI.nd rfl (Or.inl rfl) (Fc Y_pieces_of hr rfl HS (Aa (pv 0) (Aa (pv 1) (Aa (pv 2) Ac)))))
  (Ae (K := K) (Aj (i := 4) BI.nd rfl (Or.inl rfl) (Ah Dl (AU (Aa (pv 1) Ac)) (CD rfl (N := ["piece"]) (nt := 1) (js := []) (AY.look (NX := ["curve", "low", "high", "pieces", "ends", "at_ends"]) (sc := Af (top 49)) rfl rfl (by decide +kernel)) (piL K (pv 3)) (fun u1 u2 u3 u4 u5 => (AE (i := 0) (show List.Nodup (["piece"] : List Str) from by decide +kernel) rfl (Or.inl rfl))) (AG (by decide)) (fun u1 u2 u3 u4 u5 => Bx) (fun u1 u2 u3 u4 u5 => (Ak (ixT K) (pv 0) Ab (fun u v => rfl))))))
  (Ae (K := K) (Jh (i := 5) rfl BI.nd rfl rfl (N := ["end", "curve"]) (nt := 1) (js := [0]) (AY.look (NX := ["curve", "low", "high", "pieces", "ends", "at_ends"]) (sc := Af (top 49)) rfl rfl (by decide +kernel)) (piL K (pv 4)) (fun u1 u2 u3 u4 u5 => (AE (i := 0) (show List.Nodup (["end", "curve"] : List Str) from by decide +kernel) rfl (Or.inl rfl))) (AG (by decide)) (fun u1 u2 u3 u4 u5 => EI (Av (eqD K hr.units) (Am Qh hr rfl (Aa (pv 1) (Aa (pv 0) Ac))) (By (v := .ref a_NOUGHT) rfl c_NOUGHT rfl) (Ay _))) (fun u1 u2 u3 u4 u5 => (pv 0)) rfl)
  (Ai (Aw (Ah AF (Al (BC K) rfl OW AJ (Aa (pv 5) Ac)) (Al (Ke rfl) rfl Po NJ (Aa (CD rfl (N := ["piece"]) (nt := 1) (js := []) (AY.look (NX := ["curve", "low", "high", "pieces", "ends", "at_ends"]) (sc := Af (top 49)) rfl rfl (by decide +kernel)) (piL K (pv 3)) (fun u1 u2 u3 u4 u5 => (AE (i := 0) (show List.Nodup (["piece"] : List Str) from by decide +kernel) rfl (Or.inl rfl))) (AG (by decide)) (fun u1 u2 u3 u4 u5 => Bx) (fun u1 u2 u3 u4 u5 => (Ak (ixT K) (pv 0) Ab (fun u v => rfl)))) Ac))))) (by rfl)) (by rfl)) (by rfl)), ?_⟩
 rcases h with h | h | h
 ·obtain ⟨r, rl, rh, rfl, hS, q⟩ := h
  exact ⟨_, rfl, _, rfl, _, rfl, .inr (.inl ⟨r, rl, rh, rfl, hS, q⟩)⟩
 ·obtain ⟨r, rl, rh, fs, lo, hi, rfl, hc, gf, nf, bf, lf, hlo, hhi, hlt, blo, bhi, q⟩ := h
  exact ⟨_, rfl, _, rfl, _, rfl, .inr (.inr (.inl ⟨r, rl, rh, fs, lo, hi, rfl, hc, gf, nf, bf, lf, hlo, hhi, hlt, blo, bhi, q⟩))⟩
 obtain ⟨r, rl, rh, fs, lo, hi, rfl, hc, gf, nf, bf, lf, cop, top1, hlo, hhi, hlt, blo, bhi, dlo, dhi, q1, q2⟩ := h
 have P1 : 1 ≤ sizeLine := by decide
 refine ⟨_, rfl, _, rfl, _, rfl, .inr (.inr (.inr ⟨r, rl, rh, fs, lo, hi, rfl, hc, gf, nf, bf, lf, cop, top1, hlo, hhi, hlt, blo, bhi, dlo, dhi, fun ps p H1 ys e s1 hp ep hps => ?_, fun H1 e s1 => q2 H1 e s1⟩))⟩
 obtain ⟨D, d0, d1, y1, y2⟩ := Dy.start2 blo dlo bhi dhi
 have hrb := II d0 d1 16 0 lo hi ps (by decide) y1 y2 e
 have hpl := (GV fs 16 lo hi ps e).2
 have hyl := hps.length
 refine ⟨_, rfl, P1, fun la hla => ?_⟩
 have s2 := Ag.new (o := .lst [.ref rl]) hla
 refine Cd ⟨_, rfl, p, rfl, ⟨_, SqL.of (s2 _ _ ep)⟩, ?_⟩
 have hps0 := Pcs.same hps s2
 have ep0 := s2 _ _ ep
 have ela := Ad (H := H1) (a := la) (o := .lst [.ref rl])
 have s12 := s1.trans s2
 generalize upd H1 la (.lst [.ref rl]) = G0 at hps0 ep0 ela s12 ⊢
 refine DN (xs := ys) (fun i zs H' => H' = G0 ∧ AS K G0 zs ((ps.take i).map fun t => t.2.1) ∧ zs.length = i) ⟨rfl, .nil, rfl⟩ (fun i zs H' hi h => ⟨by rw [h.1]; exact SqL.of ep0, h.2.2⟩) (QU (show ys.length ≤ 300000 by lia) (by decide)) ?_ ?_
 ·rintro i v zs H' hv ⟨rfl, hz, hzl⟩
  obtain ⟨t, ht, pp, ra, rb, rfl, hS, na, nb⟩ := Paired.get hps0 hv
  refine ⟨_, rfl, pp, _, _, _, rfl, rfl, hS, AA (j := 1) rfl, rfl, ?_, by rw [Rw, hzl]; rfl⟩
  rw [Sd, ht]
  show AS K _ _ ((ps.take i ++ [t]).map fun t => t.2.1)
  rw [Se]
  exact Paired.snoc hz nb
 rintro zs H' ⟨rfl, hz, hzl⟩ p2 hp2
 rw [hyl, Sf] at hz
 have s3 := Ag.new (o := .lst zs) hp2
 refine ⟨la, p2, [.ref rl], zs, rfl, rfl, s3 _ _ ela, Ad, QU (show _ ≤ 300000 by rw [RJ]; lia) (by decide), fun en hen => ?_⟩
 have s4 := s3.trans (Ag.new (o := .lst ([.ref rl] ++ zs)) hen)
 have een := Ad (H := upd H' p2 (.lst zs)) (a := en) (o := .lst ([.ref rl] ++ zs))
 have hes : AS K (upd (upd H' p2 (.lst zs)) en (.lst ([.ref rl] ++ zs))) ([.ref rl] ++ zs) (lo :: ps.map fun t => t.2.1) := .cons ((hlo.same s12).same s4) (AS.same hz s4)
 have s14 := s12.trans s4
 have hps4 := Pcs.same hps0 s4
 have ep4 := s4 _ _ ep0
 generalize upd (upd H' p2 (.lst zs)) en (.lst ([.ref rl] ++ zs)) = G1 at een hes s14 hps4 ep4 ⊢
 have hbe : ∀ e ∈ (lo :: ps.map fun t => t.2.1), RB 120 e := fun e he => by
  rcases QZ.mp he with z | z
  ·rw [z]; exact blo.mono (by decide)
  ·obtain ⟨t, ht, rfl⟩ := Tt.mp z
   exact (hrb t ht).2
 have hel : (lo :: ps.map fun t => t.2.1).length = ps.length + 1 := by rw [S9, Rx]
 generalize (lo :: ps.map fun t => t.2.1) = es at hes hbe hel
 generalize ([V.ref rl] ++ zs) = us at een hes
 have hul := hes.length
 have hsz : (120 + 1) * ((fs.length + 4) * (fs.length + 4)) ≤ 121 * (10 * 10) := TR _ (Tr (by lia) (by lia))
 refine Cd ⟨_, rfl, en, rfl, ⟨_, SqL.of een⟩, ?_⟩
 refine Js (xs := us) (fun i zs' H' => Ag G1 H' ∧ zs'.length ≤ i) ⟨Ag.refl _, R8 _⟩ (fun i zs' H' hi h => ⟨SqL.of (h.1 _ _ een), h.2⟩) (QU (show us.length ≤ 300000 by lia) (by decide)) ?_ ?_
 ·rintro i v zs' H' hv ⟨sg, hzc⟩
  obtain ⟨x, hx, rx, rfl, hrx⟩ := Paired.get hes hv
  refine ⟨_, rfl, _, rfl, r, rx, fs, x, 120, rfl, (hc.same s14).same sg, ⟨rx, rfl, hrx.same sg⟩, (fun q hq => (bf q hq).mono (by decide)), hbe x (Rv hx), by lia, by lia, fun t G' s' et => ?_⟩
  refine eqN (Au.of et) (n_NOUGHT _) ?_
  refine ⟨_, rfl, ?_⟩
  exact FX (fun _ => ⟨_, rfl, sg.trans s', by rw [Rw, RJ]; lia⟩) (fun _ => ⟨sg.trans s', by lia⟩)
 rintro zs' H2 ⟨sg, hzc⟩ ae hae
 have s5 := sg.trans (Ag.new (o := .lst zs') hae)
 have eae := Ad (H := H2) (a := ae) (o := .lst zs')
 generalize upd H2 ae (.lst zs') = G2 at s5 eae ⊢
 refine ⟨_, rfl, ae, zs', rfl, .inl (SqL.of eae), ?_⟩
 have ep5 := s5 _ _ ep4
 have hps5 := Pcs.same hps4 s5
 refine Cd ⟨_, rfl, p, rfl, ⟨_, SqL.of ep5⟩, ?_⟩
 refine DN (xs := ys) (fun i zs H' => H' = G2 ∧ zs = ((ps.take i).map fun t => ((t.2.2 : Nat) : Int)).map V.int ∧ zs.length = i) ⟨rfl, rfl, rfl⟩ (fun i zs H' hi h => ⟨by rw [h.1]; exact SqL.of ep5, h.2.2⟩) (QU (show ys.length ≤ 300000 by lia) (by decide)) ?_ ?_
 ·rintro i v zs H' hv ⟨rfl, hz, hzl⟩
  obtain ⟨t, ht, pp, ra, rb, rfl, hS, na, nb⟩ := Paired.get hps5 hv
  refine ⟨_, rfl, pp, _, _, _, rfl, rfl, hS, AA (j := 2) rfl, rfl, ?_, by rw [Rw, hzl]; rfl⟩
  rw [Sd, ht, hz]
  show _ = ((ps.take i ++ [t]).map fun t => ((t.2.2 : Nat) : Int)).map V.int
  rw [Se, Se]
  rfl
 rintro zs H' ⟨rfl, hz, hzl⟩ sl hsl
 rw [hyl, Sf] at hz
 refine ⟨sl, ps.map fun t => ((t.2.2 : Nat) : Int), rfl, by rw [Ad, hz], _, _, rfl, rfl, ?_⟩
 exact q1 ps _ _ e (s14.trans (s5.trans (Ag.new (o := .lst zs) hsl)))
theorem CV : As ["_law_way", "_law_curve_here", "_law_low", "_law_high", "_law_word_here", "e"] ["_law_way", "_law_curve_here", "_law_low", "_law_high"] (Af (top 60)) := ⟨rfl, rfl, rfl, by decide +kernel, rfl, by decide +kernel, by decide +kernel⟩
theorem Hd {f : Addr} {fd : FuncData} (F : Fun K "_law_word" "_law_word" (top 60) f fd) {a_CurveError a_TooMany a_NoPoints a_NoPoint a_NoNumber a_NoCurve a_NoStretch a_TooDeep a_TooFew a_NoText a_NoRow : Addr} (c_CurveError : mg "CurveError" = some (.ref a_CurveError)) (xm_NoCurve : TC K (.ref a_NoCurve) (.ref a_CurveError) = some true) (xr_NoCurve : J2 K a_NoCurve [a_TooMany, a_NoPoints, a_NoPoint, a_NoNumber, a_NoCurve, a_NoStretch, a_TooDeep, a_TooFew, a_NoText, a_NoRow] 4) (xm_NoStretch : TC K (.ref a_NoStretch) (.ref a_CurveError) = some true) (xr_NoStretch : J2 K a_NoStretch [a_TooMany, a_NoPoints, a_NoPoint, a_NoNumber, a_NoCurve, a_NoStretch, a_TooDeep, a_TooFew, a_NoText, a_NoRow] 5) (xm_TooDeep : TC K (.ref a_TooDeep) (.ref a_CurveError) = some true) (xr_TooDeep : J2 K a_TooDeep [a_TooMany, a_NoPoints, a_NoPoint, a_NoNumber, a_NoCurve, a_NoStretch, a_TooDeep, a_TooFew, a_NoText, a_NoRow] 6) (H__law_refusal : FdH P w K mg base 33 "_law_refusal" "_law_caught" (IE K [a_TooMany, a_NoPoints, a_NoPoint, a_NoNumber, a_NoCurve, a_NoStretch, a_TooDeep, a_TooFew, a_NoText, a_NoRow])) (Y_heights_of : FdY P w K mg base 37 "heights_of" ["curve", "low", "high"] (fun vs H Q E => (DF K : Sp) vs H Q E ∨ (BY K a_NoStretch : Sp) vs H Q E)) (Y_bounds_of : FdY P w K mg base 38 "bounds_of" ["curve", "low", "high"] (fun vs H Q E => (HL K : Sp) vs H Q E ∨ (BY K a_NoStretch : Sp) vs H Q E)) (Y_pieces_of : FdY P w K mg base 38 "pieces_of" ["curve", "low", "high"] (fun vs H Q E => ((fun _ _ _ _ => False : Sp) : Sp) vs H Q E ∨ ((fun vs H Q E => (D7 K a_NoCurve : Sp) vs H Q E ∨ (D6 K a_NoStretch : Sp) vs H Q E ∨ (ET K a_TooDeep : Sp) vs H Q E : Sp) : Sp) vs H Q E)) (Y_noughts_of : FdY P w K mg base 39 "noughts_of" ["curve", "low", "high"] (fun vs H Q E => ((fun _ _ _ _ => False : Sp) : Sp) vs H Q E ∨ ((fun vs H Q E => (D7 K a_NoCurve : Sp) vs H Q E ∨ (D6 K a_NoStretch : Sp) vs H Q E ∨ (Ga K a_TooDeep : Sp) vs H Q E : Sp) : Sp) vs H Q E)) (Pq : Fd P w K mg base 37 "heights_of" ["curve", "low", "high"] (DF K)) (F_bounds_of : Fd P w K mg base 38 "bounds_of" ["curve", "low", "high"] (HL K)) (Qg : Fd P w K mg base 38 "pieces_of" ["curve", "low", "high"] ((fun _ _ _ _ => False : Sp))) (F_noughts_of : Fd P w K mg base 39 "noughts_of" ["curve", "low", "high"] ((fun _ _ _ _ => False : Sp))) (hT : P.given.tree = none) :
 AI P w K mg base CX0 40 f fd ["_law_way", "_law_curve_here", "_law_low", "_law_high"] (GA K) := by
 refine F.ok CV (fun vs H Q E h => ?_) (fun cdv A outer s H vs Q E hr h => ?_)
 ·obtain ⟨_, _, _, _, _, _, rfl, _⟩ := h; rfl
 refine ⟨_, (Ae (K := K) (Aj (i := 4) CV.nd rfl (Or.inl rfl) Fb)
  (Ae (K := K) (M6 (KL (Av Cz (pv 0) Ab (Ay _)) (EJ Y_heights_of hr rfl (Aa (pv 1) (Aa (pv 2) (Aa (pv 3) Ac)))) (KL (Av Cz (pv 0) Ab (Ay _)) (EJ Y_bounds_of hr rfl (Aa (pv 1) (Aa (pv 2) (Aa (pv 3) Ac)))) (KL (Av Cz (pv 0) Ab (Ay _)) (EJ Y_pieces_of hr rfl (Aa (pv 1) (Aa (pv 2) (Aa (pv 3) Ac)))) (EJ Y_noughts_of hr rfl (Aa (pv 1) (Aa (pv 2) (Aa (pv 3) Ac))))))) H__law_refusal hr rfl rfl c_CurveError CV.nd (i := 5) rfl rfl (j := 4) rfl rfl rfl rfl)
  (Ai (Aw (pv 4))) (by rfl)) (by rfl)), ?_⟩
 obtain ⟨w, r, rl, rh, lo, hi, rfl, w0, w4, hlo, hhi, blo, bhi, hq⟩ := h
 have hw : w = 0 ∨ w = 1 ∨ w = 2 ∨ w = 3 := by lia
 refine ⟨_, rfl, rfl, _, rfl, ?_⟩
 rcases hq with ⟨hS, q⟩ | ⟨fs, hc, gf, nf, bf, lf, hlt, q⟩ | ⟨fs, hc, gf, nf, bf, lf, cop, top1, hlt, dlo, dhi, q⟩
 ·rcases hw with rfl | rfl | rfl | rfl
  ·refine Bs (by first | rfl | decide) ⟨_, rfl, _, rfl, _, rfl, ?_⟩
   by_cases hlt : lo < hi
   ·replace q : ∀ H', Ag H H' → Q .non H' := fun H' s => by have := q H' s; rw [if_pos (by decide), if_pos hlt] at this; exact this
    exact .inl ⟨r, rl, rh, [], lo, hi, 100, rfl, ⟨[], hS, .nil⟩, .inl rfl, hlo, hhi, hlt, (fun _ h => nomatch h), blo.mono (by decide), bhi.mono (by decide), by decide, by decide, fun p H' zs s hp e hz hb => ⟨_, rfl, q H' s⟩⟩
   ·replace q : ∀ H', Ag H H' → Q (.str (Str.ofString "stretch")) H' := fun H' s => by have := q H' s; rw [if_pos (by decide), if_neg hlt] at this; exact this
    exact .inr ⟨r, rl, rh, lo, hi, rfl, hlo, hhi, hlt, blo, bhi, ⟨xm_NoStretch, fun ea hea => ⟨a_NoStretch, 5, "stretch", rfl, xr_NoStretch, rfl, fun H2 s2 => ⟨_, rfl, q _ (s2)⟩⟩⟩⟩
  ·refine AV (by first | rfl | decide) ⟨_, rfl, rfl, _, rfl, Bs (by first | rfl | decide) ⟨_, rfl, _, rfl, _, rfl, ?_⟩⟩
   by_cases hlt : lo < hi
   ·replace q : ∀ H', Ag H H' → Q .non H' := fun H' s => by have := q H' s; rw [if_pos (by decide), if_pos hlt] at this; exact this
    exact .inl ⟨r, rl, rh, [], lo, hi, 100, rfl, ⟨[], hS, .nil⟩, .inl rfl, hlo, hhi, hlt, (fun _ h => nomatch h), blo.mono (by decide), bhi.mono (by decide), by decide, by decide, fun p H' x y m M s e hx hy m1 m2 m3 b1 b2 => ⟨_, rfl, q H' s⟩⟩
   ·replace q : ∀ H', Ag H H' → Q (.str (Str.ofString "stretch")) H' := fun H' s => by have := q H' s; rw [if_pos (by decide), if_neg hlt] at this; exact this
    exact .inr ⟨r, rl, rh, lo, hi, rfl, hlo, hhi, hlt, blo, bhi, ⟨xm_NoStretch, fun ea hea => ⟨a_NoStretch, 5, "stretch", rfl, xr_NoStretch, rfl, fun H2 s2 => ⟨_, rfl, q _ (s2)⟩⟩⟩⟩
  ·refine AV (by first | rfl | decide) ⟨_, rfl, rfl, _, rfl, AV (by first | rfl | decide) ⟨_, rfl, rfl, _, rfl, Bs (by first | rfl | decide) ⟨_, rfl, _, rfl, _, rfl, ?_⟩⟩⟩
   replace q : ∀ H', Ag H H' → Q (.str (Str.ofString "curve")) H' := fun H' s => by have := q H' s; rw [if_neg (by decide)] at this; exact this
   exact .inr (.inl ⟨r, rl, rh, rfl, hS, ⟨xm_NoCurve, fun ea hea => ⟨a_NoCurve, 4, "curve", rfl, xr_NoCurve, rfl, fun H2 s2 => ⟨_, rfl, q _ s2⟩⟩⟩⟩)
  ·refine AV (by first | rfl | decide) ⟨_, rfl, rfl, _, rfl, AV (by first | rfl | decide) ⟨_, rfl, rfl, _, rfl, AV (by first | rfl | decide) ⟨_, rfl, _, rfl, _, rfl, ?_⟩⟩⟩
   replace q : ∀ H', Ag H H' → Q (.str (Str.ofString "curve")) H' := fun H' s => by have := q H' s; rw [if_neg (by decide)] at this; exact this
   exact .inr (.inl ⟨r, rl, rh, rfl, hS, ⟨xm_NoCurve, fun ea hea => ⟨a_NoCurve, 4, "curve", rfl, xr_NoCurve, rfl, fun H2 s2 => ⟨_, rfl, q _ s2⟩⟩⟩⟩)
 ·rcases hw with rfl | rfl | rfl | rfl
  ·refine Bs (by first | rfl | decide) ⟨_, rfl, _, rfl, _, rfl, ?_⟩
   exact .inr ⟨r, rl, rh, lo, hi, rfl, hlo, hhi, hlt, blo, bhi, ⟨xm_NoStretch, fun ea hea => ⟨a_NoStretch, 5, "stretch", rfl, xr_NoStretch, rfl, fun H2 s2 => ⟨_, rfl, q _ (s2)⟩⟩⟩⟩
  ·refine AV (by first | rfl | decide) ⟨_, rfl, rfl, _, rfl, Bs (by first | rfl | decide) ⟨_, rfl, _, rfl, _, rfl, ?_⟩⟩
   exact .inr ⟨r, rl, rh, lo, hi, rfl, hlo, hhi, hlt, blo, bhi, ⟨xm_NoStretch, fun ea hea => ⟨a_NoStretch, 5, "stretch", rfl, xr_NoStretch, rfl, fun H2 s2 => ⟨_, rfl, q _ (s2)⟩⟩⟩⟩
  ·refine AV (by first | rfl | decide) ⟨_, rfl, rfl, _, rfl, AV (by first | rfl | decide) ⟨_, rfl, rfl, _, rfl, Bs (by first | rfl | decide) ⟨_, rfl, _, rfl, _, rfl, ?_⟩⟩⟩
   exact .inr (.inr (.inl ⟨r, rl, rh, fs, lo, hi, rfl, hc, gf, nf, bf, lf, hlo, hhi, hlt, blo, bhi, fun H1 s => ⟨xm_NoStretch, fun ea hea => ⟨a_NoStretch, 5, "stretch", rfl, xr_NoStretch, rfl, fun H2 s2 => ⟨_, rfl, q _ (s.trans s2)⟩⟩⟩⟩))
  ·refine AV (by first | rfl | decide) ⟨_, rfl, rfl, _, rfl, AV (by first | rfl | decide) ⟨_, rfl, rfl, _, rfl, AV (by first | rfl | decide) ⟨_, rfl, _, rfl, _, rfl, ?_⟩⟩⟩
   exact .inr (.inr (.inl ⟨r, rl, rh, fs, lo, hi, rfl, hc, gf, nf, bf, lf, hlo, hhi, hlt, blo, bhi, fun H1 s => ⟨xm_NoStretch, fun ea hea => ⟨a_NoStretch, 5, "stretch", rfl, xr_NoStretch, rfl, fun H2 s2 => ⟨_, rfl, q _ (s.trans s2)⟩⟩⟩⟩))
 ·rcases hw with rfl | rfl | rfl | rfl
  ·refine Bs (by first | rfl | decide) ⟨_, rfl, _, rfl, _, rfl, ?_⟩
   replace q : ∀ H', Ag H H' → Q .non H' := fun H' s => by have := q H' s; rw [if_pos (.inl (by decide))] at this; exact this
   exact .inl ⟨r, rl, rh, fs, lo, hi, 100, rfl, hc, gf, hlo, hhi, hlt, bf, blo.mono (by decide), bhi.mono (by decide), by decide, by lia, fun p H' zs s hp e hz hb => ⟨_, rfl, q H' s⟩⟩
  ·refine AV (by first | rfl | decide) ⟨_, rfl, rfl, _, rfl, Bs (by first | rfl | decide) ⟨_, rfl, _, rfl, _, rfl, ?_⟩⟩
   replace q : ∀ H', Ag H H' → Q .non H' := fun H' s => by have := q H' s; rw [if_pos (.inl (by decide))] at this; exact this
   exact .inl ⟨r, rl, rh, fs, lo, hi, 100, rfl, hc, gf, hlo, hhi, hlt, bf, blo.mono (by decide), bhi.mono (by decide), by decide, by lia, fun p H' x y m M s e hx hy m1 m2 m3 b1 b2 => ⟨_, rfl, q H' s⟩⟩
  ·refine AV (by first | rfl | decide) ⟨_, rfl, rfl, _, rfl, AV (by first | rfl | decide) ⟨_, rfl, rfl, _, rfl, Bs (by first | rfl | decide) ⟨_, rfl, _, rfl, _, rfl, ?_⟩⟩⟩
   exact .inr (.inr (.inr ⟨r, rl, rh, fs, lo, hi, rfl, hc, gf, nf, bf, lf, cop, top1, hlo, hhi, hlt, blo, bhi, dlo, dhi, fun ps p H' ys e s hp ep hps => ⟨_, rfl, by have := q H' s; rw [if_pos (.inr (by rw [e]; rfl))] at this; exact this⟩, fun H' e s => by replace q : ∀ H', Ag H H' → Q (.str (Str.ofString "deep")) H' := fun H' s => (by have := q H' s; rw [if_neg (fun z => by rcases z with z | z; exact absurd z (by decide); rw [e] at z; cases z)] at this; exact this); exact ⟨xm_TooDeep, fun ea hea => ⟨a_TooDeep, 6, "deep", rfl, xr_TooDeep, rfl, fun H2 s2 => ⟨_, rfl, q _ (s.trans s2)⟩⟩⟩⟩))
  ·refine AV (by first | rfl | decide) ⟨_, rfl, rfl, _, rfl, AV (by first | rfl | decide) ⟨_, rfl, rfl, _, rfl, AV (by first | rfl | decide) ⟨_, rfl, _, rfl, _, rfl, ?_⟩⟩⟩
   exact .inr (.inr (.inr ⟨r, rl, rh, fs, lo, hi, rfl, hc, gf, nf, bf, lf, cop, top1, hlo, hhi, hlt, blo, bhi, dlo, dhi, fun ps k H' e s => ⟨_, rfl, by have := q H' s; rw [if_pos (.inr (by rw [e]; rfl))] at this; exact this⟩, fun H' e s => by replace q : ∀ H', Ag H H' → Q (.str (Str.ofString "deep")) H' := fun H' s => (by have := q H' s; rw [if_neg (fun z => by rcases z with z | z; exact absurd z (by decide); rw [e] at z; cases z)] at this; exact this); exact ⟨xm_TooDeep, fun ea hea => ⟨a_TooDeep, 6, "deep", rfl, xr_TooDeep, rfl, fun H2 s2 => ⟨_, rfl, q _ (s.trans s2)⟩⟩⟩⟩))
theorem Cj : As ["_law_script", "_law_pen_here", "_law_curve_here", "_law_high", "_law_low", "_law_way", "_law_far", "_law_further", "_law_near_here", "_law_together"] ["_law_script"] (Af (top 62)) := ⟨rfl, rfl, rfl, by decide +kernel, rfl, by decide +kernel, by decide +kernel⟩
theorem Nl {f : Addr} {fd : FuncData} (F : Fun K "law" "law" (top 62) f fd) (Qu : Fd P w K mg base 33 "_law_pen" ["_law_script", "_law_k"] (Kx K)) (Pz : Fd P w K mg base 34 "_law_number" ["_law_pen_here"] (Jb 40)) (Pp : Fd P w K mg base 34 "_law_plus" ["_law_a", "_law_b"] (BO K (· + ·))) (Qv : Fd P w K mg base 35 "_law_near" ["_law_pen_here"] (EV K)) (Qw : Fd P w K mg base 35 "_law_curve" ["_law_pen_here", "_law_most"] (GH K 40)) (Pg : Fd P w K mg base 40 "_law_word" ["_law_way", "_law_curve_here", "_law_low", "_law_high"] (GA K)) (OY : Fd P w K mg base 33 "_law_draw" ["_law_pen_here", "_law_many"] (Ej)) (OX : mg "range" = none) (b_int : mg "int" = none) (hT : P.given.tree = none) :
 AI P w K mg base CX0 41 f fd ["_law_script"] (HK K) := by
 refine F.ok Cj (fun vs H Q E h => ?_) (fun cdv A outer s H vs Q E hr h => ?_)
 ·obtain ⟨_, _, rfl, _⟩ := h; rfl
 refine ⟨_, (@Ae _ _ _ _ _ K _ (@Aj _ _ 1 _ _ _ _ Cj.nd rfl (Or.inl rfl) (@Am _ _ _ _ _ _ _ _ _ _ _ Qu hr rfl (@Aa _ _ _ _ _ (pv 0) (@Aa _ _ _ _ _ Ab Ac (by rfl)) (by rfl)) (by decide) (by decide) (by rfl) (by rfl)) (by rfl) (by first   | exact .inl rfl   | exact .inr rfl   | assumption)) (@Ae _ _ _ _ _ K _ (@Aj _ _ 2 _ _ _ _ Cj.nd rfl (Or.inl rfl) (@Ah _ _ _ _ _ _ _ _ (Ov K) (@Am _ _ _ _ _ _ _ _ _ _ _ Qw hr rfl (@Aa _ _ _ _ _ (pv 1) (@Aa _ _ _ _ _ Ab Ac (by rfl)) (by rfl)) (by decide) (by decide) (by rfl) (by rfl)) (@Ax _ _ _ _ _ (@Aa _ _ _ _ _ (@Ax _ _ _ _ _ (@Aa _ _ _ _ _ Ab (@Aa _ _ _ _ _ (@Ah _ _ _ _ _ _ _ _ AF Ab (@Am _ _ _ _ _ _ _ _ _ _ _ OY hr rfl (@Aa _ _ _ _ _ (pv 1) (@Aa _ _ _ _ _ Ab Ac (by rfl)) (by rfl)) (by decide) (by decide) (by rfl) (by rfl))) Ac (by rfl)) (by rfl))) Ac (by rfl)))) (by rfl) (by first   | exact .inl rfl   | exact .inr rfl   | assumption)) (@Ae _ _ _ _ _ K _ (@Aj _ _ 3 _ _ _ _ Cj.nd rfl (Or.inl rfl) (@Am _ _ _ _ _ _ _ _ _ _ _ Pz hr rfl (@Aa _ _ _ _ _ (pv 1) Ac (by rfl)) (by decide) (by decide) (by rfl) (by rfl)) (by rfl) (by first   | exact .inl rfl   | exact .inr rfl   | assumption)) (@Ae _ _ _ _ _ K _ (@Aj _ _ 4 _ _ _ _ Cj.nd rfl (Or.inl rfl) (@Am _ _ _ _ _ _ _ _ _ _ _ Pp hr rfl (@Aa _ _ _ _ _ (pv 3) (@Aa _ _ _ _ _ (@Ak _ _ _ _ _ _ _ (ixL K) (@AU _ _ _ _ (@Aa _ _ _ _ _ (@Ax _ _ _ _ _ (@Aa _ _ _ _ _ Ab (@Aa _ _ _ _ _ Ab Ac (by rfl)) (by rfl))) (@Aa _ _ _ _ _ (@Ax _ _ _ _ _ (@Aa _ _ _ _ _ Ab (@Aa _ _ _ _ _ Ab Ac (by rfl)) (by rfl))) (@Aa _ _ _ _ _ (@Ax _ _ _ _ _ (@Aa _ _ _ _ _ (@Ah _ _ _ _ _ _ _ _ CW Ab Ab) (@Aa _ _ _ _ _ Ab Ac (by rfl)) (by rfl))) Ac (by rfl)) (by rfl)) (by rfl))) (@Am _ _ _ _ _ _ _ _ _ _ _ OY hr rfl (@Aa _ _ _ _ _ (pv 1) (@Aa _ _ _ _ _ Ab Ac (by rfl)) (by rfl)) (by decide) (by decide) (by rfl) (by rfl)) (fun u v => rfl)) Ac (by rfl)) (by rfl)) (by decide) (by decide) (by rfl) (by rfl)) (by rfl) (by first   | exact .inl rfl   | exact .inr rfl   | assumption)) (@Ae _ _ _ _ _ K _ (@BK _ _ _ _ _ _ _ _ K _ PassesOwn.never rfl (@BA _ _ _ _ _ _ rfl OX (@Aa _ _ _ _ _ Ab Ac (by rfl)) (by rfl)) (@AE _ _ 5 _ Cj.nd rfl (Or.inl rfl) (by first   | exact .inl rfl   | exact .inr rfl   | assumption)) (@Ae _ _ _ _ _ K _ (@AX _ _ _ _ _ _ _ _ K _ _ (@Av _ _ _ _ _ _ _ _ DI (@Am _ _ _ _ _ _ _ _ _ _ _ Pg hr rfl (@Aa _ _ _ _ _ (pv 5) (@Aa _ _ _ _ _ (pv 2) (@Aa _ _ _ _ _ (pv 4) (@Aa _ _ _ _ _ (pv 3) Ac (by rfl)) (by rfl)) (by rfl)) (by rfl)) (by decide) (by decide) (by rfl) (by rfl)) Bk (Ay _)) (@Ai _ _ _ (@Aw _ _ _ _ Gd)) AO (by rfl) (by rfl)) (@Ae _ _ _ _ _ K _ (@AX _ _ _ _ _ _ _ _ K _ _ (@Av _ _ _ _ _ _ _ _ DI (@Am _ _ _ _ _ _ _ _ _ _ _ Pg hr rfl (@Aa _ _ _ _ _ (pv 5) (@Aa _ _ _ _ _ (@Ax _ _ _ _ _ Ac) (@Aa _ _ _ _ _ (pv 4) (@Aa _ _ _ _ _ (pv 3) Ac (by rfl)) (by rfl)) (by rfl)) (by rfl)) (by decide) (by decide) (by rfl) (by rfl)) (@Ak _ _ _ _ _ _ _ (ixL K) (@AU _ _ _ _ (@Aa _ _ _ _ _ Bk (@Aa _ _ _ _ _ Bk (@Aa _ _ _ _ _ Bk (@Aa _ _ _ _ _ Bk Ac (by rfl)) (by rfl)) (by rfl)) (by rfl))) (pv 5) (fun u v => rfl)) (Ay _)) (@Ai _ _ _ (@Aw _ _ _ _ Gd)) AO (by rfl) (by rfl)) (@Ai _ _ _ (@AX _ _ _ _ _ _ _ _ K _ _ (@Av _ _ _ _ _ _ _ _ DI (@Am _ _ _ _ _ _ _ _ _ _ _ Pg hr rfl (@Aa _ _ _ _ _ (pv 5) (@Aa _ _ _ _ _ (@Ax _ _ _ _ _ Ac) (@Aa _ _ _ _ _ (pv 3) (@Aa _ _ _ _ _ (@Am _ _ _ _ _ _ _ _ _ _ _ Pp hr rfl (@Aa _ _ _ _ _ (pv 4) (@Aa _ _ _ _ _ (@Ax _ _ _ _ _ (@Aa _ _ _ _ _ Ab (@Aa _ _ _ _ _ Ab Ac (by rfl)) (by rfl))) Ac (by rfl)) (by rfl)) (by decide) (by decide) (by rfl) (by rfl)) Ac (by rfl)) (by rfl)) (by rfl)) (by rfl)) (by decide) (by decide) (by rfl) (by rfl)) (@Ak _ _ _ _ _ _ _ (ixL K) (@AU _ _ _ _ (@Aa _ _ _ _ _ Fb (@Aa _ _ _ _ _ Fb (@Aa _ _ _ _ _ Bk (@Aa _ _ _ _ _ Bk Ac (by rfl)) (by rfl)) (by rfl)) (by rfl))) (pv 5) (fun u v => rfl)) (Ay _)) (@Ai _ _ _ (@Aw _ _ _ _ Gd)) AO (by rfl) (by rfl))) (by rfl)) (by rfl)) (by rfl) (by intro _; rfl)) (@Ae _ _ _ _ _ K _ (@Aj _ _ 6 _ _ _ _ Cj.nd rfl (Or.inl rfl) (@Ax _ _ _ _ _ (@Aa _ _ _ _ _ (@Ah _ _ _ _ _ _ _ _ AF (@Ah _ _ _ _ _ _ _ _ CW Ab Ab) (@Am _ _ _ _ _ _ _ _ _ _ _ OY hr rfl (@Aa _ _ _ _ _ (pv 1) (@Aa _ _ _ _ _ Ab Ac (by rfl)) (by rfl)) (by decide) (by decide) (by rfl) (by rfl))) (@Aa _ _ _ _ _ Ab Ac (by rfl)) (by rfl))) (by rfl) (by first   | exact .inl rfl   | exact .inr rfl   | assumption)) (@Ae _ _ _ _ _ K _ (@Aj _ _ 7 _ _ _ _ Cj.nd rfl (Or.inl rfl) (@Am _ _ _ _ _ _ _ _ _ _ _ Pp hr rfl (@Aa _ _ _ _ _ (pv 6) (@Aa _ _ _ _ _ (@Ax _ _ _ _ _ (@Aa _ _ _ _ _ Ab (@Aa _ _ _ _ _ (@Ah _ _ _ _ _ _ _ _ AF Ab (@Am _ _ _ _ _ _ _ _ _ _ _ OY hr rfl (@Aa _ _ _ _ _ (pv 1) (@Aa _ _ _ _ _ Ab Ac (by rfl)) (by rfl)) (by decide) (by decide) (by rfl) (by rfl))) Ac (by rfl)) (by rfl))) Ac (by rfl)) (by rfl)) (by decide) (by decide) (by rfl) (by rfl)) (by rfl) (by first   | exact .inl rfl   | exact .inr rfl   | assumption)) (@Ae _ _ _ _ _ K _ (@BK _ _ _ _ _ _ _ _ K _ PassesOwn.never rfl (@BA _ _ _ _ _ _ rfl OX (@Aa _ _ _ _ _ Ab Ac (by rfl)) (by rfl)) (@AE _ _ 5 _ Cj.nd rfl (Or.inl rfl) (by first   | exact .inl rfl   | exact .inr rfl   | assumption)) (@Ae _ _ _ _ _ K _ (@AX _ _ _ _ _ _ _ _ K _ _ (@Av _ _ _ _ _ _ _ _ Ma (@Am _ _ _ _ _ _ _ _ _ _ _ Pg hr rfl (@Aa _ _ _ _ _ (pv 5) (@Aa _ _ _ _ _ (@Ax _ _ _ _ _ (@Aa _ _ _ _ _ (@Ax _ _ _ _ _ (@Aa _ _ _ _ _ Ab (@Aa _ _ _ _ _ Ab Ac (by rfl)) (by rfl))) (@Aa _ _ _ _ _ (@Ax _ _ _ _ _ (@Aa _ _ _ _ _ Ab (@Aa _ _ _ _ _ Ab Ac (by rfl)) (by rfl))) Ac (by rfl)) (by rfl))) (@Aa _ _ _ _ _ (pv 6) (@Aa _ _ _ _ _ (pv 7) Ac (by rfl)) (by rfl)) (by rfl)) (by rfl)) (by decide) (by decide) (by rfl) (by rfl)) Fb (Ay _)) (@Ai _ _ _ (@Aw _ _ _ _ Gd)) AO (by rfl) (by rfl)) (@Ai _ _ _ (@AX _ _ _ _ _ _ _ _ K _ _ (@Av _ _ _ _ _ _ _ _ DI (@Am _ _ _ _ _ _ _ _ _ _ _ Pg hr rfl (@Aa _ _ _ _ _ (pv 5) (@Aa _ _ _ _ _ (@Ax _ _ _ _ _ (@Aa _ _ _ _ _ (@Ax _ _ _ _ _ (@Aa _ _ _ _ _ Ab (@Aa _ _ _ _ _ Ab Ac (by rfl)) (by rfl))) (@Aa _ _ _ _ _ (@Ax _ _ _ _ _ (@Aa _ _ _ _ _ Ab (@Aa _ _ _ _ _ Ab Ac (by rfl)) (by rfl))) Ac (by rfl)) (by rfl))) (@Aa _ _ _ _ _ (pv 7) (@Aa _ _ _ _ _ (pv 6) Ac (by rfl)) (by rfl)) (by rfl)) (by rfl)) (by decide) (by decide) (by rfl) (by rfl)) Bk (Ay _)) (@Ai _ _ _ (@Aw _ _ _ _ Gd)) AO (by rfl) (by rfl))) (by rfl)) (by rfl) (by intro _; rfl)) (@Ae _ _ _ _ _ K _ (@Em _ _ _ _ _ _ (@Am _ _ _ _ _ _ _ _ _ _ _ Qv hr rfl (@Aa _ _ _ _ _ (pv 1) Ac (by rfl)) (by decide) (by decide) (by rfl) (by rfl)) (@pgT _ K _ _ _ 2 _ rfl (DX (@AE _ _ 8 _ Cj.nd rfl (Or.inl rfl) (by first   | exact .inl rfl   | exact .inr rfl   | assumption)) (DX (@AE _ _ 9 _ Cj.nd rfl (Or.inl rfl) (by first   | exact .inl rfl   | exact .inr rfl   | assumption)) Jj)) (by rfl) (by rfl) (by rfl)) (by rfl) (by rfl) (by rfl)) (@Ae _ _ _ _ _ K _ (@BK _ _ _ _ _ _ _ _ K _ PassesOwn.never rfl (@Ep _ _ _ _ _ _ _ rfl OX (@Aa _ _ _ _ _ Ab (@Aa _ _ _ _ _ Ab Ac (by rfl)) (by rfl)) (by rfl) (by rfl)) (@AE _ _ 5 _ Cj.nd rfl (Or.inl rfl) (by first   | exact .inl rfl   | exact .inr rfl   | assumption)) (@Ai _ _ _ (@AX _ _ _ _ _ _ _ _ K _ _ (@Av _ _ _ _ _ _ _ _ DI (@Am _ _ _ _ _ _ _ _ _ _ _ Pg hr rfl (@Aa _ _ _ _ _ (pv 5) (@Aa _ _ _ _ _ (pv 8) (@Aa _ _ _ _ _ (@Ax _ _ _ _ _ (@Aa _ _ _ _ _ Ab (@Aa _ _ _ _ _ Ab Ac (by rfl)) (by rfl))) (@Aa _ _ _ _ _ (@Ax _ _ _ _ _ (@Aa _ _ _ _ _ Ab (@Aa _ _ _ _ _ Ab Ac (by rfl)) (by rfl))) Ac (by rfl)) (by rfl)) (by rfl)) (by rfl)) (by decide) (by decide) (by rfl) (by rfl)) (@Ak _ _ _ _ _ _ _ (ixL K) (@AU _ _ _ _ (@Aa _ _ _ _ _ Fb (@Aa _ _ _ _ _ Bk Ac (by rfl)) (by rfl))) (@Ct _ _ _ _ _ _ _ _ _ Kh rfl b_int NM (@Aa _ _ _ _ _ (pv 9) Ac (by rfl)) (by decide) (by decide) (by rfl) (by rfl)) (fun u v => rfl)) (Ay _)) (@Ai _ _ _ (@Aw _ _ _ _ Gd)) AO (by rfl) (by rfl))) (by rfl) (by intro _; rfl)) (@Ai _ _ _ (@Aw _ _ _ _ (@Dx _ _ _ _ _ _ _ _ Cz (@Am _ _ _ _ _ _ _ _ _ _ _ Pg hr rfl (@Aa _ _ _ _ _ Ab (@Aa _ _ _ _ _ (pv 8) (@Aa _ _ _ _ _ (@Ax _ _ _ _ _ (@Aa _ _ _ _ _ (@CM _ _ _ _ _ _ BX Ab) (@Aa _ _ _ _ _ Ab Ac (by rfl)) (by rfl))) (@Aa _ _ _ _ _ (@Ax _ _ _ _ _ (@Aa _ _ _ _ _ Ab (@Aa _ _ _ _ _ Ab Ac (by rfl)) (by rfl))) Ac (by rfl)) (by rfl)) (by rfl)) (by rfl)) (by decide) (by decide) (by rfl) (by rfl)) (@Am _ _ _ _ _ _ _ _ _ _ _ Pg hr rfl (@Aa _ _ _ _ _ Ab (@Aa _ _ _ _ _ (pv 8) (@Aa _ _ _ _ _ (@Ax _ _ _ _ _ (@Aa _ _ _ _ _ (@CM _ _ _ _ _ _ BX Ab) (@Aa _ _ _ _ _ Ab Ac (by rfl)) (by rfl))) (@Aa _ _ _ _ _ (@Ax _ _ _ _ _ (@Aa _ _ _ _ _ Ab (@Aa _ _ _ _ _ Ab Ac (by rfl)) (by rfl))) Ac (by rfl)) (by rfl)) (by rfl)) (by rfl)) (by decide) (by decide) (by rfl) (by rfl)) (Ay _)))) (by rfl)) (by rfl)) (by rfl)) (by rfl)) (by rfl)) (by rfl)) (by rfl)) (by rfl)) (by rfl)) (by rfl)), ?_⟩
 obtain ⟨a, ns, rfl, hS, h63, q⟩ := h
 have P0 : 0 ≤ sizeLine := by decide
 have P1 : 1 ≤ sizeLine := by decide
 have P2 : 2 ≤ sizeLine := by decide
 have P3 : 3 ≤ sizeLine := by decide
 have P4 : 4 ≤ sizeLine := by decide
 have C9 : FF 10 9 := by unfold FF; decide
 have C20 : FF 10 20 := by unfold FF; decide
 refine ⟨_, rfl, a, ns, 0, rfl, hS, h63, by decide, by decide, fun p c0 c1 hp => ?_⟩
 have pn : Pen (upd H p (.lst [.int c0, .int c1, .int 0])) p := .put
 generalize upd H p (.lst [.int c0, .int c1, .int 0]) = H1 at pn ⊢
 try dsimp only
 refine EW (s := IC _ _) (L3 p K a fun p K a σ' H' => Pen H' p ∧ ∃ (c : Addr) (fs : List Rat), Crv K H' c fs ∧ AN fs ∧ fs ≠ [] ∧ fs.length ≤ 6 ∧ (∀ q ∈ fs, RB 100 q) ∧ σ' = [some (.ref a), some (.ref p), some (.ref c), none, none, none, none, none, none, none]) (fun nx hnx => ?_) ?_
 ·refine ⟨_, rfl, p, 4, rfl, pn, by decide, by decide, fun cs c H2 m2 p2 hc hg hcl hbc => ?_⟩
  refine ⟨_, rfl, p, 4, rfl, p2, by decide, by decide, fun d H3 d0 d1 o3 p3 => ⟨_, _, rfl, rfl, P2, fun t1 ht1 => ⟨P1, fun t2 ht2 => ?_⟩⟩⟩
  have s4 : Ag H3 (upd (upd H3 t1 (.tup [.int 1, .int (1 + d)])) t2 (.tup [.ref t1])) := (Ag.new ht1).trans (Ag.new ht2)
  have e1 : Au K (upd (upd H3 t1 (.tup [.int 1, .int (1 + d)])) t2 (.tup [.ref t1])) (.ref t1) (Bl (1 + d)) := Au.of (by rw [(Ag.new ht2) _ _ Ad, EL (by lia)])
  have e2 : (upd (upd H3 t1 (.tup [.int 1, .int (1 + d)])) t2 (.tup [.ref t1])) t2 = some (.tup [.ref t1]) := Ad
  have pG := p3.sm s4
  have cG := (hc.mv p2 o3.mv).same s4
  generalize upd (upd H3 t1 (.tup [.int 1, .int (1 + d)])) t2 (.tup [.ref t1]) = G at e1 e2 pG cG ⊢
  have ib : RB 100 (Bl (1 + d)) := (EK (n := 8) (by lia) (by unfold Bd; lia)).mono (by decide)
  have ip : Bl (1 + d) ≠ 0 := by have := E7 (B := 1 + d) (by lia); grind
  have hb2 : ∀ q ∈ cs ++ [Bl (1 + d)], RB 100 q := fun q hq => by
   rcases R0.mp hq with z | z
   ·exact (hbc q z).mono (by decide)
   ·rw [Ss.mp z]; exact ib
  have hg2 : AN (cs ++ [Bl (1 + d)]) := .inr ⟨_, by simp, ip⟩
  have hl2 : (cs ++ [Bl (1 + d)]).length ≤ 6 := by rw [Rw]; simp; lia
  obtain ⟨xs, hxs, hn⟩ := cG
  by_cases hx : xs = []
  ·subst hx
   have ec : cs = [] := by cases hn; rfl
   subst ec
   exact .inr ⟨c, t2, _, rfl, rfl, hxs, SqT.of e2, hnx _ _ ⟨pG, t2, _, ⟨_, SqT.of e2, .cons e1 .nil⟩, hg2, by simp, hl2, hb2, rfl⟩⟩
  ·have hxl : xs.length ≤ 4 := by have := hn.length; lia
   refine .inl ⟨c, t2, xs, _, rfl, rfl, hxs, SqT.of e2, hx, QV (AW (by simp; lia)), nofun, fun _ r hr => ?_⟩
   have s5 := Ag.new (o := .tup (xs ++ [.ref t1])) hr
   exact hnx _ _ ⟨pG.sm s5, r, _, ⟨_, SqT.of Ad, Paired.snoc (AS.same hn s5) (e1.same s5)⟩, hg2, by simp, hl2, hb2, rfl⟩
 rintro σ' H2 hR1
 refine Ck hR1 fun p2 hz74 => ?_
 refine E8 hz74 fun c fs hz74' => ?_
 clear hz74
 refine IZ hz74' fun hc hg nf lf bf hq73 => ?_
 clear hz74'
 obtain rfl := hq73
 try clear hR1
 refine ⟨_, rfl, p, rfl, p2, fun hi rh H3 m3 p3 eh bn bd => ?_⟩
 have hc3 := hc.mv p2 m3
 have bh : RB 40 hi := ⟨bn, bd⟩
 clear bn bd m3
 try dsimp only
 refine EW (s := IC _ _) (L7 p K c fs rh hi a fun p K c fs rh hi a σ' H' => Pen H' p ∧ ∃ (rl : Addr) (lo : Rat), Crv K H' c fs ∧ Au K H' (.ref rh) hi ∧ Au K H' (.ref rl) lo ∧ hi ≤ lo ∧ RB 72 lo ∧ σ' = [some (.ref a), some (.ref p), some (.ref c), some (.ref rh), some (.ref rl), none, none, none, none, none]) (fun nx hnx => ?_) ?_
 ·refine ⟨_, rfl, P2, fun t1 ht1 => ⟨P2, fun t2 ht2 => ⟨_, _, rfl, rfl, C9, P2, fun t3 ht3 => ⟨P3, fun l hl => ?_⟩⟩⟩⟩
  try dsimp only at ht1 ht2 ht3 hl ⊢
  have k1 := Ag.new (o := .tup [.int 0, .int 1]) ht1
  have k2 := Ag.new (o := .tup [.int 1, .int 7]) ht2
  have k3 := Ag.new (o := .tup [.int (10 ^ (9 : Int).toNat), .int 1]) ht3
  have k4 := Ag.new (o := .lst [.ref t1, .ref t2, .ref t3]) hl
  have kA := ((k1.trans k2).trans k3).trans k4
  have n1 := (k2.trans (k3.trans k4)) _ _ Ad
  have n2 := (k3.trans k4) _ _ Ad
  have n3 := k4 _ _ Ad
  have el := Ad (H := (upd (upd (upd H3 t1 (.tup [.int 0, .int 1])) t2 (.tup [.int 1, .int 7])) t3 (.tup [.int (10 ^ (9 : Int).toNat), .int 1]))) (a := l) (o := .lst [.ref t1, .ref t2, .ref t3])
  have pG := p3.sm kA
  have hG := hc3.same kA
  have eG := kA _ _ eh
  generalize upd (upd (upd (upd H3 t1 (.tup [.int 0, .int 1])) t2 (.tup [.int 1, .int 7])) t3 (.tup [.int (10 ^ (9 : Int).toNat), .int 1])) l (.lst [.ref t1, .ref t2, .ref t3]) = G at n1 n2 n3 el pG hG eG ⊢
  refine ⟨_, rfl, p, 3, rfl, pG, by decide, by decide, fun d H4 d0 d1 o4 p4 => ?_⟩
  have m1 : H4 t1 = some (nT 0) := o4.mv _ _ (pG.ne n1 fun _ _ _ z => by cases z) n1
  have m2 : Au K H4 (.ref t2) (Bl 7) := Au.of (by rw [EL (by decide)]; exact o4.mv _ _ (pG.ne n2 fun _ _ _ z => by cases z) n2)
  have m3 : Au K H4 (.ref t3) ((10 ^ (9 : Int).toNat : Int) : Rat) := Au.of (by rw [KY]; exact o4.mv _ _ (pG.ne n3 fun _ _ _ z => by cases z) n3)
  have ml : SqL K H4 l [.ref t1, .ref t2, .ref t3] := SqL.of (o4.mv _ _ (pG.ne el fun _ _ _ z => by cases z) el)
  have mh : Au K H4 (.ref rh) hi := Au.mv (Au.of eG) pG o4.mv
  have mc := hG.mv pG o4.mv
  have hd : d = 0 ∨ d = 1 ∨ d = 2 := by lia
  have fin : ∀ (t : Addr) (x : Rat), Au K H4 (.ref t) x → 0 ≤ x → RB 31 x → ∀ u, H4 u = none → nx [some (.ref a), some (.ref p), some (.ref c), some (.ref rh), some (.ref u), none, none, none, none, none] (upd H4 u (nT (hi + x))) := fun t x hx x0 bx u hu =>
   have s5 := Ag.new (o := nT (hi + x)) hu
   hnx _ _ ⟨p4.sm s5, u, hi + x, mc.same s5, mh.same s5, Au.of Ad, by grind, bh.plus bx, rfl⟩
  have b7 : RB 31 (Bl 7) := EK (by decide) (by unfold Bd; decide)
  have bG : RB 31 ((10 ^ (9 : Int).toNat : Int) : Rat) := Lk (by unfold Bd; decide) (by decide)
  have z7 : 0 ≤ Bl 7 := U5 (E7 (by decide))
  have zG : (0 : Rat) ≤ ((10 ^ (9 : Int).toNat : Int) : Rat) := Rat.intCast_nonneg.mpr (by decide)
  rcases hd with rfl | rfl | rfl
  ·exact ⟨l, _, _, _, rfl, rfl, ml, AA (j := 0) rfl, _, _, _, _, 40, 31, rfl, mh, Au.of m1, bh, RB.zero (by decide), by decide, fin t1 0 (Au.of m1) (by decide) (RB.zero (by decide))⟩
  ·exact ⟨l, _, _, _, rfl, rfl, ml, AA (j := 1) rfl, _, _, _, _, 40, 31, rfl, mh, m2, bh, b7, by decide, fin t2 _ m2 z7 b7⟩
  ·exact ⟨l, _, _, _, rfl, rfl, ml, AA (j := 2) rfl, _, _, _, _, 40, 31, rfl, mh, m3, bh, bG, by decide, fin t3 _ m3 zG bG⟩
 clear hc3 eh
 rintro σ' H4 hR2
 refine Ck hR2 fun p4 hz76 => ?_
 refine E8 hz76 fun rl lo hz76' => ?_
 clear hz76
 refine IZ hz76' fun hc4 h4 l4 hle bl hq75 => ?_
 clear hz76'
 obtain rfl := hq75
 try clear hR2
 have nlt : ¬ lo < hi := by grind
 have bl8 : RB 80 lo := bl.mono (by decide)
 have bh8 : RB 80 hi := bh.mono (by decide)
 refine ⟨4, rfl, by decide, by decide, BN (n := 4) (L9 p K c fs rh hi rl lo a fun p K c fs rh hi rl lo a _ σ H' => Pen H' p ∧ Crv K H' c fs ∧ Au K H' (.ref rh) hi ∧ Au K H' (.ref rl) lo ∧ ∃ z5, σ = [some (.ref a), some (.ref p), some (.ref c), some (.ref rh), some (.ref rl), z5, none, none, none, none]) ⟨p4, hc4, h4, l4, none, rfl⟩ ?_ ?_⟩
 ·clear p4 hc4 h4 l4
  rintro i σ H5 hi4 hR3
  obtain ⟨p5, c5, h5, l5, z5, rfl⟩ := hR3
  try clear hR3
  obtain ⟨w, hw⟩ : ∃ w : Int, w = 0 + (i : Int) := ⟨_, rfl⟩
  have w4 : w = 0 ∨ w = 1 ∨ w = 2 ∨ w = 3 := by lia
  rw [← hw]
  clear hw hi4
  have neF : ∀ x : V, (!decide (x = x)) = false := fun x => by simp
  refine ⟨_, rfl, _, rfl, _, rfl, _, rfl, w, c, rl, rh, lo, hi, rfl, by lia, by lia, l5, h5, bl8, bh8, .inr (.inl ⟨fs, c5, hg, nf, bf, lf, nlt, fun H6 s6 => ?_⟩)⟩
  refine ⟨rfl, _, rfl, ?_⟩
  rw [neF]
  refine Dc ?_
  obtain ⟨v1, hv1⟩ : ∃ v : V, v = if w < 2 then .str (Str.ofString "stretch") else .str (Str.ofString "curve") := ⟨_, rfl⟩
  obtain ⟨v2, hv2⟩ : ∃ v : V, v = if w < 2 then .non else .str (Str.ofString "curve") := ⟨_, rfl⟩
  have a1 : atI [.str (Str.ofString "stretch"), .str (Str.ofString "stretch"), .str (Str.ofString "curve"), .str (Str.ofString "curve")] w = some v1 := by rcases w4 with rfl | rfl | rfl | rfl <;> (rw [hv1]; rfl)
  have a2 : atI [.non, .non, .str (Str.ofString "curve"), .str (Str.ofString "curve")] w = some v2 := by rcases w4 with rfl | rfl | rfl | rfl <;> (rw [hv2]; rfl)
  have sc1 : Kz v1 v1 = true := by rcases w4 with rfl | rfl | rfl | rfl <;> (rw [hv1]; rfl)
  have sc2 : Kz v2 v2 = true := by rcases w4 with rfl | rfl | rfl | rfl <;> (rw [hv2]; rfl)
  refine ⟨_, rfl, P0, fun e he => ⟨_, rfl, _, rfl, w, e, rl, rh, lo, hi, rfl, by lia, by lia, l5.same (s6.trans (Ag.new he)), h5.same (s6.trans (Ag.new he)), bl8, bh8, .inl ⟨SqT.of Ad, fun H7 s7 => ?_⟩⟩⟩
  rw [if_neg nlt, ← hv1]
  have s57 := (s6.trans (Ag.new (o := .tup []) he)).trans s7
  clear s6 s7 he
  refine ⟨P4, fun l hl => ⟨_, rfl, l, _, _, _, rfl, rfl, SqL.of Ad, a1, sc1, _, rfl, ?_⟩⟩
  rw [neF]
  refine Dc ?_
  have s58 := s57.trans (Ag.new (o := .lst [.str (Str.ofString "stretch"), .str (Str.ofString "stretch"), .str (Str.ofString "curve"), .str (Str.ofString "curve")]) hl)
  generalize upd H7 l (.lst [.str (Str.ofString "stretch"), .str (Str.ofString "stretch"), .str (Str.ofString "curve"), .str (Str.ofString "curve")]) = H8 at s58 ⊢
  clear s57 hl a1 sc1 hv1
  refine ⟨_, rfl, P0, fun e he => ⟨_, rfl, _, rfl, P2, fun t ht => ?_⟩⟩
  have k1 := Ag.new (o := .tup []) he
  have k2 := Ag.new (o := .tup [.int 1, .int 2]) ht
  have k := s58.trans (k1.trans k2)
  have ez := k2 _ _ (Ad (H := H8) (a := e) (o := .tup []))
  have et : Au K (upd (upd H8 e (.tup [])) t (.tup [.int 1, .int 2])) (.ref t) (Bl 2) := Au.of (by rw [EL (by decide)]; exact Ad)
  have b2 : RB 2 (Bl 2) := EK (by decide) (by unfold Bd; decide)
  have z2 : 0 < Bl 2 := E7 (by decide)
  generalize upd (upd H8 e (.tup [])) t (.tup [.int 1, .int 2]) = H9 at k ez et ⊢
  refine ⟨_, _, lo, Bl 2, 72, 2, rfl, l5.same k, et, bl, b2, by decide, fun u hu => ?_⟩
  have s9 := Ag.new (o := nT (lo + Bl 2)) hu
  refine ⟨w, e, rh, u, hi, lo + Bl 2, rfl, by lia, by lia, h5.same (k.trans s9), Au.of Ad, bh8, (bl.plus b2).mono (by decide), .inl ⟨SqT.of (s9 _ _ ez), fun Ha sa => ?_⟩⟩
  rw [if_pos (show hi < lo + Bl 2 by grind), ← hv2]
  have sb := (k.trans s9).trans sa
  refine ⟨P4, fun l hl => ⟨_, rfl, l, _, _, _, rfl, rfl, SqL.of Ad, a2, sc2, _, rfl, ?_⟩⟩
  rw [neF]
  have sc := sb.trans (Ag.new (o := .lst [.non, .non, .str (Str.ofString "curve"), .str (Str.ofString "curve")]) hl)
  exact Dc ⟨p5.sm sc, c5.same sc, h5.same sc, l5.same sc, _, rfl⟩
 clear hg nf bf lf hc4 h4 l4 p4 hc
 rintro σ H5 hR4
 obtain ⟨p5, -, -, -, z5, rfl⟩ := hR4
 try clear hR4
 have neF : ∀ x : V, (!decide (x = x)) = false := fun x => by simp
 refine ⟨_, _, rfl, rfl, C20, _, rfl, p, 99, rfl, p5, by decide, by decide, fun d H6 d0 d1 o6 p6 => ⟨_, _, rfl, rfl, P2, fun rf hrf => ?_⟩⟩
 try dsimp only at hrf ⊢
 obtain ⟨D, hD⟩ : ∃ D : Int, D = 10 ^ (20 : Int).toNat + d := ⟨_, rfl⟩
 rw [← hD]
 have hD1 : 0 < D ∧ D < 2 ^ 67 := by
  have e : (10 : Int) ^ (20 : Int).toNat = 100000000000000000000 := by decide
  rw [e] at hD
  lia
 clear hD
 have s7 := Ag.new (o := .tup [.int D, .int 1]) hrf
 have ef : Au K (upd H6 rf (.tup [.int D, .int 1])) (.ref rf) ((D : Int) : Rat) := Au.of (by rw [Ad, KY])
 have p7 := p6.sm s7
 generalize upd H6 rf (.tup [.int D, .int 1]) = H7 at ef p7 ⊢
 clear s7 hrf p6 o6 p5
 refine ⟨_, rfl, _, rfl, p, 9, rfl, p7, by decide, by decide, fun e H8 e0 e1 o8 p8 => ⟨_, _, rfl, rfl, P2, fun t ht => ?_⟩⟩
 try dsimp only at ht ⊢
 obtain ⟨B, hB⟩ : ∃ B : Int, B = 2 + e := ⟨_, rfl⟩
 rw [← hB]
 have hB1 : 1 < B ∧ B < 11 := by lia
 have s9 := Ag.new (o := .tup [.int 1, .int B]) ht
 have et : Au K (upd H8 t (.tup [.int 1, .int B])) (.ref t) (Bl B) := Au.of (by rw [Ad, EL (by lia)])
 have ef9 := (Au.mv ef p7 o8.mv).same s9
 have p9 := p8.sm s9
 rw [hB] at et ef9 p9 s9
 rw [← hB] at et ef9 p9 s9
 generalize upd H8 t (.tup [.int 1, .int B]) = H9 at et ef9 p9 ⊢
 have bD : RB 67 ((D : Int) : Rat) := Lk (by unfold Bd; lia) (by decide)
 have bB : RB 4 (Bl B) := EK (by lia) (by unfold Bd; lia)
 refine ⟨_, _, ((D : Int) : Rat), Bl B, 67, 4, rfl, ef9, et, bD, bB, by decide, fun ru hru => ?_⟩
 have sa := Ag.new (o := nT (((D : Int) : Rat) + Bl B)) hru
 have pa := p9.sm sa
 have efa := ef9.same sa
 have eua : Au K (upd H9 ru (nT (((D : Int) : Rat) + Bl B))) (.ref ru) (((D : Int) : Rat) + Bl B) := Au.of Ad
 generalize upd H9 ru (nT (((D : Int) : Rat) + Bl B)) = Ha at pa efa eua ⊢
 clear sa hru p9 s9 ht p8 o8 p7 ef et ef9
 have dD : Bd 20 (((D : Int) : Rat).den : Int) := by rw [Rat.den_intCast]; unfold Bd; decide
 have dB : Bd 20 (((D : Int) : Rat) + Bl B).den := by
  have h1 := Dq (b := B) (by lia) (D * B + 1)
  have h2 := Lj (B := B) (by lia)
  have hne : (B : Rat) ≠ 0 := Nm.cast_ne (by lia)
  have e : ((D : Int) : Rat) + Bl B = RS (D * B + 1) B := by
   rw [RZ, S5] at h1
   have : ((((D : Int) : Rat) + Bl B) - RS (D * B + 1) B) * (B : Rat) = 0 := by grind
   rcases Sh.mp this with z | z
   ·grind
   ·exact absurd z hne
  rw [e]
  exact Bd.den (by lia) (by unfold Bd; lia)
 have lt1 : ((D : Int) : Rat) < ((D : Int) : Rat) + Bl B := by have := E7 (B := B) (by lia); grind
 have nlt1 : ¬ ((D : Int) : Rat) + Bl B < ((D : Int) : Rat) := by grind
 have bD8 : RB 80 ((D : Int) : Rat) := bD.mono (by decide)
 have bB8 : RB 80 (((D : Int) : Rat) + Bl B) := (bD.plus bB).mono (by decide)
 generalize ((D : Int) : Rat) + Bl B = far2 at eua dB lt1 nlt1 bB8
 generalize ((D : Int) : Rat) = far1 at efa dD lt1 nlt1 bD8
 have g11 : AN [1, 1] := .inr ⟨1, rfl, by decide⟩
 have b11 : ∀ q ∈ [(1 : Rat), 1], RB 100 q := fun q hq => by
  have : q = 1 := by simpa using hq
  rw [this]; exact RB.one (by decide)
 have c11 : Cop [1, 1] (dL [1, 1]) := by have := K4 (-1); rwa [Rat.neg_neg] at this
 have pc11 : (pcs [1, 1] 16 far1 far2).isSome = true := by
  rw [Dz]; · rfl
  have hl : (L2.hts [1, 1] far1 far2).length = 2 := Bz _ _ _
  unfold VQ
  match L2.hts [1, 1] far1 far2, hl with
  | [u, v], _ =>
    show chF 0 [u.num, v.num] < 2
    simp only [chF]
    repeat' split
    all_goals first | lia | (simp; done) | skip
 refine ⟨4, rfl, by decide, by decide, BN (n := 4) (L10 p K rf far1 ru far2 a c rh rl fun p K rf far1 ru far2 a c rh rl _ σ H' => Pen H' p ∧ Au K H' (.ref rf) far1 ∧ Au K H' (.ref ru) far2 ∧ ∃ z5, σ = [some (.ref a), some (.ref p), some (.ref c), some (.ref rh), some (.ref rl), z5, some (.ref rf), some (.ref ru), none, none]) ⟨pa, efa, eua, z5, rfl⟩ ?_ ?_⟩
 ·clear pa efa eua z5
  rintro i σ H5 hi4 hR5
  obtain ⟨p5, f5, u5, z5, rfl⟩ := hR5
  try clear hR5
  obtain ⟨w, hw⟩ : ∃ w : Int, w = 0 + (i : Int) := ⟨_, rfl⟩
  have w4 : 0 ≤ w ∧ w < 4 := by lia
  rw [← hw]
  clear hw hi4
  have cr : ∀ (G : Hp) (t1 t2 t3 : Addr) (h1 : G t1 = none) (h2 : upd G t1 (.tup [.int 1, .int 1]) t2 = none) (h3 : upd (upd G t1 (.tup [.int 1, .int 1])) t2 (.tup [.int 1, .int 1]) t3 = none), Ag G (upd (upd (upd G t1 (.tup [.int 1, .int 1])) t2 (.tup [.int 1, .int 1])) t3 (.tup [.ref t1, .ref t2])) ∧ Crv K (upd (upd (upd G t1 (.tup [.int 1, .int 1])) t2 (.tup [.int 1, .int 1])) t3 (.tup [.ref t1, .ref t2])) t3 [1, 1] := fun G t1 t2 t3 h1 h2 h3 =>
   have k1 := Ag.new (o := .tup [.int 1, .int 1]) h1
   have k2 := Ag.new (o := .tup [.int 1, .int 1]) h2
   have k3 := Ag.new (o := .tup [.ref t1, .ref t2]) h3
   ⟨(k1.trans k2).trans k3, _, SqT.of Ad, .cons (Au.of ((k2.trans k3) _ _ (Ad (o := nT 1)))) (.cons (Au.of (k3 _ _ (Ad (o := nT 1)))) .nil)⟩
  refine ⟨_, rfl, P2, fun t1 h1 => ⟨P2, fun t2 h2 => ⟨P2, fun t3 h3 => ?_⟩⟩⟩
  try dsimp only at h1 h2 h3 ⊢
  obtain ⟨s6, c6⟩ := (cr _ _ _ _ h1 h2 h3)
  generalize upd (upd (upd H5 t1 (.tup [.int 1, .int 1])) t2 (.tup [.int 1, .int 1])) t3 (.tup [.ref t1, .ref t2]) = H6 at s6 c6 ⊢
  clear h1 h2 h3
  refine ⟨_, rfl, _, rfl, w, t3, rf, ru, far1, far2, rfl, w4.1, w4.2, f5.same s6, u5.same s6, bD8, bB8, .inr (.inr ⟨[1, 1], c6, g11, nofun, b11, by decide, c11, rfl, lt1, dD, dB, fun H7 s7 => ?_⟩)⟩
  rw [if_pos (.inr pc11)]
  refine ⟨rfl, _, rfl, ?_⟩
  rw [neF]
  refine Dc ?_
  have s57 := s6.trans s7
  clear s6 s7 c6
  refine ⟨_, rfl, P2, fun t1 h1 => ⟨P2, fun t2 h2 => ⟨P2, fun t3 h3 => ?_⟩⟩⟩
  try dsimp only at h1 h2 h3 ⊢
  obtain ⟨s8, c8⟩ := (cr _ _ _ _ h1 h2 h3)
  generalize upd (upd (upd H7 t1 (.tup [.int 1, .int 1])) t2 (.tup [.int 1, .int 1])) t3 (.tup [.ref t1, .ref t2]) = H8 at s8 c8 ⊢
  clear h1 h2 h3
  have s58 := s57.trans s8
  refine ⟨_, rfl, _, rfl, w, t3, ru, rf, far2, far1, rfl, w4.1, w4.2, u5.same s58, f5.same s58, bB8, bD8, .inr (.inl ⟨[1, 1], c8, g11, nofun, b11, by decide, nlt1, fun H9 s9 => ?_⟩)⟩
  refine ⟨rfl, _, rfl, ?_⟩
  rw [neF]
  have sz := s58.trans s9
  exact Dc ⟨p5.sm sz, f5.same sz, u5.same sz, _, rfl⟩
 clear pa efa eua g11 b11 c11 pc11
 rintro σ H5 hR6
 obtain ⟨p5, -, -, z6, rfl⟩ := hR6
 try clear hR6
 refine ⟨_, rfl, p, rfl, p5, fun t n b x y H6 m6 p6 et hn x0 hxy y1 bx by' hb => ⟨t, _, rfl, SqT.of et, rfl, _, _, rfl, _, _, rfl, rfl, ?_⟩⟩
 have gN : AN [x * y, 0 - (x + y), 1] := .inr ⟨1, rfl, by decide⟩
 have bN : ∀ q ∈ [x * y, 0 - (x + y), 1], RB 100 q := fun q hq => by
  rcases QZ.mp hq with z | z
  ·rw [z]; exact (bx.times by').mono (by decide)
  rcases QZ.mp z with z | z
  ·rw [z]; exact ((RB.zero (n := 1) (by decide)).minus (bx.plus by')).mono (by decide)
  ·rw [Ss.mp z]; exact RB.one (by decide)
 have cN : Cop [x * y, 0 - (x + y), 1] (dL [x * y, 0 - (x + y), 1]) := LH (by
  intro z
  have : (x - y) * (x - y) = 0 := by grind
  rcases Sh.mp this with z | z <;> grind)
 have qn := El hxy 16 0
 rw [NA, Oo] at qn
 have hp : (pcs [x * y, 0 - (x + y), 1] 16 0 1).isSome = !b := by
  cases b with
  | true => rw [qn.2 (hb.mp rfl) x0 y1]; rfl
  | false =>
    cases z : pcs [x * y, 0 - (x + y), 1] 16 0 1 with
    | none => exact absurd (hb.mpr (qn.1 z)) nofun
    | some _ => rfl
 clear qn hb et
 have D1 : Bd 20 1 := by unfold Bd; decide
 have l3 : [x * y, 0 - (x + y), 1].length ≤ 6 := Nat.le_add_right 3 3
 have b0 : RB 80 0 := RB.zero (by decide)
 have b1 : RB 80 1 := RB.one (by decide)
 refine ⟨2, 4, rfl, ⟨by decide, by decide, by decide, by decide⟩, BN (lo := 2) (n := 2) (L12 K n x y a p c rh rl rf ru b fun K n x y a p c rh rl rf ru b _ σ H' => Crv K H' n [x * y, 0 - (x + y), 1] ∧ ∃ z5, σ = [some (.ref a), some (.ref p), some (.ref c), some (.ref rh), some (.ref rl), z5, some (.ref rf), some (.ref ru), some (.ref n), some (.bl b)]) ⟨hn, z6, rfl⟩ ?_ ?_⟩
 ·rintro i σ H7 hi2 ⟨c7, z5, rfl⟩
  obtain ⟨w, hw⟩ : ∃ w : Int, w = 2 + (i : Int) := ⟨_, rfl⟩
  have w4 : 2 ≤ w ∧ w < 4 := by lia
  rw [← hw]
  clear hw hi2
  refine ⟨_, rfl, _, rfl, P2, fun t1 h1 => ⟨P2, fun t2 h2 => ?_⟩⟩
  have k1 := Ag.new (o := .tup [.int 0, .int 1]) h1
  have k2 := Ag.new (o := .tup [.int 1, .int 1]) h2
  have k := k1.trans k2
  refine ⟨w, n, t1, t2, 0, 1, rfl, by lia, by lia, Au.of (k2 _ _ (Ad (o := nT 0))), Au.of (Ad (o := nT 1)), b0, b1, .inr (.inr ⟨_, c7.same k, gN, nofun, bN, l3, cN, rfl, by decide, D1, D1, fun H8 s8 => ?_⟩)⟩
  have s := k.trans s8
  rw [hp]
  refine ⟨P2, fun l hl => ⟨_, rfl, .inr ⟨_, rfl, ?_⟩⟩⟩
  have s9 := s.trans (Ag.new (o := .lst [.non, .str (Str.ofString "deep")]) hl)
  have nw : ¬ w < 2 := by lia
  cases b with
  | true =>
    refine ⟨l, _, _, _, rfl, rfl, SqL.of Ad, AA (j := 1) rfl, ?_⟩
    rw [if_neg (fun z => z.elim nw nofun)]
    refine ⟨rfl, _, rfl, ?_⟩
    rw [neF]
    exact Dc ⟨c7.same s9, _, rfl⟩
  | false =>
    refine ⟨l, _, _, _, rfl, rfl, SqL.of Ad, AA (j := 0) rfl, ?_⟩
    rw [if_pos (.inr rfl)]
    refine ⟨rfl, _, rfl, ?_⟩
    rw [neF]
    exact Dc ⟨c7.same s9, _, rfl⟩
 clear hn p6 m6
 rintro σ H7 ⟨c7, z5, rfl⟩
 have bm : RB 80 (-1) := ⟨by unfold Bd; decide, by unfold Bd; decide⟩
 have b2 : RB 80 2 := ⟨by unfold Bd; decide, by unfold Bd; decide⟩
 have lt2 : (-1 : Rat) < 2 := by decide
 obtain ⟨v, hv⟩ : ∃ v : V, v = if (pcs [x * y, 0 - (x + y), 1] 16 (-1) 2).isSome = true then .non else .str (Str.ofString "deep") := ⟨_, rfl⟩
 have hv2 : ∀ w : Int, 2 ≤ w → (if w < 2 ∨ (pcs [x * y, 0 - (x + y), 1] 16 (-1) 2).isSome = true then V.non else .str (Str.ofString "deep")) = v := fun w hw => by
  rw [hv]
  by_cases z : (pcs [x * y, 0 - (x + y), 1] 16 (-1) 2).isSome = true
  ·rw [if_pos (.inr z), if_pos z]
  ·rw [if_neg (fun u => u.elim (by lia) z), if_neg z]
 have sv : Kz v v = true := by rw [hv]; split <;> rfl
 clear hv
 have rd : ∀ (G : Hp) (w : Int) (t1 t2 : Addr) (R : VK) (E' : XK), Crv K G n [x * y, 0 - (x + y), 1] → 2 ≤ w → w < 4 → G t1 = none → upd G t1 (.tup [.int (-1), .int 1]) t2 = none → (∀ G', Ag G G' → R v G') → GA K [.int w, .ref n, .ref t1, .ref t2] (upd (upd G t1 (.tup [.int (-1), .int 1])) t2 (.tup [.int 2, .int 1])) R E' := fun G w t1 t2 R E' cG w2 w4 h1 h2 hR =>
  have k1 := Ag.new (o := .tup [.int (-1), .int 1]) h1
  have k2 := Ag.new (o := .tup [.int 2, .int 1]) h2
  ⟨w, n, t1, t2, -1, 2, rfl, by lia, by lia, Au.of (k2 _ _ (Ad (o := nT (-1)))), Au.of (Ad (o := nT 2)), bm, b2, .inr (.inr ⟨_, cG.same (k1.trans k2), gN, nofun, bN, l3, cN, rfl, lt2, D1, D1, fun H8 s8 => by rw [hv2 w w2]; exact hR _ ((k1.trans k2).trans s8)⟩)⟩
 refine ⟨_, rfl, _, rfl, P2, fun t1 h1 => ⟨P2, fun t2 h2 => rd _ 2 t1 t2 _ _ c7 (by decide) (by decide) h1 h2 fun H8 s8 => ?_⟩⟩
 refine ⟨_, rfl, _, rfl, P2, fun t3 h3 => ⟨P2, fun t4 h4 => rd _ 3 t3 t4 _ _ (c7.same s8) (by decide) (by decide) h3 h4 fun H9 s9 => ?_⟩⟩
 refine ⟨sv, ?_⟩
 rw [decide_eq_true rfl]
 exact q _
end
theorem fdm {P : Program} (w : World) {K : QT} {mg : Str → Option Value} (base : Heap) {n : Nat} {x : Str} {ps : List Str} {sp : Sp} {f : Addr} {fd : FuncData} (a : AI P w K mg base CX0 n f fd ps sp) (b : CH K fd ps []) (c : Rg K (.ref f) = true) (d : mg x = some (.ref f)) : Fd P w K mg base n x ps sp := ⟨_, _, a, b, c, d⟩
theorem NO {l : RM} {w : World} {K : QT} {h : Heap} {mg : Str → Option Value} {fa f1 f2 f3 f4 f5 f6 f7 f8 f9 f10 f11 f12 f13 f14 f15 f16 f17 f18 f19 f20 f21 f22 f23 f24 f25 f26 f27 f28 f29 f30 f31 f32 f33 f34 f35 f36 f37 f38 f39 f40 f41 f42 f43 : Addr} (hT : l.prog.given.tree = none) (X : K.In h) (G : h.Ns mainGlobals mg) (hfa : mg "law" = some (.ref fa))
 {od1 an1 od2 an2 od3 an3 od4 an4 od5 an5 od6 an6 od7 an7 od8 an8 od9 an9 od10 an10 od11 an11 od12 an12 od13 an13 od14 an14 od15 an15 od16 an16 od17 an17 od18 an18 od19 an19 od20 an20 od21 an21 od22 an22 od23 an23 od24 an24 od25 an25 od26 an26 od27 an27 od28 an28 od29 an29 od30 an30 od31 an31 od32 an32 od33 an33 od34 an34 od35 an35 od36 an36 od37 an37 od38 an38 od39 an39 od40 an40 od41 an41 od42 an42 od43 an43 : Option Addr} {sl1 sl2 sl3 sl4 sl5 sl6 sl7 sl8 sl9 sl10 sl11 sl12 sl13 sl14 sl15 sl16 sl17 sl18 sl19 sl20 sl21 sl22 sl23 sl24 sl25 sl26 sl27 sl28 sl29 sl30 sl31 sl32 sl33 sl34 sl35 sl36 sl37 sl38 sl39 sl40 sl41 sl42 sl43 : Array (Option Value)} {oc1 kV1 dc1 pm1 cd1 ct1 oc2 kV2 dc2 pm2 cd2 ct2 oc3 kV3 dc3 pm3 cd3 ct3 oc4 kV4 dc4 pm4 cd4 ct4 oc5 kV5 dc5 pm5 cd5 ct5 oc6 kV6 dc6 pm6 cd6 ct6 oc7 kV7 dc7 pm7 cd7 ct7 oc8 kV8 dc8 pm8 cd8 ct8 oc9 kV9 dc9 pm9 cd9 ct9 oc10 kV10 dc10 pm10 cd10 ct10 oc11 kV11 dc11 pm11 cd11 ct11 oc12 kV12 dc12 pm12 cd12 ct12 oc13 kV13 dc13 pm13 cd13 ct13 oc14 kV14 dc14 pm14 cd14 ct14 oc15 kV15 dc15 pm15 cd15 ct15 oc16 kV16 dc16 pm16 cd16 ct16 oc17 kV17 dc17 pm17 cd17 ct17 oc18 kV18 dc18 pm18 cd18 ct18 oc19 kV19 dc19 pm19 cd19 ct19 oc20 kV20 dc20 pm20 cd20 ct20 oc21 kV21 dc21 pm21 cd21 ct21 oc22 kV22 dc22 pm22 cd22 ct22 oc23 kV23 dc23 pm23 cd23 ct23 oc24 kV24 dc24 pm24 cd24 ct24 oc25 kV25 dc25 pm25 cd25 ct25 oc26 kV26 dc26 pm26 cd26 ct26 oc27 kV27 dc27 pm27 cd27 ct27 oc28 kV28 dc28 pm28 cd28 ct28 oc29 kV29 dc29 pm29 cd29 ct29 oc30 kV30 dc30 pm30 cd30 ct30 oc31 kV31 dc31 pm31 cd31 ct31 oc32 kV32 dc32 pm32 cd32 ct32 oc33 kV33 dc33 pm33 cd33 ct33 oc34 kV34 dc34 pm34 cd34 ct34 oc35 kV35 dc35 pm35 cd35 ct35 oc36 kV36 dc36 pm36 cd36 ct36 oc37 kV37 dc37 pm37 cd37 ct37 oc38 kV38 dc38 pm38 cd38 ct38 oc39 kV39 dc39 pm39 cd39 ct39 oc40 kV40 dc40 pm40 cd40 ct40 oc41 kV41 dc41 pm41 cd41 ct41 oc42 kV42 dc42 pm42 cd42 ct42 oc43 kV43 dc43 pm43 cd43 ct43 : Value}
 (a1 : SK K mainGlobals "_law_pen" = some (some (.ref f1))) (l1 : K.lookup f1 = some ⟨oc1, od1, .func (Rz "_law_pen" "_law_pen" (Ar (top 51)) (Aq (top 51)) (Af (top 51)) .none kV1 dc1 pm1 an1 cd1 ct1), sl1⟩) (c1 : RA K cd1 "_law_pen" = true) (k1 : Rg K (.ref f1) = true)
 (a2 : SK K mainGlobals "_law_draw" = some (some (.ref f2))) (l2 : K.lookup f2 = some ⟨oc2, od2, .func (Rz "_law_draw" "_law_draw" (Ar (top 52)) (Aq (top 52)) (Af (top 52)) .none kV2 dc2 pm2 an2 cd2 ct2), sl2⟩) (c2 : RA K cd2 "_law_draw" = true) (k2 : Rg K (.ref f2) = true)
 (a3 : SK K mainGlobals "_law_lowest" = some (some (.ref f3))) (l3 : K.lookup f3 = some ⟨oc3, od3, .func (Rz "_law_lowest" "_law_lowest" (Ar (top 53)) (Aq (top 53)) (Af (top 53)) .none kV3 dc3 pm3 an3 cd3 ct3), sl3⟩) (c3 : RA K cd3 "_law_lowest" = true) (k3 : Rg K (.ref f3) = true)
 (a4 : SK K mainGlobals "_law_number" = some (some (.ref f4))) (l4 : K.lookup f4 = some ⟨oc4, od4, .func (Rz "_law_number" "_law_number" (Ar (top 57)) (Aq (top 57)) (Af (top 57)) .none kV4 dc4 pm4 an4 cd4 ct4), sl4⟩) (c4 : RA K cd4 "_law_number" = true) (k4 : Rg K (.ref f4) = true)
 (a5 : SK K mainGlobals "_law_plus" = some (some (.ref f5))) (l5 : K.lookup f5 = some ⟨oc5, od5, .func (Rz "_law_plus" "_law_plus" (Ar (top 54)) (Aq (top 54)) (Af (top 54)) .none kV5 dc5 pm5 an5 cd5 ct5), sl5⟩) (c5 : RA K cd5 "_law_plus" = true) (k5 : Rg K (.ref f5) = true)
 (a6 : SK K mainGlobals "_law_times" = some (some (.ref f6))) (l6 : K.lookup f6 = some ⟨oc6, od6, .func (Rz "_law_times" "_law_times" (Ar (top 56)) (Aq (top 56)) (Af (top 56)) .none kV6 dc6 pm6 an6 cd6 ct6), sl6⟩) (c6 : RA K cd6 "_law_times" = true) (k6 : Rg K (.ref f6) = true)
 (a7 : SK K mainGlobals "_law_minus" = some (some (.ref f7))) (l7 : K.lookup f7 = some ⟨oc7, od7, .func (Rz "_law_minus" "_law_minus" (Ar (top 55)) (Aq (top 55)) (Af (top 55)) .none kV7 dc7 pm7 an7 cd7 ct7), sl7⟩) (c7 : RA K cd7 "_law_minus" = true) (k7 : Rg K (.ref f7) = true)
 (a8 : SK K mainGlobals "_law_near" = some (some (.ref f8))) (l8 : K.lookup f8 = some ⟨oc8, od8, .func (Rz "_law_near" "_law_near" (Ar (top 61)) (Aq (top 61)) (Af (top 61)) .none kV8 dc8 pm8 an8 cd8 ct8), sl8⟩) (c8 : RA K cd8 "_law_near" = true) (k8 : Rg K (.ref f8) = true)
 (a9 : SK K mainGlobals "_law_curve" = some (some (.ref f9))) (l9 : K.lookup f9 = some ⟨oc9, od9, .func (Rz "_law_curve" "_law_curve" (Ar (top 58)) (Aq (top 58)) (Af (top 58)) .none kV9 dc9 pm9 an9 cd9 ct9), sl9⟩) (c9 : RA K cd9 "_law_curve" = true) (k9 : Rg K (.ref f9) = true)
 (a10 : SK K mainGlobals "common_measure" = some (some (.ref f10))) (l10 : K.lookup f10 = some ⟨oc10, od10, .func (Rz "common_measure" "common_measure" (Ar (top 13)) (Aq (top 13)) (Af (top 13)) .none kV10 dc10 pm10 an10 cd10 ct10), sl10⟩) (c10 : RA K cd10 "common_measure" = true) (k10 : Rg K (.ref f10) = true)
 (a11 : SK K mainGlobals "number_of" = some (some (.ref f11))) (l11 : K.lookup f11 = some ⟨oc11, od11, .func (Rz "number_of" "number_of" (Ar (top 14)) (Aq (top 14)) (Af (top 14)) .none kV11 dc11 pm11 an11 cd11 ct11), sl11⟩) (c11 : RA K cd11 "number_of" = true) (k11 : Rg K (.ref f11) = true)
 (a12 : SK K mainGlobals "over" = some (some (.ref f12))) (l12 : K.lookup f12 = some ⟨oc12, od12, .func (Rz "over" "over" (Ar (top 18)) (Aq (top 18)) (Af (top 18)) .none kV12 dc12 pm12 an12 cd12 ct12), sl12⟩) (c12 : RA K cd12 "over" = true) (k12 : Rg K (.ref f12) = true)
 (a13 : SK K mainGlobals "parts_along" = some (some (.ref f13))) (l13 : K.lookup f13 = some ⟨oc13, od13, .func (Rz "parts_along" "parts_along" (Ar (top 39)) (Aq (top 39)) (Af (top 39)) .none kV13 dc13 pm13 an13 cd13 ct13), sl13⟩) (c13 : RA K cd13 "parts_along" = true) (k13 : Rg K (.ref f13) = true)
 (a14 : SK K mainGlobals "bottom_of" = some (some (.ref f14))) (l14 : K.lookup f14 = some ⟨oc14, od14, .func (Rz "bottom_of" "bottom_of" (Ar (top 23)) (Aq (top 23)) (Af (top 23)) .none kV14 dc14 pm14 an14 cd14 ct14), sl14⟩) (c14 : RA K cd14 "bottom_of" = true) (k14 : Rg K (.ref f14) = true)
 (a15 : SK K mainGlobals "tops_over" = some (some (.ref f15))) (l15 : K.lookup f15 = some ⟨oc15, od15, .func (Rz "tops_over" "tops_over" (Ar (top 24)) (Aq (top 24)) (Af (top 24)) .none kV15 dc15 pm15 an15 cd15 ct15), sl15⟩) (c15 : RA K cd15 "tops_over" = true) (k15 : Rg K (.ref f15) = true)
 (a16 : SK K mainGlobals "is_less" = some (some (.ref f16))) (l16 : K.lookup f16 = some ⟨oc16, od16, .func (Rz "is_less" "is_less" (Ar (top 19)) (Aq (top 19)) (Af (top 19)) .none kV16 dc16 pm16 an16 cd16 ct16), sl16⟩) (c16 : RA K cd16 "is_less" = true) (k16 : Rg K (.ref f16) = true)
 (a17 : SK K mainGlobals "curve_of" = some (some (.ref f17))) (l17 : K.lookup f17 = some ⟨oc17, od17, .func (Rz "curve_of" "curve_of" (Ar (top 22)) (Aq (top 22)) (Af (top 22)) .none kV17 dc17 pm17 an17 cd17 ct17), sl17⟩) (c17 : RA K cd17 "curve_of" = true) (k17 : Rg K (.ref f17) = true)
 (a18 : SK K mainGlobals "curve_over" = some (some (.ref f18))) (l18 : K.lookup f18 = some ⟨oc18, od18, .func (Rz "curve_over" "curve_over" (Ar (top 25)) (Aq (top 25)) (Af (top 25)) .none kV18 dc18 pm18 an18 cd18 ct18), sl18⟩) (c18 : RA K cd18 "curve_over" = true) (k18 : Rg K (.ref f18) = true)
 (a19 : SK K mainGlobals "whole_product" = some (some (.ref f19))) (l19 : K.lookup f19 = some ⟨oc19, od19, .func (Rz "whole_product" "whole_product" (Ar (top 28)) (Aq (top 28)) (Af (top 28)) .none kV19 dc19 pm19 an19 cd19 ct19), sl19⟩) (c19 : RA K cd19 "whole_product" = true) (k19 : Rg K (.ref f19) = true)
 (a20 : SK K mainGlobals "with_line" = some (some (.ref f20))) (l20 : K.lookup f20 = some ⟨oc20, od20, .func (Rz "with_line" "with_line" (Ar (top 30)) (Aq (top 30)) (Af (top 30)) .none kV20 dc20 pm20 an20 cd20 ct20), sl20⟩) (c20 : RA K cd20 "with_line" = true) (k20 : Rg K (.ref f20) = true)
 (a21 : SK K mainGlobals "minus" = some (some (.ref f21))) (l21 : K.lookup f21 = some ⟨oc21, od21, .func (Rz "minus" "minus" (Ar (top 16)) (Aq (top 16)) (Af (top 16)) .none kV21 dc21 pm21 an21 cd21 ct21), sl21⟩) (c21 : RA K cd21 "minus" = true) (k21 : Rg K (.ref f21) = true)
 (a22 : SK K mainGlobals "heights_of" = some (some (.ref f22))) (l22 : K.lookup f22 = some ⟨oc22, od22, .func (Rz "heights_of" "heights_of" (Ar (top 40)) (Aq (top 40)) (Af (top 40)) .none kV22 dc22 pm22 an22 cd22 ct22), sl22⟩) (c22 : RA K cd22 "heights_of" = true) (k22 : Rg K (.ref f22) = true)
 (a23 : SK K mainGlobals "_law_refusal" = some (some (.ref f23))) (l23 : K.lookup f23 = some ⟨oc23, od23, .func (Rz "_law_refusal" "_law_refusal" (Ar (top 59)) (Aq (top 59)) (Af (top 59)) .none kV23 dc23 pm23 an23 cd23 ct23), sl23⟩) (c23 : RA K cd23 "_law_refusal" = true) (k23 : Rg K (.ref f23) = true)
 (a24 : SK K mainGlobals "bounds_of" = some (some (.ref f24))) (l24 : K.lookup f24 = some ⟨oc24, od24, .func (Rz "bounds_of" "bounds_of" (Ar (top 41)) (Aq (top 41)) (Af (top 41)) .none kV24 dc24 pm24 an24 cd24 ct24), sl24⟩) (c24 : RA K cd24 "bounds_of" = true) (k24 : Rg K (.ref f24) = true)
 (a25 : SK K mainGlobals "whole_division" = some (some (.ref f25))) (l25 : K.lookup f25 = some ⟨oc25, od25, .func (Rz "whole_division" "whole_division" (Ar (top 33)) (Aq (top 33)) (Af (top 33)) .none kV25 dc25 pm25 an25 cd25 ct25), sl25⟩) (c25 : RA K cd25 "whole_division" = true) (k25 : Rg K (.ref f25) = true)
 (a26 : SK K mainGlobals "raised" = some (some (.ref f26))) (l26 : K.lookup f26 = some ⟨oc26, od26, .func (Rz "raised" "raised" (Ar (top 32)) (Aq (top 32)) (Af (top 32)) .none kV26 dc26 pm26 an26 cd26 ct26), sl26⟩) (c26 : RA K cd26 "raised" = true) (k26 : Rg K (.ref f26) = true)
 (a27 : SK K mainGlobals "divided" = some (some (.ref f27))) (l27 : K.lookup f27 = some ⟨oc27, od27, .func (Rz "divided" "divided" (Ar (top 34)) (Aq (top 34)) (Af (top 34)) .none kV27 dc27 pm27 an27 cd27 ct27), sl27⟩) (c27 : RA K cd27 "divided" = true) (k27 : Rg K (.ref f27) = true)
 (a28 : SK K mainGlobals "without_last_noughts" = some (some (.ref f28))) (l28 : K.lookup f28 = some ⟨oc28, od28, .func (Rz "without_last_noughts" "without_last_noughts" (Ar (top 35)) (Aq (top 35)) (Af (top 35)) .none kV28 dc28 pm28 an28 cd28 ct28), sl28⟩) (c28 : RA K cd28 "without_last_noughts" = true) (k28 : Rg K (.ref f28) = true)
 (a29 : SK K mainGlobals "last_rest" = some (some (.ref f29))) (l29 : K.lookup f29 = some ⟨oc29, od29, .func (Rz "last_rest" "last_rest" (Ar (top 36)) (Aq (top 36)) (Af (top 36)) .none kV29 dc29 pm29 an29 cd29 ct29), sl29⟩) (c29 : RA K cd29 "last_rest" = true) (k29 : Rg K (.ref f29) = true)
 (a30 : SK K mainGlobals "common_part" = some (some (.ref f30))) (l30 : K.lookup f30 = some ⟨oc30, od30, .func (Rz "common_part" "common_part" (Ar (top 37)) (Aq (top 37)) (Af (top 37)) .none kV30 dc30 pm30 an30 cd30 ct30), sl30⟩) (c30 : RA K cd30 "common_part" = true) (k30 : Rg K (.ref f30) = true)
 (a31 : SK K mainGlobals "times" = some (some (.ref f31))) (l31 : K.lookup f31 = some ⟨oc31, od31, .func (Rz "times" "times" (Ar (top 17)) (Aq (top 17)) (Af (top 17)) .none kV31 dc31 pm31 an31 cd31 ct31), sl31⟩) (c31 : RA K cd31 "times" = true) (k31 : Rg K (.ref f31) = true)
 (a32 : SK K mainGlobals "slope_of" = some (some (.ref f32))) (l32 : K.lookup f32 = some ⟨oc32, od32, .func (Rz "slope_of" "slope_of" (Ar (top 29)) (Aq (top 29)) (Af (top 29)) .none kV32 dc32 pm32 an32 cd32 ct32), sl32⟩) (c32 : RA K cd32 "slope_of" = true) (k32 : Rg K (.ref f32) = true)
 (a33 : SK K mainGlobals "lone_part" = some (some (.ref f33))) (l33 : K.lookup f33 = some ⟨oc33, od33, .func (Rz "lone_part" "lone_part" (Ar (top 45)) (Aq (top 45)) (Af (top 45)) .none kV33 dc33 pm33 an33 cd33 ct33), sl33⟩) (c33 : RA K cd33 "lone_part" = true) (k33 : Rg K (.ref f33) = true)
 (a34 : SK K mainGlobals "sign_changes" = some (some (.ref f34))) (l34 : K.lookup f34 = some ⟨oc34, od34, .func (Rz "sign_changes" "sign_changes" (Ar (top 46)) (Aq (top 46)) (Af (top 46)) .none kV34 dc34 pm34 an34 cd34 ct34), sl34⟩) (c34 : RA K cd34 "sign_changes" = true) (k34 : Rg K (.ref f34) = true)
 (a35 : SK K mainGlobals "whole_halves" = some (some (.ref f35))) (l35 : K.lookup f35 = some ⟨oc35, od35, .func (Rz "whole_halves" "whole_halves" (Ar (top 42)) (Aq (top 42)) (Af (top 42)) .none kV35 dc35 pm35 an35 cd35 ct35), sl35⟩) (c35 : RA K cd35 "whole_halves" = true) (k35 : Rg K (.ref f35) = true)
 (a36 : SK K mainGlobals "plus" = some (some (.ref f36))) (l36 : K.lookup f36 = some ⟨oc36, od36, .func (Rz "plus" "plus" (Ar (top 15)) (Aq (top 15)) (Af (top 15)) .none kV36 dc36 pm36 an36 cd36 ct36), sl36⟩) (c36 : RA K cd36 "plus" = true) (k36 : Rg K (.ref f36) = true)
 (a37 : SK K mainGlobals "halved" = some (some (.ref f37))) (l37 : K.lookup f37 = some ⟨oc37, od37, .func (Rz "halved" "halved" (Ar (top 48)) (Aq (top 48)) (Af (top 48)) .none kV37 dc37 pm37 an37 cd37 ct37), sl37⟩) (c37 : RA K cd37 "halved" = true) (k37 : Rg K (.ref f37) = true)
 (a38 : SK K mainGlobals "pieces_of" = some (some (.ref f38))) (l38 : K.lookup f38 = some ⟨oc38, od38, .func (Rz "pieces_of" "pieces_of" (Ar (top 47)) (Aq (top 47)) (Af (top 47)) .none kV38 dc38 pm38 an38 cd38 ct38), sl38⟩) (c38 : RA K cd38 "pieces_of" = true) (k38 : Rg K (.ref f38) = true)
 (a39 : SK K mainGlobals "whole_height" = some (some (.ref f39))) (l39 : K.lookup f39 = some ⟨oc39, od39, .func (Rz "whole_height" "whole_height" (Ar (top 26)) (Aq (top 26)) (Af (top 26)) .none kV39 dc39 pm39 an39 cd39 ct39), sl39⟩) (c39 : RA K cd39 "whole_height" = true) (k39 : Rg K (.ref f39) = true)
 (a40 : SK K mainGlobals "height_at" = some (some (.ref f40))) (l40 : K.lookup f40 = some ⟨oc40, od40, .func (Rz "height_at" "height_at" (Ar (top 27)) (Aq (top 27)) (Af (top 27)) .none kV40 dc40 pm40 an40 cd40 ct40), sl40⟩) (c40 : RA K cd40 "height_at" = true) (k40 : Rg K (.ref f40) = true)
 (a41 : SK K mainGlobals "noughts_of" = some (some (.ref f41))) (l41 : K.lookup f41 = some ⟨oc41, od41, .func (Rz "noughts_of" "noughts_of" (Ar (top 49)) (Aq (top 49)) (Af (top 49)) .none kV41 dc41 pm41 an41 cd41 ct41), sl41⟩) (c41 : RA K cd41 "noughts_of" = true) (k41 : Rg K (.ref f41) = true)
 (a42 : SK K mainGlobals "_law_word" = some (some (.ref f42))) (l42 : K.lookup f42 = some ⟨oc42, od42, .func (Rz "_law_word" "_law_word" (Ar (top 60)) (Aq (top 60)) (Af (top 60)) .none kV42 dc42 pm42 an42 cd42 ct42), sl42⟩) (c42 : RA K cd42 "_law_word" = true) (k42 : Rg K (.ref f42) = true)
 (a43 : SK K mainGlobals "law" = some (some (.ref f43))) (l43 : K.lookup f43 = some ⟨oc43, od43, .func (Rz "law" "law" (Ar (top 62)) (Aq (top 62)) (Af (top 62)) .none kV43 dc43 pm43 an43 cd43 ct43), sl43⟩) (c43 : RA K cd43 "law" = true) (k43 : Rg K (.ref f43) = true)
 (z_len : SK K mainGlobals "len" = some none)
 (z_abs : SK K mainGlobals "abs" = some none)
 (z_tuple : SK K mainGlobals "tuple" = some none)
 (z_range : SK K mainGlobals "range" = some none)
 (z_reversed : SK K mainGlobals "reversed" = some none)
 (z_isinstance : SK K mainGlobals "isinstance" = some none)
 (z_ValueError : SK K mainGlobals "ValueError" = some none)
 (z_min : SK K mainGlobals "min" = some none)
 (z_max : SK K mainGlobals "max" = some none)
 (z_list : SK K mainGlobals "list" = some none)
 (z_sum : SK K mainGlobals "sum" = some none)
 (z_int : SK K mainGlobals "int" = some none)
 {t_DEEPEST : Tok} (x_DEEPEST : SK K mainGlobals "DEEPEST" = some (some (.int 16 t_DEEPEST)))
 {g_NOUGHT : Addr} {o_NOUGHT : Obj} {v_NOUGHT : Array Value} {m_NOUGHT : Nat} (x_NOUGHT : SK K mainGlobals "NOUGHT" = some (some (.ref g_NOUGHT))) (y_NOUGHT : K.lookup g_NOUGHT = some o_NOUGHT) (w_NOUGHT : o_NOUGHT.cls = .type "tuple") (d_NOUGHT : o_NOUGHT.data = .seq v_NOUGHT m_NOUGHT) (e_NOUGHT : v_NOUGHT.toList.map Ki = [some (.int (0 : Rat).num), some (.int ((0 : Rat).den : Int))])
 {a_CurveError : Addr} (nx_CurveError : SK K mainGlobals "CurveError" = some (some (.ref a_CurveError)))
 {a_TooMany : Addr} (nx_TooMany : SK K mainGlobals "TooMany" = some (some (.ref a_TooMany)))
 {a_NoPoints : Addr} (nx_NoPoints : SK K mainGlobals "NoPoints" = some (some (.ref a_NoPoints)))
 {a_NoPoint : Addr} (nx_NoPoint : SK K mainGlobals "NoPoint" = some (some (.ref a_NoPoint)))
 {a_NoNumber : Addr} (nx_NoNumber : SK K mainGlobals "NoNumber" = some (some (.ref a_NoNumber)))
 {a_NoCurve : Addr} (nx_NoCurve : SK K mainGlobals "NoCurve" = some (some (.ref a_NoCurve)))
 {a_NoStretch : Addr} (nx_NoStretch : SK K mainGlobals "NoStretch" = some (some (.ref a_NoStretch)))
 {a_TooDeep : Addr} (nx_TooDeep : SK K mainGlobals "TooDeep" = some (some (.ref a_TooDeep)))
 {a_TooFew : Addr} (nx_TooFew : SK K mainGlobals "TooFew" = some (some (.ref a_TooFew)))
 {a_NoText : Addr} (nx_NoText : SK K mainGlobals "NoText" = some (some (.ref a_NoText)))
 {a_NoRow : Addr} (nx_NoRow : SK K mainGlobals "NoRow" = some (some (.ref a_NoRow)))
 {bm0NoCurve N0NoCurve nm0NoCurve q0NoCurve bs0NoCurve hd0NoCurve sn0NoCurve sub0NoCurve ab0NoCurve col0NoCurve dd0NoCurve j0NoCurve j1NoCurve j2NoCurve j3NoCurve j5NoCurve} (xl_NoCurve : K.lookup a_NoCurve = some (PySem.excClassObj nm0NoCurve q0NoCurve a_NoCurve N0NoCurve bs0NoCurve bm0NoCurve hd0NoCurve sn0NoCurve sub0NoCurve ab0NoCurve col0NoCurve dd0NoCurve j0NoCurve j1NoCurve j2NoCurve j3NoCurve j5NoCurve "ValueError.__new__"))
 (xex_NoCurve : SM K a_NoCurve [.type "ValueError", .type "Exception", .type "BaseException", .type "object"] "ValueError.__new__" = true)
 (xga_NoCurve : Rc K (.ref a_NoCurve) "__getattribute__" = some (some (.builtin "BaseException.__getattribute__"))) (xgt_NoCurve : Rc K (.ref a_NoCurve) "__getattr__" = some none) (xca_NoCurve : Rc K (.ref a_NoCurve) "__class__" = some (some (.builtin "object.__class__")))
 (xob_NoCurve : Rh K a_NoCurve (.type "object") = some true) (xbe_NoCurve : Rh K a_NoCurve (.type "BaseException") = some true)
 (xm_NoCurve : TC K (.ref a_NoCurve) (.ref a_CurveError) = some true) (xv_NoCurve : SG K (.ref a_NoCurve) (.type "ValueError") = some true)
 (xk_NoCurve_0 : SG K (.ref a_NoCurve) (.ref a_TooMany) = some false)
 (xk_NoCurve_1 : SG K (.ref a_NoCurve) (.ref a_NoPoints) = some false)
 (xk_NoCurve_2 : SG K (.ref a_NoCurve) (.ref a_NoPoint) = some false)
 (xk_NoCurve_3 : SG K (.ref a_NoCurve) (.ref a_NoNumber) = some false)
 (xk_NoCurve_4 : SG K (.ref a_NoCurve) (.ref a_NoCurve) = some true)
 (xk_NoCurve_5 : SG K (.ref a_NoCurve) (.ref a_NoStretch) = some false)
 (xk_NoCurve_6 : SG K (.ref a_NoCurve) (.ref a_TooDeep) = some false)
 (xk_NoCurve_7 : SG K (.ref a_NoCurve) (.ref a_TooFew) = some false)
 (xk_NoCurve_8 : SG K (.ref a_NoCurve) (.ref a_NoText) = some false)
 (xk_NoCurve_9 : SG K (.ref a_NoCurve) (.ref a_NoRow) = some false)
 {bm0NoStretch N0NoStretch nm0NoStretch q0NoStretch bs0NoStretch hd0NoStretch sn0NoStretch sub0NoStretch ab0NoStretch col0NoStretch dd0NoStretch j0NoStretch j1NoStretch j2NoStretch j3NoStretch j5NoStretch} (xl_NoStretch : K.lookup a_NoStretch = some (PySem.excClassObj nm0NoStretch q0NoStretch a_NoStretch N0NoStretch bs0NoStretch bm0NoStretch hd0NoStretch sn0NoStretch sub0NoStretch ab0NoStretch col0NoStretch dd0NoStretch j0NoStretch j1NoStretch j2NoStretch j3NoStretch j5NoStretch "ValueError.__new__"))
 (xex_NoStretch : SM K a_NoStretch [.type "ValueError", .type "Exception", .type "BaseException", .type "object"] "ValueError.__new__" = true)
 (xga_NoStretch : Rc K (.ref a_NoStretch) "__getattribute__" = some (some (.builtin "BaseException.__getattribute__"))) (xgt_NoStretch : Rc K (.ref a_NoStretch) "__getattr__" = some none) (xca_NoStretch : Rc K (.ref a_NoStretch) "__class__" = some (some (.builtin "object.__class__")))
 (xob_NoStretch : Rh K a_NoStretch (.type "object") = some true) (xbe_NoStretch : Rh K a_NoStretch (.type "BaseException") = some true)
 (xm_NoStretch : TC K (.ref a_NoStretch) (.ref a_CurveError) = some true) (xv_NoStretch : SG K (.ref a_NoStretch) (.type "ValueError") = some true)
 (xk_NoStretch_0 : SG K (.ref a_NoStretch) (.ref a_TooMany) = some false)
 (xk_NoStretch_1 : SG K (.ref a_NoStretch) (.ref a_NoPoints) = some false)
 (xk_NoStretch_2 : SG K (.ref a_NoStretch) (.ref a_NoPoint) = some false)
 (xk_NoStretch_3 : SG K (.ref a_NoStretch) (.ref a_NoNumber) = some false)
 (xk_NoStretch_4 : SG K (.ref a_NoStretch) (.ref a_NoCurve) = some false)
 (xk_NoStretch_5 : SG K (.ref a_NoStretch) (.ref a_NoStretch) = some true)
 (xk_NoStretch_6 : SG K (.ref a_NoStretch) (.ref a_TooDeep) = some false)
 (xk_NoStretch_7 : SG K (.ref a_NoStretch) (.ref a_TooFew) = some false)
 (xk_NoStretch_8 : SG K (.ref a_NoStretch) (.ref a_NoText) = some false)
 (xk_NoStretch_9 : SG K (.ref a_NoStretch) (.ref a_NoRow) = some false)
 {bm0TooDeep N0TooDeep nm0TooDeep q0TooDeep bs0TooDeep hd0TooDeep sn0TooDeep sub0TooDeep ab0TooDeep col0TooDeep dd0TooDeep j0TooDeep j1TooDeep j2TooDeep j3TooDeep j5TooDeep} (xl_TooDeep : K.lookup a_TooDeep = some (PySem.excClassObj nm0TooDeep q0TooDeep a_TooDeep N0TooDeep bs0TooDeep bm0TooDeep hd0TooDeep sn0TooDeep sub0TooDeep ab0TooDeep col0TooDeep dd0TooDeep j0TooDeep j1TooDeep j2TooDeep j3TooDeep j5TooDeep "ValueError.__new__"))
 (xex_TooDeep : SM K a_TooDeep [.type "ValueError", .type "Exception", .type "BaseException", .type "object"] "ValueError.__new__" = true)
 (xga_TooDeep : Rc K (.ref a_TooDeep) "__getattribute__" = some (some (.builtin "BaseException.__getattribute__"))) (xgt_TooDeep : Rc K (.ref a_TooDeep) "__getattr__" = some none) (xca_TooDeep : Rc K (.ref a_TooDeep) "__class__" = some (some (.builtin "object.__class__")))
 (xob_TooDeep : Rh K a_TooDeep (.type "object") = some true) (xbe_TooDeep : Rh K a_TooDeep (.type "BaseException") = some true)
 (xm_TooDeep : TC K (.ref a_TooDeep) (.ref a_CurveError) = some true) (xv_TooDeep : SG K (.ref a_TooDeep) (.type "ValueError") = some true)
 (xk_TooDeep_0 : SG K (.ref a_TooDeep) (.ref a_TooMany) = some false)
 (xk_TooDeep_1 : SG K (.ref a_TooDeep) (.ref a_NoPoints) = some false)
 (xk_TooDeep_2 : SG K (.ref a_TooDeep) (.ref a_NoPoint) = some false)
 (xk_TooDeep_3 : SG K (.ref a_TooDeep) (.ref a_NoNumber) = some false)
 (xk_TooDeep_4 : SG K (.ref a_TooDeep) (.ref a_NoCurve) = some false)
 (xk_TooDeep_5 : SG K (.ref a_TooDeep) (.ref a_NoStretch) = some false)
 (xk_TooDeep_6 : SG K (.ref a_TooDeep) (.ref a_TooDeep) = some true)
 (xk_TooDeep_7 : SG K (.ref a_TooDeep) (.ref a_TooFew) = some false)
 (xk_TooDeep_8 : SG K (.ref a_TooDeep) (.ref a_NoText) = some false)
 (xk_TooDeep_9 : SG K (.ref a_TooDeep) (.ref a_NoRow) = some false)
 (xgg : Rf K (.builtin "object.__class__") "__get__" = some (some (.builtin "getset_descriptor.__get__"))) (xtk : PySem.W.takesIn K (.builtin "object.__class__") = some true) :
 ∃ fd : FuncData, (∀ (s : Shared) (v : Value), BindsTo s fd ⟨[v], []⟩ [("_law_script", v)]) ∧ ∀ base : Heap, K.In base → base.Ns mainGlobals mg → AI l.prog w K mg base CX0 41 fa fd ["_law_script"] (HK K) := by
 have e := hfa.symm.trans (SN X G a43)
 cases e
 have OW := Uc X G z_len
 have Pe := Uc X G z_abs
 have Pb := Uc X G z_tuple
 have OX := Uc X G z_range
 have Pk := Uc X G z_reversed
 have P7 := Uc X G z_isinstance
 have PJ := Uc X G z_ValueError
 have Pl := Uc X G z_min
 have Pm := Uc X G z_max
 have Pn := Uc X G z_list
 have Po := Uc X G z_sum
 have b_int := Uc X G z_int
 have c_DEEPEST := SN X G x_DEEPEST
 have c_NOUGHT := SN X G x_NOUGHT
 have n_NOUGHT : ∀ H : Hp, Au K H (.ref g_NOUGHT) (0) := fun H => ⟨_, rfl, Ka y_NOUGHT w_NOUGHT d_NOUGHT e_NOUGHT⟩
 have F1 := AD (st := top 51) l1 c1 k1
 have B1 := Fun.binds2 "_law_script" "_law_k" F1 fun _ _ _ _ _ _ _ _ => rfl
 have F2 := AD (st := top 52) l2 c2 k2
 have B2 := Fun.binds2 "_law_pen_here" "_law_many" F2 fun _ _ _ _ _ _ _ _ => rfl
 have F3 := AD (st := top 53) l3 c3 k3
 have B3 := Fun.binds2 "_law_top" "_law_bottom" F3 fun _ _ _ _ _ _ _ _ => rfl
 have F4 := AD (st := top 57) l4 c4 k4
 have B4 := Fun.binds1 "_law_pen_here" F4 fun _ _ _ _ _ _ _ => rfl
 have F5 := AD (st := top 54) l5 c5 k5
 have B5 := Fun.binds2 "_law_a" "_law_b" F5 fun _ _ _ _ _ _ _ _ => rfl
 have F6 := AD (st := top 56) l6 c6 k6
 have B6 := Fun.binds2 "_law_a" "_law_b" F6 fun _ _ _ _ _ _ _ _ => rfl
 have F7 := AD (st := top 55) l7 c7 k7
 have B7 := Fun.binds2 "_law_a" "_law_b" F7 fun _ _ _ _ _ _ _ _ => rfl
 have F8 := AD (st := top 61) l8 c8 k8
 have B8 := Fun.binds1 "_law_pen_here" F8 fun _ _ _ _ _ _ _ => rfl
 have F9 := AD (st := top 58) l9 c9 k9
 have B9 := Fun.binds2 "_law_pen_here" "_law_most" F9 fun _ _ _ _ _ _ _ _ => rfl
 have F10 := AD (st := top 13) l10 c10 k10
 have B10 := Fun.binds2 "one" "other" F10 fun _ _ _ _ _ _ _ _ => rfl
 have F11 := AD (st := top 14) l11 c11 k11
 have B11 := Fun.binds2 "top" "bottom" F11 fun _ _ _ _ _ _ _ _ => rfl
 have F12 := AD (st := top 18) l12 c12 k12
 have B12 := Fun.binds2 "a" "b" F12 fun _ _ _ _ _ _ _ _ => rfl
 have F13 := AD (st := top 39) l13 c13 k13
 have B13 := Fun.binds1 "along" F13 fun _ _ _ _ _ _ _ => rfl
 have F14 := AD (st := top 23) l14 c14 k14
 have B14 := Fun.binds1 "numbers" F14 fun _ _ _ _ _ _ _ => rfl
 have F15 := AD (st := top 24) l15 c15 k15
 have B15 := Fun.binds2 "numbers" "bottom" F15 fun _ _ _ _ _ _ _ _ => rfl
 have F16 := AD (st := top 19) l16 c16 k16
 have B16 := Fun.binds2 "a" "b" F16 fun _ _ _ _ _ _ _ _ => rfl
 have F17 := AD (st := top 22) l17 c17 k17
 have B17 := Fun.binds1 "numbers" F17 fun _ _ _ _ _ _ _ => rfl
 have F18 := AD (st := top 25) l18 c18 k18
 have B18 := Fun.binds2 "tops" "bottom" F18 fun _ _ _ _ _ _ _ _ => rfl
 have F19 := AD (st := top 28) l19 c19 k19
 have B19 := Fun.binds2 "first" "second" F19 fun _ _ _ _ _ _ _ _ => rfl
 have F20 := AD (st := top 30) l20 c20 k20
 have B20 := Fun.binds3 "curve" "a" "b" F20 fun _ _ _ _ _ _ _ _ _ => rfl
 have F21 := AD (st := top 16) l21 c21 k21
 have B21 := Fun.binds2 "a" "b" F21 fun _ _ _ _ _ _ _ _ => rfl
 have F22 := AD (st := top 40) l22 c22 k22
 have B22 := Fun.binds3 "curve" "low" "high" F22 fun _ _ _ _ _ _ _ _ _ => rfl
 have F23 := AD (st := top 59) l23 c23 k23
 have B23 := Fun.binds1 "_law_caught" F23 fun _ _ _ _ _ _ _ => rfl
 have F24 := AD (st := top 41) l24 c24 k24
 have B24 := Fun.binds3 "curve" "low" "high" F24 fun _ _ _ _ _ _ _ _ _ => rfl
 have F25 := AD (st := top 33) l25 c25 k25
 have B25 := Fun.binds2 "first" "second" F25 fun _ _ _ _ _ _ _ _ => rfl
 have F26 := AD (st := top 32) l26 c26 k26
 have B26 := Fun.binds2 "base" "many" F26 fun _ _ _ _ _ _ _ _ => rfl
 have F27 := AD (st := top 34) l27 c27 k27
 have B27 := Fun.binds2 "one" "other" F27 fun _ _ _ _ _ _ _ _ => rfl
 have F28 := AD (st := top 35) l28 c28 k28
 have B28 := Fun.binds1 "tops" F28 fun _ _ _ _ _ _ _ => rfl
 have F29 := AD (st := top 36) l29 c29 k29
 have B29 := Fun.binds2 "great" "small" F29 fun _ _ _ _ _ _ _ _ => rfl
 have F30 := AD (st := top 37) l30 c30 k30
 have B30 := Fun.binds2 "one" "other" F30 fun _ _ _ _ _ _ _ _ => rfl
 have F31 := AD (st := top 17) l31 c31 k31
 have B31 := Fun.binds2 "a" "b" F31 fun _ _ _ _ _ _ _ _ => rfl
 have F32 := AD (st := top 29) l32 c32 k32
 have B32 := Fun.binds1 "curve" F32 fun _ _ _ _ _ _ _ => rfl
 have F33 := AD (st := top 45) l33 c33 k33
 have B33 := Fun.binds1 "curve" F33 fun _ _ _ _ _ _ _ => rfl
 have F34 := AD (st := top 46) l34 c34 k34
 have B34 := Fun.binds1 "tops" F34 fun _ _ _ _ _ _ _ => rfl
 have F35 := AD (st := top 42) l35 c35 k35
 have B35 := Fun.binds1 "tops" F35 fun _ _ _ _ _ _ _ => rfl
 have F36 := AD (st := top 15) l36 c36 k36
 have B36 := Fun.binds2 "a" "b" F36 fun _ _ _ _ _ _ _ _ => rfl
 have F37 := AD (st := top 48) l37 c37 k37
 have B37 := Fun.binds1 "piece" F37 fun _ _ _ _ _ _ _ => rfl
 have F38 := AD (st := top 47) l38 c38 k38
 have B38 := Fun.binds3 "curve" "low" "high" F38 fun _ _ _ _ _ _ _ _ _ => rfl
 have F39 := AD (st := top 26) l39 c39 k39
 have B39 := Fun.binds2 "tops" "x" F39 fun _ _ _ _ _ _ _ _ => rfl
 have F40 := AD (st := top 27) l40 c40 k40
 have B40 := Fun.binds2 "curve" "x" F40 fun _ _ _ _ _ _ _ _ => rfl
 have F41 := AD (st := top 49) l41 c41 k41
 have B41 := Fun.binds3 "curve" "low" "high" F41 fun _ _ _ _ _ _ _ _ _ => rfl
 have F42 := AD (st := top 60) l42 c42 k42
 have B42 := Fun.binds4 "_law_way" "_law_curve_here" "_law_low" "_law_high" F42 fun _ _ _ _ _ _ _ _ _ _ => rfl
 have F43 := AD (st := top 62) l43 c43 k43
 refine ⟨Rz "law" "law" (Ar (top 62)) (Aq (top 62)) (Af (top 62)) .none kV43 dc43 pm43 an43 cd43 ct43, fun s v => .of_eq rfl, fun base _ _ => ?_⟩
 have c_CurveError := SN X G nx_CurveError
 have c_TooMany := SN X G nx_TooMany
 have c_NoPoints := SN X G nx_NoPoints
 have c_NoPoint := SN X G nx_NoPoint
 have c_NoNumber := SN X G nx_NoNumber
 have c_NoCurve := SN X G nx_NoCurve
 have c_NoStretch := SN X G nx_NoStretch
 have c_TooDeep := SN X G nx_TooDeep
 have c_TooFew := SN X G nx_TooFew
 have c_NoText := SN X G nx_NoText
 have c_NoRow := SN X G nx_NoRow
 have k_NoCurve : Ir K "NoCurve" a_NoCurve := ⟨nx_NoCurve, ⟨_, _, _, _, _, _, _, _, _, _, _, _, _, _, _, _, xl_NoCurve⟩, xex_NoCurve⟩
 have xr_NoCurve : J2 K a_NoCurve [a_TooMany, a_NoPoints, a_NoPoint, a_NoNumber, a_NoCurve, a_NoStretch, a_TooDeep, a_TooFew, a_NoText, a_NoRow] 4 := ⟨⟨xga_NoCurve, xgt_NoCurve, xca_NoCurve, xgg, xtk, xob_NoCurve, xbe_NoCurve, ⟨_, _, _, _, xl_NoCurve⟩⟩, xv_NoCurve, fun i c h => match i, h with | 0, h => by cases h; exact xk_NoCurve_0 | 1, h => by cases h; exact xk_NoCurve_1 | 2, h => by cases h; exact xk_NoCurve_2 | 3, h => by cases h; exact xk_NoCurve_3 | 4, h => by cases h; exact xk_NoCurve_4 | 5, h => by cases h; exact xk_NoCurve_5 | 6, h => by cases h; exact xk_NoCurve_6 | 7, h => by cases h; exact xk_NoCurve_7 | 8, h => by cases h; exact xk_NoCurve_8 | 9, h => by cases h; exact xk_NoCurve_9 | i + 10, h => nomatch h⟩
 have k_NoStretch : Ir K "NoStretch" a_NoStretch := ⟨nx_NoStretch, ⟨_, _, _, _, _, _, _, _, _, _, _, _, _, _, _, _, xl_NoStretch⟩, xex_NoStretch⟩
 have xr_NoStretch : J2 K a_NoStretch [a_TooMany, a_NoPoints, a_NoPoint, a_NoNumber, a_NoCurve, a_NoStretch, a_TooDeep, a_TooFew, a_NoText, a_NoRow] 5 := ⟨⟨xga_NoStretch, xgt_NoStretch, xca_NoStretch, xgg, xtk, xob_NoStretch, xbe_NoStretch, ⟨_, _, _, _, xl_NoStretch⟩⟩, xv_NoStretch, fun i c h => match i, h with | 0, h => by cases h; exact xk_NoStretch_0 | 1, h => by cases h; exact xk_NoStretch_1 | 2, h => by cases h; exact xk_NoStretch_2 | 3, h => by cases h; exact xk_NoStretch_3 | 4, h => by cases h; exact xk_NoStretch_4 | 5, h => by cases h; exact xk_NoStretch_5 | 6, h => by cases h; exact xk_NoStretch_6 | 7, h => by cases h; exact xk_NoStretch_7 | 8, h => by cases h; exact xk_NoStretch_8 | 9, h => by cases h; exact xk_NoStretch_9 | i + 10, h => nomatch h⟩
 have k_TooDeep : Ir K "TooDeep" a_TooDeep := ⟨nx_TooDeep, ⟨_, _, _, _, _, _, _, _, _, _, _, _, _, _, _, _, xl_TooDeep⟩, xex_TooDeep⟩
 have xr_TooDeep : J2 K a_TooDeep [a_TooMany, a_NoPoints, a_NoPoint, a_NoNumber, a_NoCurve, a_NoStretch, a_TooDeep, a_TooFew, a_NoText, a_NoRow] 6 := ⟨⟨xga_TooDeep, xgt_TooDeep, xca_TooDeep, xgg, xtk, xob_TooDeep, xbe_TooDeep, ⟨_, _, _, _, xl_TooDeep⟩⟩, xv_TooDeep, fun i c h => match i, h with | 0, h => by cases h; exact xk_TooDeep_0 | 1, h => by cases h; exact xk_TooDeep_1 | 2, h => by cases h; exact xk_TooDeep_2 | 3, h => by cases h; exact xk_TooDeep_3 | 4, h => by cases h; exact xk_TooDeep_4 | 5, h => by cases h; exact xk_TooDeep_5 | 6, h => by cases h; exact xk_TooDeep_6 | 7, h => by cases h; exact xk_TooDeep_7 | 8, h => by cases h; exact xk_TooDeep_8 | 9, h => by cases h; exact xk_TooDeep_9 | i + 10, h => nomatch h⟩
 have Qx := fdm w base (HW F1 OW hT) B1 k1 (SN X G a1)
 have Pw := fdm w base (Hg F2 hT) B2 k2 (SN X G a2)
 have Pt := fdm w base (Fm F3 Pe hT) B3 k3 (SN X G a3)
 have Qi := fdm w base (Fl F4 Pw Pt hT) B4 k4 (SN X G a4)
 have Qj := fdm w base (He F5 Pt hT) B5 k5 (SN X G a5)
 have Qy := fdm w base (FT F6 Pt hT) B6 k6 (SN X G a6)
 have Qz := fdm w base (FU F7 Pt hT) B7 k7 (SN X G a7)
 have QA := fdm w base (Hf F8 Pt Pw Qy Qz Qj hT) B8 k8 (SN X G a8)
 have QB := fdm w base (FV F9 Qi Pw Pb OX hT) B9 k9 (SN X G a9)
 have Qk := fdm w base (E4 F10 Pe hT) B10 k10 (SN X G a10)
 have Pd := fdm w base (GY F11 Qk hT) B11 k11 (SN X G a11)
 have Px := fdm w base (Md F12 Pd hT) B12 k12 (SN X G a12)
 have PM := fdm w base (Fi F13 Px OX OW hT) B13 k13 (SN X G a13)
 have P8 := fdm w base (Hb F14 Qk hT) B14 k14 (SN X G a14)
 have P9 := fdm w base (GX F15 hT) B15 k15 (SN X G a15)
 have PN := fdm w base (IK F16 hT) B16 k16 (SN X G a16)
 have QC := fdm w base (HV F17 OW Pb c_NOUGHT n_NOUGHT hT) B17 k17 (SN X G a17)
 have PQ := fdm w base (FR F18 QC Pd hT) B18 k18 (SN X G a18)
 have QD := fdm w base (Et F19 OX OW hT) B19 k19 (SN X G a19)
 have PR := fdm w base (GW F20 P8 P9 PQ QD Pk hT) B20 k20 (SN X G a20)
 have PU := fdm w base (KS F21 Pd hT) B21 k21 (SN X G a21)
 have Ph := fdm w base (DK F22 PM P8 P9 PN PR PU Pd OW OX c_NOUGHT n_NOUGHT hT) B22 k22 (SN X G a22)
 have XF_heights_of : AI l.prog w K mg base (CX2 l.prog w) 37 _ _ ["curve", "low", "high"] (BY K a_NoStretch) := Fh (base := base) (w := w) F22 k_NoStretch PM P8 P9 PN PR PU Pd OW OX c_NOUGHT n_NOUGHT hT
 have X_heights_of : FdY l.prog w K mg base 37 "heights_of" ["curve", "low", "high"] (BY K a_NoStretch) := ⟨_, _, XF_heights_of, B22, k22, SN X G a22⟩
 have Y_heights_of : FdY l.prog w K mg base 37 "heights_of" ["curve", "low", "high"] (fun vs H Q E => (DF K : Sp) vs H Q E ∨ (BY K a_NoStretch : Sp) vs H Q E) := ⟨_, _, (DK F22 PM P8 P9 PN PR PU Pd OW OX c_NOUGHT n_NOUGHT hT).calm.or XF_heights_of, B22, k22, SN X G a22⟩
 have H__law_refusal : FdH l.prog w K mg base 33 "_law_refusal" "_law_caught" (IE K [a_TooMany, a_NoPoints, a_NoPoint, a_NoNumber, a_NoCurve, a_NoStretch, a_TooDeep, a_TooFew, a_NoText, a_NoRow]) := ⟨_, _, Es F23 c_TooMany c_NoPoints c_NoPoint c_NoNumber c_NoCurve c_NoStretch c_TooDeep c_TooFew c_NoText c_NoRow P7 OW PJ hT, B23, k23, SN X G a23⟩
 have QE := fdm w base (E5 F24 Ph P9 P8 Pl Pm hT) B24 k24 (SN X G a24)
 have XF_bounds_of : AI l.prog w K mg base (CX2 l.prog w) 38 _ _ ["curve", "low", "high"] (BY K a_NoStretch) := FQ (base := base) (w := w) F24 X_heights_of Ph P9 P8 Pl Pm hT
 have X_bounds_of : FdY l.prog w K mg base 38 "bounds_of" ["curve", "low", "high"] (BY K a_NoStretch) := ⟨_, _, XF_bounds_of, B24, k24, SN X G a24⟩
 have Y_bounds_of : FdY l.prog w K mg base 38 "bounds_of" ["curve", "low", "high"] (fun vs H Q E => (HL K : Sp) vs H Q E ∨ (BY K a_NoStretch : Sp) vs H Q E) := ⟨_, _, (E5 F24 Ph P9 P8 Pl Pm hT).calm.or XF_bounds_of, B24, k24, SN X G a24⟩
 have Ql := fdm w base (E1 F25 Pn OX OW hT) B25 k25 (SN X G a25)
 have Qm := fdm w base (JV F26 OX hT) B26 k26 (SN X G a26)
 have PV := fdm w base (IL F27 P8 P9 Ql PQ Qm OW hT) B27 k27 (SN X G a27)
 have QF := fdm w base (CO F28 OW hT) B28 k28 (SN X G a28)
 have QG := fdm w base (GZ F29 QF Qm Ql OW hT) B29 k29 (SN X G a29)
 have PX := fdm w base (Fj F30 P9 PQ P8 QG OW hT) B30 k30 (SN X G a30)
 have E_times := fdm w base (KR F31 Pd hT) B31 k31 (SN X G a31)
 have PY := fdm w base (HU F32 E_times Pb OX OW hT) B32 k32 (SN X G a32)
 have PZ := fdm w base (E3 F33 PV PX PY OW hT) B33 k33 (SN X G a33)
 have XF_lone_part : AI l.prog w K mg base (CX2 l.prog w) 37 _ _ ["curve"] (Du K a_NoCurve) := FP (base := base) (w := w) F33 k_NoCurve PV PX PY OW hT
 have X_lone_part : FdY l.prog w K mg base 37 "lone_part" ["curve"] (Du K a_NoCurve) := ⟨_, _, XF_lone_part, B33, k33, SN X G a33⟩
 have Y_lone_part : FdY l.prog w K mg base 37 "lone_part" ["curve"] (fun vs H Q E => (Ei K : Sp) vs H Q E ∨ (Du K a_NoCurve : Sp) vs H Q E) := ⟨_, _, (E3 F33 PV PX PY OW hT).calm.or XF_lone_part, B33, k33, SN X G a33⟩
 have Q0 := fdm w base (EC F34 OW OX hT) B34 k34 (SN X G a34)
 have Q3 := fdm w base (EB F35 Pn OW OX hT) B35 k35 (SN X G a35)
 have Q4 := fdm w base (Mc F36 Pd hT) B36 k36 (SN X G a36)
 have Q5 := fdm w base (Ge F37 Px Q3 Q4 c_DEEPEST hT) B37 k37 (SN X G a37)
 have XF_halved : AI l.prog w K mg base (CX2 l.prog w) 36 _ _ ["piece"] (Cs K a_TooDeep) := IJ (base := base) (w := w) F37 k_TooDeep Px Q3 Q4 c_DEEPEST hT
 have X_halved : FdY l.prog w K mg base 36 "halved" ["piece"] (Cs K a_TooDeep) := ⟨_, _, XF_halved, B37, k37, SN X G a37⟩
 have Y_halved : FdY l.prog w K mg base 36 "halved" ["piece"] (fun vs H Q E => (CJ K : Sp) vs H Q E ∨ (Cs K a_TooDeep : Sp) vs H Q E) := ⟨_, _, (Ge F37 Px Q3 Q4 c_DEEPEST hT).calm.or XF_halved, B37, k37, SN X G a37⟩
 have Py := fdm w base (E2 F38 Ph PZ Q0 P9 P8 Q5 OW hT) B38 k38 (SN X G a38)
 have XF_pieces_of : AI l.prog w K mg base (CX2 l.prog w) 38 _ _ ["curve", "low", "high"] ((fun vs H Q E => (D7 K a_NoCurve : Sp) vs H Q E ∨ (D6 K a_NoStretch : Sp) vs H Q E ∨ (ET K a_TooDeep : Sp) vs H Q E : Sp)) := FO (base := base) (w := w) F38 Y_lone_part Y_heights_of Y_halved Ph PZ Q0 P9 P8 Q5 OW hT
 have X_pieces_of : FdY l.prog w K mg base 38 "pieces_of" ["curve", "low", "high"] ((fun vs H Q E => (D7 K a_NoCurve : Sp) vs H Q E ∨ (D6 K a_NoStretch : Sp) vs H Q E ∨ (ET K a_TooDeep : Sp) vs H Q E : Sp)) := ⟨_, _, XF_pieces_of, B38, k38, SN X G a38⟩
 have Y_pieces_of : FdY l.prog w K mg base 38 "pieces_of" ["curve", "low", "high"] (fun vs H Q E => ((fun _ _ _ _ => False : Sp) : Sp) vs H Q E ∨ ((fun vs H Q E => (D7 K a_NoCurve : Sp) vs H Q E ∨ (D6 K a_NoStretch : Sp) vs H Q E ∨ (ET K a_TooDeep : Sp) vs H Q E : Sp) : Sp) vs H Q E) := ⟨_, _, (E2 F38 Ph PZ Q0 P9 P8 Q5 OW hT).calm.or XF_pieces_of, B38, k38, SN X G a38⟩
 have QH := fdm w base (EA F39 Pk hT) B39 k39 (SN X G a39)
 have Q6 := fdm w base (H0 F40 P8 QH Pd P9 hT) B40 k40 (SN X G a40)
 have QI := fdm w base (DJ F41 Py Q6 OW Po c_NOUGHT n_NOUGHT hT) B41 k41 (SN X G a41)
 have XF_noughts_of : AI l.prog w K mg base (CX2 l.prog w) 39 _ _ ["curve", "low", "high"] ((fun vs H Q E => (D7 K a_NoCurve : Sp) vs H Q E ∨ (D6 K a_NoStretch : Sp) vs H Q E ∨ (Ga K a_TooDeep : Sp) vs H Q E : Sp)) := Fg (base := base) (w := w) F41 Y_pieces_of Py Q6 OW Po c_NOUGHT n_NOUGHT hT
 have X_noughts_of : FdY l.prog w K mg base 39 "noughts_of" ["curve", "low", "high"] ((fun vs H Q E => (D7 K a_NoCurve : Sp) vs H Q E ∨ (D6 K a_NoStretch : Sp) vs H Q E ∨ (Ga K a_TooDeep : Sp) vs H Q E : Sp)) := ⟨_, _, XF_noughts_of, B41, k41, SN X G a41⟩
 have Y_noughts_of : FdY l.prog w K mg base 39 "noughts_of" ["curve", "low", "high"] (fun vs H Q E => ((fun _ _ _ _ => False : Sp) : Sp) vs H Q E ∨ ((fun vs H Q E => (D7 K a_NoCurve : Sp) vs H Q E ∨ (D6 K a_NoStretch : Sp) vs H Q E ∨ (Ga K a_TooDeep : Sp) vs H Q E : Sp) : Sp) vs H Q E) := ⟨_, _, (DJ F41 Py Q6 OW Po c_NOUGHT n_NOUGHT hT).calm.or XF_noughts_of, B41, k41, SN X G a41⟩
 have QJ := fdm w base (Hd F42 c_CurveError xm_NoCurve xr_NoCurve xm_NoStretch xr_NoStretch xm_TooDeep xr_TooDeep H__law_refusal Y_heights_of Y_bounds_of Y_pieces_of Y_noughts_of Ph QE Py QI hT) B42 k42 (SN X G a42)
 exact Nl F43 Qx Qi Qj QA QB QJ Pw OX b_int hT
theorem OD {l : RM} {q : Program} {loose : List Str} {XP : (Str → Option Value) → Heap → Prop} {YP : World → Heap → Prop} {d : DefRec} {K : Params → QT} (hI : PyProof.Rows.importsNone q = true) (hn : l.most = some 63) (hdf : d.params.defaults = [])
 (hY : ∀ (w : World) (h : Heap), YP w h → (K w.params).In h)
 (F : ∀ (w : World) (mg : Str → Option Value) (fa : Addr) (h : Heap), (K w.params).In h → h.Ns mainGlobals mg → mg d.name = some (.ref fa) →
  ∃ fd : FuncData, (∀ (s : Shared) (u : Value), BindsTo s fd ⟨[u], []⟩ [("_law_script", u)]) ∧ ∀ base : Heap, (K w.params).In base → base.Ns mainGlobals mg → AI l.prog w (K w.params) mg base CX0 41 fa fd ["_law_script"] ((fun (K : QT) => (HK K : Sp)) (K w.params))) :
 PySem.W.WalkO q loose XP YP l.row.toRowW d [] (fun f vs => PySem.call f vs) :=
 L2.LU (n := 63) (k := 41) (x := "_law_script") (CX := fun _ => CX0) (sp := fun w => (fun (K : QT) => (HK K : Sp)) (K w.params)) hI hn (by decide) hdf ⟨rfl, by decide, by decide⟩ hY F (fun _ _ a ns hl _ hS => ⟨a, ns, rfl, hS, hl, fun _ => rfl⟩) fun _ _ _ _ _ z => z
end Pf
def PySem.W.Fast.tw18379060566062798168 : Unit := ()
def PySem.W.Fast.tw1847826125508005449 : Unit := ()
def PySem.W.Fast.tw5463462444024672526 : Unit := ()
def PySem.W.Fast.tw2888850084747423663 : Unit := ()
def PySem.W.Fast.tw5040741301353384933 : Unit := ()
def PySem.W.Fast.tw10639457015258027620 : Unit := ()
def PySem.W.Fast.tw14482751917225209812 : Unit := ()
def PySem.W.Fast.tw18040956894976805297 : Unit := ()
def PySem.W.Fast.tw1555043213686867432 : Unit := ()
def PySem.W.Fast.tw10611610532262960379 : Unit := ()
def PySem.W.Fast.tw13134295277116717775 : Unit := ()
def PySem.W.Fast.tw15361334924999615939 : Unit := ()
def PySem.W.Fast.tw12779589435793024530 : Unit := ()
def PySem.W.Fast.tw12040213455370518003 : Unit := ()
def PySem.W.Fast.tw966927455776091434 : Unit := ()
def PySem.W.Fast.tw547740128322237635 : Unit := ()
def PySem.W.Fast.tw16935212738591913723 : Unit := ()
def PySem.W.Fast.tw14385986775586926911 : Unit := ()
def PySem.W.Fast.tw17325313512411260815 : Unit := ()
def PySem.W.Fast.tw13522815641650626060 : Unit := ()
def PySem.W.Fast.tw18276800276568058961 : Unit := ()
def PySem.W.Fast.tw12199227265060509645 : Unit := ()
def PySem.W.Fast.tw3309444682012981604 : Unit := ()
def PySem.W.Fast.tw1079549444659021441 : Unit := ()
def PySem.W.Fast.tw15619047692528609379 : Unit := ()
def PySem.W.Fast.tw2268293762138101597 : Unit := ()
def PySem.W.Fast.tw7985145581644024395 : Unit := ()
def PySem.W.Fast.tw18166434283468923841 : Unit := ()
def PySem.W.Fast.tw9448369014877414847 : Unit := ()
def PySem.W.Fast.tw1217822122095650402 : Unit := ()
def PySem.W.Fast.tw1781538713443161784 : Unit := ()
def PySem.W.Fast.tw6055906322324655275 : Unit := ()
def PySem.W.Fast.tw7259562645614537 : Unit := ()
def PySem.W.Fast.tw3597724375262695866 : Unit := ()
def PySem.W.Fast.tw3510859894564255189 : Unit := ()
def PySem.W.Fast.tw14838697558109642981 : Unit := ()
def PySem.W.Fast.tw14078270991558129535 : Unit := ()
def PySem.W.Fast.tw15035834990087497503 : Unit := ()
def PySem.W.Fast.tw15375224268628324634 : Unit := ()
def PySem.W.Fast.tw18160710683151085958 : Unit := ()
def PySem.W.Fast.tw10019049372339562001 : Unit := ()
def PySem.W.Fast.tw4833007807903311590 : Unit := ()
def PySem.W.Fast.tw7504194303426959749 : Unit := ()
def PySem.W.Fast.tw16789899496885050786 : Unit := ()
def PySem.W.Fast.tw12634001605606237588 : Unit := ()
def PySem.W.Fast.tw9508735065264102459 : Unit := ()
def PySem.W.Fast.tw17726980622872651282 : Unit := ()
def PySem.W.Fast.tw11736058691213543503 : Unit := ()
def PySem.W.Fast.tw18099511735322399238 : Unit := ()
def PySem.W.Fast.tw14027821114762164342 : Unit := ()
def PySem.W.Fast.tw5622558726408093250 : Unit := ()
def PySem.W.Fast.tw7408361030249247844 : Unit := ()
def PySem.W.Fast.tw11674712139896665133 : Unit := ()
def PySem.W.Fast.tw1401159056564419640 : Unit := ()
def PySem.W.Fast.tw12090014961115530720 : Unit := ()
def PySem.W.Fast.tw3506632909421439391 : Unit := ()
def PySem.W.Fast.tw13685485174890978732 : Unit := ()
def PySem.W.Fast.tw17824823286629439264 : Unit := ()
def PySem.W.Fast.tw12614197689641093208 : Unit := ()
def PySem.W.Fast.tw8788408388914497878 : Unit := ()
def PySem.W.Fast.tw6539936003409180995 : Unit := ()
def PySem.W.Fast.tw6195233008346894019 : Unit := ()
def PySem.W.Fast.tw5768573296464454619 : Unit := ()
def PySem.W.Fast.tw17189972893166076441 : Unit := ()
def PySem.W.Fast.tw4712541308241061971 : Unit := ()
def PySem.W.Fast.tw18103312117257295724 : Unit := ()
def PySem.W.Fast.tw16309225039378830907 : Unit := ()
def PySem.W.Fast.tw5967995823255978770 : Unit := ()
def PySem.W.Fast.tw17985089821398659764 : Unit := ()
def PySem.W.Fast.tw15815924694793447863 : Unit := ()
def PySem.W.Fast.tw11919119619260383558 : Unit := ()
def PySem.W.Fast.tw5548611110870700828 : Unit := ()
def PySem.W.Fast.tw7017474321382824597 : Unit := ()
def PySem.W.Fast.tw9992494224211707285 : Unit := ()
def PySem.W.Fast.tw4759108539883609422 : Unit := ()
def PySem.W.Fast.tw9796442013103761622 : Unit := ()
def PySem.W.Fast.tw10890372410918042815 : Unit := ()
def PySem.W.Fast.tw14135068020519778592 : Unit := ()
def PySem.W.Fast.tw7056285444335038401 : Unit := ()
def PySem.W.Fast.tw15284600164248067048 : Unit := ()
def PySem.W.Fast.tw9008013845195292636 : Unit := ()
def PySem.W.Fast.tw12407133486360416002 : Unit := ()
def PySem.W.Fast.tw5134071034959464346 : Unit := ()
def PySem.W.Fast.tw14071935581549259948 : Unit := ()
def PySem.W.Fast.tw4521115356244504418 : Unit := ()
def PySem.W.Fast.tw6072046569224060905 : Unit := ()
def PySem.W.Fast.tw1980586154372212846 : Unit := ()
def PySem.W.Fast.tw3142998259159005210 : Unit := ()
def PySem.W.Fast.tw6038264191404334526 : Unit := ()
def PySem.W.Fast.tw7588059844271520468 : Unit := ()
def PySem.W.Fast.tw11296362395345386164 : Unit := ()
def PySem.W.Fast.tw7659594284784850488 : Unit := ()
def PySem.W.Fast.tw1502736954227017758 : Unit := ()
def PySem.W.Fast.tw3026961192232515990 : Unit := ()
def PySem.W.Fast.tw5202802752767139680 : Unit := ()
def PySem.W.Fast.tw4514089636356338993 : Unit := ()
def PySem.W.Fast.tw5141763464542046149 : Unit := ()
def PySem.W.Fast.tw8234747774330376923 : Unit := ()
def PySem.W.Fast.tw16133917255353296036 : Unit := ()
def PySem.W.Fast.tw3855055004701579571 : Unit := ()
def PySem.W.Fast.tw2663080517624232436 : Unit := ()
def PySem.W.Fast.tw4757867411411827659 : Unit := ()
def PySem.W.Fast.tw11138028279543040899 : Unit := ()
def PySem.W.Fast.tw16298673605291117781 : Unit := ()
def PySem.W.Fast.tw238938682559857925 : Unit := ()
open PySem PySem.W PyProof.Rows
set_option maxRecDepth 100000 in
set_option maxHeartbeats 0 in
theorem PySem.Challenge.cw_onecurve_k43_stretches_refused_holds : PySem.Challenge.rw_onecurve_k43_stretches_refused.Holds := by
 w_on; o_law; k_head; (case hw => w_witness2)
 k_fill
 refine Pf.OD (l := PySem.Challenge.rw_onecurve_k43_stretches_refused) (by decide +kernel) rfl rfl (fun w h Y => PySem.W.kIn_of Y) ?F
 case F =>
  intro w mg fa h KX G hmg
  refine' Pf.NO rfl KX G hmg ?a1 ?l1 ?c1 ?k1 ?a2 ?l2 ?c2 ?k2 ?a3 ?l3 ?c3 ?k3 ?a4 ?l4 ?c4 ?k4 ?a5 ?l5 ?c5 ?k5 ?a6 ?l6 ?c6 ?k6 ?a7 ?l7 ?c7 ?k7 ?a8 ?l8 ?c8 ?k8 ?a9 ?l9 ?c9 ?k9 ?a10 ?l10 ?c10 ?k10 ?a11 ?l11 ?c11 ?k11 ?a12 ?l12 ?c12 ?k12 ?a13 ?l13 ?c13 ?k13 ?a14 ?l14 ?c14 ?k14 ?a15 ?l15 ?c15 ?k15 ?a16 ?l16 ?c16 ?k16 ?a17 ?l17 ?c17 ?k17 ?a18 ?l18 ?c18 ?k18 ?a19 ?l19 ?c19 ?k19 ?a20 ?l20 ?c20 ?k20 ?a21 ?l21 ?c21 ?k21 ?a22 ?l22 ?c22 ?k22 ?a23 ?l23 ?c23 ?k23 ?a24 ?l24 ?c24 ?k24 ?a25 ?l25 ?c25 ?k25 ?a26 ?l26 ?c26 ?k26 ?a27 ?l27 ?c27 ?k27 ?a28 ?l28 ?c28 ?k28 ?a29 ?l29 ?c29 ?k29 ?a30 ?l30 ?c30 ?k30 ?a31 ?l31 ?c31 ?k31 ?a32 ?l32 ?c32 ?k32 ?a33 ?l33 ?c33 ?k33 ?a34 ?l34 ?c34 ?k34 ?a35 ?l35 ?c35 ?k35 ?a36 ?l36 ?c36 ?k36 ?a37 ?l37 ?c37 ?k37 ?a38 ?l38 ?c38 ?k38 ?a39 ?l39 ?c39 ?k39 ?a40 ?l40 ?c40 ?k40 ?a41 ?l41 ?c41 ?k41 ?a42 ?l42 ?c42 ?k42 ?a43 ?l43 ?c43 ?k43 ?z_len ?z_abs ?z_tuple ?z_range ?z_reversed ?z_isinstance ?z_ValueError ?z_min ?z_max ?z_list ?z_sum ?z_int ?x_DEEPEST ?x_NOUGHT ?y_NOUGHT ?w_NOUGHT ?d_NOUGHT ?e_NOUGHT ?nx_CurveError ?nx_TooMany ?nx_NoPoints ?nx_NoPoint ?nx_NoNumber ?nx_NoCurve ?nx_NoStretch ?nx_TooDeep ?nx_TooFew ?nx_NoText ?nx_NoRow ?xl_NoCurve ?xex_NoCurve ?xga_NoCurve ?xgt_NoCurve ?xca_NoCurve ?xob_NoCurve ?xbe_NoCurve ?xm_NoCurve ?xv_NoCurve ?xk_NoCurve_0 ?xk_NoCurve_1 ?xk_NoCurve_2 ?xk_NoCurve_3 ?xk_NoCurve_4 ?xk_NoCurve_5 ?xk_NoCurve_6 ?xk_NoCurve_7 ?xk_NoCurve_8 ?xk_NoCurve_9 ?xl_NoStretch ?xex_NoStretch ?xga_NoStretch ?xgt_NoStretch ?xca_NoStretch ?xob_NoStretch ?xbe_NoStretch ?xm_NoStretch ?xv_NoStretch ?xk_NoStretch_0 ?xk_NoStretch_1 ?xk_NoStretch_2 ?xk_NoStretch_3 ?xk_NoStretch_4 ?xk_NoStretch_5 ?xk_NoStretch_6 ?xk_NoStretch_7 ?xk_NoStretch_8 ?xk_NoStretch_9 ?xl_TooDeep ?xex_TooDeep ?xga_TooDeep ?xgt_TooDeep ?xca_TooDeep ?xob_TooDeep ?xbe_TooDeep ?xm_TooDeep ?xv_TooDeep ?xk_TooDeep_0 ?xk_TooDeep_1 ?xk_TooDeep_2 ?xk_TooDeep_3 ?xk_TooDeep_4 ?xk_TooDeep_5 ?xk_TooDeep_6 ?xk_TooDeep_7 ?xk_TooDeep_8 ?xk_TooDeep_9 ?xgg ?xtk
  (case a1 => k_is)
  (case l1 => k_is)
  (case c1 => k_is)
  (case k1 => k_is)
  (case a2 => k_is)
  (case l2 => k_is)
  (case c2 => k_is)
  (case k2 => k_is)
  (case a3 => k_is)
  (case l3 => k_is)
  (case c3 => k_is)
  (case k3 => k_is)
  (case a4 => k_is)
  (case l4 => k_is)
  (case c4 => k_is)
  (case k4 => k_is)
  (case a5 => k_is)
  (case l5 => k_is)
  (case c5 => k_is)
  (case k5 => k_is)
  (case a6 => k_is)
  (case l6 => k_is)
  (case c6 => k_is)
  (case k6 => k_is)
  (case a7 => k_is)
  (case l7 => k_is)
  (case c7 => k_is)
  (case k7 => k_is)
  (case a8 => k_is)
  (case l8 => k_is)
  (case c8 => k_is)
  (case k8 => k_is)
  (case a9 => k_is)
  (case l9 => k_is)
  (case c9 => k_is)
  (case k9 => k_is)
  (case a10 => k_is)
  (case l10 => k_is)
  (case c10 => k_is)
  (case k10 => k_is)
  (case a11 => k_is)
  (case l11 => k_is)
  (case c11 => k_is)
  (case k11 => k_is)
  (case a12 => k_is)
  (case l12 => k_is)
  (case c12 => k_is)
  (case k12 => k_is)
  (case a13 => k_is)
  (case l13 => k_is)
  (case c13 => k_is)
  (case k13 => k_is)
  (case a14 => k_is)
  (case l14 => k_is)
  (case c14 => k_is)
  (case k14 => k_is)
  (case a15 => k_is)
  (case l15 => k_is)
  (case c15 => k_is)
  (case k15 => k_is)
  (case a16 => k_is)
  (case l16 => k_is)
  (case c16 => k_is)
  (case k16 => k_is)
  (case a17 => k_is)
  (case l17 => k_is)
  (case c17 => k_is)
  (case k17 => k_is)
  (case a18 => k_is)
  (case l18 => k_is)
  (case c18 => k_is)
  (case k18 => k_is)
  (case a19 => k_is)
  (case l19 => k_is)
  (case c19 => k_is)
  (case k19 => k_is)
  (case a20 => k_is)
  (case l20 => k_is)
  (case c20 => k_is)
  (case k20 => k_is)
  (case a21 => k_is)
  (case l21 => k_is)
  (case c21 => k_is)
  (case k21 => k_is)
  (case a22 => k_is)
  (case l22 => k_is)
  (case c22 => k_is)
  (case k22 => k_is)
  (case a23 => k_is)
  (case l23 => k_is)
  (case c23 => k_is)
  (case k23 => k_is)
  (case a24 => k_is)
  (case l24 => k_is)
  (case c24 => k_is)
  (case k24 => k_is)
  (case a25 => k_is)
  (case l25 => k_is)
  (case c25 => k_is)
  (case k25 => k_is)
  (case a26 => k_is)
  (case l26 => k_is)
  (case c26 => k_is)
  (case k26 => k_is)
  (case a27 => k_is)
  (case l27 => k_is)
  (case c27 => k_is)
  (case k27 => k_is)
  (case a28 => k_is)
  (case l28 => k_is)
  (case c28 => k_is)
  (case k28 => k_is)
  (case a29 => k_is)
  (case l29 => k_is)
  (case c29 => k_is)
  (case k29 => k_is)
  (case a30 => k_is)
  (case l30 => k_is)
  (case c30 => k_is)
  (case k30 => k_is)
  (case a31 => k_is)
  (case l31 => k_is)
  (case c31 => k_is)
  (case k31 => k_is)
  (case a32 => k_is)
  (case l32 => k_is)
  (case c32 => k_is)
  (case k32 => k_is)
  (case a33 => k_is)
  (case l33 => k_is)
  (case c33 => k_is)
  (case k33 => k_is)
  (case a34 => k_is)
  (case l34 => k_is)
  (case c34 => k_is)
  (case k34 => k_is)
  (case a35 => k_is)
  (case l35 => k_is)
  (case c35 => k_is)
  (case k35 => k_is)
  (case a36 => k_is)
  (case l36 => k_is)
  (case c36 => k_is)
  (case k36 => k_is)
  (case a37 => k_is)
  (case l37 => k_is)
  (case c37 => k_is)
  (case k37 => k_is)
  (case a38 => k_is)
  (case l38 => k_is)
  (case c38 => k_is)
  (case k38 => k_is)
  (case a39 => k_is)
  (case l39 => k_is)
  (case c39 => k_is)
  (case k39 => k_is)
  (case a40 => k_is)
  (case l40 => k_is)
  (case c40 => k_is)
  (case k40 => k_is)
  (case a41 => k_is)
  (case l41 => k_is)
  (case c41 => k_is)
  (case k41 => k_is)
  (case a42 => k_is)
  (case l42 => k_is)
  (case c42 => k_is)
  (case k42 => k_is)
  (case a43 => k_is)
  (case l43 => k_is)
  (case c43 => k_is)
  (case k43 => k_is)
  (case z_len => k_is)
  (case z_abs => k_is)
  (case z_tuple => k_is)
  (case z_range => k_is)
  (case z_reversed => k_is)
  (case z_isinstance => k_is)
  (case z_ValueError => k_is)
  (case z_min => k_is)
  (case z_max => k_is)
  (case z_list => k_is)
  (case z_sum => k_is)
  (case z_int => k_is)
  (case x_DEEPEST => k_is)
  (case x_NOUGHT => k_is)
  (case y_NOUGHT => k_is)
  (case w_NOUGHT => rfl)
  (case d_NOUGHT => rfl)
  (case e_NOUGHT => rfl)
  (case nx_CurveError => k_is)
  (case nx_TooMany => k_is)
  (case nx_NoPoints => k_is)
  (case nx_NoPoint => k_is)
  (case nx_NoNumber => k_is)
  (case nx_NoCurve => k_is)
  (case nx_NoStretch => k_is)
  (case nx_TooDeep => k_is)
  (case nx_TooFew => k_is)
  (case nx_NoText => k_is)
  (case nx_NoRow => k_is)
  (case xl_NoCurve => k_is)
  (case xex_NoCurve => k_exc)
  (case xga_NoCurve => k_is)
  (case xgt_NoCurve => k_is)
  (case xca_NoCurve => k_is)
  (case xob_NoCurve => k_is)
  (case xbe_NoCurve => k_is)
  (case xm_NoCurve => kts_exm)
  (case xv_NoCurve => kit_is)
  (case xk_NoCurve_0 => kit_is)
  (case xk_NoCurve_1 => kit_is)
  (case xk_NoCurve_2 => kit_is)
  (case xk_NoCurve_3 => kit_is)
  (case xk_NoCurve_4 => kit_is)
  (case xk_NoCurve_5 => kit_is)
  (case xk_NoCurve_6 => kit_is)
  (case xk_NoCurve_7 => kit_is)
  (case xk_NoCurve_8 => kit_is)
  (case xk_NoCurve_9 => kit_is)
  (case xl_NoStretch => k_is)
  (case xex_NoStretch => k_exc)
  (case xga_NoStretch => k_is)
  (case xgt_NoStretch => k_is)
  (case xca_NoStretch => k_is)
  (case xob_NoStretch => k_is)
  (case xbe_NoStretch => k_is)
  (case xm_NoStretch => kts_exm)
  (case xv_NoStretch => kit_is)
  (case xk_NoStretch_0 => kit_is)
  (case xk_NoStretch_1 => kit_is)
  (case xk_NoStretch_2 => kit_is)
  (case xk_NoStretch_3 => kit_is)
  (case xk_NoStretch_4 => kit_is)
  (case xk_NoStretch_5 => kit_is)
  (case xk_NoStretch_6 => kit_is)
  (case xk_NoStretch_7 => kit_is)
  (case xk_NoStretch_8 => kit_is)
  (case xk_NoStretch_9 => kit_is)
  (case xl_TooDeep => k_is)
  (case xex_TooDeep => k_exc)
  (case xga_TooDeep => k_is)
  (case xgt_TooDeep => k_is)
  (case xca_TooDeep => k_is)
  (case xob_TooDeep => k_is)
  (case xbe_TooDeep => k_is)
  (case xm_TooDeep => kts_exm)
  (case xv_TooDeep => kit_is)
  (case xk_TooDeep_0 => kit_is)
  (case xk_TooDeep_1 => kit_is)
  (case xk_TooDeep_2 => kit_is)
  (case xk_TooDeep_3 => kit_is)
  (case xk_TooDeep_4 => kit_is)
  (case xk_TooDeep_5 => kit_is)
  (case xk_TooDeep_6 => kit_is)
  (case xk_TooDeep_7 => kit_is)
  (case xk_TooDeep_8 => kit_is)
  (case xk_TooDeep_9 => kit_is)
  (case xgg => k_is)
  (case xtk => k_is)
#print axioms PySem.Challenge.cw_onecurve_k43_stretches_refused_holds
