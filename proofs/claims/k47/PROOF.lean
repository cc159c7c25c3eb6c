import PyProof.Rows.All
import Wide.All
import OpenK.AllK
import Wide.FinOn
import Lean
import PyProof.EqAt
import PyProof.EqKinds
import PyProof.TupleCall
import KE.KLam
import KE.KNestM
import KE.KSortKey
import PySem.Challenge.RW_onecurve_k47_wrong_ones_found
open Option renaming some → QF
open PySem.W renaming instObj → QG, methodObj → QH, Frag → QO, lookIn → R6, findIn → R7, keepIn → R8, kitOne → R9, kia_one → Ra, kitx_list → Rb, fnOf → Rr, codeIn → Rs, nsIn → Sn, envX → SS, kla_fn → SU, codeHdIn → SV, tabObj → SW, codeHd_of_K → SX, kla_obj → SY, OpenLaw → SZ, mg_of → Tz, mg_none_of → TB
open Nat renaming lt_of_lt_of_le → QI, lt_irrefl → QJ, ne_of_lt → QK, le_trans → QP, le_of_lt → QQ, ne_of_gt → R0, le_refl → R3, zero_le → R5, min_eq_left → Ru, min_eq_right → Rv, mul_comm → RF, lt_of_le_of_lt → RH, lt_trans → RI, pos_of_ne_zero → RK, add_zero → RW, lt_succ_self → Se, le_succ → Sf, lt_succ_of_lt → Sg, pow_le_pow_right → Sk, add_mul → Sl, one_mul → Sm, succ_pos → So, sub_zero → Sx, sub_self → Sz, le_add_right → SD, zero_add → SG, add_le_add_right → SR, lt_or_ge → T3, add_sub_cancel → T4, mul_le_mul → Tf, mul_le_mul_left → Ts, mul_add → Tt, mul_one → Tu
open List renaming range → QL, mem_filter → QM, mem_range → QN, filterMap_cons → QR, mem_cons_self → QS, mem_cons_of_mem → QT, mem_cons → QU, mem_append → QV, mem_append_left → QW, getElem?_eq_some_iff → QX, getElem?_set_ne → QY, mem_append_right → R4, append_nil → Rc, nodup_cons → Re, of_mem_zip → Rf, replicate → Rg, length_take → Rh, getElem?_append_right → Ri, getElem?_replicate → Rj, getElem?_append_left → Rk, getElem?_map → Rl, take_sublist → Rm, mem_of_getElem? → Rn, length_append → Ro, length_map → Rp, length_replicate → Rq, length_drop → Rw, size_toArray → Rx, length_set → Ry, replicate_succ → Rz, flatten_cons → RA, append_assoc → RC, length_singleton → RD, map_cons → RG, length_pos_iff → RZ, length_cons → S1, getElem?_cons_succ → S2, take_add_one → S3, map_append → S4, eq_nil_of_length_eq_zero → S5, forIn_cons → S7, lookup_cons → S8, lookup → S9, all_eq_true → Sa, getD_eq_getElem?_getD → Sb, ext_getElem? → Sc, getElem?_drop → Sd, mem_singleton → Sh, getElem?_eq_getElem → Si, getElem_mem → Sj, getElem?_eq_none → Sr, length_nil → Ss, range_succ → Su, mem_map → Sv, drop_zero → Sw, take_of_length_le → Sy, take_zero → SA, drop_eq_nil_of_le → SB, length_range → SH, getElem?_range → SL, length_eq_zero_iff → SQ, mem_map_of_mem → ST, getElem?_take → T2, getElem_of_mem → T5, length_zip → T6, pairwise_map → T7, getElem?_zip_eq_some → T8, map_congr_left → T9, mem_of_mem_take → Td, mem_replicate → Tg, eq_of_mem_replicate → Tk, filter_cons_of_pos → Tm, filter_cons_of_neg → Tn, take_length → To, filter_cons → Tp, filter_append → Tq, mem_or_eq_of_mem_set → Tv, map_take → Tw, mem_of_mem_drop → Tx, map_fst_zip → Ty
open Array renaming length_toList → QZ, getElem?_toList → RE, getElem?_eq_none → SC, forIn_toList → SI, getElem?_eq_getElem → SJ, getD_eq_getD_getElem? → SK, getElem?_setIfInBounds_ne → SM, replicate → SN, size_push → SO
open Int renaming toNat_natCast → Rt, gcd → RJ, mul_fdiv_cancel_left → RL, gcd_dvd_left → RN, one_mul → RO, gcd_dvd_right → RP, mul_ne_zero → RT, emod_nonneg → SE, emod_lt_of_pos → SF, mul_zero → Tc, fdiv_eq_ediv_of_nonneg → Tl, natCast_nonneg → Tr
open Rat renaming divInt → RM, divInt_eq_div → RQ, div_mul_cancel → RS, intCast_mul → RU, intCast_sub → RV, pow_zero → RX, pow_succ → RY, mul_eq_zero → S6, mul_zero → T0, zero_mul → T1, le_trans → Te, intCast_zero → Th, num_intCast → Ti, den_intCast → Tj
set_option Elab.async false
set_option linter.all false
set_option maxRecDepth 100000
namespace L2
open PySem PySem.Spec PyProof.Rows
abbrev Key := Sum Int Str
def Gd : Key → Value → Bool
 | .inl k, v => Value.isInt k v
 | .inr x, v => Value.isStrOf x v
def OL (w : World) : Key → Int
 | .inl k => hashInt k
 | .inr x => hashStr w x
theorem Bc : ∀ {k : Key} {v : Value}, Gd k v = true → (∃ i t, k = Sum.inl i ∧ v = Value.int i t) ∨ (∃ x t, k = Sum.inr x ∧ v = Value.str x t)
 | .inl i, v, h => by
   obtain ⟨t, e⟩ := Value.isInt_shape (k := i) (v := v) h
   exact .inl ⟨i, t, rfl, e⟩
 | .inr x, v, h => by
   obtain ⟨t, e⟩ := Value.isStrOf_shape (x := x) (v := v) h
   exact .inr ⟨x, t, rfl, e⟩
theorem K4 (i : Int) (t : Tok) : Gd (.inl i) (.int i t) = true := by simp [Gd, Value.isInt]
theorem K3 (x : Str) (t : Tok) : Gd (.inr x) (.str x t) = true := by simp [Gd, Value.isStrOf]
theorem NI (a b : Int) : decide ((Sum.inl a : Key) = Sum.inl b) = (a == b) := by
 by_cases e : a = b
 ·subst e; simp
 ·have h : ¬ (Sum.inl a : Key) = Sum.inl b := fun q => e (Sum.inl.inj q)
  rw [decide_eq_false h]
  exact (beq_eq_false_iff_ne.mpr e).symm
theorem NF (a b : Str) : decide ((Sum.inr a : Key) = Sum.inr b) = decide (a = b) := by
 by_cases e : a = b
 ·subst e; simp
 ·have h : ¬ (Sum.inr a : Key) = Sum.inr b := fun q => e (Sum.inr.inj q)
  rw [decide_eq_false h, decide_eq_false e]
theorem NH (a : Int) (b : Str) : decide ((Sum.inl a : Key) = Sum.inr b) = false := decide_eq_false (fun q => nomatch q)
theorem NG (a : Str) (b : Int) : decide ((Sum.inr a : Key) = Sum.inl b) = false := decide_eq_false (fun q => nomatch q)
def Cq (prog : Program) (w : World) : PySem.KeyKind prog w Key where
 is := Gd
 hash := OL w
 inj := fun v a b ha hb => by
  rcases Bc ha with ⟨i, t, rfl, rfl⟩ | ⟨x, t, rfl, rfl⟩
  ·rcases Bc hb with ⟨j, u, rfl, e⟩ | ⟨y, u, rfl, e⟩
   ·injection e with e1 _; rw [e1]
   ·exact nomatch e
  ·rcases Bc hb with ⟨j, u, rfl, e⟩ | ⟨y, u, rfl, e⟩
   ·exact nomatch e
   ·injection e with e1 _; rw [e1]
 byValue := fun k v h => by
  rcases Bc h with ⟨i, t, rfl, rfl⟩ | ⟨x, t, rfl, rfl⟩ <;> rfl
 pyHash := fun hv h => by
  rcases Bc hv with ⟨i, t, rfl, rfl⟩ | ⟨x, t, rfl, rfl⟩
  ·exact wpAny_pyHash_int h
  ·exact wpAny_pyHash_str h
 eqBool := fun hu hv h => by
  rcases Bc hu with ⟨i, t, rfl, rfl⟩ | ⟨x, t, rfl, rfl⟩
  ·rcases Bc hv with ⟨j, u, rfl, rfl⟩ | ⟨y, u, rfl, rfl⟩
   ·rw [NI] at h; exact wpAny_eqBool_int h
   ·rw [NH] at h; exact SeqAt.EqAt.int_str i t y u _ _ _ _ h
  ·rcases Bc hv with ⟨j, u, rfl, rfl⟩ | ⟨y, u, rfl, rfl⟩
   ·rw [NG] at h; exact SeqAt.EqAt.str_int x t j u _ _ _ _ h
   ·rw [NF] at h; exact wpAny_eqBool_str h
 «strs» := fun k x t v h => by
  rcases Bc h with ⟨i, u, rfl, e⟩ | ⟨y, u, rfl, e⟩
  ·exact nomatch e
  ·injection e with e1 _
   subst e1
   cases v <;> rfl
theorem HX (prog : Program) (w : World) (i : Int) (t : Tok) : (Cq prog w).is (.inl i) (.int i t) = true := K4 i t
theorem HW (prog : Program) (w : World) (x : Str) (t : Tok) : (Cq prog w).is (.inr x) (.str x t) = true := K3 x t
end L2
namespace L2
open PySem PySem.Spec PyProof.Rows
inductive V where
 | non | bl (b : Bool) | int (i : Int) | str (x : Str) | byt (b : Array UInt8) | flt (b : UInt64) | ref (a : Addr) | ty (n : String)
 deriving DecidableEq
def AC : V → Value → Prop
 | .non, u => u = Value.none
 | .bl b, u => u = Value.bool b
 | .int i, u => ∃ t, u = Value.int i t
 | .str x, u => ∃ t, u = Value.str x t
 | .byt b, u => ∃ t, u = Value.bytes b t
 | .flt b, u => ∃ t, u = Value.float b t
 | .ref a, u => u = Value.ref a
 | .ty n, u => u = Value.type n
abbrev Az : List V → List Value → Prop := Paired AC
theorem Az.length {xs : List V} {us : List Value} (r : Az xs us) : xs.length = us.length := Paired.length r
theorem Az.get : ∀ {xs : List V} {us : List Value} {i : Nat} {x : V}, Az xs us → xs[i]? = some x → ∃ u, us[i]? = some u ∧ AC x u
 | _, _, _, _, .nil, e => by simp at e
 | _, _, 0, _, .cons r _, e => by simp at e; subst e; exact ⟨_, rfl, r⟩
 | _, _, i + 1, x, .cons _ t, e => by
   obtain ⟨u, h1, h2⟩ := Az.get (i := i) (x := x) t (by simpa using e)
   exact ⟨u, by simpa using h1, h2⟩
theorem Az.set {x : V} {u : Value} (r : AC x u) : ∀ {xs : List V} {us : List Value} (i : Nat), Az xs us → Az (xs.set i x) (us.set i u)
 | _, _, _, .nil => .nil
 | _, _, 0, .cons _ t => .cons r t
 | _, _, i + 1, .cons q t => .cons q (Az.set r i t)
theorem Az.append {xs ys : List V} {us ws : List Value} (a : Az xs us) (b : Az ys ws) : Az (xs ++ ys) (us ++ ws) := by
 induction a with
 | nil => exact b
 | cons r t ih => exact .cons r ih
theorem Az.take : ∀ {xs : List V} {us : List Value} (n : Nat), Az xs us → Az (xs.take n) (us.take n)
 | _, _, 0, _ => .nil
 | _, _, _ + 1, .nil => .nil
 | _, _, n + 1, .cons r t => .cons r (Az.take n t)
theorem Az.drop : ∀ {xs : List V} {us : List Value} (n : Nat), Az xs us → Az (xs.drop n) (us.drop n)
 | _, _, 0, r => r
 | _, _, _ + 1, .nil => .nil
 | _, _, n + 1, .cons _ t => Az.drop n t
def O1 : Option V → Option Value → Prop
 | some v, some u => AC v u
 | none, none => True
 | _, _ => False
def KV {κ : Type} : List (κ × V) → List (κ × Value) → Prop := Paired fun (p : κ × V) (q : κ × Value) => p.1 = q.1 ∧ AC p.2 q.2
def kV : Key → V
 | .inl i => .int i
 | .inr x => .str x
inductive HO where
 | lst (xs : List V)
 | tup (xs : List V)
 | dK (kvs : List (Key × V)) | dT (kvs : List (List Key × V))
 | set (S : Int → Bool) (n : Nat)
 | ins (C dx : Addr) (fs : List (Str × V))
 | own (x : Addr)
 | xd (fs : List (Str × V))
 | met (f x : Addr)
 | rng (lo hi : Int)
 | frz (o : Obj) (u : HO)
 | tbl (ps : Array Value)
 | ext (φ : Heap → Prop)
abbrev Hp := Addr → Option HO
def upd (H : Hp) (a : Addr) (o : HO) : Hp := fun b => if b = a then some o else H b
theorem Aa {H : Hp} {a : Addr} {o : HO} : upd H a o a = some o := by unfold upd; rw [if_pos rfl]
theorem Ak {H : Hp} {a b : Addr} {o : HO} (h : b ≠ a) : upd H a o b = H b := by unfold upd; rw [if_neg h]
theorem LP {H : Hp} {a : Addr} {o u : HO} : upd (upd H a o) a u = upd H a u := by
 funext b; unfold upd; split <;> rfl
theorem En {H : Hp} {a b : Addr} {o u : HO} (h : H a = some o) (h' : H b = some u) (d : o ≠ u) : a ≠ b := by
 intro e; subst e; rw [h] at h'; exact d (QF.inj h')
theorem Aq {H : Hp} {a b : Addr} {o : HO} (h : H a = some o) (h' : H b = none) : a ≠ b := by
 intro e; subst e; rw [h] at h'; cases h'
section
variable (P : Program) (w : World)
def Bj (H : Hp) (h : Heap) (a : Addr) : HO → Prop
 | .lst xs => xs.length ≤ sizeLine ∧ ∃ (its : List Value) (n : Nat), Az xs its ∧ h.get? a = some { cls := .type "list", data := .seq its.toArray n }
 | .tup xs => xs.length ≤ sizeLine ∧ ∃ its : List Value, Az xs its ∧ IsTup h a its.toArray
 | .dK kvs => kvs.length ≤ sizeLine ∧ (a == sysModules) = false ∧ ∃ vs, KV kvs vs ∧ h.DictOf (Cq P w) a vs
 | .dT kvs => kvs.length ≤ sizeLine ∧ (a == sysModules) = false ∧ ∃ xs : List (List Key × Addr × Value),
  Paired (fun (p : List Key × V) (q : List Key × Addr × Value) => p.1 = q.1 ∧ H q.2.1 = some (.tup (p.1.map kV)) ∧ AC p.2 q.2.2) kvs xs ∧
  ∃ o es ep, h.get? a = some o ∧ o.ExactDict ∧ o.data = .dict es ep ∧ es.toList = xs.map (entryOfKey (tupleKind (Cq P w))) ∧ (xs.map (·.1)).Nodup
 | .set S n => h.SetOf (intKind P w) a S n
 | .ins C dx fs => H dx = some (.own a) ∧ fs.length ≤ 1000 ∧ dx ≠ a ∧ h.get? a = some (QG C dx) ∧
  ∃ mA, h.Ns1 dx mA ∧ (∀ f, O1 (fs.lookup f) (mA f)) ∧ PySem.Within mA (fs.map (·.1))
 | .own _ => ∃ o, h.get? a = some o
 | .xd fs => ∃ mA, h.Ns1 a mA ∧ ∀ f, O1 (fs.lookup f) (mA f)
 | .rng lo hi => ∃ t u v, h.get? a = some { cls := .type "range", data := .fields #[.int lo t, .int hi u, .int 1 v] }
 | .frz o u => h.get? a = some o ∧ Bj H h a u
 | .tbl ps => h.get? a = some { cls := .none, data := .fields ps }
 | .met f x => h.get? a = some (QH (.ref f) (.ref x))
 | .ext φ => φ h ∧ (∃ o, h.get? a = some o) ∧ ∀ h1 h2 : Heap, φ h1 → (∀ o, h1.get? a = some o → h2.get? a = some o) → φ h2
def HOk (H : Hp) (h : Heap) : Prop := ∀ a o, H a = some o → Bj P w H h a o
end
section
variable {P : Program} {w : World} {H H' : Hp} {h h' : Heap} {a : Addr} {o : HO}
theorem Bj.lt (x : Bj P w H h a o) : a < h.objs.size := by
 cases o with
 | lst xs => obtain ⟨_, _, _, _, e⟩ := x; exact Heap.lt_size e
 | tup xs => obtain ⟨_, _, _, p⟩ := x; exact p.lt
 | dK kvs => obtain ⟨_, _, _, _, o, _, _, e, _⟩ := x; exact Heap.lt_size e
 | dT kvs => obtain ⟨_, _, _, _, o, _, _, e, _⟩ := x; exact Heap.lt_size e
 | set S n => obtain ⟨o, _, _, _, e, _⟩ := x; exact Heap.lt_size e
 | ins C dx fs => obtain ⟨_, _, _, e, _⟩ := x; exact Heap.lt_size e
 | own y => obtain ⟨_, e⟩ := x; exact Heap.lt_size e
 | xd fs => obtain ⟨_, ⟨_, _, _, e, _⟩, _⟩ := x; exact Heap.lt_size e
 | rng lo hi => obtain ⟨_, _, _, e⟩ := x; exact Heap.lt_size e
 | frz ob u => obtain ⟨e, _⟩ := x; exact Heap.lt_size e
 | tbl ps => exact Heap.lt_size (show h.get? a = some _ from x)
 | met f y => exact Heap.lt_size (show h.get? a = some _ from x)
 | ext φ => obtain ⟨_, ⟨_, e⟩, _⟩ := x; exact Heap.lt_size e
theorem Paired.mapP {α β : Type} {F G : α → β → Prop} {l₁ : List α} {l₂ : List β} (h : Paired F l₁ l₂) (f : ∀ a b, F a b → G a b) : Paired G l₁ l₂ := by
 induction h with
 | nil => exact .nil
 | cons r t ih => exact .cons (f _ _ r) ih
theorem Bj.stay (x : Bj P w H h a o) (k : ∀ b u, (b = a ∨ H b = some (.own a)) → h.get? b = some u → h'.get? b = some u)
 (ho : ∀ b, H b = some (.own a) → H' b = some (.own a)) (ht : ∀ b xs, H b = some (.tup xs) → H' b = some (.tup xs)) : Bj P w H' h' a o := by
 induction o with
 | lst xs => obtain ⟨z, its, n, r, e⟩ := x; exact ⟨z, its, n, r, k _ _ (.inl rfl) e⟩
 | tup xs => obtain ⟨z, its, r, ob, e, c⟩ := x; exact ⟨z, its, r, ob, k _ _ (.inl rfl) e, c⟩
 | dK kvs => obtain ⟨z, y, vs, r, ob, es, ep, e, c⟩ := x; exact ⟨z, y, vs, r, ob, es, ep, k _ _ (.inl rfl) e, c⟩
 | dT kvs =>
   obtain ⟨z, y, xs, r, ob, es, ep, e, c⟩ := x
   exact ⟨z, y, xs, Paired.mapP r fun p q z => ⟨z.1, ht _ _ z.2.1, z.2.2⟩, ob, es, ep, k _ _ (.inl rfl) e, c⟩
 | set S n => obtain ⟨ob, es, ep, t, e, c⟩ := x; exact ⟨ob, es, ep, t, k _ _ (.inl rfl) e, c⟩
 | ins C dx fs =>
   obtain ⟨d, z, ne, e, mA, ⟨od, es, ep, e2, c⟩, r⟩ := x
   exact ⟨ho _ d, z, ne, k _ _ (.inl rfl) e, mA, ⟨od, es, ep, k _ _ (.inr d) e2, c⟩, r⟩
 | own y => obtain ⟨ob, e⟩ := x; exact ⟨ob, k _ _ (.inl rfl) e⟩
 | xd fs => obtain ⟨mA, ⟨od, es, ep, e, c⟩, r⟩ := x; exact ⟨mA, ⟨od, es, ep, k _ _ (.inl rfl) e, c⟩, r⟩
 | rng lo hi => obtain ⟨t, u, v, e⟩ := x; exact ⟨t, u, v, k _ _ (.inl rfl) e⟩
 | frz ob u ih => obtain ⟨e, q⟩ := x; exact ⟨k _ _ (.inl rfl) e, ih q⟩
 | tbl ps =>
   have e : h.get? a = some { cls := .none, data := .fields ps } := x
   show h'.get? a = some { cls := .none, data := .fields ps }
   exact k a _ (.inl rfl) e
 | met f y =>
   have e : h.get? a = some (QH (.ref f) (.ref y)) := x
   show h'.get? a = some (QH (.ref f) (.ref y))
   exact k a _ (.inl rfl) e
 | ext φ => obtain ⟨p, ⟨o, e⟩, st⟩ := x; exact ⟨st _ _ p fun o q => k _ _ (.inl rfl) q, ⟨o, k _ _ (.inl rfl) e⟩, st⟩
theorem HOk.lt (x : HOk P w H h) (e : H a = some o) : a < h.objs.size := (x a o e).lt
theorem HOk.fresh (x : HOk P w H h) (e : h.objs.size ≤ a) : H a = none := by
 cases q : H a with
 | none => rfl
 | some u => exact absurd (QI (x.lt q) e) (QJ _)
theorem HOk.kept (x : HOk P w H h) (k : ∀ b u, h.get? b = some u → h'.get? b = some u) : HOk P w H h' := fun a o e =>
 (x a o e).stay (fun b u _ q => k b u q) (fun _ q => q) fun _ _ q => q
theorem HOk.laid (x : HOk P w H h) (k : ∀ b u, h.get? b = some u → h'.get? b = some u) (hp : h.objs.size ≤ a) (new : Bj P w (upd H a o) h' a o) : HOk P w (upd H a o) h' := fun b u e => by
 have hn := x.fresh hp
 by_cases hb : b = a
 ·subst hb; rw [Aa] at e; cases e; exact new
 ·rw [Ak hb] at e
  exact (x b u e).stay (fun c v _ q => k c v q) (fun c q => by rw [Ak (Aq q hn)]; exact q) fun c xs q => by rw [Ak (Aq q hn)]; exact q
end
def Rd (H : Hp) (a : Addr) (u : HO) : Prop := H a = some u ∨ ∃ o, H a = some (.frz o u)
theorem Rd.ok {P : Program} {w : World} {H : Hp} {h : Heap} {a : Addr} {u : HO} (r : Rd H a u) (x : HOk P w H h) : Bj P w H h a u := by
 rcases r with r | ⟨o, r⟩
 ·exact x a u r
 ·obtain ⟨_, q⟩ := x a _ r
  exact q
def Mut : Option HO → Prop
 | some (.lst _) => True
 | some (.dK _) => True
 | some (.dT _) => True
 | some (.set _ _) => True
 | some (.ins _ _ _) => True
 | some (.ext _) => True
 | _ => False
section
variable {P : Program} {w : World} {H : Hp} {h h' : Heap} {x e : Addr} {o' : HO}
theorem HOk.write (ok : HOk P w H h) (mu : Mut (H x)) (he : e = x ∨ H e = some (.own x)) (k : ∀ b u, b ≠ e → h.get? b = some u → h'.get? b = some u) (heo : ∃ u, h'.get? e = some u)
 (new : Bj P w (upd H x o') h' x o') : HOk P w (upd H x o') h' := fun b u q => by
 have nown : ∀ c y, H c = some (.own y) → c ≠ x := fun c y r z => by subst z; rw [r] at mu; exact mu
 have ntup : ∀ c xs, H c = some (.tup xs) → c ≠ x := fun c xs r z => by subst z; rw [r] at mu; exact mu
 by_cases hb : b = x
 ·subst hb; rw [Aa] at q; cases q; exact new
 ·rw [Ak hb] at q
  by_cases hbe : b = e
  ·have q' : H b = some (.own x) := by
    rcases he with z | z
    ·exact absurd (hbe.trans z) hb
    ·rw [hbe]; exact z
   rw [q] at q'; cases q'
   obtain ⟨v, hv⟩ := heo
   exact ⟨v, by rw [hbe]; exact hv⟩
  ·refine (ok b u q).stay (fun c v hc r => k c v ?_ r) (fun c r => by rw [Ak (nown c b r)]; exact r) fun c xs r => by rw [Ak (ntup c xs r)]; exact r
   rcases hc with rfl | hc
   ·exact hbe
   ·rintro rfl
    rcases he with z | z
    ·exact nown c b hc z
    ·rw [hc] at z; cases z; exact hb rfl
end
structure Un (fs ex : List Addr) (H H' : Hp) (h h' : Heap) : Prop where
 keep : ∀ b o, h.get? b = some o → H b = none → b ∉ fs → b ∉ ex → h'.get? b = some o
 slot : ∀ b o, h.get? b = some o → H b = none → b ∈ fs → b ∉ ex → ∃ sl, h'.get? b = some { o with slots := sl }
 free : ∀ b o, h.get? b = some o → H b = none → b ∉ ex → H' b = none
 there : ∀ b o, h.get? b = some o → b ∉ ex → ∃ o', h'.get? b = some o'
 tups : ∀ b xs, H b = some (.tup xs) → H' b = some (.tup xs)
 frzs : ∀ b o u, H b = some (.frz o u) → H' b = some (.frz o u)
 tbls : ∀ b ps, H b = some (.tbl ps) → ∃ more, H' b = some (.tbl (ps ++ more))
section
variable {fs fs' ex ex' : List Addr} {H H1 H2 : Hp} {h h1 h2 h' : Heap} {a x e : Addr} {o : HO}
theorem Un.any (u : Un fs ex H H1 h h1) {b : Addr} {ob : Obj} (q : h.get? b = some ob) (n : H b = none) (hx : b ∉ ex) : ∃ sl, h1.get? b = some { ob with slots := sl } := by
 by_cases hb : b ∈ fs
 ·exact u.slot b ob q n hb hx
 ·exact ⟨ob.slots, u.keep b ob q n hb hx⟩
theorem Un.kept (k : ∀ b u, h.get? b = some u → h'.get? b = some u) : Un fs ex H H h h' :=
 ⟨fun b ob q _ _ _ => k b ob q, fun b ob q _ _ _ => ⟨ob.slots, k b ob q⟩, fun _ _ _ n _ => n, fun b ob q _ => ⟨ob, k b ob q⟩, fun _ _ q => q, fun _ _ _ q => q, fun _ ps q => ⟨#[], by rw [q]; simp⟩⟩
theorem Un.refl : Un fs ex H H h h := Un.kept fun _ _ q => q
theorem Un.laid (k : ∀ b u, h.get? b = some u → h'.get? b = some u) (hp : h.objs.size ≤ a) (hn : H a = none) : Un fs ex H (upd H a o) h h' where
 keep := fun b u q _ _ _ => k b u q
 slot := fun b u q _ _ _ => ⟨u.slots, k b u q⟩
 free := fun b u q n _ => by rw [Ak (QK (QI (Heap.lt_size q) hp))]; exact n
 there := fun b u q _ => ⟨u, k b u q⟩
 tups := fun b xs q => by rw [Ak (Aq q hn)]; exact q
 frzs := fun b u xs q => by rw [Ak (Aq q hn)]; exact q
 tbls := fun b ps q => ⟨#[], by rw [Ak (Aq q hn), q]; simp⟩
theorem Un.write (mu : Mut (H x)) (he : e = x ∨ H e = some (.own x)) (k : ∀ b u, b ≠ e → h.get? b = some u → h'.get? b = some u) (heo : ∃ u, h'.get? e = some u) : Un fs ex H (upd H x o) h h' := by
 have hx : ∀ b, H b = none → b ≠ x := fun b n z => by subst z; rw [n] at mu; exact mu
 have hb : ∀ b, H b = none → b ≠ e := fun b n z => by
  subst z
  rcases he with r | r
  ·exact hx b n r
  ·rw [n] at r; cases r
 have hm : ∀ b u, H b = some u → ¬ Mut (some u) → b ≠ x := fun b u q nm z => by subst z; rw [q] at mu; exact nm mu
 refine ⟨fun b u q n _ _ => k b u (hb b n) q, fun b u q n _ _ => ⟨u.slots, k b u (hb b n) q⟩, fun b u q n _ => by rw [Ak (hx b n)]; exact n, fun b u q _ => ?_,
  fun b xs q => by rw [Ak (hm b _ q fun z => z)]; exact q, fun b u xs q => by rw [Ak (hm b _ q fun z => z)]; exact q, fun b ps q => ⟨#[], by rw [Ak (hm b _ q fun z => z), q]; simp⟩⟩
 by_cases hbe : b = e
 ·subst hbe; exact heo
 ·exact ⟨u, k b u hbe q⟩
end
def trk (h : Heap) (H : Hp) : List Addr := (QL h.objs.size).filter fun a => (H a).isSome
def Fo (h : Heap) (H : Hp) : Heap := PySem.W.hideAll h (trk h H)
theorem K7 (h : Heap) (H : Hp) : (Fo h H).objs.size = h.objs.size := PySem.W.hideAll_size _ _
theorem Lh {h : Heap} {H : Hp} {b : Addr} {o : Obj} (e : h.get? b = some o) (n : H b = none) : (Fo h H).get? b = some o :=
 PySem.W.hideAll_get _ e fun hm => by
  have q : (H b).isSome = true := (QM.mp hm).2
  rw [n] at q; simp at q
theorem Mi {h : Heap} {H : Hp} {b : Addr} {o : Obj} (e : (Fo h H).get? b = some o) : h.get? b = some o ∧ H b = none := by
 have e' : h.get? b = some o := PySem.W.of_hideAll (trk h H) e
 refine ⟨e', ?_⟩
 cases q : H b with
 | none => rfl
 | some x =>
   have hm : b ∈ trk h H := QM.mpr ⟨QN.mpr (Heap.lt_size e'), by simp [q]⟩
   have z : (Fo h H).get? b = none := PySem.W.hideAll_none (trk h H) hm
   rw [z] at e; cases e
def MA (g h : Heap) (L : Addr) : List (Addr × Obj) := (QL h.objs.size).filterMap fun a => if a = L ∨ (g.get? a).isSome = true then none else (h.get? a).map fun o => (a, o)
def BU (g h : Heap) (L d : Addr) : List (Addr × Obj) := (MA g h L).filter fun p => decide (p.1 ≠ d)
end L2
namespace L2
open PySem PySem.Spec PyProof.Rows
structure Mod (K : QO) (mg : Str → Option Value) (base : Heap) : Prop where
 kin : K.In base
 glob : base.Ns mainGlobals mg
 blt : ∃ mb, base.Ns builtinsNs mb ∧ ∀ x : Str, x ≠ "__name__" → mb x = bootBuiltins x
 nolimit : base.NoLimit
 seer : base.NoSeer
structure Cx where
 prog : Program
 w : World
 K : QO
 mg : Str → Option Value
 base : Heap
 A : Around
 N : List Str
 s₀ : Shared
 H₀ : Hp
 env : Env
 outer : List Env
 stack : List Env
 ex : List Addr
 fn : Str → Bool
 calm : Bool
 pn : List (Addr × Obj)
 xe : Value → Shared → Prop
def frs (l : List Env) : List Addr := l.filterMap (·.frame)
abbrev Cx.fs (X : Cx) : List Addr := frs X.outer
def Vis (sc : Scope) (x : Str) : Prop := sc.names.lookup x = some .local ∨ sc.names.lookup x = some .cell ∨ sc.names.lookup x = some .free
def Loc (sc : Scope) (x : Str) : Prop := sc.names.lookup x = some .local ∨ sc.names.lookup x = some .cell
def OU (env : Env) (h : Heap) (m : Str → Option Value) (x : Str) (u : Value) : Prop :=
 (env.kindOf x = some .local ∧ m x = some u) ∨ ((env.kindOf x = some .cell ∨ env.kindOf x = some .free) ∧ ∃ c, env.cells.lookup x = some c ∧ h.IsCell c (some u))
structure Cx.Ok (X : Cx) : Prop where
 mod : Mod X.K X.mg X.base
 kind : X.env.scope.kind = .function
 glob : X.env.globals = mainGlobals
 blt : X.env.builtins = builtinsNs
 above : X.s₀.heap.objs.size ≤ X.env.locals
 inj : ∀ x y c, X.env.cells.lookup x = some c → X.env.cells.lookup y = some c → x = y
 has : ∀ x, (X.env.kindOf x = some .cell ∨ X.env.kindOf x = some .free) → ∃ c, X.env.cells.lookup x = some c
 cab : ∀ x c, X.fn x = true → X.env.cells.lookup x = some c → X.s₀.heap.objs.size ≤ c
 hd : X.calm = true → X.A.handled = none
 frames : X.A.frames = some X.stack
 stk : X.stack = X.outer ∨ (X.stack = X.env :: X.outer ∧ X.env.frame = some X.env.locals)
 exf : ∀ b ∈ X.ex, b ≠ X.env.locals ∧ ∀ x c, X.env.cells.lookup x = some c → c ≠ b
 bs : ∀ b o, X.base.get? b = some o → X.s₀.heap.get? b = some o ∧ X.H₀ b = none
 bsz : X.base.objs.size ≤ X.s₀.heap.objs.size
 noex : ∀ b o, X.base.get? b = some o → b ∉ X.ex
 exfs : ∀ b ∈ X.ex, b ∉ X.fs
 funs : X.s₀.heap.FunFrames X.base X.outer
 frf : ∀ b ∈ X.fs, X.H₀ b = none
structure Inv (X : Cx) (pins : List (Addr × Obj)) (σ : List (Option V)) (H : Hp) (s : Shared) : Prop where
 ok : X.Ok
 os : s.os = X.s₀.os
 bare : AllBare s.gens
 base : Un X.fs X.ex X.H₀ H X.s₀.heap s.heap
 loc : ∃ m, s.heap.Ns X.env.locals m ∧ ∀ (i : Nat) (x : Str) (v : V), X.N[i]? = some x → σ[i]? = some (some v) → Vis X.env.scope x → ∃ u, AC v u ∧ OU X.env s.heap m x u
 cell : ∀ x c, X.env.cells.lookup x = some c → ∃ v, s.heap.IsCell c v
 free : H X.env.locals = none
 freeC : ∀ x c, X.env.cells.lookup x = some c → H c = none
 pin : ∀ p ∈ X.pn ++ pins, s.heap.get? p.1 = some p.2 ∧ H p.1 = none ∧ p.1 ≠ X.env.locals ∧ p.1 ∉ X.fs ∧ ∀ v, p.2.data ≠ .cell v
 hok : HOk X.prog X.w H s.heap
 len : σ.length = X.N.length
section
variable {X : Cx} {pins : List (Addr × Obj)} {σ : List (Option V)} {H H' : Hp} {s : Shared} {h' : Heap}
theorem Cx.Ok.nofr (ok : X.Ok) {b : Addr} {o : Obj} (e : X.base.get? b = some o) : b ∉ X.fs := fun hb => by
 have := (ok.funs.mem hb).1
 rw [e] at this; cases this
theorem Inv.bs (I : Inv X pins σ H s) : ∀ b o, X.base.get? b = some o → s.heap.get? b = some o ∧ H b = none := fun b o e =>
 ⟨I.base.keep b o (I.ok.bs b o e).1 (I.ok.bs b o e).2 (I.ok.nofr e) (I.ok.noex b o e), I.base.free b o (I.ok.bs b o e).1 (I.ok.bs b o e).2 (I.ok.noex b o e)⟩
theorem Inv.bk (I : Inv X pins σ H s) : ∀ b o, X.base.get? b = some o → s.heap.get? b = some o := fun b o e => (I.bs b o e).1
theorem Inv.mod (I : Inv X pins σ H s) : Mod X.K X.mg X.base := I.ok.mod
theorem Inv.kIn (I : Inv X pins σ H s) : X.K.In s.heap := I.ok.mod.kin.keeps I.bk
theorem Inv.nolimit (I : Inv X pins σ H s) : s.heap.NoLimit := I.ok.mod.nolimit.keeps I.bk
theorem Inv.lt (I : Inv X pins σ H s) : X.env.locals < s.heap.objs.size := let ⟨_, hn, _⟩ := I.loc; hn.lt
theorem Inv.sz (I : Inv X pins σ H s) : X.s₀.heap.objs.size ≤ s.heap.objs.size := QP I.ok.above (QQ I.lt)
theorem Inv.nofs (I : Inv X pins σ H s) {a : Addr} (h : s.heap.objs.size ≤ a) : a ∉ X.fs := fun hb => by
 obtain ⟨_, o, ho, _⟩ := I.ok.funs.mem hb
 exact absurd (QI (Heap.lt_size ho) (QP I.sz h)) (QJ _)
theorem Inv.cne (I : Inv X pins σ H s) : ∀ x c, X.env.cells.lookup x = some c → c ≠ X.env.locals := fun x c e z => by
 obtain ⟨v, o, ho, hd⟩ := I.cell x c e
 obtain ⟨m, ⟨o', es, ep, ho', hd', _⟩, _⟩ := I.loc
 rw [z, ho'] at ho; cases ho; rw [hd'] at hd; cases hd
theorem Inv.funs (I : Inv X pins σ H s) : s.heap.FunFrames X.base X.outer := by
 have all : ∀ (l : List Env), (∀ b ∈ frs l, b ∈ X.fs) → X.s₀.heap.FunFrames X.base l → s.heap.FunFrames X.base l := by
  intro l
  induction l with
  | nil => intro _ _; trivial
  | cons env r ih =>
    intro hs hl
    obtain ⟨hk, ⟨L, o, hf, hn, ho, hd⟩, hr⟩ := hl
    have hL : L ∈ X.fs := hs L (by unfold frs; rw [QR, hf]; exact QS)
    obtain ⟨sl, e⟩ := I.base.slot L o ho (I.ok.frf L hL) hL fun z => I.ok.exfs L z hL
    exact ⟨hk, ⟨L, _, hf, hn, e, hd⟩, ih (fun b hb => hs b (by unfold frs; rw [QR, hf]; exact QT _ hb)) hr⟩
 exact all X.outer (fun _ hb => hb) I.ok.funs
theorem Inv.stack (I : Inv X pins σ H s) : s.heap.FunFrames X.base X.stack := by
 rcases I.ok.stk with e | ⟨e, hf⟩
 ·rw [e]; exact I.funs
 ·rw [e]
  obtain ⟨m, hn, _⟩ := I.loc
  refine .cons (by rw [I.ok.kind]; decide) hf hn ?_ I.funs
  exact Heap.get?_none_of_le (QP I.ok.bsz I.ok.above)
theorem Inv.stkSub (I : Inv X pins σ H s) : ∀ b ∈ frs X.stack, b ∈ X.env.locals :: X.fs := fun b hb => by
 rcases I.ok.stk with e | ⟨e, hf⟩
 ·rw [e] at hb; exact QT _ hb
 ·rw [e] at hb
  unfold frs at hb
  rw [QR, hf] at hb
  exact hb
theorem Inv.stkFree (I : Inv X pins σ H s) : ∀ b ∈ frs X.stack, H b = none := fun b hb => by
 rcases QU.mp (I.stkSub b hb) with e | hb
 ·rw [e]; exact I.free
 ·obtain ⟨_, o, ho, _⟩ := I.ok.funs.mem hb
  exact I.base.free b o ho (I.ok.frf b hb) fun z => I.ok.exfs b z hb
theorem Inv.step {g' : Array GenState} {t' : Nat} {d' : Drawn} {ch : List Addr} (I : Inv X pins σ H s)
 (hch : ∀ b ∈ ch, (b ∈ X.ex ∨ X.s₀.heap.objs.size ≤ b) ∧ b ≠ X.env.locals ∧ (∀ x c, X.env.cells.lookup x = some c → c ≠ b) ∧ ∀ p ∈ X.pn ++ pins, p.1 ≠ b)
 (keep : ∀ b o, b ≠ X.env.locals → b ∉ X.fs → b ∉ ch → s.heap.get? b = some o → H b = none → h'.get? b = some o)
 (slot : ∀ b o, b ≠ X.env.locals → b ∈ X.fs → b ∉ ch → s.heap.get? b = some o → H b = none → ∃ sl, h'.get? b = some { o with slots := sl }) (free : ∀ b o, b ∉ ch → s.heap.get? b = some o → H b = none → H' b = none)
 (there : ∀ b o, b ∉ ch → s.heap.get? b = some o → ∃ o', h'.get? b = some o')
 (tups : ∀ b xs, H b = some (.tup xs) → H' b = some (.tup xs)) (frzs : ∀ b o u, H b = some (.frz o u) → H' b = some (.frz o u)) (tbls : ∀ b ps, H b = some (.tbl ps) → ∃ more, H' b = some (.tbl (ps ++ more)))
 (ns : ∀ m, s.heap.Ns X.env.locals m → h'.Ns X.env.locals m) (hok : HOk X.prog X.w H' h') (hg : AllBare g') :
 Inv X pins σ H' { s with heap := h', gens := g', drawn := d', toks := t' } := by
 have neL : ∀ b o, X.s₀.heap.get? b = some o → b ≠ X.env.locals := fun b o e => QK (QI (Heap.lt_size e) I.ok.above)
 have neC : ∀ b o, X.s₀.heap.get? b = some o → b ∉ X.ex → b ∉ ch := fun b o e hx hb => by
  rcases (hch b hb).1 with z | z
  ·exact hx z
  ·exact absurd (QI (Heap.lt_size e) z) (QJ _)
 have cellK : ∀ x c, X.env.cells.lookup x = some c → ∀ v, s.heap.IsCell c v → h'.IsCell c v := fun x c e v ⟨o, ho, hd⟩ => by
  have nch : c ∉ ch := fun z => (hch c z).2.2.1 x c e rfl
  by_cases hc : c ∈ X.fs
  ·obtain ⟨sl, q⟩ := slot c o (I.cne x c e) hc nch ho (I.freeC x c e)
   exact ⟨_, q, hd⟩
  ·exact ⟨o, keep c o (I.cne x c e) hc nch ho (I.freeC x c e), hd⟩
 refine ⟨I.ok, I.os, hg, ⟨fun b o e n hb hx => ?_, fun b o e n hb hx => ?_, fun b o e n hx => ?_, fun b o e hx => ?_, fun b xs e => tups b xs (I.base.tups b xs e), fun b o xs e => frzs b o xs (I.base.frzs b o xs e), fun b ps e => ?_⟩, ?_, fun x c e => ?_, ?_, fun x c e => ?_, fun p hp => ?_, hok, I.len⟩
 ·exact keep b o (neL b o e) hb (neC b o e hx) (I.base.keep b o e n hb hx) (I.base.free b o e n hx)
 ·obtain ⟨sl, e1⟩ := I.base.slot b o e n hb hx
  obtain ⟨sl', e2⟩ := slot b _ (neL b o e) hb (neC b o e hx) e1 (I.base.free b o e n hx)
  exact ⟨sl', e2⟩
 ·obtain ⟨o', e1⟩ := I.base.there b o e hx
  exact free b o' (neC b o e hx) e1 (I.base.free b o e n hx)
 ·obtain ⟨o', e1⟩ := I.base.there b o e hx
  exact there b o' (neC b o e hx) e1
 ·obtain ⟨m1, e1⟩ := I.base.tbls b ps e
  obtain ⟨m2, e2⟩ := tbls b _ e1
  exact ⟨m1 ++ m2, by rw [e2, Array.append_assoc]⟩
 ·obtain ⟨m, hn, hl⟩ := I.loc
  refine ⟨m, ns m hn, fun i x v e1 e2 e3 => ?_⟩
  obtain ⟨u, r, l⟩ := hl i x v e1 e2 e3
  refine ⟨u, r, ?_⟩
  rcases l with l | ⟨k, c, e, z⟩
  ·exact .inl l
  ·exact .inr ⟨k, c, e, cellK x c e _ z⟩
 ·obtain ⟨v, z⟩ := I.cell x c e
  exact ⟨v, cellK x c e v z⟩
 ·obtain ⟨m, ⟨o, _, _, ho, _⟩, _⟩ := I.loc
  exact free _ o (fun z => (hch _ z).2.1 rfl) ho I.free
 ·obtain ⟨v, o, ho, hd⟩ := I.cell x c e
  exact free c o (fun z => (hch c z).2.2.1 x c e rfl) ho (I.freeC x c e)
 ·obtain ⟨e, n, ne, nf, d⟩ := I.pin p hp
  have nch : p.1 ∉ ch := fun z => (hch p.1 z).2.2.2 p hp rfl
  exact ⟨keep p.1 p.2 ne nf nch e n, free p.1 p.2 nch e n, ne, nf, d⟩
theorem Inv.un {t' : Nat} (I : Inv X pins σ H s) (u : Un X.fs [] H H' s.heap h') (hok : HOk X.prog X.w H' h') : Inv X pins σ H' { s with heap := h', toks := t' } := by
 obtain ⟨m, ⟨o, es, ep, ho, r⟩, _⟩ := id I.loc
 obtain ⟨sl, hL⟩ := u.any ho I.free (by simp)
 exact I.step (g' := s.gens) (d' := s.drawn) (ch := []) (fun _ z => nomatch z) (fun b o _ hb _ e n => u.keep b o e n hb (by simp)) (fun b o _ hb _ e n => u.slot b o e n hb (by simp)) (fun b o _ e n => u.free b o e n (by simp)) (fun b o _ e => u.there b o e (by simp)) u.tups u.frzs u.tbls (fun m' hm => by
  obtain ⟨o', es', ep', ho', r'⟩ := hm
  rw [ho] at ho'; cases ho'
  exact ⟨_, es', ep', hL, r'⟩) hok I.bare
theorem Inv.call {g' : Array GenState} {t' : Nat} {d' : Drawn} {ch : List Addr} (I : Inv X pins σ H s) (u : Un (frs X.stack) ch H H' s.heap h') (hok : HOk X.prog X.w H' h') (hg : AllBare g')
 (hch : ∀ b ∈ ch, (b ∈ X.ex ∨ X.s₀.heap.objs.size ≤ b) ∧ b ≠ X.env.locals ∧ (∀ x c, X.env.cells.lookup x = some c → c ≠ b) ∧ ∀ p ∈ X.pn ++ pins, p.1 ≠ b) :
 Inv X pins σ H' { s with heap := h', gens := g', drawn := d', toks := t' } := by
 obtain ⟨m, ⟨o, es, ep, ho, r⟩, _⟩ := id I.loc
 obtain ⟨sl, hL⟩ := u.any ho I.free fun z => (hch _ z).2.1 rfl
 exact I.step (ch := ch) hch (fun b o hL hb hc e n => u.keep b o e n (fun z => (QU.mp (I.stkSub b z)).elim hL hb) hc) (fun b o _ _ hc e n => u.any e n hc) (fun b o hc e n => u.free b o e n hc) (fun b o hc e => u.there b o e hc) u.tups u.frzs u.tbls (fun m' hm => by
  obtain ⟨o', es', ep', ho', r'⟩ := hm
  rw [ho] at ho'; cases ho'
  exact ⟨_, es', ep', hL, r'⟩) hok hg
theorem Inv.turned {t' : Nat} {it : Addr} (I : Inv X pins σ H s) (k : ∀ b o, b ≠ it → s.heap.get? b = some o → h'.get? b = some o) (hn : H it = none) (hL : it ≠ X.env.locals)
 (h1 : it ∈ X.ex ∨ X.s₀.heap.objs.size ≤ it) (h2 : ∀ x c, X.env.cells.lookup x = some c → c ≠ it) (h3 : ∀ p ∈ X.pn ++ pins, p.1 ≠ it) : Inv X pins σ H { s with heap := h', toks := t' } := by
 have nit : ∀ b u, H b = some u → b ≠ it := fun b u e z => by rw [z, hn] at e; cases e
 refine I.step (g' := s.gens) (d' := s.drawn) (ch := [it]) (fun b hb => ?_) (fun b o _ _ hc e _ => k b o (fun z => hc (by simp [z])) e) (fun b o _ _ hc e _ => ⟨o.slots, k b o (fun z => hc (by simp [z])) e⟩) (fun _ _ _ _ n => n)
  (fun b o hc e => ⟨o, k b o (fun z => hc (by simp [z])) e⟩) (fun _ _ e => e) (fun _ _ _ e => e) (fun b ps e => ⟨#[], by rw [e]; simp⟩) (fun m hm => ?_) (fun b u e => ?_) I.bare
 ·have e : b = it := by simpa using hb
  subst e
  exact ⟨h1, hL, h2, h3⟩
 ·obtain ⟨o, es, ep, ho, r⟩ := hm
  exact ⟨o, es, ep, k _ o (Ne.symm hL) ho, r⟩
 ·refine (I.hok b u e).stay (fun c v hc q => k c v ?_ q) (fun _ q => q) fun _ _ q => q
  rcases hc with z | z
  ·rw [z]; exact nit b u e
  ·exact nit c _ z
theorem Inv.tok (I : Inv X pins σ H s) (t : Nat) : Inv X pins σ H { s with toks := t } := I.un (h' := s.heap) (t' := t) Un.refl I.hok
theorem Inv.kept {t' : Nat} (I : Inv X pins σ H s) (k : ∀ b u, s.heap.get? b = some u → h'.get? b = some u) : Inv X pins σ H { s with heap := h', toks := t' } := I.un (Un.kept k) (I.hok.kept k)
theorem Inv.laid {a : Addr} {o : HO} {t' : Nat} (I : Inv X pins σ H s) (k : ∀ b u, s.heap.get? b = some u → h'.get? b = some u) (hp : s.heap.objs.size ≤ a) (new : Bj X.prog X.w (upd H a o) h' a o) :
 Inv X pins σ (upd H a o) { s with heap := h', toks := t' } := I.un (Un.laid k hp (I.hok.fresh hp)) (I.hok.laid k hp new)
theorem Inv.write {x e : Addr} {o : HO} {t' : Nat} (I : Inv X pins σ H s) (mu : Mut (H x)) (he : e = x ∨ H e = some (.own x)) (k : ∀ b u, b ≠ e → s.heap.get? b = some u → h'.get? b = some u) (heo : ∃ u, h'.get? e = some u)
 (new : Bj X.prog X.w (upd H x o) h' x o) : Inv X pins σ (upd H x o) { s with heap := h', toks := t' } := I.un (Un.write mu he k heo) (I.hok.write mu he k heo new)
theorem Inv.weak {σ' : List (Option V)} (I : Inv X pins σ H s) (hl : σ'.length = σ.length) (w : ∀ (i : Nat) v, σ'[i]? = some (some v) → σ[i]? = some (some v)) : Inv X pins σ' H s :=
 ⟨I.ok, I.os, I.bare, I.base, let ⟨m, hn, hl'⟩ := I.loc; ⟨m, hn, fun i x v e1 e2 e3 => hl' i x v e1 (w i v e2) e3⟩, I.cell, I.free, I.freeC, I.pin, I.hok, hl.trans I.len⟩
theorem Inv.pins_of {pins' : List (Addr × Obj)} (I : Inv X pins σ H s) (h : ∀ p ∈ pins', s.heap.get? p.1 = some p.2 ∧ H p.1 = none ∧ p.1 ≠ X.env.locals ∧ p.1 ∉ X.fs ∧ ∀ v, p.2.data ≠ .cell v) : Inv X pins' σ H s :=
 ⟨I.ok, I.os, I.bare, I.base, I.loc, I.cell, I.free, I.freeC, fun p hp => (QV.mp hp).elim (fun z => I.pin p (QW _ z)) (h p), I.hok, I.len⟩
theorem HR {N : List Str} (hN : N.Nodup) {i j : Nat} {x : Str} (a : N[i]? = some x) (b : N[j]? = some x) : i = j := by
 obtain ⟨h1, e1⟩ := QX.mp a
 obtain ⟨h2, e2⟩ := QX.mp b
 exact (List.getElem_inj hN).mp (e1.trans e2.symm)
theorem FN {M : Model} {A : Around} {E : Value → Shared → Prop} {i : Nat} {x : Str} {v : V} {u : Value} {Q : Unit → Shared → Prop} (I : Inv X pins σ H s) (hN : X.N.Nodup) (hi : X.N[i]? = some x) (hx : Loc X.env.scope x) (r : AC v u)
 (h : ∀ s', Inv X pins (σ.set i (some v)) H s' → (∃ a, Heap.SameBut a s.heap s'.heap ∧ (a = X.env.locals ∨ X.env.cells.lookup x = some a)) → Q () s') (hf : X.fn x = true ∨ X.env.scope.names.lookup x = some .local := by first | exact .inl rfl | exact .inr rfl | assumption) : wpAny M A (storeName X.env x u) Q E s := by
 obtain ⟨m, hn, hl⟩ := id I.loc
 have hcls : (X.env.scope.kind == .class || (X.env.scope.kind == .module && X.env.locals != X.env.globals)) = false := by rw [I.ok.kind]; rfl
 have hiσ : i < σ.length := by rw [I.len]; exact (QX.mp hi).1
 have cne := I.cne
 have tracked : ∀ {a : Addr} {h' : Heap}, (∃ o, s.heap.get? a = some o ∧ H a = none) → Heap.SameBut a s.heap h' → HOk X.prog X.w H h' := fun {a h'} ha hs b ob e => by
  obtain ⟨_, _, hfree⟩ := ha
  refine (I.hok b ob e).stay (fun c w' hc q => (hs.2 c ?_).trans q) (fun _ q => q) fun _ _ q => q
  rintro rfl
  rcases hc with rfl | hc
  ·rw [hfree] at e; cases e
  ·rw [hfree] at hc; cases hc
 rcases hx with hk | hk
 ·refine wpAny_storeName_local hk hn (fun h' hn' hs => ?_) hcls
  obtain ⟨oL, _, _, hoL, _⟩ := id hn
  refine h _ ⟨I.ok, I.os, I.bare, ⟨fun b o e n hb hx => ?_, fun b o e n hb hx => ?_, I.base.free, fun b o e hx => ?_, I.base.tups, I.base.frzs, I.base.tbls⟩, ⟨_, hn', fun j y v' e1 e2 e3 => ?_⟩, fun y c e => ?_, I.free, I.freeC, fun p hp => ?_, tracked ⟨oL, hoL, I.free⟩ hs, by simpa using I.len⟩ ⟨_, hs, .inl rfl⟩
  ·exact (hs.2 b (QK (QI (Heap.lt_size e) I.ok.above))).trans (I.base.keep b o e n hb hx)
  ·obtain ⟨sl, e1⟩ := I.base.slot b o e n hb hx
   exact ⟨sl, (hs.2 b (QK (QI (Heap.lt_size e) I.ok.above))).trans e1⟩
  ·obtain ⟨o', e1⟩ := I.base.there b o e hx
   exact ⟨o', (hs.2 b (QK (QI (Heap.lt_size e) I.ok.above))).trans e1⟩
  ·by_cases hj : j = i
   ·subst hj
    rw [hi] at e1; cases e1
    rw [List.getElem?_set_self hiσ] at e2
    cases e2
    exact ⟨u, r, .inl ⟨hk, by simp⟩⟩
   ·rw [QY (Ne.symm hj)] at e2
    obtain ⟨u', r', q⟩ := hl j y v' e1 e2 e3
    refine ⟨u', r', ?_⟩
    rcases q with ⟨k, e⟩ | ⟨k, c, e, z⟩
    ·refine .inl ⟨k, ?_⟩
     have : y ≠ x := fun e => hj (HR hN e1 (e ▸ hi))
     simp [this, e]
    ·exact .inr ⟨k, c, e, z.sameBut hs (cne y c e)⟩
  ·obtain ⟨w', z⟩ := I.cell y c e
   exact ⟨w', z.sameBut hs (cne y c e)⟩
  ·obtain ⟨e, n, ne, nf, d⟩ := I.pin p hp
   exact ⟨(hs.2 p.1 ne).trans e, n, ne, nf, d⟩
 ·have hfn : X.fn x = true := by
   rcases hf with z | z
   ·exact z
   ·rw [z] at hk; cases hk
  obtain ⟨c, hc⟩ := I.ok.has x (.inl hk)
  obtain ⟨w', z⟩ := I.cell x c hc
  refine wpAny_storeName_cell I.ok.kind hk hc z (fun h' hc' hs => ?_)
  obtain ⟨oc, hoc, hocd⟩ := id z
  refine h { s with heap := h' } ⟨I.ok, I.os, I.bare, ⟨fun b o e n hb hx => ?_, fun b o e n hb hx => ?_, I.base.free, fun b o e hx => ?_, I.base.tups, I.base.frzs, I.base.tbls⟩, ⟨m, hn.sameBut hs (Ne.symm (cne x c hc)), fun j y v' e1 e2 e3 => ?_⟩, fun y c' e => ?_, I.free, I.freeC, fun p hp => ?_, tracked ⟨oc, hoc, I.freeC x c hc⟩ hs, by simpa using I.len⟩ ⟨c, hs, .inr hc⟩
  ·exact (hs.2 b (QK (QI (Heap.lt_size e) (I.ok.cab x c hfn hc)))).trans (I.base.keep b o e n hb hx)
  ·obtain ⟨sl, e1⟩ := I.base.slot b o e n hb hx
   exact ⟨sl, (hs.2 b (QK (QI (Heap.lt_size e) (I.ok.cab x c hfn hc)))).trans e1⟩
  ·obtain ⟨o', e1⟩ := I.base.there b o e hx
   exact ⟨o', (hs.2 b (QK (QI (Heap.lt_size e) (I.ok.cab x c hfn hc)))).trans e1⟩
  ·by_cases hj : j = i
   ·subst hj
    rw [hi] at e1; cases e1
    rw [List.getElem?_set_self hiσ] at e2
    cases e2
    exact ⟨u, r, .inr ⟨.inl hk, c, hc, hc'⟩⟩
   ·rw [QY (Ne.symm hj)] at e2
    obtain ⟨u', r', q⟩ := hl j y v' e1 e2 e3
    refine ⟨u', r', ?_⟩
    rcases q with q | ⟨k, c', e, z'⟩
    ·exact .inl q
    ·refine .inr ⟨k, c', e, z'.sameBut hs ?_⟩
     rintro rfl
     exact hj (HR hN e1 (I.ok.inj _ _ _ e hc ▸ hi))
  ·by_cases hcc : c' = c
   ·subst hcc; exact ⟨_, hc'⟩
   ·obtain ⟨w2, z2⟩ := I.cell y c' e
    exact ⟨w2, z2.sameBut hs hcc⟩
  ·obtain ⟨e, n, ne, nf, d⟩ := I.pin p hp
   refine ⟨(hs.2 p.1 ?_).trans e, n, ne, nf, d⟩
   intro q
   rw [q, hoc] at e
   have q' : oc = p.2 := QF.inj e
   exact d w' (by rw [← q']; exact hocd)
theorem DH {M : Model} {A : Around} {E : Value → Shared → Prop} {i : Nat} {x : Str} {v : V} {u : Value} {Q : Unit → Shared → Prop} (I : Inv X pins σ H s) (hN : X.N.Nodup) (hi : X.N[i]? = some x) (hx : Loc X.env.scope x) (r : AC v u)
 (h : ∀ s', Inv X pins (σ.set i (some v)) H s' → Q () s') (hf : X.fn x = true ∨ X.env.scope.names.lookup x = some .local := by first | exact .inl rfl | exact .inr rfl | assumption) : wpAny M A (storeName X.env x u) Q E s :=
 FN I hN hi hx r (fun s' I' _ => h s' I') hf
theorem Inv.call' {s' : Shared} {ch : List Addr} (I : Inv X pins σ H s) (ho : s'.os = s.os) (u : Un (frs X.stack) ch H H' s.heap s'.heap) (hok : HOk X.prog X.w H' s'.heap) (hg : AllBare s'.gens)
 (hch : ∀ b ∈ ch, (b ∈ X.ex ∨ X.s₀.heap.objs.size ≤ b) ∧ b ≠ X.env.locals ∧ (∀ x c, X.env.cells.lookup x = some c → c ≠ b) ∧ ∀ p ∈ X.pn ++ pins, p.1 ≠ b) : Inv X pins σ H' s' := by
 obtain ⟨h', g', d', t', o'⟩ := s'
 have e : o' = s.os := ho
 subst e
 exact I.call (g' := g') (t' := t') (d' := d') u hok hg hch
end
abbrev XK := Value → Option Addr → Hp → Prop
abbrev St := List (Option V)
abbrev VK := V → Hp → Prop
abbrev TE := St → Hp → VK → Prop
abbrev TT := St → Hp → (Bool → Hp → Prop) → Prop
abbrev TA := St → Hp → (List V → Hp → Prop) → Prop
structure CI where
 nx : St → Hp → Prop
 rt : VK
 bk : St → Hp → Prop := fun _ _ => False
 ct : St → Hp → Prop := fun _ _ => False
abbrev TS := CI → St → Hp → Prop
inductive EP (X : Cx) (pins : List (Addr × Obj)) (σ : St) (Q : VK) (u : Value) (s' : Shared) : Prop
 | mk (v : _) (H' : _) (h1 : Inv X pins σ H' s') (h2 : AC v u) (h3 : Q v H') : EP X pins σ Q u s'
def TP (X : Cx) (pins : List (Addr × Obj)) (σ : St) (Q : Bool → Hp → Prop) (b : Bool) (s' : Shared) : Prop := ∃ H', Inv X pins σ H' s' ∧ Q b H'
inductive AP (X : Cx) (pins : List (Addr × Obj)) (σ : St) (Q : List V → Hp → Prop) (us : List Value) (s' : Shared) : Prop
 | mk (vs : _) (H' : _) (h1 : Inv X pins σ H' s') (h2 : Az vs us) (h3 : Q vs H') : AP X pins σ Q us s'
def SP (X : Cx) (pins : List (Addr × Obj)) (D : CI) (f : Flow) (s' : Shared) : Prop :=
 match f with
 | .next => ∃ σ' H', Inv X pins σ' H' s' ∧ D.nx σ' H'
 | .brk => ∃ σ' H', Inv X pins σ' H' s' ∧ D.bk σ' H'
 | .cont => ∃ σ' H', Inv X pins σ' H' s' ∧ D.ct σ' H'
 | .ret u => ∃ v σ' H', Inv X pins σ' H' s' ∧ AC v u ∧ D.rt v H'
def PE (X : Cx) (e : Expr) (t : TE) : Prop :=
 ∀ (pins : List (Addr × Obj)) (s : Shared) (σ : St) (H : Hp) (Q : VK), Inv X pins σ H s → t σ H Q → wpAny (model X.prog X.w) X.A (eval e X.env) (EP X pins σ Q) X.xe s
def PT (X : Cx) (e : Expr) (t : TT) : Prop :=
 ∀ (pins : List (Addr × Obj)) (s : Shared) (σ : St) (H : Hp) (Q : Bool → Hp → Prop), Inv X pins σ H s → t σ H Q → wpAny (model X.prog X.w) X.A (isTrue e X.env (eval e X.env)) (TP X pins σ Q) X.xe s
def PW (X : Cx) (e : Expr) (t : TT) : Prop :=
 ∀ (whole : Sem Value) (pins : List (Addr × Obj)) (s : Shared) (σ : St) (H : Hp) (Q : Bool → Hp → Prop), Inv X pins σ H s → t σ H Q → wpAny (model X.prog X.w) X.A (isTrue e X.env whole) (TP X pins σ Q) X.xe s
theorem PW.pt {X : Cx} {e : Expr} {t : TT} (h : PW X e t) : PT X e t := h _
def PA (X : Cx) (es : List Expr) (t : TA) : Prop :=
 ∀ (pos : Pos) (pins : List (Addr × Obj)) (s : Shared) (σ : St) (H : Hp) (Q : List V → Hp → Prop), Inv X pins σ H s → t σ H Q → wpAny (model X.prog X.w) X.A (spliced (backTo pos (starEach es X.env))) (AP X pins σ Q) X.xe s
def PS (X : Cx) (st : Stmt) (t : TS) : Prop :=
 ∀ (pins : List (Addr × Obj)) (s : Shared) (σ : St) (H : Hp) (D : CI), Inv X pins σ H s → t D σ H → wpAny (model X.prog X.w) X.A (exec st X.env) (SP X pins D) X.xe s
def PSs (X : Cx) (st : List Stmt) (t : TS) : Prop :=
 ∀ (pins : List (Addr × Obj)) (s : Shared) (σ : St) (H : Hp) (D : CI), Inv X pins σ H s → t D σ H → wpAny (model X.prog X.w) X.A (execs st X.env) (SP X pins D) X.xe s
theorem thn {α : Type} {t : Sem α} {Q Q' : α → Shared → Prop} {M : Model} {A : Around} {E : Value → Shared → Prop} {s : Shared} (h : wpAny M A t Q E s) (hQ : ∀ a s, Q a s → Q' a s) : wpAny M A t Q' E s := wpAny_mono h hQ fun _ _ x => x
end L2
namespace L2
open PySem PySem.Spec PyProof.Rows
section
variable {X : Cx}
inductive Kq (i : Nat) (σ : St) (H : Hp) (Q : VK) : Prop
 | mk (v : _) (h1 : σ[i]? = some (some v)) (h2 : Q v H) : Kq i σ H Q
def tC (v : V) : TE := fun _ H Q => Q v H
theorem Ni {i : Nat} {x : Str} {pos : Pos} (hN : X.N[i]? = some x) (hv : Vis X.env.scope x) (hd : (x == ("__debug__" : Str)) = false := by decide) (hcd : (x == ("__classdict__" : Str)) = false := by decide) : PE X (.Name x pos) (Kq i) := by
 intro pins s σ H Q I h
 obtain ⟨v, e, h⟩ := h
 obtain ⟨m, hn, hl⟩ := I.loc
 obtain ⟨u, r, l⟩ := hl i x v hN e hv
 have fin : EP X pins σ Q u s := ⟨v, H, I, r, h⟩
 rcases l with ⟨hk, hm⟩ | ⟨hk, c, hc, hcell⟩
 ·exact wpAny_Name (wpAny_loadName_local I.ok.kind hk hn hm fin) hd
 ·rcases hk with hk | hk
  ·exact wpAny_Name (wpAny_loadName_cell I.ok.kind hk hc hcell fin) hd
  ·exact wpAny_Name (wpAny_loadName_free I.ok.kind hk hc hcell fin hcd) hd
theorem Ab {i j pos} : PE X (.Constant (.int i) j pos) (tC (.int i)) := fun _ _ _ H _ I h => wpAny_Constant_int ⟨.int i, H, I.tok _, ⟨_, rfl⟩, h⟩
theorem ML {b j pos} : PE X (.Constant (.bool b) j pos) (tC (.bl b)) := fun _ _ _ H _ I h => Constant_bool ⟨.bl b, H, I, rfl, h⟩
theorem Nj {j pos} : PE X (.Constant .none j pos) (tC .non) := fun _ _ _ H _ I h => Constant_none ⟨.non, H, I, rfl, h⟩
theorem GF {x j pos} : PE X (.Constant (.str x) j pos) (tC (.str x)) := fun _ _ _ H _ I h => Calls.Constant_str ⟨.str x, H, I.tok _, ⟨_, rfl⟩, h⟩
def Gl (X : Cx) (x : Str) : Prop := X.env.kindOf x = some .globalImplicit
theorem Jn {E : Value → Shared → Prop} {pins : List (Addr × Obj)} {s : Shared} {σ : St} {H : Hp} {x : Str} {u : Value} {pos : Pos} {Q : Value → Shared → Prop} (I : Inv X pins σ H s) (hg : Gl X x) (hm : X.mg x = some u) (h : Q u s)
 (hd : (x == ("__debug__" : Str)) = false := by decide) : wpAny (model X.prog X.w) X.A (eval (.Name x pos) X.env) Q E s :=
 Calls.Name_function_global I.ok.kind hg (Calls.loadGlobal_global (by rw [I.ok.glob]; exact I.mod.glob.keeps I.bk) hm h) hd
theorem Cu {E : Value → Shared → Prop} {pins : List (Addr × Obj)} {s : Shared} {σ : St} {H : Hp} {x : Str} {u : Value} {pos : Pos} {Q : Value → Shared → Prop} (I : Inv X pins σ H s) (hg : Gl X x) (hm : X.mg x = none) (hv : bootBuiltins x = some u) (h : Q u s)
 (hn : x ≠ "__name__" := by decide) (hd : (x == ("__debug__" : Str)) = false := by decide) : wpAny (model X.prog X.w) X.A (eval (.Name x pos) X.env) Q E s := by
 obtain ⟨mb, h1, h2⟩ := I.mod.blt
 exact Calls.Name_function_global I.ok.kind hg (Calls.loadGlobal_builtin (by rw [I.ok.glob]; exact I.mod.glob.keeps I.bk) hm (by rw [I.ok.blt]; exact h1.keeps I.bk) ((h2 x hn).trans hv) h) hd
theorem GH {x : Str} {v : V} {u : Value} {pos : Pos} (hg : Gl X x) (hm : X.mg x = some u) (r : AC v u) (hd : (x == ("__debug__" : Str)) = false := by decide) : PE X (.Name x pos) (tC v) :=
 fun _ _ _ H _ I h => Jn I hg hm ⟨v, H, I, r, h⟩ hd
theorem Jj {x : Str} {v : V} {u : Value} {pos : Pos} (hg : Gl X x) (hm : X.mg x = none) (hv : bootBuiltins x = some u) (r : AC v u) (hn : x ≠ "__name__" := by decide) (hd : (x == ("__debug__" : Str)) = false := by decide) : PE X (.Name x pos) (tC v) :=
 fun _ _ _ H _ I h => Cu I hg hm hv ⟨v, H, I, r, h⟩ hn hd
variable {a b : Expr} {ta tb : TE} {pos : Pos}
def tB (t : TE) : TT := fun σ H Q => t σ H fun x H1 => ∃ c, x = .bl c ∧ Q c H1
theorem IE {e : Expr} {t : TE} (h : PE X e t) (he : ∀ whole, isTrue e X.env whole = (do let v ← whole; standAt e.pos; holding [v] (truthy v)) := by intro _; rfl) : PT X e (tB t) := by
 intro pins s σ H Q I hw
 refine isTrue_plain (thn (h pins s σ H _ I hw) fun v s1 ⟨x, H1, I1, r1, q1⟩ => ?_) (he _)
 obtain ⟨d, rfl, q⟩ := q1
 cases r1
 exact wpAny_truthy_bool ⟨H1, I1, q⟩
variable {tA tB' : TT} {BU : List Expr}
def OI (t u : TT) : TT := fun σ H Q => t σ H fun c H1 => if c = true then u σ H1 Q else Q false H1
def tOr (t u : TT) : TT := fun σ H Q => t σ H fun c H1 => if c = true then Q true H1 else u σ H1 Q
def OG (t : TT) : TT := fun σ H Q => t σ H fun c H1 => Q (!c) H1
theorem EE (ha : PT X a tA) : PW X (.BoolOp .And [a] pos) tA := by
 intro wh pins s σ H Q I h
 refine isTrue_and (thn (ha pins s σ H Q I h) fun c s1 e => ?_)
 cases c with
 | true => exact isTrue_and_nil e
 | false => exact e
theorem KH (ha : PT X a tA) : PW X (.BoolOp .Or [a] pos) tA := by
 intro wh pins s σ H Q I h
 refine isTrue_or (thn (ha pins s σ H Q I h) fun c s1 e => ?_)
 cases c with
 | false => exact isTrue_or_nil e
 | true => exact e
theorem GD (ha : PT X a tA) (hb : PW X (.BoolOp .And (b :: BU) pos) tB') : PW X (.BoolOp .And (a :: b :: BU) pos) (OI tA tB') := by
 intro wh pins s σ H Q I h
 refine isTrue_and (thn (ha pins s σ H _ I h) fun c s1 ⟨H1, I1, q1⟩ => ?_)
 cases c with
 | true => exact hb wh pins s1 σ H1 Q I1 q1
 | false => exact ⟨H1, I1, q1⟩
theorem KI (ha : PT X a tA) (hb : PW X (.BoolOp .Or (b :: BU) pos) tB') : PW X (.BoolOp .Or (a :: b :: BU) pos) (tOr tA tB') := by
 intro wh pins s σ H Q I h
 refine isTrue_or (thn (ha pins s σ H _ I h) fun c s1 ⟨H1, I1, q1⟩ => ?_)
 cases c with
 | true => exact ⟨H1, I1, q1⟩
 | false => exact hb wh pins s1 σ H1 Q I1 q1
theorem IF (ha : PT X a tA) : PT X (.UnaryOp .Not a pos) (OG tA) := by
 intro pins s σ H Q I h
 exact isTrue_not (ha pins s σ H (fun c H1 => Q (!c) H1) I h)
def tIf (t : TT) (ta tb : TE) : TE := fun σ H Q => t σ H fun c H1 => if c = true then ta σ H1 Q else tb σ H1 Q
theorem F0 {c : Expr} (hc : PT X c tA) (ha : PE X a ta) (hb : PE X b tb) : PE X (.IfExp c a b pos) (tIf tA ta tb) := by
 intro pins s σ H Q I h
 refine wpAny_IfExp (thn (hc pins s σ H _ I h) fun d s1 ⟨H1, I1, q1⟩ => ?_)
 cases d with
 | true => exact ha pins s1 σ H1 Q I1 q1
 | false => exact hb pins s1 σ H1 Q I1 q1
end
end L2
namespace L2
open PySem PySem.Spec PyProof.Rows
def SqL (K : QO) (H : Hp) (a : Addr) (xs : List V) : Prop :=
 Rd H a (.lst xs) ∨
  ∃ (o : Obj) (its : Array Value) (n : Nat), K.lookup a = some o ∧ o.cls = .type "list" ∧ o.dict = none ∧ o.data = .seq its n ∧ its.size ≤ sizeLine ∧ Az xs its.toList
def SqT (K : QO) (H : Hp) (a : Addr) (xs : List V) : Prop :=
 Rd H a (.tup xs) ∨
  ∃ (o : Obj) (its : Array Value) (n : Nat), K.lookup a = some o ∧ o.cls = .type "tuple" ∧ o.data = .seq its n ∧ its.size ≤ sizeLine ∧ Az xs its.toList
def Ke : Value → Option V
 | .none => some .non
 | .bool b => some (.bl b)
 | .int i _ => some (.int i)
 | .str x _ => some (.str x)
 | .bytes b _ => some (.byt b)
 | .float b _ => some (.flt b)
 | .ref a => some (.ref a)
 | .type n => some (.ty n)
 | _ => none
theorem AC.abs {x : V} {u : Value} (r : AC x u) : Ke u = some x := by
 cases x with
 | non => cases r; rfl
 | bl _ => cases r; rfl
 | int _ => obtain ⟨t, rfl⟩ := r; rfl
 | str _ => obtain ⟨t, rfl⟩ := r; rfl
 | byt _ => obtain ⟨t, rfl⟩ := r; rfl
 | flt _ => obtain ⟨t, rfl⟩ := r; rfl
 | ref _ => cases r; rfl
 | ty _ => cases r; rfl
theorem AC.inj {x y : V} {u : Value} (r : AC x u) (q : AC y u) : x = y := QF.inj (r.abs.symm.trans q.abs)
theorem Az.inj {xs ys : List V} {us : List Value} (a : Az xs us) (b : Az ys us) : xs = ys := by
 induction a generalizing ys with
 | nil => cases b; rfl
 | cons r t ih => cases b with | cons r' t' => rw [r.inj r', ih t']
section
variable {X : Cx} {pins : List (Addr × Obj)} {σ : St} {H : Hp} {s : Shared} {a : Addr} {xs ys : List V}
theorem SqL.of {K : QO} (h : H a = some (.lst xs)) : SqL K H a xs := .inl (.inl h)
theorem SqT.of {K : QO} (h : H a = some (.tup xs)) : SqT K H a xs := .inl (.inl h)
theorem Inv.list (I : Inv X pins σ H s) (h : SqL X.K H a xs) : ∃ its : List Value, Az xs its ∧ PlainL s.heap a its.toArray ∧ xs.length ≤ sizeLine := by
 rcases h with h | ⟨o, its, n, hk, hc, hd, hs, hz, r⟩
 ·obtain ⟨z, its, n, r, e⟩ := h.ok I.hok
  exact ⟨its, r, ⟨_, n, e, rfl, rfl, rfl⟩, z⟩
 ·refine ⟨its.toList, r, ⟨o, n, I.kIn a o hk, hc, hd, by simpa using hs⟩, ?_⟩
  have e := r.length
  simp only [QZ] at e
  lia
theorem Inv.tuple (I : Inv X pins σ H s) (h : SqT X.K H a xs) : ∃ its : List Value, Az xs its ∧ IsTup s.heap a its.toArray ∧ xs.length ≤ sizeLine := by
 rcases h with h | ⟨o, its, n, hk, hc, hs, hz, r⟩
 ·obtain ⟨z, its, r, p⟩ := h.ok I.hok
  exact ⟨its, r, p, z⟩
 ·refine ⟨its.toList, r, ⟨o, I.kIn a o hk, hc, n, by simpa using hs⟩, ?_⟩
  have e := r.length
  simp only [QZ] at e
  lia
theorem Inv.list_inj (I : Inv X pins σ H s) (h : SqL X.K H a xs) (h' : SqL X.K H a ys) : xs = ys := by
 obtain ⟨its, r, ⟨o, n, e, _, _, d⟩, _⟩ := I.list h
 obtain ⟨its', r', ⟨o', n', e', _, _, d'⟩, _⟩ := I.list h'
 rw [e] at e'; cases e'
 rw [d] at d'
 injection d' with d1 _
 have : its = its' := by simpa using congrArg Array.toList d1
 subst this
 exact r.inj r'
theorem Inv.tuple_inj (I : Inv X pins σ H s) (h : SqT X.K H a xs) (h' : SqT X.K H a ys) : xs = ys := by
 obtain ⟨its, r, ⟨o, e, _, n, d⟩, _⟩ := I.tuple h
 obtain ⟨its', r', ⟨o', e', _, n', d'⟩, _⟩ := I.tuple h'
 rw [e] at e'; cases e'
 rw [d] at d'
 injection d' with d1 _
 have : its = its' := by simpa using congrArg Array.toList d1
 subst this
 exact r.inj r'
end
abbrev Cx.wish (X : Cx) (E : Value → Shared → Prop) : Cx := { X with xe := E }
abbrev Cx.nox (X : Cx) : Cx := X.wish fun _ _ => False
theorem Cx.Ok.wish {X : Cx} (ok : X.Ok) (E : Value → Shared → Prop) : (X.wish E).Ok :=
 ⟨ok.mod, ok.kind, ok.glob, ok.blt, ok.above, ok.inj, ok.has, ok.cab, ok.hd, ok.frames, ok.stk, ok.exf, ok.bs, ok.bsz, ok.noex, ok.exfs, ok.funs, ok.frf⟩
theorem Cx.Ok.unwish {X : Cx} {E : Value → Shared → Prop} (ok : (X.wish E).Ok) : X.Ok :=
 ⟨ok.mod, ok.kind, ok.glob, ok.blt, ok.above, ok.inj, ok.has, ok.cab, ok.hd, ok.frames, ok.stk, ok.exf, ok.bs, ok.bsz, ok.noex, ok.exfs, ok.funs, ok.frf⟩
section
variable {X : Cx} {pins : List (Addr × Obj)} {σ : St} {H : Hp} {s : Shared} {E : Value → Shared → Prop}
theorem Inv.wish (I : Inv X pins σ H s) (E : Value → Shared → Prop) : Inv (X.wish E) pins σ H s := ⟨I.ok.wish E, I.os, I.bare, I.base, I.loc, I.cell, I.free, I.freeC, I.pin, I.hok, I.len⟩
theorem Inv.unwish (I : Inv (X.wish E) pins σ H s) : Inv X pins σ H s := ⟨I.ok.unwish, I.os, I.bare, I.base, I.loc, I.cell, I.free, I.freeC, I.pin, I.hok, I.len⟩
theorem SP.unwish {D : CI} {f : Flow} {s' : Shared} (h : SP (X.wish E) pins D f s') : SP X pins D f s' := by
 cases f with
 | next => obtain ⟨σ', H', I, q⟩ := h; exact ⟨σ', H', I.unwish, q⟩
 | brk => obtain ⟨σ', H', I, q⟩ := h; exact ⟨σ', H', I.unwish, q⟩
 | cont => obtain ⟨σ', H', I, q⟩ := h; exact ⟨σ', H', I.unwish, q⟩
 | ret u => obtain ⟨v, σ', H', I, r, q⟩ := h; exact ⟨v, σ', H', I.unwish, r, q⟩
theorem PSs.nox {st : List Stmt} {t : TS} (h : PSs X.nox st t) : PSs X st t := fun pins s σ H D I hw =>
 wpAny_mono (h pins s σ H D (I.wish _) hw) (fun _ _ q => q.unwish) fun _ _ z => False.elim z
end
section
variable {X : Cx} {st : Stmt} {BU : List Stmt} {t u : TS} {e : Expr} {te : TE} {pos : Pos}
def O7 : TS := fun D σ H => D.nx σ H
@[reducible] def CI.to (D : CI) (n : St → Hp → Prop) : CI := { D with nx := n }
def LU (t u : TS) : TS := fun D σ H => t (D.to (u D)) σ H
theorem AI : PSs X [] O7 := fun _ _ σ H _ I h => wpAny_execs_nil ⟨σ, H, I, h⟩
theorem KK (h1 : PS X st t) (h2 : PSs X BU u) : PSs X (st :: BU) (LU t u) := by
 intro pins s σ H D I h
 refine wpAny_execs_cons (thn (h1 pins s σ H { D with nx := u D } I h) fun f s1 q => ?_)
 cases f with
 | next =>
   obtain ⟨σ', H', I', q⟩ := q
   exact h2 pins s1 σ' H' D I' q
 | ret v => exact q
 | brk => exact q
 | cont => exact q
theorem Ag (h1 : PS X st t) : PSs X [st] t := by
 intro pins s σ H D I h
 refine wpAny_execs_cons (thn (h1 pins s σ H D I h) fun f s1 q => ?_)
 cases f with
 | next => exact wpAny_execs_nil q
 | ret v => exact q
 | brk => exact q
 | cont => exact q
theorem Inv.quiet {pins : List (Addr × Obj)} {σ : St} {H : Hp} {s : Shared} (I : Inv X pins σ H s) : interactive X.env = false := by simp [interactive, I.ok.kind]
def O9 (te : TE) : TS := fun D σ H => te σ H fun _ H1 => D.nx σ H1
theorem BQ (he : PE X e te) (hs : swapsWith e none pos.line X.env = pure false := by rfl) : PS X (.Expr e pos) (O9 te) := by
 intro pins s σ H D I h
 exact wpAny_Expr_any (thn (he pins s σ H _ I h) fun v s1 ⟨x, H1, I1, r1, q1⟩ => ⟨σ, H1, I1, q1⟩) I.quiet hs
def OE (te : TE) : TS := fun D σ H => te σ H D.rt
theorem Av (he : PE X e te) : PS X (.Return (some e) pos) (OE te) := by
 intro pins s σ H D I h
 exact wpAny_Return_some (thn (he pins s σ H _ I h) fun v s1 ⟨x, H1, I1, r1, q1⟩ => ⟨x, σ, H1, I1, r1, q1⟩)
def Kr (c : TT) (t u : TS) : TS := fun D σ H => c σ H fun b H1 => if b = true then t D σ H1 else u D σ H1
theorem Of {c : Expr} {a b : List Stmt} {tc : TT} (hc : PT X c tc) (ha : PSs X a t) (hb : PSs X b u) : PS X (.If c a b pos) (Kr tc t u) := by
 intro pins s σ H D I h
 refine wpAny_If (thn (hc pins s σ H _ I h) fun d s1 ⟨H1, I1, q1⟩ => ?_)
 cases d with
 | true => exact ha pins s1 σ H1 D I1 q1
 | false => exact hb pins s1 σ H1 D I1 q1
def MY : TS := fun _ _ _ => False
theorem Ci : PS X st MY := fun _ _ _ _ _ _ h => h.elim
end
abbrev TG := V → St → Hp → (St → Hp → Prop) → Prop
abbrev TGs := List V → St → Hp → (St → Hp → Prop) → Prop
def PG (X : Cx) (target : Expr) (t : TG) : Prop :=
 ∀ (pins : List (Addr × Obj)) (s : Shared) (σ : St) (H : Hp) (v : V) (u : Value) (Q : St → Hp → Prop), Inv X pins σ H s → AC v u → t v σ H Q →
   wpAny (model X.prog X.w) X.A (assign target X.env u) (fun _ s' => ∃ σ' H', Inv X pins σ' H' s' ∧ Q σ' H') X.xe s
def PGs (X : Cx) (ts : List Expr) (t : TGs) : Prop :=
 ∀ (pins : List (Addr × Obj)) (s : Shared) (σ : St) (H : Hp) (vs : List V) (us : List Value) (Q : St → Hp → Prop), Inv X pins σ H s → Az vs us → t vs σ H Q →
   wpAny (model X.prog X.w) X.A (assignInOrder ((assignEach ts X.env).map (·.2)) us) (fun _ s' => ∃ σ' H', Inv X pins σ' H' s' ∧ Q σ' H') X.xe s
abbrev NZ := V → V → V → Hp → (Hp → Prop) → Prop
def OA (X : Cx) (t : NZ) : Prop :=
 ∀ (pins : List (Addr × Obj)) (s : Shared) (σ : St) (H : Hp) (o i v : V) (ov iv u : Value) (Q : Hp → Prop), Inv X pins σ H s → AC o ov → AC i iv → AC v u → t o i v H Q →
   wpAny (model X.prog X.w) X.A (setItem ov iv u) (fun _ s' => ∃ H', Inv X pins σ H' s' ∧ Q H') X.xe s
section
variable {X : Cx} {pos : Pos}
def C9 (i : Nat) : TG := fun v σ H Q => Q (σ.set i (some v)) H
theorem Au {i : Nat} {x : Str} (hN : X.N.Nodup) (hi : X.N[i]? = some x) (hx : Loc X.env.scope x) (hf : X.fn x = true ∨ X.env.scope.names.lookup x = some .local := by first | exact .inl rfl | exact .inr rfl | assumption) : PG X (.Name x pos) (C9 i) := by
 intro pins s σ H v u Q I r h
 exact wpAny_assign_Name (DH I hN hi hx r (fun s' I' => ⟨_, H, I', h⟩) hf)
def Mt : TGs := fun vs σ H Q => vs = [] ∧ Q σ H
inductive Fq (t : TG) (u : TGs) (vs : List V) (σ : St) (H : Hp) (Q : (St → Hp → Prop)) : Prop
 | mk (v : _) (r : _) (h1 : vs = v :: r) (h2 : t v σ H fun σ' H' => u r σ' H' Q) : Fq t u vs σ H Q
theorem EF : PGs X [] Mt := by
 intro pins s σ H vs us Q I r h
 obtain ⟨e, h⟩ := h
 subst e
 cases r
 exact assignInOrder_nil ⟨σ, H, I, h⟩
theorem BR {e : Expr} {es : List Expr} {t : TG} {u : TGs} (h1 : PG X e t) (h2 : PGs X es u)
 (hs : (assignEach (e :: es) X.env).map (·.2) = assign e X.env :: (assignEach es X.env).map (·.2) := by rfl) : PGs X (e :: es) (Fq t u) := by
 intro pins s σ H vs us Q I r h
 obtain ⟨v, vr, e1, h⟩ := h
 subst e1
 cases r with
 | cons r rr =>
   rw [hs]
   refine assignInOrder_cons (thn (h1 pins s σ H _ _ _ I r h) fun _ s1 ⟨σ1, H1, I1, q1⟩ => ?_)
   exact h2 pins s1 σ1 H1 _ _ Q I1 rr q1
inductive K8 (K : QO) (n : Nat) (t : TGs) (v : V) (σ : St) (H : Hp) (Q : (St → Hp → Prop)) : Prop
 | mk (a : _) (xs : _) (h1 : v = .ref a) (h2 : SqT K H a xs) (h3 : xs.length = n) (h4 : t xs σ H Q) : K8 K n t v σ H Q
theorem Nh {es : List Expr} {k : Nat} {t : TGs} {n : Nat} (hc : X.calm = true) (h : PGs X es t)
 (hn : (assignEach es X.env).length = n := by rfl) (hst : (assignEach es X.env).findIdx? (·.1) = none := by rfl) : PG X (.Tuple es k pos) (K8 X.K n t) := by
 intro pins s σ H v u Q I r hw
 obtain ⟨a, xs, e1, hq, hl, hw⟩ := hw
 subst e1
 cases r
 obtain ⟨its, rv, ht, hz⟩ := I.tuple hq
 refine assign_Tuple_tuple (I.ok.hd hc) ht (by simp [hn, ← hl, rv.length]) hst fun h' hx => ?_
 have I1 : Inv X pins σ H { s with heap := h' } := I.kept (t' := s.toks) fun b o e => hx b o (QK (Heap.lt_size e)) e
 exact h pins _ σ H xs _ Q I1 (by simpa using rv) hw
def ON (to ti : TE) (t : NZ) : TG := fun v σ H Q => to σ H fun o H1 => ti σ H1 fun i H2 => t o i v H2 fun H3 => Q σ H3
theorem EZ {o i : Expr} {to ti : TE} {t : NZ} (ho : PE X o to) (hi : PE X i ti) (hs : OA X t)
 (ha : ∀ v, assign (.Subscript o i pos) X.env v = (do
  let ov ← holding [v] (eval o X.env)
  let iv ← holding [v, ov] (eval i X.env)
  standAt pos
  holding [v, ov, iv] (setItem ov iv v)
  release [v, ov, iv] []) := by intro _; rfl) : PG X (.Subscript o i pos) (ON to ti t) := by
 intro pins s σ H v u Q I r h
 rw [ha]
 refine wpAny_bind (wpAny_holding (thn (ho pins s σ H _ I h) fun ov s1 ⟨x, H1, I1, r1, q1⟩ => ?_))
 refine wpAny_bind (wpAny_holding (thn (hi pins s1 σ H1 _ I1 q1) fun iv s2 ⟨y, H2, I2, r2, q2⟩ => ?_))
 refine wpAny_bind (wpAny_standAt (wpAny_bind (wpAny_holding (thn (hs pins s2 σ H2 x y v ov iv u _ I2 r1 r2 r q2) fun _ s3 ⟨H3, I3, q3⟩ => ?_))))
 exact wpAny_release ⟨σ, H3, I3, q3⟩
def N3 (te : TE) (g : TG) : TS := fun D σ H => te σ H fun x H1 => g x σ H1 D.nx
theorem E5 {tg e : Expr} {te : TE} {g : TG} (he : PE X e te) (hg : PG X tg g) (hs : swapsWithSole [tg] e pos.line X.env = pure false := by rfl) (hw : swappedStores [tg] e X.env = pure none := by rfl)
 (h1 : (assignEach [tg] X.env).map (·.2) = [assign tg X.env] := by rfl) : PS X (.Assign [tg] e pos) (N3 te g) := by
 intro pins s σ H D I h
 refine wpAny_Assign_stores (thn (he pins s σ H _ I h) fun v s1 ⟨x, H1, I1, r1, q1⟩ => ?_) hs hw
 rw [h1]
 exact thn (hg pins s1 σ H1 x v _ I1 r1 q1) fun _ s2 q => q
theorem Ai {i : Nat} {x : Str} {e : Expr} {te : TE} {pos' : Pos} (hN : X.N.Nodup) (hi : X.N[i]? = some x) (hx : Loc X.env.scope x) (he : PE X e te) (hs : swapsWith e (some (.Name x pos')) pos.line X.env = pure false := by rfl) (hf : X.fn x = true ∨ X.env.scope.names.lookup x = some .local := by first | exact .inl rfl | exact .inr rfl | assumption) :
 PS X (.Assign [.Name x pos'] e pos) (N3 te (C9 i)) := by
 intro pins s σ H D I h
 refine wpAny_Assign_Name (thn (he pins s σ H _ I h) fun v s1 ⟨y, H1, I1, r1, q1⟩ => ?_) hs
 exact DH I1 hN hi hx r1 (fun s2 I2 => ⟨_, H1, I2, q1⟩) hf
def OF (i j : Nat) (ta : TA) : TS := fun D σ H => ta σ H fun vs H1 => ∃ v w, vs = [v, w] ∧ D.nx ((σ.set i (some v)).set j (some w)) H1
theorem Nb {i j : Nat} {x y : Str} {a b : Expr} {ta : TA} {px py pt : Pos} {kt k2 pt2} (hc : X.calm = true) (hN : X.N.Nodup) (hi : X.N[i]? = some x) (hj : X.N[j]? = some y) (hij : i ≠ j)
 (hx : X.env.scope.names.lookup x = some .local) (hy : X.env.scope.names.lookup y = some .local) (ha : PA X [a, b] ta)
 (hw : swappedStores [.Tuple [.Name x px, .Name y py] kt pt] (.Tuple [a, b] k2 pt2) X.env = pure (some [x, y]))
 (hs : swapsWithSole [.Tuple [.Name x px, .Name y py] kt pt] (.Tuple [a, b] k2 pt2) pos.line X.env = pure false := by rfl) :
 PS X (.Assign [.Tuple [.Name x px, .Name y py] kt pt] (.Tuple [a, b] k2 pt2) pos) (OF i j ta) := by
 intro pins s σ H D I h
 rw [exec_Assign_arm]
 refine wpAny_bind (wpAny_standAt ?_)
 rw [hs]
 refine wpAny_bind (wpAny_pure ?_)
 rw [if_neg (by decide)]
 refine wpAny_bind (Tuple_ (thn (ha _ pins s σ H _ I h) fun us s1 ⟨vs, H1, I1, r1, q1⟩ => ?_))
 obtain ⟨v, w, e1, q1⟩ := q1
 subst e1
 obtain ⟨u1, u2, rfl, rv, rw'⟩ : ∃ u1 u2, us = [u1, u2] ∧ AC v u1 ∧ AC w u2 := by
  cases r1 with
  | cons p q =>
    cases q with
    | cons p' q' =>
      cases q'
      exact ⟨_, _, rfl, p, p'⟩
 refine wpAny_newObj_type ?_ (by show 2 ≤ sizeLine; decide)
 have I2 : Inv X pins σ H1 { s1 with heap := s1.heap.push { cls := .type "tuple", data := .seq [u1, u2].toArray } } := I1.kept (t' := s1.toks) fun b o e => Heap.get?_push_of_some _ e
 rw [hw]
 refine wpAny_bind (wpAny_pure ?_)
 show wpAny (model X.prog X.w) X.A (do rule "assign.swapped-stores"; let items ← unpackItems (.ref s1.heap.objs.size) 2 none; assignInOrder [fun v => bindName X.env y v, fun v => bindName X.env x v] items.reverse; pure Flow.next) _ _ _
 refine wpAny_bind (wpAny_rule (wpAny_bind (unpackItems_tuple (items := #[u1, u2]) (I.ok.hd hc) (IsTup.new s1.heap _) fun h' hx' => ?_)))
 have I3 := I2.kept (h' := h') (t' := s1.toks) fun b o e => hx' b o (QK (Heap.lt_size e)) e
 show wpAny _ _ (assignInOrder [fun v => bindName X.env y v, fun v => bindName X.env x v] [u2, u1] >>= fun _ => pure Flow.next) _ _ _
 refine wpAny_bind (assignInOrder_cons (wpAny_bindName (DH I3 hN hj (.inl hy) rw' (fun s2 I4 => ?_) (.inr hy))))
 refine assignInOrder_cons (wpAny_bindName (DH I4 hN hi (.inl hx) rv (fun s3 I5 => assignInOrder_nil (wpAny_pure ?_)) (.inr hx)))
 rw [List.set_comm _ _ (Ne.symm hij)] at I5
 exact ⟨_, H1, I5, q1⟩
end
section
variable {X : Cx} {pos : Pos}
def IB (c : TT) (tb : TS) : TS := fun D σ H => ∃ W : Nat → St → Hp → Prop, (∃ m, W m σ H) ∧ ∀ m σ H, W m σ H →
 c σ H fun b H1 => if b = true then ∃ N : St → Hp → Prop, (∀ σ' H', N σ' H' → ∃ m', m' < m ∧ W m' σ' H') ∧ tb { D with nx := N, ct := N, bk := D.nx } σ H1 else D.nx σ H1
theorem De {c : Expr} {body : List Stmt} {tc : TT} {tb : TS} (hp : PassesOwn (model X.prog X.w) X.A X.env X.xe) (hc : PT X c tc) (hb : PSs X body tb) : PS X (.While c body [] pos) (IB tc tb) := by
 intro pins s σ H D I h
 obtain ⟨W, ⟨m0, w0⟩, turn⟩ := h
 refine wpAny_While (codeAny_whileLoop (fun n s' => ∃ σ' H', Inv X pins σ' H' s' ∧ W n σ' H') ?_ m0 ⟨σ, H, I, w0⟩)
 rintro n s1 ⟨σ1, H1, I1, w1⟩
 refine wpAny_passesOwn hp (thn (hc pins s1 σ1 H1 _ I1 (turn n σ1 H1 w1)) fun b s2 ⟨H2, I2, q2⟩ => ?_)
 cases b with
 | true =>
   obtain ⟨N, hN, q2⟩ := q2
   rw [if_pos rfl]
   refine wpAny_passesOwn hp (thn (hb pins s2 σ1 H2 _ I2 q2) fun f s3 q3 => ?_)
   cases f with
   | next =>
     obtain ⟨σ3, H3, I3, n3⟩ := q3
     obtain ⟨m', hm, w3⟩ := hN σ3 H3 n3
     exact ⟨m', hm, σ3, H3, I3, w3⟩
   | cont =>
     obtain ⟨σ3, H3, I3, n3⟩ := q3
     obtain ⟨m', hm, w3⟩ := hN σ3 H3 n3
     exact ⟨m', hm, σ3, H3, I3, w3⟩
   | brk => exact q3
   | ret v => exact q3
 | false =>
   rw [if_neg Bool.false_ne_true]
   exact wpAny_execs_nil ⟨σ1, H2, I2, q2⟩
end
structure It where
 go : Nat → Hp → Prop
 yld : Nat → Hp → V → Hp → Prop
 stop : Nat → Hp → Prop
def Dl (X : Cx) (pins : List (Addr × Obj)) (H : Hp) (b : Addr) : Prop :=
 H b = none ∧ b ≠ X.env.locals ∧ b ∉ X.fs ∧ (b ∈ X.ex ∨ X.s₀.heap.objs.size ≤ b) ∧ (∀ x c, X.env.cells.lookup x = some c → c ≠ b) ∧ ∀ p ∈ X.pn ++ pins, p.1 ≠ b
theorem Inv.fpOk {X : Cx} {pins : List (Addr × Obj)} {σ : St} {H H' : Hp} {s : Shared} {b : Addr} (I : Inv X pins σ H s) (hb : s.heap.objs.size ≤ b) (hn : H' b = none) : Dl X pins H' b := by
 refine ⟨hn, R0 (QI I.lt hb), I.nofs hb, .inr (QP I.sz hb), fun x c e z => ?_, fun p hp z => ?_⟩
 ·obtain ⟨v, q⟩ := I.cell x c e
  exact absurd (QI q.lt (by rw [z]; exact hb)) (QJ _)
 ·exact absurd (QI (Heap.lt_size (I.pin p hp).1) (by rw [z]; exact hb)) (QJ _)
structure Is (P : Program) (w : World) (K : QO) (tg : Expr) (J : It) (fp : List Addr) (it : Addr) (tn : Nat → Heap → Prop) : Prop where
 mem : it ∈ fp
 obj : ∀ i h, tn i h → ∀ b ∈ fp, ∃ o, h.get? b = some o ∧ ∀ v, o.data ≠ .cell v
 keep : ∀ i h h', tn i h → (∀ b ∈ fp, ∀ o, h.get? b = some o → h'.get? b = some o) → tn i h'
 item : ∀ (X : Cx), X.prog = P → X.w = w → X.K = K → X.calm = true → ∀ (i : Nat) (pins : List (Addr × Obj)) (s : Shared) (σ : St) (H : Hp) (E : Value → Shared → Prop), Inv X pins σ H s → (∀ b ∈ fp, Dl X pins H b) → tn i s.heap → J.go i H →
  wpAny (model P w) X.A (pyNext (.ref it)) (fun r s1 => ∃ u, r = some u ∧
   wpAny (model P w) X.A (letOwnedTupleGo tg (.ref it) u) (fun _ s2 => ∃ x H', Inv X pins σ H' s2 ∧ AC x u ∧ J.yld i H x H' ∧ tn (i + 1) s2.heap ∧ ∀ b ∈ fp, H' b = none) E s1) E s
 done : ∀ (X : Cx), X.prog = P → X.w = w → X.K = K → X.calm = true → ∀ (i : Nat) (pins : List (Addr × Obj)) (s : Shared) (σ : St) (H : Hp) (E : Value → Shared → Prop), Inv X pins σ H s → (∀ b ∈ fp, Dl X pins H b) → tn i s.heap → J.stop i H →
  wpAny (model P w) X.A (pyNext (.ref it)) (fun r s1 => r = none ∧ Inv X pins σ H s1) E s
 self : ∀ (A : Around) (i : Nat) (s : Shared) (Q : Value → Shared → Prop) (E : Value → Shared → Prop), tn i s.heap → Q (.ref it) s → wpAny (model P w) A (pyIter (.ref it)) Q E s
abbrev TI := St → Hp → (It → Hp → Prop) → Prop
def PIE (X : Cx) (pins : List (Addr × Obj)) (σ : St) (tg : Expr) (R : It → Hp → Prop) (itv : Value) (s2 : Shared) : Prop :=
 ∃ (it : Addr) (fp : List Addr) (tn : Nat → Heap → Prop) (J : It) (H' : Hp), itv = .ref it ∧ Inv X pins σ H' s2 ∧ Is X.prog X.w X.K tg J fp it tn ∧ tn 0 s2.heap ∧ (∀ b ∈ fp, Dl X pins H' b) ∧ R J H'
def PI (X : Cx) (tg iter : Expr) (wi : TI) : Prop :=
 ∀ (pins : List (Addr × Obj)) (s : Shared) (σ : St) (H : Hp) (R : It → Hp → Prop), Inv X pins σ H s → wi σ H R →
   wpAny (model X.prog X.w) X.A (eval iter X.env) (fun v s1 => wpAny (model X.prog X.w) X.A (pyIter v) (PIE X pins σ tg R) X.xe s1) X.xe s
theorem Ic {M : Model} {A : Around} {E : Value → Shared → Prop} {s : Shared} {tg : Expr} {it : Addr} {u : Value} {o : Obj} {n : String} {vs : Array Value} {Q : Unit → Shared → Prop} (ho : s.heap.get? it = some o) (hc : o.cls = .type n) (hd : o.data = .fields vs)
 (hn : ["enumerate", "zip", "dict_itemiterator", "dict_reverseitemiterator", "odict_iterator", "itertools.zip_longest", "itertools.pairwise"].contains n = false) (hQ : Q () s) : wpAny M A (letOwnedTupleGo tg (.ref it) u) Q E s := by
 unfold letOwnedTupleGo
 cases tg <;> first
  | exact wpAny_pure hQ
  | (cases u <;> first
   | exact wpAny_pure hQ
   | (refine wpAny_bind (wpAny_load ho ?_)
      rw [hc, hd]
      show wpAny M A (if (["enumerate", "zip", "dict_itemiterator", "dict_reverseitemiterator", "odict_iterator", "itertools.zip_longest", "itertools.pairwise"].contains n && vs[0]? == some (rawInt _)) = true then _ else _) Q E s
      rw [if_neg (by intro h; rw [hn, Bool.false_and] at h; cases h)]
      exact wpAny_pure hQ))
def Itl (K : QO) (a : Addr) : It :=
 ⟨fun i H => ∃ xs x, SqL K H a xs ∧ xs[i]? = some x, fun i H x H' => H' = H ∧ ∀ xs, SqL K H a xs → xs[i]? = some x, fun i H => ∃ xs, SqL K H a xs ∧ xs.length ≤ i⟩
def Itt (K : QO) (a : Addr) : It :=
 ⟨fun i H => ∃ xs x, SqT K H a xs ∧ xs[i]? = some x, fun i H x H' => H' = H ∧ ∀ xs, SqT K H a xs → xs[i]? = some x, fun i H => ∃ xs, SqT K H a xs ∧ xs.length ≤ i⟩
def Itr (lo : Int) (n : Nat) : It := ⟨fun i _ => i < n, fun i H x H' => H' = H ∧ x = .int (lo + i), fun i _ => n ≤ i⟩
theorem JJ {P : Program} {w : World} {K : QO} {tg : Expr} (a it : Addr) : Is P w K tg (Itl K a) [it] it (fun i h => h.IsListIter it a i) where
 mem := by simp
 obj := fun i h st b hb => by
  have e : b = it := by simpa using hb
  subst e
  obtain ⟨o, e, c, d⟩ := st
  exact ⟨o, e, fun v z => by rw [d] at z; cases z⟩
 keep := fun i h h' st k => st.at fun o e => k it (by simp) o e
 item := by
  intro X hP hw hK hc i pins s σ H E I hf st hg
  subst hP hw hK
  obtain ⟨xs, x, hq, hx⟩ := hg
  obtain ⟨its, rv, p, hz⟩ := I.list hq
  obtain ⟨u, hu, ru⟩ := rv.get hx
  obtain ⟨f0, f1, f2, f3, f4, f5⟩ := hf it (by simp)
  refine wpAny_pyNext_list_item st p.isList (x := u) (by simpa using hu) fun h' st' sb => ?_
  have I1 : Inv X pins σ H { s with heap := h' } := I.turned (t' := s.toks) (fun b o hb e => (sb.2 b hb).trans e) f0 f1 f3 f4 f5
  obtain ⟨o, e, c, d⟩ := id st'
  exact ⟨u, rfl, Ic (s := { s with heap := h' }) e c d (by decide) ⟨x, H, I1, ru, ⟨rfl, fun ys hy => by rw [I.list_inj hy hq]; exact hx⟩, st', fun b hb => (hf b hb).1⟩⟩
 done := by
  intro X hP hw hK hc i pins s σ H E I hf st hg
  subst hP hw hK
  obtain ⟨xs, hq, hx⟩ := hg
  obtain ⟨its, rv, p, hz⟩ := I.list hq
  obtain ⟨f0, f1, f2, f3, f4, f5⟩ := hf it (by simp)
  have hl := rv.length
  exact wpAny_pyNext_list_end (I.ok.hd hc) st p.isList (by simp; lia) fun h' eb => ⟨rfl, I.turned (t' := s.toks) (fun b o hb e => eb b o hb e) f0 f1 f3 f4 f5⟩
 self := fun _ _ _ _ _ st h => wpAny_pyIter_listiter st h
theorem Ix {P : Program} {w : World} {K : QO} {tg : Expr} (a it : Addr) : Is P w K tg (Itt K a) [it] it (fun i h => h.IsTupleIter it a i) where
 mem := by simp
 obj := fun i h st b hb => by
  have e : b = it := by simpa using hb
  subst e
  obtain ⟨o, e, c, d⟩ := st
  exact ⟨o, e, fun v z => by rw [d] at z; cases z⟩
 keep := fun i h h' st k => st.at fun o e => k it (by simp) o e
 item := by
  intro X hP hw hK hc i pins s σ H E I hf st hg
  subst hP hw hK
  obtain ⟨xs, x, hq, hx⟩ := hg
  obtain ⟨its, rv, p, hz⟩ := I.tuple hq
  obtain ⟨u, hu, ru⟩ := rv.get hx
  obtain ⟨f0, f1, f2, f3, f4, f5⟩ := hf it (by simp)
  refine wpAny_pyNext_tuple_item st (show s.heap.IsTuple a its.toArray from p) (x := u) (by simpa using hu) fun h' st' sb => ?_
  have I1 : Inv X pins σ H { s with heap := h' } := I.turned (t' := s.toks) (fun b o hb e => (sb.2 b hb).trans e) f0 f1 f3 f4 f5
  obtain ⟨o, e, c, d⟩ := id st'
  exact ⟨u, rfl, Ic (s := { s with heap := h' }) e c d (by decide) ⟨x, H, I1, ru, ⟨rfl, fun ys hy => by rw [I.tuple_inj hy hq]; exact hx⟩, st', fun b hb => (hf b hb).1⟩⟩
 done := by
  intro X hP hw hK hc i pins s σ H E I hf st hg
  subst hP hw hK
  obtain ⟨xs, hq, hx⟩ := hg
  obtain ⟨its, rv, p, hz⟩ := I.tuple hq
  obtain ⟨f0, f1, f2, f3, f4, f5⟩ := hf it (by simp)
  have hl := rv.length
  exact wpAny_pyNext_tuple_end (I.ok.hd hc) st (show s.heap.IsTuple a its.toArray from p) (by simp; lia) fun h' eb => ⟨rfl, I.turned (t' := s.toks) (fun b o hb e => eb b o hb e) f0 f1 f3 f4 f5⟩
 self := fun _ _ _ _ _ st h => wpAny_pyIter_tupleiter st h
theorem Iy {P : Program} {w : World} {K : QO} {tg : Expr} (it : Addr) (lo : Int) (n : Nat) : Is P w K tg (Itr lo n) [it] it (fun i h => IsRangeIter h it (lo + (i : Nat) * 1) ((n : Int) - (i : Nat)) 1) where
 mem := by simp
 obj := fun i h st b hb => by
  have e : b = it := by simpa using hb
  subst e
  exact ⟨_, st, fun v z => by
   have z' : Data.fields _ = Data.cell v := z
   cases z'⟩
 keep := fun i h h' st k => k it (by simp) _ st
 item := by
  intro X hP hw hK hc i pins s σ H E I hf st hg
  subst hP hw hK
  obtain ⟨f0, f1, f2, f3, f4, f5⟩ := hf it (by simp)
  have W := Walks.range (prog := X.prog) (w := X.w) (I.ok.hd hc) it lo 1 n
  refine W.item i s _ _ hg st fun v h' tk hv st' kk => ?_
  obtain ⟨t, rfl⟩ := hv
  have I1 : Inv X pins σ H { s with heap := h', toks := tk } := I.turned (fun b o hb e => kk b o (by simpa using hb) e) f0 f1 f3 f4 f5
  refine ⟨_, rfl, Ic (s := { s with heap := h', toks := tk }) (n := "range_iterator") st' rfl rfl (by decide) ⟨.int (lo + i), H, I1, ⟨t, ?_⟩, ⟨rfl, rfl⟩, st', fun b hb => (hf b hb).1⟩⟩
  rw [Int.mul_one]
 done := by
  intro X hP hw hK hc i pins s σ H E I hf st hg
  subst hP hw hK
  obtain ⟨f0, f1, f2, f3, f4, f5⟩ := hf it (by simp)
  exact wpAny_pyNext_range_end (I.ok.hd hc) st (by have : n ≤ i := hg; lia) fun h' eb => ⟨rfl, I.turned (t' := s.toks) (fun b o hb e => eb b o hb e) f0 f1 f3 f4 f5⟩
 self := fun _ _ _ _ _ st h => wpAny_pyIter_rangeiter st h
end L2
namespace L2
open PySem PySem.Spec PyProof.Rows
section
variable {X : Cx} {tg : Expr}
def Lf (K : QO) (tl : TE) : TI := fun σ H R => tl σ H fun x H1 => ∃ a, x = .ref a ∧ (∃ xs, SqL K H1 a xs) ∧ R (Itl K a) H1
def NO (K : QO) (tl : TE) : TI := fun σ H R => tl σ H fun x H1 => ∃ a, x = .ref a ∧ (∃ xs, SqT K H1 a xs) ∧ R (Itt K a) H1
theorem Jh {l : Expr} {tl : TE} (hl : PE X l tl) : PI X tg l (Lf X.K tl) := by
 intro pins s σ H R I h
 refine thn (hl pins s σ H _ I h) fun v s1 ⟨x, H1, I1, r1, q1⟩ => ?_
 obtain ⟨a, e, ⟨xs, hq⟩, q⟩ := q1
 subst e
 cases r1
 obtain ⟨its, rv, p, hz⟩ := I1.list hq
 refine wpAny_pyIter_list p.isList ?_
 refine ⟨s1.heap.objs.size, [s1.heap.objs.size], _, _, H1, rfl, I1.kept (t' := s1.toks) fun b o e => Heap.get?_push_of_some _ e, JJ a _, ⟨_, Heap.get?_push_size _ rfl, rfl, rfl⟩, fun b hb => ?_, q⟩
 have e : b = s1.heap.objs.size := by simpa using hb
 subst e
 exact I1.fpOk (R3 _) (I1.hok.fresh (R3 _))
theorem KL {l : Expr} {tl : TE} (hl : PE X l tl) : PI X tg l (NO X.K tl) := by
 intro pins s σ H R I h
 refine thn (hl pins s σ H _ I h) fun v s1 ⟨x, H1, I1, r1, q1⟩ => ?_
 obtain ⟨a, e, ⟨xs, hq⟩, q⟩ := q1
 subst e
 cases r1
 obtain ⟨its, rv, p, hz⟩ := I1.tuple hq
 refine wpAny_pyIter_tuple (show s1.heap.IsTuple a its.toArray from p) ?_
 refine ⟨s1.heap.objs.size, [s1.heap.objs.size], _, _, H1, rfl, I1.kept (t' := s1.toks) fun b o e => Heap.get?_push_of_some _ e, Ix a _, ⟨_, Heap.get?_push_size _ rfl, rfl, rfl⟩, fun b hb => ?_, q⟩
 have e : b = s1.heap.objs.size := by simpa using hb
 subst e
 exact I1.fpOk (R3 _) (I1.hok.fresh (R3 _))
theorem KC {pins : List (Addr × Obj)} {σ : St} {H : Hp} {s : Shared} {R : It → Hp → Prop} {E : Value → Shared → Prop} {lo hi : Int} {t u v : Tok} {tk : Nat} (I : Inv X pins σ H s) (h1 : -(2 ^ 62) ≤ lo) (h2 : lo < 2 ^ 62) (h3 : -(2 ^ 62) ≤ hi) (h4 : hi < 2 ^ 62)
 (q : R (Itr lo (hi - lo).toNat) H) : wpAny (model X.prog X.w) X.A (pyIter (.ref s.heap.objs.size)) (PIE X pins σ tg R) E { s with heap := s.heap.push { cls := .type "range", data := .fields #[.int lo t, .int hi u, .int 1 v] }, toks := tk } := by
 refine wpAny_pyIter_range (IsRange.new ..) (small_one h1 h2 h3 h4) ?_
 have I1 : Inv X pins σ H { s with heap := s.heap.push { cls := .type "range", data := .fields #[.int lo t, .int hi u, .int 1 v] }, toks := tk } := I.kept fun b o e => Heap.get?_push_of_some _ e
 refine ⟨(s.heap.push { cls := .type "range", data := .fields #[.int lo t, .int hi u, .int 1 v] }).objs.size, [(s.heap.push { cls := .type "range", data := .fields #[.int lo t, .int hi u, .int 1 v] }).objs.size], _, _, H, rfl,
  I1.kept (t' := tk) fun b o e => Heap.get?_push_of_some _ e, Iy _ lo (hi - lo).toNat, ?_, fun b hb => ?_, q⟩
 ·have e1 : lo + ((0 : Nat) : Int) * 1 = lo := by simp
  have e2 : (((hi - lo).toNat : Nat) : Int) - ((0 : Nat) : Int) = Builtin.Range.rangeSize lo hi 1 := by rw [rangeSize_one]; split <;> lia
  show IsRangeIter _ _ (lo + ((0 : Nat) : Int) * 1) ((((hi - lo).toNat : Nat) : Int) - ((0 : Nat) : Int)) 1
  rw [e1, e2]
  exact Heap.get?_push_size _ rfl
 ·have e : b = (s.heap.push { cls := .type "range", data := .fields #[.int lo t, .int hi u, .int 1 v] }).objs.size := by simpa using hb
  subst e
  exact I1.fpOk (R3 _) (I1.hok.fresh (R3 _))
def Oq (ta : TA) : TI := fun σ H R => ta σ H fun vs H1 => ∃ j : Int, vs = [.int j] ∧ -(2 ^ 62) ≤ j ∧ j < 2 ^ 62 ∧ R (Itr 0 j.toNat) H1
theorem AV {a : Expr} {ta : TA} {p pos : Pos} (hg : Gl X "range") (hm : X.mg "range" = none) (ha : PA X [a] ta) (hs : starEach [a] X.env = [(false, eval a X.env)] := by rfl) : PI X tg (.Call (.Name "range" p) [a] [] pos) (Oq ta) := by
 intro pins s σ H R I h
 refine Call_ (Cu I hg hm boot_range (PyProof.Rows.callWith_type1 (thn (ha pos pins s σ H _ I h) fun us s1 ⟨vs, H1, I1, r1, q1⟩ => ?_) hs rfl))
 obtain ⟨j, e, q1, q2, q⟩ := q1
 subst e
 cases r1 with
 | cons r rr =>
   cases rr
   obtain ⟨t, rfl⟩ := r
   exact call_range_1 (KC I1 (by lia) (by lia) q1 q2 (by simpa using q))
def MZ (wi : TI) (g : TG) (tb : TS) : TS := fun D σ H => wi σ H fun J H1 => ∃ W : Nat → Nat → St → Hp → Prop, (∃ m, W 0 m σ H1) ∧ ∀ i m σ H, W i m σ H →
 (J.stop i H ∧ D.nx σ H) ∨ (J.go i H ∧ ∃ N : St → Hp → Prop, (∀ σ' H', N σ' H' → ∃ m', m' < m ∧ W (i + 1) m' σ' H') ∧ ∀ x H', J.yld i H x H' → g x σ H' fun σ2 H2 => tb { D with nx := N, ct := N, bk := D.nx } σ2 H2)
def EY (fp : List Addr) (h : Heap) : List (Addr × Obj) := fp.filterMap fun b => (h.get? b).map fun o => (b, o)
theorem CV {fp : List Addr} {h : Heap} {b : Addr} {o : Obj} (hb : b ∈ fp) (e : h.get? b = some o) : (b, o) ∈ EY fp h := List.mem_filterMap.mpr ⟨b, hb, by rw [e]; rfl⟩
theorem JT {fp : List Addr} {h : Heap} {p : Addr × Obj} (hp : p ∈ EY fp h) : p.1 ∈ fp ∧ h.get? p.1 = some p.2 := by
 obtain ⟨b, hb, e⟩ := List.mem_filterMap.mp hp
 cases q : h.get? b with
 | none => rw [q] at e; cases e
 | some o =>
   rw [q] at e
   have e' : (b, o) = p := QF.inj e
   subst e'
   exact ⟨hb, q⟩
theorem Inv.pinned {pins : List (Addr × Obj)} {σ : St} {H : Hp} {s : Shared} {fp : List Addr} (I : Inv X pins σ H s) (hf : ∀ b ∈ fp, Dl X pins H b) (ho : ∀ b ∈ fp, ∃ o, s.heap.get? b = some o ∧ ∀ v, o.data ≠ .cell v) : Inv X (pins ++ EY fp s.heap) σ H s :=
 I.pins_of fun p hp => (QV.mp hp).elim (fun z => I.pin p (R4 _ z)) fun z => by
  obtain ⟨hb, e⟩ := JT z
  obtain ⟨f0, f1, f2, _⟩ := hf p.1 hb
  obtain ⟨o, e', d⟩ := ho p.1 hb
  rw [e] at e'; cases e'
  exact ⟨e, f0, f1, f2, d⟩
theorem Inv.unpinned {pins pl : List (Addr × Obj)} {σ : St} {H : Hp} {s : Shared} (I : Inv X (pins ++ pl) σ H s) : Inv X pins σ H s := I.pins_of fun p hp => I.pin p (R4 _ (QW _ hp))
theorem Nc {iter : Expr} {body : List Stmt} {wi : TI} {g : TG} {tb : TS} {pos : Pos} (hp : PassesOwn (model X.prog X.w) X.A X.env X.xe) (hc : X.calm = true) (hi : PI X tg iter wi) (hg : PG X tg g) (hb : PSs X body tb)
 (hs : ∀ x, foldedSetIterable iter X.env x = pure x := by intro _; rfl) : PS X (.For tg iter body [] pos) (MZ wi g tb) := by
 intro pins s σ H D I h
 refine wpAny_For (thn (hi pins s σ H _ I h) fun v s1 h1 => thn h1 fun itv s2 h2 => ?_) hs
 obtain ⟨it, fp, tn, J, H2, e, I2, T, st2, f2, W, ⟨m0, w0⟩, turn⟩ := h2
 subst e
 -- what stays true of the iterator's objects through the loop
 have stat : ∀ {H' : Hp}, (∀ b ∈ fp, H' b = none) → ∀ b ∈ fp, Dl X pins H' b := fun hn b hb => ⟨hn b hb, (f2 b hb).2⟩
 refine codeAny_forLoop_any (fun n s' => ∃ i σ' H', Inv X pins σ' H' s' ∧ tn i s'.heap ∧ (∀ b ∈ fp, H' b = none) ∧ W i n σ' H') ?_ m0 ⟨0, σ, H2, I2, st2, fun b hb => (f2 b hb).1, w0⟩
 rintro n s3 ⟨i, σ3, H3, I3, st3, fr3, w3⟩
 rcases turn i n σ3 H3 w3 with ⟨stop, qn⟩ | ⟨go, N, hN, step⟩
 ·refine wpAny_passesOwn hp (thn (T.done X rfl rfl rfl hc i pins s3 σ3 H3 X.xe I3 (stat fr3) st3 stop) fun r s4 ⟨hr, I4⟩ => ?_)
  subst hr
  exact wpAny_execs_nil ⟨σ3, H3, I4, qn⟩
 ·refine wpAny_passesOwn hp (thn (T.item X rfl rfl rfl hc i pins s3 σ3 H3 X.xe I3 (stat fr3) st3 go) fun r s4 ⟨u, hr, h4⟩ => ?_)
  subst hr
  refine wpAny_passesOwn hp (thn h4 fun _ s5 ⟨x, H5, I5, r5, y5, st5, fr5⟩ => ?_)
  have I5' := I5.pinned (stat fr5) (T.obj _ _ st5)
  refine wpAny_passesOwn hp (thn (hg _ s5 σ3 H5 x u _ I5' r5 (step x H5 y5)) fun _ s6 ⟨σ6, H6, I6, q6⟩ => ?_)
  refine wpAny_passesOwn hp (thn (hb _ s6 σ6 H6 _ I6 q6) fun f s7 q7 => ?_)
  have again : ∀ {σ7 : St} {H7 : Hp}, Inv X (pins ++ EY fp s5.heap) σ7 H7 s7 → N σ7 H7 → ∃ m, m < n ∧ ∃ i σ' H', Inv X pins σ' H' s7 ∧ tn i s7.heap ∧ (∀ b ∈ fp, H' b = none) ∧ W i m σ' H' := fun {σ7 H7} I7 n7 => by
   obtain ⟨m', hm, w7⟩ := hN σ7 H7 n7
   refine ⟨m', hm, i + 1, σ7, H7, I7.unpinned, T.keep _ _ _ st5 fun b hb o e => (I7.pin (b, o) (R4 _ (R4 _ (CV hb e)))).1, fun b hb => ?_, w7⟩
   obtain ⟨o, e, d⟩ := T.obj _ _ st5 b hb
   exact (I7.pin (b, o) (R4 _ (R4 _ (CV hb e)))).2.1
  cases f with
  | next => obtain ⟨σ7, H7, I7, n7⟩ := q7; exact again I7 n7
  | cont => obtain ⟨σ7, H7, I7, n7⟩ := q7; exact again I7 n7
  | brk => obtain ⟨σ7, H7, I7, q7⟩ := q7; exact ⟨σ7, H7, I7.unpinned, q7⟩
  | ret v => obtain ⟨x7, σ7, H7, I7, r7, q7⟩ := q7; exact ⟨x7, σ7, H7, I7.unpinned, r7, q7⟩
end
theorem Id {K : QO} {a : Addr} {xs : List V} {g : TG} {tb : TS} {D : CI} {σ : St} {H : Hp} (Pv : Nat → St → Hp → Prop) (h0 : Pv 0 σ H) (hl : ∀ i σ H, i ≤ xs.length → Pv i σ H → SqL K H a xs)
 (hs : ∀ i x σ H, xs[i]? = some x → Pv i σ H → g x σ H fun σ2 H2 => tb { D with nx := Pv (i + 1), ct := Pv (i + 1), bk := D.nx } σ2 H2) (hd : ∀ σ H, Pv xs.length σ H → D.nx σ H) :
 ∃ W : Nat → Nat → St → Hp → Prop, (∃ m, W 0 m σ H) ∧ ∀ i m σ H, W i m σ H →
   ((Itl K a).stop i H ∧ D.nx σ H) ∨ ((Itl K a).go i H ∧ ∃ N : St → Hp → Prop, (∀ σ' H', N σ' H' → ∃ m', m' < m ∧ W (i + 1) m' σ' H') ∧ ∀ x H', (Itl K a).yld i H x H' → g x σ H' fun σ2 H2 => tb { D with nx := N, ct := N, bk := D.nx } σ2 H2) := by
 refine ⟨fun i m σ H => m = xs.length - i ∧ i ≤ xs.length ∧ Pv i σ H, ⟨xs.length, by simp, R5 _, h0⟩, ?_⟩
 rintro i m σ H ⟨rfl, hi, p⟩
 have q := hl i σ H hi p
 by_cases hlt : i < xs.length
 ·refine .inr ⟨⟨xs, xs[i], q, by simp [hlt]⟩, Pv (i + 1), fun σ' H' p' => ⟨xs.length - (i + 1), by lia, rfl, hlt, p'⟩, fun x H' y => ?_⟩
  obtain ⟨e, y⟩ := y
  subst e
  exact hs i x σ _ (y xs q) p
 ·have e : i = xs.length := by lia
  subst e
  exact .inl ⟨⟨xs, q, R3 _⟩, hd σ H p⟩
theorem EH {K : QO} {a : Addr} {xs : List V} {g : TG} {tb : TS} {D : CI} {σ : St} {H : Hp} (Pv : Nat → St → Hp → Prop) (h0 : Pv 0 σ H) (hl : ∀ i σ H, i ≤ xs.length → Pv i σ H → SqT K H a xs)
 (hs : ∀ i x σ H, xs[i]? = some x → Pv i σ H → g x σ H fun σ2 H2 => tb { D with nx := Pv (i + 1), ct := Pv (i + 1), bk := D.nx } σ2 H2) (hd : ∀ σ H, Pv xs.length σ H → D.nx σ H) :
 ∃ W : Nat → Nat → St → Hp → Prop, (∃ m, W 0 m σ H) ∧ ∀ i m σ H, W i m σ H →
   ((Itt K a).stop i H ∧ D.nx σ H) ∨ ((Itt K a).go i H ∧ ∃ N : St → Hp → Prop, (∀ σ' H', N σ' H' → ∃ m', m' < m ∧ W (i + 1) m' σ' H') ∧ ∀ x H', (Itt K a).yld i H x H' → g x σ H' fun σ2 H2 => tb { D with nx := N, ct := N, bk := D.nx } σ2 H2) := by
 refine ⟨fun i m σ H => m = xs.length - i ∧ i ≤ xs.length ∧ Pv i σ H, ⟨xs.length, by simp, R5 _, h0⟩, ?_⟩
 rintro i m σ H ⟨rfl, hi, p⟩
 have q := hl i σ H hi p
 by_cases hlt : i < xs.length
 ·refine .inr ⟨⟨xs, xs[i], q, by simp [hlt]⟩, Pv (i + 1), fun σ' H' p' => ⟨xs.length - (i + 1), by lia, rfl, hlt, p'⟩, fun x H' y => ?_⟩
  obtain ⟨e, y⟩ := y
  subst e
  exact hs i x σ _ (y xs q) p
 ·have e : i = xs.length := by lia
  subst e
  exact .inl ⟨⟨xs, q, R3 _⟩, hd σ H p⟩
theorem BG {lo : Int} {n : Nat} {g : TG} {tb : TS} {D : CI} {σ : St} {H : Hp} (Pv : Nat → St → Hp → Prop) (h0 : Pv 0 σ H)
 (hs : ∀ i σ H, i < n → Pv i σ H → g (.int (lo + i)) σ H fun σ2 H2 => tb { D with nx := Pv (i + 1), ct := Pv (i + 1), bk := D.nx } σ2 H2) (hd : ∀ σ H, Pv n σ H → D.nx σ H) :
 ∃ W : Nat → Nat → St → Hp → Prop, (∃ m, W 0 m σ H) ∧ ∀ i m σ H, W i m σ H →
   ((Itr lo n).stop i H ∧ D.nx σ H) ∨ ((Itr lo n).go i H ∧ ∃ N : St → Hp → Prop, (∀ σ' H', N σ' H' → ∃ m', m' < m ∧ W (i + 1) m' σ' H') ∧ ∀ x H', (Itr lo n).yld i H x H' → g x σ H' fun σ2 H2 => tb { D with nx := N, ct := N, bk := D.nx } σ2 H2) := by
 refine ⟨fun i m σ H => m = n - i ∧ i ≤ n ∧ Pv i σ H, ⟨n, by simp, R5 _, h0⟩, ?_⟩
 rintro i m σ H ⟨rfl, hi, p⟩
 by_cases hlt : i < n
 ·refine .inr ⟨hlt, Pv (i + 1), fun σ' H' p' => ⟨n - (i + 1), by lia, rfl, hlt, p'⟩, fun x H' y => ?_⟩
  obtain ⟨e, y⟩ := y
  subst e y
  exact hs i σ _ hlt p
 ·have e : i = n := by lia
  subst e
  exact .inl ⟨R3 _, hd σ H p⟩
theorem Hs {c : TT} {tb : TS} {D : CI} {σ : St} {H : Hp} (Pv : St → Hp → Prop) (μ : St → Hp → Nat) (h0 : Pv σ H)
 (hs : ∀ σ H, Pv σ H → c σ H fun b H1 => if b = true then tb { D with nx := fun σ' H' => Pv σ' H' ∧ μ σ' H' < μ σ H, ct := fun σ' H' => Pv σ' H' ∧ μ σ' H' < μ σ H, bk := D.nx } σ H1 else D.nx σ H1)
 (mono : ∀ σ H Q Q', (∀ b H1, Q b H1 → Q' b H1) → c σ H Q → c σ H Q') : IB c tb D σ H := by
 refine ⟨fun m σ H => m = μ σ H ∧ Pv σ H, ⟨_, rfl, h0⟩, ?_⟩
 rintro m σ H ⟨rfl, p⟩
 refine mono σ H _ _ (fun b H1 q => ?_) (hs σ H p)
 cases b with
 | true => exact ⟨_, fun σ' H' ⟨p', l⟩ => ⟨_, l, rfl, p'⟩, q⟩
 | false => exact q
end L2
namespace L2
open PySem PySem.Spec PyProof.Rows
abbrev R2 := V → V → Hp → VK → Prop
def OpR (X : Cx) (f : Value → Value → Sem Value) (r : R2) : Prop :=
 ∀ (pins : List (Addr × Obj)) (s : Shared) (σ : St) (H : Hp) (x y : V) (v u : Value) (Q : VK), Inv X pins σ H s → AC x v → AC y u → r x y H Q →
   wpAny (model X.prog X.w) X.A (f v u) (EP X pins σ Q) X.xe s
def UnR (X : Cx) (f : Value → Sem Value) (r : V → Hp → VK → Prop) : Prop :=
 ∀ (pins : List (Addr × Obj)) (s : Shared) (σ : St) (H : Hp) (x : V) (v : Value) (Q : VK), Inv X pins σ H s → AC x v → r x H Q →
   wpAny (model X.prog X.w) X.A (f v) (EP X pins σ Q) X.xe s
def CJ (X : Cx) (f : Value) (r : List V → Hp → VK → Prop) : Prop :=
 ∀ (pins : List (Addr × Obj)) (s : Shared) (σ : St) (H : Hp) (xs : List V) (us : List Value) (Q : VK), Inv X pins σ H s → Az xs us → r xs H Q →
   wpAny (model X.prog X.w) X.A (call f us) (EP X pins σ Q) X.xe s
def tOp (r : R2) (ta tb : TE) : TE := fun σ H Q => ta σ H fun x H1 => tb σ H1 fun y H2 => r x y H2 Q
def tUn (r : V → Hp → VK → Prop) (ta : TE) : TE := fun σ H Q => ta σ H fun x H1 => r x H1 Q
inductive rI (C : Int → Int → Prop) (g : Int → Int → V) (x : V) (y : V) (H : Hp) (Q : VK) : Prop
 | mk (i : _) (j : _) (h1 : x = .int i) (h2 : y = .int j) (h3 : C i j) (h4 : Q (g i j) H) : rI C g x y H Q
inductive rI0 (g : Int → Int → V) (x : V) (y : V) (H : Hp) (Q : VK) : Prop
 | mk (i : _) (j : _) (h1 : x = .int i) (h2 : y = .int j) (h3 : Q (g i j) H) : rI0 g x y H Q
inductive rU (g : Int → V) (x : V) (H : Hp) (Q : VK) : Prop
 | mk (i : _) (h1 : x = .int i) (h2 : Q (g i) H) : rU g x H Q
section
variable {X : Cx} {a b c : Expr} {ta tb tc : TE} {pos : Pos}
theorem NV (ha : PE X a ta) (hb : PE X b tb) {pins : List (Addr × Obj)} {s : Shared} {σ : St} {H : Hp} {R : V → V → Hp → Prop} (I : Inv X pins σ H s)
 (h : ta σ H fun x H1 => tb σ H1 fun y H2 => R x y H2) {Q : Value → Shared → Prop} {f : Value → Value → Sem Value}
 (hf : ∀ v u s2 x y H2, Inv X pins σ H2 s2 → AC x v → AC y u → R x y H2 → wpAny (model X.prog X.w) X.A (f v u) Q X.xe s2) :
 wpAny (model X.prog X.w) X.A (eval a X.env) (fun v s₁ => wpAny (model X.prog X.w) X.A (eval b X.env) (fun u s₂ => wpAny (model X.prog X.w) X.A (f v u) Q X.xe s₂) X.xe s₁) X.xe s := by
 refine thn (ha pins s σ H _ I h) fun v s1 ⟨x, H1, I1, r1, q1⟩ => ?_
 refine thn (hb pins s1 σ H1 _ I1 q1) fun u s2 ⟨y, H2, I2, r2, q2⟩ => ?_
 exact hf v u s2 x y H2 I2 r1 r2 q2
theorem Ah {op : Operator} {r : R2} (ho : OpR X (binaryOp op) r) (ha : PE X a ta) (hb : PE X b tb) : PE X (.BinOp a op b pos) (tOp r ta tb) := by
 intro pins s σ H Q I h
 exact wpAny_BinOp (NV ha hb I h fun v u s2 x y H2 I2 rx ry q => ho pins s2 σ H2 x y v u Q I2 rx ry q)
theorem HD {op : UnaryOp} {r : V → Hp → VK → Prop} (ho : UnR X (unaryOp op) r) (ha : PE X a ta) : PE X (.UnaryOp op a pos) (tUn r ta) := by
 intro pins s σ H Q I h
 exact UnaryOp_ (thn (ha pins s σ H _ I h) fun v s1 ⟨x, H1, I1, r1, q1⟩ => ho pins s1 σ H1 x v Q I1 r1 q1)
theorem opI {f : Value → Value → Sem Value} {C : Int → Int → Prop} {g : Int → Int → Int}
 (rule : ∀ (i j : Int) (t u : Tok) (s : Shared) (Q : Value → Shared → Prop) (E : Value → Shared → Prop), C i j → Q (.int (g i j) s.toks) { s with toks := s.toks + 1 } → wpAny (model X.prog X.w) X.A (f (.int i t) (.int j u)) Q E s) :
 OpR X f (rI C fun i j => .int (g i j)) := by
 intro pins s σ H x y v u Q I rx ry h
 obtain ⟨i, j, rfl, rfl, hc, q⟩ := h
 obtain ⟨t, rfl⟩ := rx
 obtain ⟨t', rfl⟩ := ry
 exact rule i j t t' s _ _ hc ⟨.int (g i j), H, I.tok _, ⟨_, rfl⟩, q⟩
theorem Ol {f : Value → Value → Sem Value} {g : Int → Int → Int}
 (rule : ∀ (i j : Int) (t u : Tok) (s : Shared) (Q : Value → Shared → Prop) (E : Value → Shared → Prop), Q (.int (g i j) s.toks) { s with toks := s.toks + 1 } → wpAny (model X.prog X.w) X.A (f (.int i t) (.int j u)) Q E s) :
 OpR X f (rI0 fun i j => .int (g i j)) := by
 intro pins s σ H x y v u Q I rx ry h
 obtain ⟨i, j, rfl, rfl, q⟩ := h
 obtain ⟨t, rfl⟩ := rx
 obtain ⟨t', rfl⟩ := ry
 exact rule i j t t' s _ _ ⟨.int (g i j), H, I.tok _, ⟨_, rfl⟩, q⟩
theorem Np {f : Value → Value → Sem Value} {g : Int → Int → Bool}
 (rule : ∀ (i j : Int) (t u : Tok) (s : Shared) (Q : Value → Shared → Prop) (E : Value → Shared → Prop), Q (.bool (g i j)) s → wpAny (model X.prog X.w) X.A (f (.int i t) (.int j u)) Q E s) :
 OpR X f (rI0 fun i j => .bl (g i j)) := by
 intro pins s σ H x y v u Q I rx ry h
 obtain ⟨i, j, rfl, rfl, q⟩ := h
 obtain ⟨t, rfl⟩ := rx
 obtain ⟨t', rfl⟩ := ry
 exact rule i j t t' s _ _ ⟨.bl (g i j), H, I, rfl, q⟩
def J5 (i j : Int) : Prop := 0 ≤ j ∧ j ≤ 1000000 ∧ i.natAbs < 2 ^ 64
theorem AB : OpR X (binaryOp .Add) (rI0 fun i j => .int (i + j)) := Ol fun _ _ _ _ _ _ _ q => add_int q
theorem AK : OpR X (binaryOp .Sub) (rI0 fun i j => .int (i - j)) := Ol fun _ _ _ _ _ _ _ q => sub_int q
theorem C3 : OpR X (binaryOp .Mod) (rI (fun _ j => 0 < j) fun i j => .int (i % j)) := opI fun i j _ _ _ _ _ hc q => by
 have h1 : (0 : Int) < j := hc
 exact mod_int' (by lia) (by rw [Int.fmod_eq_emod_of_nonneg i (by lia)]; exact q)
theorem GI : OpR X (binaryOp .Pow) (rI J5 fun i j => .int (i ^ j.toNat)) := opI fun _ _ _ _ _ _ _ hc q => pow_int_small hc.1 hc.2.1 hc.2.2 q
theorem unI {f : Value → Sem Value} {g : Int → Int}
 (rule : ∀ (i : Int) (t : Tok) (s : Shared) (Q : Value → Shared → Prop) (E : Value → Shared → Prop), Q (.int (g i) s.toks) { s with toks := s.toks + 1 } → wpAny (model X.prog X.w) X.A (f (.int i t)) Q E s) :
 UnR X f (rU fun i => .int (g i)) := by
 intro pins s σ H x v Q I rx h
 obtain ⟨i, rfl, q⟩ := h
 obtain ⟨t, rfl⟩ := rx
 exact rule i t s _ _ ⟨.int (g i), H, I.tok _, ⟨_, rfl⟩, q⟩
theorem EJ : UnR X (unaryOp .USub) (rU fun i => .int (-i)) := unI fun _ _ _ _ _ q => neg_int q
end
def Ob : V → V → Bool
 | .non, .non => true | .non, .int _ => true | .int _, .non => true | .non, .bl _ => true | .bl _, .non => true | .non, .str _ => true | .str _, .non => true
 | .int _, .int _ => true | .bl _, .bl _ => true | .str _, .str _ => true | .byt _, .byt _ => true
 | .int _, .str _ => true | .str _, .int _ => true | .bl _, .str _ => true | .str _, .bl _ => true
 | _, _ => false
def rEq : R2 := fun x y H Q => Ob x y = true ∧ Q (.bl (decide (x = y))) H
def rNe : R2 := fun x y H Q => Ob x y = true ∧ Q (.bl (!decide (x = y))) H
theorem JA {i j : Int} : decide (V.int i = V.int j) = (i == j) := by
 rw [Bool.eq_iff_iff]
 simp
theorem Ls {i j : Bool} : decide (V.bl i = V.bl j) = (i == j) := by
 rw [Bool.eq_iff_iff]
 simp
theorem Jz {i j : Str} : decide (V.str i = V.str j) = (i == j) := by
 rw [Bool.eq_iff_iff]
 simp
theorem JB {i j : Array UInt8} : decide (V.byt i = V.byt j) = (i.toList == j.toList) := by
 rw [Bool.eq_iff_iff]
 cases i
 cases j
 simp
section
variable {X : Cx} {a b c : Expr} {ta tb tc : TE} {pos : Pos}
theorem AG {pins : List (Addr × Obj)} {σ : St} {H : Hp} {s : Shared} {Q : VK} {k k' : Bool} (I : Inv X pins σ H s) (q : Q (.bl k) H) (e : k = k') : EP X pins σ Q (.bool k') s := by
 subst e
 exact ⟨.bl k, H, I, rfl, q⟩
theorem Fc : OpR X (compareOp .Eq) rEq := by
 intro pins s σ H x y v u Q I rx ry h
 obtain ⟨hs, q⟩ := h
 cases x with
 | non =>
   cases rx
   cases y with
   | non => cases ry; exact PySem.EqNone.eq_none_none (AG I q (by simp))
   | bl j => cases ry; exact PySem.EqNone.eq_none_bool (AG I q (by simp))
   | int j => obtain ⟨t', rfl⟩ := ry; exact PySem.EqNone.eq_none_int (AG I q (by simp))
   | str j => obtain ⟨t', rfl⟩ := ry; exact PySem.EqNone.eq_none_str (AG I q (by simp))
   | _ => exact absurd (show false = true from hs) Bool.false_ne_true
 | bl i =>
   cases rx
   cases y with
   | non => cases ry; exact PySem.EqNone.eq_bool_none (AG I q (by simp))
   | bl j => cases ry; exact eq_bool (AG I q Ls)
   | str j => obtain ⟨t', rfl⟩ := ry; exact PySem.EqMixed.eq_bool_str (AG I q (by simp))
   | _ => exact absurd (show false = true from hs) Bool.false_ne_true
 | int i =>
   obtain ⟨t, rfl⟩ := rx
   cases y with
   | non => cases ry; exact PySem.EqNone.eq_int_none (AG I q (by simp))
   | int j => obtain ⟨t', rfl⟩ := ry; exact eq_int (AG I q JA)
   | str j => obtain ⟨t', rfl⟩ := ry; exact PySem.EqMixed.eq_int_str (AG I q (by simp))
   | _ => exact absurd (show false = true from hs) Bool.false_ne_true
 | str i =>
   obtain ⟨t, rfl⟩ := rx
   cases y with
   | non => cases ry; exact PySem.EqNone.eq_str_none (AG I q (by simp))
   | bl j => cases ry; exact PySem.EqMixed.eq_str_bool (AG I q (by simp))
   | int j => obtain ⟨t', rfl⟩ := ry; exact PySem.EqMixed.eq_str_int (AG I q (by simp))
   | str j => obtain ⟨t', rfl⟩ := ry; exact eq_str (AG I q Jz)
   | _ => exact absurd (show false = true from hs) Bool.false_ne_true
 | byt i =>
   obtain ⟨t, rfl⟩ := rx
   cases y with
   | byt j => obtain ⟨t', rfl⟩ := ry; exact PySem.W.eq_bytes (AG I q JB)
   | _ => exact absurd (show false = true from hs) Bool.false_ne_true
 | _ => cases y <;> exact absurd (show false = true from hs) Bool.false_ne_true
theorem Gb : OpR X (compareOp .NotEq) rNe := by
 intro pins s σ H x y v u Q I rx ry h
 obtain ⟨hs, q⟩ := h
 cases x with
 | non =>
   cases rx
   cases y with
   | non => cases ry; exact PySem.EqNone.ne_none_none (AG I q (by simp))
   | bl j => cases ry; exact PySem.EqNone.ne_none_bool (AG I q (by simp))
   | int j => obtain ⟨t', rfl⟩ := ry; exact PySem.EqNone.ne_none_int (AG I q (by simp))
   | str j => obtain ⟨t', rfl⟩ := ry; exact PySem.EqNone.ne_none_str (AG I q (by simp))
   | _ => exact absurd (show false = true from hs) Bool.false_ne_true
 | bl i =>
   cases rx
   cases y with
   | non => cases ry; exact PySem.EqNone.ne_bool_none (AG I q (by simp))
   | bl j => cases ry; exact ne_bool (AG I q (congrArg not Ls))
   | str j => obtain ⟨t', rfl⟩ := ry; exact PySem.EqMixed.ne_bool_str (AG I q (by simp))
   | _ => exact absurd (show false = true from hs) Bool.false_ne_true
 | int i =>
   obtain ⟨t, rfl⟩ := rx
   cases y with
   | non => cases ry; exact PySem.EqNone.ne_int_none (AG I q (by simp))
   | int j => obtain ⟨t', rfl⟩ := ry; exact ne_int (AG I q (congrArg not JA))
   | str j => obtain ⟨t', rfl⟩ := ry; exact PySem.EqMixed.ne_int_str (AG I q (by simp))
   | _ => exact absurd (show false = true from hs) Bool.false_ne_true
 | str i =>
   obtain ⟨t, rfl⟩ := rx
   cases y with
   | non => cases ry; exact PySem.EqNone.ne_str_none (AG I q (by simp))
   | bl j => cases ry; exact PySem.EqMixed.ne_str_bool (AG I q (by simp))
   | int j => obtain ⟨t', rfl⟩ := ry; exact PySem.EqMixed.ne_str_int (AG I q (by simp))
   | str j => obtain ⟨t', rfl⟩ := ry; exact ne_str (AG I q (congrArg not Jz))
   | _ => exact absurd (show false = true from hs) Bool.false_ne_true
 | byt i =>
   obtain ⟨t, rfl⟩ := rx
   cases y with
   | byt j => obtain ⟨t', rfl⟩ := ry; exact PySem.W.ne_bytes (AG I q (congrArg not JB))
   | _ => exact absurd (show false = true from hs) Bool.false_ne_true
 | _ => cases y <;> exact absurd (show false = true from hs) Bool.false_ne_true
theorem Fb : OpR X (compareOp .Lt) (rI0 fun i j => .bl (decide (i < j))) := Np fun _ _ _ _ _ _ _ q => lt_int q
theorem El : OpR X (compareOp .Gt) (rI0 fun i j => .bl (decide (j < i))) := Np fun _ _ _ _ _ _ _ q => gt_int q
theorem Oj : OpR X (compareOp .GtE) (rI0 fun i j => .bl (decide (j ≤ i))) := Np fun _ _ _ _ _ _ _ q => ge_int q
theorem Ay (b : Expr) {op : CmpOp} (h : op ≠ .In := by decide) (h2 : op ≠ .NotIn := by decide) : behindInMarks op b = false := by
 have e1 : (op == CmpOp.In) = false := by cases op <;> first | rfl | exact absurd rfl h
 have e2 : (op == CmpOp.NotIn) = false := by cases op <;> first | rfl | exact absurd rfl h2
 cases b <;> simp [behindInMarks, e1, e2]
theorem Ji {op : CmpOp} {r : R2} (ho : OpR X (compareOp op) r) (ha : PE X a ta) (hb : PE X b tb) (hm : behindInMarks op b = false) : PE X (.Compare a [op] [b] pos) (tOp r ta tb) := by
 intro pins s σ H Q I h
 exact wpAny_Compare1 (NV ha hb I h fun v u s2 x y H2 I2 rx ry q => ho pins s2 σ H2 x y v u Q I2 rx ry q) hm
def O3 (t : TE) : TT := fun σ H Q => t σ H fun x H' => ∃ k, x = .bl k ∧ Q k H'
theorem At {op : CmpOp} {r : R2} (ho : OpR X (compareOp op) r) (ha : PE X a ta) (hb : PE X b tb) (hm : behindInMarks op b = false) : PT X (.Compare a [op] [b] pos) (O3 (tOp r ta tb)) := by
 intro pins s σ H Q I h
 refine wpAny_isTrue_Compare1 (thn (ha pins s σ H _ I h) fun v s1 ⟨x, H1, I1, r1, q1⟩ => thn (hb pins s1 σ H1 _ I1 q1) fun u s2 ⟨y, H2, I2, r2, q2⟩ =>
  thn (ho pins s2 σ H2 x y v u _ I2 r1 r2 q2) fun c s3 ⟨z, H3, I3, r3, k, e, q3⟩ => ?_) hm
 subst e
 cases r3
 exact wpAny_truthy_bool ⟨H3, I3, q3⟩
theorem GX : (sizeLine : Nat) < 2 ^ 63 := by rw [sizeLine_eq]; decide
theorem FL {x : V} {us : List Value} (r : Az [x] us) : ∃ u, us = [u] ∧ AC x u := by
 cases r with
 | cons r1 r2 => cases r2; exact ⟨_, rfl, r1⟩
theorem MG {x y : V} {us : List Value} (r : Az [x, y] us) : ∃ u w', us = [u, w'] ∧ AC x u ∧ AC y w' := by
 cases r with
 | cons r1 r2 =>
   cases r2 with
   | cons r3 r4 => cases r4; exact ⟨_, _, rfl, r1, r3⟩
theorem DZ : CJ X (.builtin "abs") (fun xs H Q => ∃ i, xs = [.int i] ∧ Q (.int (if i < 0 then -i else i)) H) := by
 intro pins s σ H xs us Q I r h
 obtain ⟨i, rfl, q⟩ := h
 obtain ⟨u, rfl, t, rfl⟩ := FL r
 exact call_abs_int fun u tk => ⟨.int (if i < 0 then -i else i), H, I.tok _, ⟨_, rfl⟩, q⟩
end
end L2
namespace L2
open PySem PySem.Spec PyProof.Rows
structure O2 (h : Heap) (x dx C : Addr) (mA : Str → Option Value) : Prop where
 obj : h.get? x = some (QG C dx)
 ns : h.Ns1 dx mA
 ne : dx ≠ x
theorem K0 {h : Heap} {dx : Addr} {mA : Str → Option Value} (n : h.Ns1 dx mA) : ∃ od, h.get? dx = some od ∧ ∀ name, R6 name od = some (mA name) := by
 obtain ⟨o, es, ep, ho, hd, hk, _, hm⟩ := n
 refine ⟨o, ho, fun name => ?_⟩
 have e := hm name
 unfold nsFind findBy at e
 rw [← Array.find?_toList] at e
 unfold R6
 rw [hd]
 dsimp only
 split
 ·rename_i y q
  rw [q] at e
  exact congrArg some e
 ·rename_i q
  rw [q] at e
  have a : es.toList.any (·.refKey) = false := by
   rw [List.any_eq_false]
   intro y hy
   obtain ⟨z, t, hkey⟩ := hk y (Array.mem_toList_iff.mp hy)
   simp [DictEntry.refKey, hkey]
  have a' : ¬ es.toList.any (·.refKey) = true := by rw [a]; exact Bool.false_ne_true
  rw [if_neg a']
  exact congrArg some e
theorem O2.look {h : Heap} {x dx C : Addr} {mA : Str → Option Value} (I : O2 h x dx C mA) : ∃ od, PySem.W.InstAt h x (QG C dx) C (some od) ∧ ∀ name, R6 name od = some (mA name) :=
 let ⟨od, ho, hl⟩ := K0 I.ns
 ⟨od, ⟨I.obj, rfl, rfl, ho⟩, hl⟩
section
variable {prog : Program} {w : World} {A : Around} {E : Value → Shared → Prop} {s : Shared} {K : QO} {x dx C f : Addr} {mA : Str → Option Value} {name : Str} {v : Value}
end
section
variable {P : Program} {w : World} {H H' : Hp} {h h' : Heap} {a C dx : Addr} {fs fs' : List (Str × V)}
theorem Ms (hok : HOk P w H h) (e : H a = some (.ins C dx fs)) : ∃ mA, O2 h a dx C mA ∧ (∀ f, O1 (fs.lookup f) (mA f)) ∧ PySem.Within mA (fs.map (·.1)) ∧ fs.length ≤ 1000 ∧ H dx = some (.own a) := by
 obtain ⟨d, z, ne, ob, mA, n, r, q⟩ := (show Bj P w H h a (.ins C dx fs) from hok a _ e)
 exact ⟨mA, ⟨ob, n, ne⟩, r, q, z, d⟩
end
structure Cls (K : QO) (C : Addr) : Prop where
 pg : PySem.W.plainGet K C Str.empty = true
 hd : PySem.W.hasDictIn K C = true
 po : PySem.W.plainOver K C = true
 sa : R7 K (.ref C) "__setattr__" = some (some (.builtin "object.__setattr__"))
theorem Cls.get {K : QO} {C : Addr} (c : Cls K C) (f : Str) : PySem.W.plainGet K C f = true := c.pg
structure Con (K : QO) (C : Addr) (f : Str) (v : V) (u : Value) : Prop where
 at_ : R7 K (.ref C) f = some (some u)
 rel : AC v u
 get : PySem.W.specialIn K u "__get__" = some none
 cp : PySem.W.copiedNames.contains f = false
structure Meth (K : QO) (C : Addr) (m : Str) (f : Addr) : Prop where
 at_ : R7 K (.ref C) m = some (some (.ref f))
 fn : PySem.W.isFn K (.ref f) = true
 kp : R8 K (.ref f) = true
section
variable {X : Cx} {pins : List (Addr × Obj)} {σ : St} {H : Hp} {s : Shared} {a C dx : Addr} {fs : List (Str × V)} {f : Str} {v : V} {A : Around} {E : Value → Shared → Prop}
end
section
variable {X : Cx} {o e value : Expr} {f : Str} {pos pos' tpos : Pos} {ta tv : TE}
end
section
variable {X : Cx} {pins : List (Addr × Obj)} {σ : St} {H : Hp} {s : Shared} {A : Around} {E : Value → Shared → Prop} {Q : Value → Shared → Prop} {c : Value} {b : Bool}
inductive Eg (K : QO) (H : Hp) : V → Value → Prop where
 | non : Eg K H .non (.type "NoneType")
 | bl (x : Bool) : Eg K H (.bl x) (.type "bool")
 | int (i : Int) : Eg K H (.int i) (.type "int")
 | str (x : Str) : Eg K H (.str x) (.type "str")
 | flt (x : UInt64) : Eg K H (.flt x) (.type "float")
 | lst {a : Addr} {xs : List V} (e : H a = some (.lst xs)) : Eg K H (.ref a) (.type "list")
 | frz {a : Addr} {o : Obj} {xs : List V} (e : H a = some (.frz o (.lst xs))) : Eg K H (.ref a) (.type "list")
 | tup {a : Addr} {xs : List V} (e : H a = some (.tup xs)) : Eg K H (.ref a) (.type "tuple")
 | dK {a : Addr} {kvs : List (Key × V)} (e : H a = some (.dK kvs)) : Eg K H (.ref a) (.type "dict")
 | dT {a : Addr} {kvs : List (List Key × V)} (e : H a = some (.dT kvs)) : Eg K H (.ref a) (.type "dict")
 | ins {a C dx : Addr} {fs : List (Str × V)} (e : H a = some (.ins C dx fs)) (cl : Cls K C) (ha : R7 K (.ref C) "__class__" = some (some (.builtin "object.__class__")))
  (hn : PySem.W.specialIn K (.builtin "object.__class__") "__get__" = some (some (.builtin "getset_descriptor.__get__"))) (htk : PySem.W.takesIn K (.builtin "object.__class__") = some true)
  (hm : PySem.W.mroIn K C (.type "object") = some true) : Eg K H (.ref a) (.ref C)
theorem K5 {x : V} {u t : Value} (I : Inv X pins σ H s) (rx : AC x u) (ty : Eg X.K H x t) (e : R9 X.K t c = some b) (h : ∀ tk, Q (.bool b) { s with toks := tk }) :
 wpAny (model X.prog X.w) A (call (.builtin "isinstance") [u, c]) Q E s := by
 cases ty with
 | non => cases (show u = Value.none from rx); exact Ra PySem.W.kitx_none I.kIn True.intro e (fun z => nomatch z) h
 | bl y => cases (show u = Value.bool y from rx); exact Ra PySem.W.kitx_bool I.kIn True.intro e (fun z => nomatch z) h
 | int i => obtain ⟨t, q⟩ := (show ∃ t, u = Value.int i t from rx); cases q; exact Ra PySem.W.kitx_int I.kIn True.intro e (fun z => nomatch z) h
 | str y => obtain ⟨t, q⟩ := (show ∃ t, u = Value.str y t from rx); cases q; exact Ra PySem.W.kitx_str I.kIn True.intro e (fun z => nomatch z) h
 | flt y => obtain ⟨t, q⟩ := (show ∃ t, u = Value.float y t from rx); cases q; exact Ra PySem.W.kitx_float I.kIn True.intro e (fun z => nomatch z) h
 | @lst a xs ea =>
   cases (show u = Value.ref a from rx)
   obtain ⟨_, _, n, _, h1⟩ := (show Bj X.prog X.w H s.heap a (.lst xs) from I.hok a _ ea)
   exact Ra Rb I.kIn ⟨_, h1, rfl⟩ e (fun z => nomatch z) h
 | @frz a ob xs ea =>
   cases (show u = Value.ref a from rx)
   obtain ⟨_, _, _, n, _, h1⟩ := (show Bj X.prog X.w H s.heap a (.frz ob (.lst xs)) from I.hok a _ ea)
   exact Ra Rb I.kIn ⟨_, h1, rfl⟩ e (fun z => nomatch z) h
 | @tup a xs ea =>
   cases (show u = Value.ref a from rx)
   obtain ⟨_, _, _, p⟩ := (show Bj X.prog X.w H s.heap a (.tup xs) from I.hok a _ ea)
   obtain ⟨o, h1, h2, _⟩ := p
   exact Ra PySem.W.kitx_tuple I.kIn ⟨o, h1, h2⟩ e (fun z => nomatch z) h
 | @dK a kvs ea =>
   cases (show u = Value.ref a from rx)
   obtain ⟨_, _, vs, _, p⟩ := (show Bj X.prog X.w H s.heap a (.dK kvs) from I.hok a _ ea)
   obtain ⟨o, es, ep, h1, h2, _⟩ := p
   exact Ra PySem.W.kitx_dict I.kIn ⟨o, h1, h2.1⟩ e (fun z => nomatch z) h
 | @dT a kvs ea =>
   cases (show u = Value.ref a from rx)
   obtain ⟨_, _, xs, _, o, es, ep, h1, h2, _⟩ := (show Bj X.prog X.w H s.heap a (.dT kvs) from I.hok a _ ea)
   exact Ra PySem.W.kitx_dict I.kIn ⟨o, h1, h2.1⟩ e (fun z => nomatch z) h
 | @ins a C dx fs ea cl ha hn htk hm =>
   cases (show u = Value.ref a from rx)
   obtain ⟨mA, O, _⟩ := Ms I.hok ea
   obtain ⟨od, J, _⟩ := O.look
   exact Ra (PySem.W.kitx_own (cl.get _) cl.hd ha hn htk hm) I.kIn J e (fun z => nomatch z) h
end
end L2
namespace L2
open PySem PySem.Spec PyProof.Rows
structure BT (k : Nat) (A : Around) : Prop where
 hd : A.handled = none
 dp : A.depth + 3 * k + 5 < recursionLimit
 un : A.units + 16 * k + 200 < cLine
theorem BT.mono {j k : Nat} {A : Around} (r : BT k A) (h : j ≤ k) : BT j A := ⟨r.hd, by have := r.dp; lia, by have := r.un; lia⟩
theorem BT.deeper {k : Nat} {A : Around} (r : BT (k + 1) A) (env : Env) : BT k (A.deeper env) :=
 ⟨r.hd, by have := r.dp; show A.depth + 1 + 3 * k + 5 < _; lia, by have := r.un; show A.units + 3 + 16 * k + 200 < _; lia⟩
theorem BT.in1 {k : Nat} {A : Around} (r : BT (k + 1) A) : BT k A.in1 :=
 ⟨r.hd, by have := r.dp; show A.depth + 3 * k + 5 < _; lia, by have := r.un; show A.units + 1 + 16 * k + 200 < _; lia⟩
theorem BT.depth {k : Nat} {A : Around} (r : BT k A) : A.depth < recursionLimit := by have := r.dp; lia
theorem BT.units {k : Nat} {A : Around} (r : BT k A) : A.units + 64 < cLine := by have := r.un; lia
def O6 : TA := fun _ H Q => Q [] H
def MH (ta : TE) (tr : TA) : TA := fun σ H Q => ta σ H fun x H1 => tr σ H1 fun xs H2 => Q (x :: xs) H2
section
variable {X : Cx} {e : Expr} {es : List Expr} {te : TE} {t : TA} {pos : Pos}
theorem Ac : PA X [] O6 := fun _ _ _ _ H Q I h => Calls.spliced_nil ⟨[], H, I, .nil, h⟩
theorem A0 (ha : PE X e te) (hr : PA X es t) (hs : starEach (e :: es) X.env = (false, eval e X.env) :: starEach es X.env := by rfl) : PA X (e :: es) (MH te t) := by
 intro pos pins s σ H Q I h
 rw [hs]
 show wpAny _ _ (spliced ((false, eval e X.env) :: backTo pos (starEach es X.env))) _ _ s
 refine Calls.spliced_cons (thn (ha pins s σ H _ I h) fun u s1 ⟨x, H1, I1, r1, q1⟩ => ?_)
 exact thn (hr pos pins s1 σ H1 _ I1 q1) fun us s2 ⟨xs, H2, I2, r2, q2⟩ => ⟨x :: xs, H2, I2, .cons r1 r2, q2⟩
def OD (t : TA) : TE := fun σ H Q => t σ H fun xs H1 => xs.length ≤ sizeLine ∧ ∀ p, H1 p = none → Q (.ref p) (upd H1 p (.tup xs))
def OH (t : TA) : TE := fun σ H Q => t σ H fun xs H1 => xs.length ≤ sizeLine ∧ ∀ p, H1 p = none → Q (.ref p) (upd H1 p (.lst xs))
theorem AJ {x1} (h : PA X es t) : PE X (.Tuple es x1 pos) (OD t) := by
 intro pins s σ H Q I hq
 refine wpAny_Tuple_spliced (thn (h pos pins s σ H _ I hq) fun us s1 ⟨xs, H1, I1, r, z, q⟩ => ⟨by rw [← r.length]; exact z, ?_⟩)
 have hf : H1 s1.heap.objs.size = none := I1.hok.fresh (R3 _)
 refine ⟨.ref s1.heap.objs.size, upd H1 s1.heap.objs.size (.tup xs), I1.laid (t' := s1.toks) (fun b u e => Heap.get?_push_of_some _ e) (R3 _) ?_, rfl, q _ hf⟩
 exact ⟨z, us, r, ⟨_, Heap.get?_push_size _ rfl, rfl, _, rfl⟩⟩
theorem AS (h : PA X es t) : PE X (.List es pos) (OH t) := by
 intro pins s σ H Q I hq
 refine wpAny_List_spliced (thn (h pos pins s σ H _ I hq) fun us s1 ⟨xs, H1, I1, r, z, q⟩ => ⟨by rw [← r.length]; exact z, ?_⟩)
 have hf : H1 s1.heap.objs.size = none := I1.hok.fresh (R3 _)
 refine ⟨.ref s1.heap.objs.size, upd H1 s1.heap.objs.size (.lst xs), I1.laid (t' := s1.toks) (fun b u e => Heap.get?_push_of_some _ e) (R3 _) ?_, rfl, q _ hf⟩
 exact ⟨z, us, 0, r, Heap.get?_push_size _ rfl⟩
end
abbrev Sp := List V → Hp → VK → XK → Prop
abbrev CXT := List Env → Hp → Shared → XK → Value → Shared → Prop
structure Kf (P : Program) (w : World) (K : QO) (mg : Str → Option Value) (base : Heap) (A : Around) (outer : List Env) (s : Shared) (H : Hp) : Prop where
 frames : A.frames = some outer
 mod : Mod K mg base
 bs : ∀ b o, base.get? b = some o → s.heap.get? b = some o ∧ H b = none
 bsz : base.objs.size ≤ s.heap.objs.size
 funs : s.heap.FunFrames base outer
 frf : ∀ b ∈ frs outer, H b = none
 hok : HOk P w H s.heap
 bare : AllBare s.gens
def CE (outer : List Env) (P : Program) (w : World) (H : Hp) (s : Shared) (Q : VK) (u : Value) (s' : Shared) : Prop :=
 ∃ v H', s'.os = s.os ∧ AllBare s'.gens ∧ Un (frs outer) [] H H' s.heap s'.heap ∧ HOk P w H' s'.heap ∧ AC v u ∧ Q v H'
def CR (CX : CXT) (outer : List Env) (P : Program) (w : World) (H : Hp) (s : Shared) (Q : VK) (E : XK) (r : Result) (s' : Shared) : Prop :=
 match r with
 | .ok (.ret u) => CE outer P w H s Q u s'
 | .ok _ => False
 | .error e => CX outer H s E e s'
structure AE (P : Program) (w : World) (K : QO) (mg : Str → Option Value) (base : Heap) (CX : CXT) (k : Nat) (f : Addr) (fd : FuncData) (ps : List Str) (sp : Sp) : Prop where
 len : ∀ vs H Q E, sp vs H Q E → vs.length = ps.length
 run : ∀ (A : Around) (outer : List Env) (s : Shared) (H : Hp) (args : Args) (us : List Value) (vs : List V) (Q : VK) (E : XK), BT k A → Kf P w K mg base A outer s H → BindsTo s fd args (ps.zip us) → Az vs us → sp vs H Q E →
  codeAny (model P w) A (.call (.ref f) args) (CR CX outer P w H s Q E) s
section
variable {X : Cx} {pins : List (Addr × Obj)} {σ : St} {H : Hp} {s s' : Shared}
theorem Inv.env0 (I : Inv X pins σ H s) : Kf X.prog X.w X.K X.mg X.base X.A X.stack s H :=
 ⟨I.ok.frames, I.ok.mod, I.bs, QP I.ok.bsz I.sz, I.stack, I.stkFree, I.hok, I.bare⟩
theorem Inv.after {Q : VK} {u : Value} (I : Inv X pins σ H s) (h : CE X.stack X.prog X.w H s Q u s') : EP X pins σ Q u s' := by
 obtain ⟨v, H', os, bare, un, hok, r, q⟩ := h
 obtain ⟨hh, g, d, t, os'⟩ := s'
 obtain rfl : os' = s.os := os
 exact ⟨v, H', I.call (h' := hh) (g' := g) (d' := d) (t' := t) (ch := []) un hok bare (fun b z => absurd z (by simp)), r, q⟩
end
def MI (sp : Sp) (dvs : List V) (E : XK) (t : TA) : TE := fun σ H Q => t σ H fun vs H1 => sp (vs ++ dvs) H1 Q E
def C2 (K : QO) (fd : FuncData) (ps : List Str) (ds : List Value) : Prop :=
 ∀ (s : Shared) (us : List Value), K.In s.heap → (us ++ ds).length = ps.length → BindsTo s fd ⟨us, []⟩ (ps.zip (us ++ ds))
theorem C2.all {K : QO} {fd : FuncData} {ps : List Str} (h : ∀ us : List Value, us.length = ps.length → bindArgs fd ⟨us, []⟩ = pure (ps.zip us)) : C2 K fd ps [] := fun s us _ hl => by
 rw [Rc] at hl ⊢
 exact .of_eq (h us hl)
def J3 (CX : CXT) (X : Cx) (E : XK) : Prop := ∀ (pins : List (Addr × Obj)) (σ : St) (H : Hp) (s : Shared) (e : Value) (s' : Shared), Inv X pins σ H s → CX X.stack H s E e s' → X.xe e s'
section
variable {X : Cx} {CX : CXT} {k : Nat} {f C : Addr} {fd : FuncData} {ps : List Str} {sp : Sp} {dvs : List V} {ds : List Value} {E : XK} {x m : Str} {p pos apos : Pos} {e o : Expr} {es : List Expr} {ta : TE} {t : TA}
theorem N4 {pins : List (Addr × Obj)} {σ : St} {H : Hp} {s : Shared} {Q : VK} {us : List Value} {vs : List V} (F : AE X.prog X.w X.K X.mg X.base CX k f fd ps sp) (hr : BT k X.A) (hb : C2 X.K fd ps ds) (hd : Az dvs ds) (hx : J3 CX X E)
 (I : Inv X pins σ H s) (r : Az vs us) (h : sp (vs ++ dvs) H Q E) : wpAny (model X.prog X.w) X.A (call (.ref f) us) (EP X pins σ Q) X.xe s := by
 have r2 : Az (vs ++ dvs) (us ++ ds) := r.append hd
 have hl : (us ++ ds).length = ps.length := by rw [← r2.length]; exact F.len _ _ _ _ h
 refine wpAny_call (codeAny_mono (F.run X.A X.stack s H ⟨us, []⟩ (us ++ ds) (vs ++ dvs) Q E hr I.env0 (hb s us I.kIn hl) r2 h) fun r s' hq => ?_)
 cases r with
 | error e => exact hx pins σ H s e s' I hq
 | ok fl =>
   cases fl with
   | ret u => exact I.after hq
   | next => exact False.elim hq
   | brk => exact False.elim hq
   | cont => exact False.elim hq
theorem Me (F : AE X.prog X.w X.K X.mg X.base CX k f fd ps sp) (hr : BT k X.A) (hg : Gl X x) (hm : X.mg x = some (.ref f)) (hk : R8 X.K (.ref f) = true) (hb : C2 X.K fd ps ds) (hd : Az dvs ds) (hx : J3 CX X E)
 (ha : PA X (e :: es) t) (hdb : (x == ("__debug__" : Str)) = false := by decide) (he : starEach (e :: es) X.env = (false, eval e X.env) :: starEach es X.env := by rfl) (hpl : (backTo pos (starEach es X.env)).any (·.1) = false := by rfl) :
 PE X (.Call (.Name x p) (e :: es) [] pos) (MI sp dvs E t) := by
 intro pins s σ H Q I h
 refine wpAny_Call_Name_kw (Jn I hg hm ?_ hdb)
 refine PySem.W.callWith_K (h₀ := X.base) I.ok.mod.kin hk (thn (ha pos pins s σ H _ I h) fun us s1 ⟨vs, H1, I1, r, q⟩ => ⟨I1.kIn, ?_⟩) he hpl
 exact N4 F hr hb hd hx I1 r q
structure Mk (K : QO) (C f : Addr) : Prop where
 makes : PySem.W.makesIn K C = true
 init : R7 K (.ref C) "__init__" = some (some (.ref f))
 fn : PySem.W.isFn K (.ref f) = true
 kp : R8 K (.ref C) = true
end
section
variable {X : Cx} {CX : CXT} {k : Nat} {f C : Addr} {fd : FuncData} {ps ks : List Str} {sp : Sp} {E : XK} {x m : Str} {p pos apos kpos : Pos} {e o : Expr} {es : List Expr} {kws : List Keyword} {te ta : TE} {t tk : TA} {nm : Option Str}
structure OV (K : QO) (fd : FuncData) (ps ks : List Str) (g : List Value → List Value → List Value) (gV : List V → List V → List V) : Prop where
 to : ∀ (s : Shared) (us ws : List Value), K.In s.heap → (g us ws).length = ps.length → BindsTo s fd ⟨us, ks.zip ws⟩ (ps.zip (g us ws))
 rel : ∀ {vs : List V} {us : List Value} {zs : List V} {ws : List Value}, Az vs us → Az zs ws → Az (gV vs zs) (g us ws)
variable {g : List Value → List Value → List Value} {gV : List V → List V → List V}
end
structure Ap (N P : List Str) (sc : Scope) : Prop where
 kind : sc.kind = .function
 co : sc.isCoroutine = false
 gen : sc.isGenerator = false
 nd : N.Nodup
 pre : N.take P.length = P
 par : ∀ x ∈ P, sc.names.lookup x = some .local ∨ sc.names.lookup x = some .cell
 nofree : ∀ y ∈ sc.names, y.2 ≠ .free
theorem Gi {kindOf : Str → Option NameKind} {x : Str} : ∀ {binds : List (Str × Value)} {m : Str → Option Value}, (∀ v, (x, v) ∉ binds) → bindL kindOf binds m x = m x
 | [], _, _ => rfl
 | (n, v) :: r, m, h => by
   unfold bindL
   rw [Gi fun w hw => h w (QT _ hw)]
   split
   ·have : x ≠ n := by rintro rfl; exact h v QS
    simp [this]
   ·rfl
theorem Gk {kindOf : Str → Option NameKind} {x : Str} : ∀ {binds : List (Str × Value)} {m : Str → Option Value}, (∀ v, (x, v) ∉ binds) → bindC kindOf binds m x = m x
 | [], _, _ => rfl
 | (n, v) :: r, m, h => by
   unfold bindC
   rw [Gk fun w hw => h w (QT _ hw)]
   split
   ·rfl
   ·have : x ≠ n := by rintro rfl; exact h v QS
    simp [this]
theorem Gj {kindOf : Str → Option NameKind} {x : Str} {v : Value} : ∀ {P : List Str} {vs : List Value} {i : Nat} {m : Str → Option Value}, P.Nodup → P[i]? = some x → vs[i]? = some v → kindOf x = some .local →
 bindL kindOf (P.zip vs) m x = some v
 | [], _, _, _, _, h, _, _ => by simp at h
 | _ :: _, [], _, _, _, _, h, _ => by simp at h
 | p :: P, w :: vs, 0, m, nd, h1, h2, hk => by
   simp at h1 h2; subst h1; subst h2
   show bindL kindOf ((p, w) :: P.zip vs) m p = _
   unfold bindL
   rw [Gi fun v hv => (Re.mp nd).1 (Rf hv).1, if_pos hk]
   simp
 | p :: P, w :: vs, i + 1, m, nd, h1, h2, hk => by
   show bindL kindOf ((p, w) :: P.zip vs) m x = _
   unfold bindL
   exact Gj (i := i) (Re.mp nd).2 (by simpa using h1) (by simpa using h2) hk
theorem Gm {kindOf : Str → Option NameKind} {x : Str} {v : Value} : ∀ {P : List Str} {vs : List Value} {i : Nat} {m : Str → Option Value}, P.Nodup → P[i]? = some x → vs[i]? = some v → kindOf x ≠ some .local →
 bindC kindOf (P.zip vs) m x = some v
 | [], _, _, _, _, h, _, _ => by simp at h
 | _ :: _, [], _, _, _, _, h, _ => by simp at h
 | p :: P, w :: vs, 0, m, nd, h1, h2, hk => by
   simp at h1 h2; subst h1; subst h2
   show bindC kindOf ((p, w) :: P.zip vs) m p = _
   unfold bindC
   rw [Gk fun v hv => (Re.mp nd).1 (Rf hv).1, if_neg hk]
   simp
 | p :: P, w :: vs, i + 1, m, nd, h1, h2, hk => by
   show bindC kindOf ((p, w) :: P.zip vs) m x = _
   unfold bindC
   exact Gm (i := i) (Re.mp nd).2 (by simpa using h1) (by simpa using h2) hk
def DI (N : List Str) (vs : List V) : St := vs.map some ++ Rg (N.length - vs.length) none
def J0 (CX : CXT) (P : Program) (w : World) (K : QO) (mg : Str → Option Value) (base : Heap) (N : List Str) (qual : Str) (scope : Scope) (f : Addr) (cd : Value) (A : Around) (outer : List Env) (s : Shared) (H : Hp) (E : XK) : Cx where
 prog := P
 w := w
 K := K
 mg := mg
 base := base
 A := A.deeper (envOfC qual scope s.heap.objs.size f cd)
 N := N
 s₀ := s
 H₀ := H
 env := envOfC qual scope s.heap.objs.size f cd
 outer := outer
 stack := envOfC qual scope s.heap.objs.size f cd :: outer
 ex := []
 calm := true
 fn := fun _ => true
 pn := []
 xe := fun e s' => wpAny (model P w) (A.deeper (envOfC qual scope s.heap.objs.size f cd)) (leaving (envOfC qual scope s.heap.objs.size f cd) e) (fun _ s'' => CX outer H s E e s'') (fun e' s'' => CX outer H s E e' s'') s'
theorem Im {sc : Scope} {n : Nat} {x : Str} (h : sc.names.lookup x = some .cell) : ∃ c, (cellsFrom n sc.names []).lookup x = some c := by
 have q := PySem.W.cellsFrom_some sc.names n [] (.inl h)
 exact Option.isSome_iff_exists.mp q
theorem K6 {CX : CXT} {P : Program} {w : World} {K : QO} {mg : Str → Option Value} {base : Heap} {N ps : List Str} {qual : Str} {scope : Scope} {f : Addr} {cd : Value} {A : Around} {outer : List Env} {s s1 : Shared} {H : Hp} {E : XK} {us : List Value} {vs : List V}
 (S : Ap N ps scope) (hd : A.handled = none) (e0 : Kf P w K mg base A outer s H) (hl : vs.length = ps.length) (r : Az vs us)
 (x : InCallC s s.heap.objs.size (bindL (envOfC qual scope s.heap.objs.size f cd).kindOf (ps.zip us) fun _ => none) (cellsFrom (s.heap.objs.size + 1) scope.names []) (bindC (envOfC qual scope s.heap.objs.size f cd).kindOf (ps.zip us) fun _ => none) s1) :
 Inv (J0 CX P w K mg base N qual scope f cd A outer s H E) [] (DI N vs) H s1 := by
 have hpl : ps.length ≤ N.length := by have := congrArg List.length S.pre; rw [Rh] at this; lia
 obtain ⟨h1, tk, rfl, hk⟩ := x.done
 have noA : ∀ b : Addr, b ∉ (J0 CX P w K mg base N qual scope f cd A outer s H E).ex := fun b z => absurd (show b ∈ ([] : List Addr) from z) (by simp)
 refine ⟨⟨e0.mod, S.kind, rfl, rfl, R3 _, fun y z c h1 h2 => ?_, fun y hy => ?_, fun y c _ h => ?_, fun _ => hd, Around.frames_deeper e0.frames, .inr ⟨rfl, rfl⟩, fun b z => absurd z (noA b), e0.bs, e0.bsz, fun b _ _ => noA b, fun b z => absurd z (noA b), e0.funs, e0.frf⟩,
  rfl, e0.bare, Un.kept hk, ⟨_, x.toInCall.ns, fun i y v h1 h2 h3 => ?_⟩, fun y c h => ⟨_, x.cell y c h⟩, e0.hok.fresh (R3 _), fun y c h => ?_, fun p hp => absurd (show p ∈ ([] : List (Addr × Obj)) from hp) (by simp), e0.hok.kept hk, ?_⟩
 ·exact name_of_addr x.apart (PySem.mem_of_lookup h1) (PySem.mem_of_lookup h2)
 ·have hy : scope.names.lookup y = some .cell ∨ scope.names.lookup y = some .free := hy
  rcases hy with hy | hy
  ·exact Im hy
  ·exact absurd rfl (S.nofree _ (PySem.mem_of_lookup hy))
 ·exact QQ (x.above y c (PySem.mem_of_lookup h))
 ·have hi : i < vs.length := by
   unfold DI at h2
   by_cases hi : i < vs.length
   ·exact hi
   ·rw [Ri (by simpa using hi)] at h2
    rw [Rj] at h2
    split at h2 <;> cases h2
  have ha : vs[i]? = some v := by
   unfold DI at h2
   rw [Rk (by simpa using hi), Rl] at h2
   cases e : vs[i]? with
   | none => rw [e] at h2; cases h2
   | some a => rw [e] at h2; cases h2; rfl
  obtain ⟨u, hu, rv⟩ := r.get ha
  have hp : ps[i]? = some y := by
   rw [← S.pre, List.getElem?_take_of_lt (by lia)]; exact h1
  have ndP : ps.Nodup := by rw [← S.pre]; exact S.nd.sublist (Rm _ _)
  refine ⟨u, rv, ?_⟩
  rcases S.par y (Rn hp) with k | k
  ·exact .inl ⟨k, Gj ndP hp hu k⟩
  ·obtain ⟨c, e⟩ := Im (n := s.heap.objs.size + 1) k
   refine .inr ⟨.inl k, c, e, ?_⟩
   have q := x.cell y c e
   rw [Gm ndP hp hu (by show scope.names.lookup y ≠ _; rw [k]; decide)] at q
   exact q
 ·exact e0.hok.fresh (QQ (x.above y c (PySem.mem_of_lookup h)))
 ·unfold DI
  show _ = N.length
  rw [Ro, Rp, Rq]
  lia
theorem MP {CX : CXT} {P : Program} {w : World} {K : QO} {mg : Str → Option Value} {base : Heap} {k : Nat} {f : Addr} {name qual : Str} {params : Arguments} {body : List Stmt} {scope : Scope} {dV kV doc pm cdv ct oc : Value} {an od : Option Addr}
 {osl : Array (Option Value)} {N ps : List Str} {sp : Sp} (lk : K.lookup f = some ⟨oc, od, .func (Rr name qual params body scope dV kV doc pm an cdv ct), osl⟩) (hcd : Rs K cdv qual = true) (S : Ap N ps scope)
 (len : ∀ vs H Q E, sp vs H Q E → vs.length = ps.length)
 (hbody : ∀ (A : Around) (outer : List Env) (s : Shared) (H : Hp) (vs : List V) (Q : VK) (E : XK), BT k (A.deeper (envOfC qual scope s.heap.objs.size f cdv)) → sp vs H Q E →
  ∃ t, PSs (J0 CX P w K mg base N qual scope f cdv A outer s H E) body t ∧ t { nx := fun _ H' => Q .non H', rt := Q } (DI N vs) H) :
 AE P w K mg base CX (k + 1) f (Rr name qual params body scope dV kV doc pm an cdv ct) ps sp := by
 refine ⟨len, fun A outer s H args us vs Q E hr e0 hb r hsp => ?_⟩
 have hl := len _ _ _ _ hsp
 have KX : K.In s.heap := e0.mod.kin.keeps fun b o e => (e0.bs b o e).1
 have lim : s.heap.NoLimit := e0.mod.nolimit.keeps fun b o e => (e0.bs b o e).1
 have hkind : ∀ y ∈ ps.zip us, scope.names.lookup y.1 = some .local ∨ (scope.names.lookup y.1 = some .cell ∧ ((cellsFrom (s.heap.objs.size + 1) scope.names []).lookup y.1).isSome = true) := fun ⟨n, v⟩ hy => by
  rcases S.par n (Rf hy).1 with q | q
  ·exact .inl q
  ·exact .inr ⟨q, PySem.W.cellsFrom_some _ _ _ (.inl q)⟩
 refine codeAny_call_function hr.depth (KX _ _ lk) rfl S.co S.gen rfl (PySem.W.codeRec_of KX hcd) (hb _ _ _ _ ?_)
 refine wpAny_newFunctionEnv_cells S.kind hkind fun env he s1 x => ?_
 subst he
 refine ⟨lim.keeps x.toInCall.keep, codeAny_func ?_⟩
 obtain ⟨t, ht, hq⟩ := hbody A outer s H vs Q E (hr.deeper _) hsp
 have I : Inv (J0 CX P w K mg base N qual scope f cdv A outer s H E) [] (DI N vs) H s1 := K6 S hr.hd e0 hl r x
 refine wpAny_mono (ht [] s1 (DI N vs) H _ I hq) (fun fl s' hs => ?_) fun e s' hs => hs
 have fin : ∀ {σ' : St} {H' : Hp} {v : V} {u : Value}, Inv (J0 CX P w K mg base N qual scope f cdv A outer s H E) [] σ' H' s' → AC v u → Q v H' → CE outer P w H s Q u s' :=
  fun {σ' H' v u} J rv q => ⟨v, H', J.os, J.bare, J.base, J.hok, rv, q⟩
 cases fl with
 | ret u =>
   obtain ⟨v, σ', H', J, rv, q⟩ := hs
   exact fin J rv q
 | next =>
   obtain ⟨σ', H', J, q⟩ := hs
   exact fin (v := V.non) (u := Value.none) J rfl q
 | brk =>
   obtain ⟨_, _, _, q⟩ := hs
   exact False.elim q
 | cont =>
   obtain ⟨_, _, _, q⟩ := hs
   exact False.elim q
end L2
namespace L2
open PySem PySem.Spec PyProof.Rows
section
variable {X : Cx} {x : Str} {p pos : Pos} {e : Expr} {es : List Expr} {t : TA} {id T : String} {r : List V → Hp → VK → Prop}
def tCB (r : List V → Hp → VK → Prop) (t : TA) : TE := fun σ H Q => t σ H fun vs H1 => r vs H1 Q
theorem Ar (hc : CJ X (.builtin id) r) (hg : Gl X x) (hm : X.mg x = none) (hv : bootBuiltins x = some (.builtin id)) (ha : PA X (e :: es) t) (hn : x ≠ "__name__" := by decide) (hdb : (x == ("__debug__" : Str)) = false := by decide)
 (he : starEach (e :: es) X.env = (false, eval e X.env) :: starEach es X.env := by rfl) (hpl : (backTo pos (starEach es X.env)).any (·.1) = false := by rfl) : PE X (.Call (.Name x p) (e :: es) [] pos) (tCB r t) := by
 intro pins s σ H Q I h
 refine wpAny_Call_Name_kw (Cu I hg hm hv ?_ hn hdb)
 exact PyProof.Rows.callWith_builtin1 (thn (ha pos pins s σ H _ I h) fun us s1 ⟨vs, H1, I1, r1, q1⟩ => hc pins s1 σ H1 vs us Q I1 r1 q1) he hpl
theorem BN (hc : CJ X (.type T) r) (hg : Gl X x) (hm : X.mg x = none) (hv : bootBuiltins x = some (.type T)) (ha : PA X (e :: es) t) (hn : x ≠ "__name__" := by decide) (hdb : (x == ("__debug__" : Str)) = false := by decide)
 (he : starEach (e :: es) X.env = (false, eval e X.env) :: starEach es X.env := by rfl) (hpl : (backTo pos (starEach es X.env)).any (·.1) = false := by rfl) : PE X (.Call (.Name x p) (e :: es) [] pos) (tCB r t) := by
 intro pins s σ H Q I h
 refine wpAny_Call_Name_kw (Cu I hg hm hv ?_ hn hdb)
 exact PyProof.Rows.callWith_type1 (thn (ha pos pins s σ H _ I h) fun us s1 ⟨vs, H1, I1, r1, q1⟩ => hc pins s1 σ H1 vs us Q I1 r1 q1) he hpl
end
end L2
namespace HT
open PySem PyProof.Rows
section
open PySem.SeqAt
open PySem.AutoSeq1 (wpAny_loadPart')
open PySem.MeetsSeq PySem.MeetsSeq2 PySem.MeetsSeq3
end
section
variable {prog : Program} {w : World} {A : Around} {E : Value → Shared → Prop} {s : Shared}
def sIx (n d : Nat) : Option Int → Nat
 | none => d
 | some v => if v < 0 then (v + (n : Int)).toNat else min v.toNat n
theorem sIx_nat (n d k : Nat) : sIx n d (some (k : Int)) = min k n := by
 show (if (k : Int) < 0 then ((k : Int) + (n : Int)).toNat else min (k : Int).toNat n) = min k n
 rw [if_neg (by lia), Rt]
theorem clip_eq (v : Int) (n d : Nat) : (if v < 0 then max (v + (n : Int)) 0 else min v (n : Int)) = ((sIx n d (some v) : Nat) : Int) := by
 show (if v < 0 then max (v + (n : Int)) 0 else min v (n : Int)) = (((if v < 0 then (v + (n : Int)).toNat else min v.toNat n) : Nat) : Int)
 by_cases hv : v < 0
 ·rw [if_pos hv, if_pos hv, Int.toNat_eq_max]
 ·rw [if_neg hv, if_neg hv]
  obtain ⟨k, rfl⟩ := Int.eq_ofNat_of_zero_le (Int.not_lt.mp hv)
  rw [Rt]
  rcases Nat.le_total k n with h | h
  ·rw [Ru h, Int.min_eq_left (Int.ofNat_le.mpr h)]
  ·rw [Rv h, Int.min_eq_right (Int.ofNat_le.mpr h)]
end
end HT
namespace L2
open PySem PySem.Spec PyProof.Rows
abbrev TO := St → Hp → (Option Int → Hp → Prop) → Prop
def PO (X : Cx) (e : Option Expr) (t : TO) : Prop :=
 ∀ (pins : List (Addr × Obj)) (s : Shared) (σ : St) (H : Hp) (Q : Option Int → Hp → Prop), Inv X pins σ H s → t σ H Q →
   wpAny (model X.prog X.w) X.A (evalPart e X.env) (fun u s' => ∃ o H', Inv X pins σ H' s' ∧ IsPart u o ∧ Q o H') X.xe s
def LV : TO := fun _ H Q => Q none H
def O5 (t : TE) : TO := fun σ H Q => t σ H fun x H1 => ∃ i, x = .int i ∧ Q (some i) H1
section
variable {X : Cx} {e : Expr} {te : TE} {lo hi : Option Expr} {tl th : TO} {pos p2 : Pos}
theorem Ce : PO X none LV := by
 intro pins s σ H Q I h
 rw [evalPart_none]
 exact wpAny_pure ⟨none, H, I, .none, h⟩
theorem Cd (h : PE X e te) : PO X (some e) (O5 te) := by
 intro pins s σ H Q I hw
 rw [evalPart_some]
 refine thn (h pins s σ H _ I hw) fun u s1 ⟨x, H1, I1, r1, q1⟩ => ?_
 obtain ⟨i, rfl, q⟩ := q1
 obtain ⟨t, rfl⟩ := r1
 exact ⟨some i, H1, I1, .int i t, q⟩
def SlR (X : Cx) (r : V → Option Int → Option Int → Hp → VK → Prop) : Prop :=
 ∀ (pins : List (Addr × Obj)) (s : Shared) (σ : St) (H : Hp) (x : V) (v vl vu : Value) (lo hi : Option Int) (sl : Addr) (Q : VK), Inv X pins σ H s → AC x v → s.heap.IsSliceOf sl vl vu .none → IsPart vl lo → IsPart vu hi → r x lo hi H Q →
   ∃ T id, typeLookup (.type T) "__getitem__" = pure (some (.builtin id)) ∧ s.TypeIs v T ∧ wpAny (model X.prog X.w) X.A (getItem v (.ref sl)) (EP X pins σ Q) X.xe s
def tSl (r : V → Option Int → Option Int → Hp → VK → Prop) (te : TE) (tl th : TO) : TE := fun σ H Q => te σ H fun x H1 => tl σ H1 fun l H2 => th σ H2 fun u H3 => r x l u H3 Q
theorem BS {r : V → Option Int → Option Int → Hp → VK → Prop} (hr : SlR X r) (he : PE X e te) (hl : PO X lo tl) (hu : PO X hi th) : PE X (.Subscript e (.Slice lo hi none p2) pos) (tSl r te tl th) := by
 intro pins s σ H Q I h
 refine Subscript_ (thn (he pins s σ H _ I h) fun v s1 ⟨x, H1, I1, r1, q1⟩ => ?_)
 refine wpAny_Slice (thn (hl pins s1 σ H1 _ I1 q1) fun vl s2 ⟨l, H2, I2, pl, q2⟩ => thn (hu pins s2 σ H2 _ I2 q2) fun vu s3 ⟨u, H3, I3, pu, q3⟩ => ?_)
 rw [evalPart_none]
 refine wpAny_pure ?_
 have I4 : Inv X pins σ H3 { s3 with heap := s3.heap.push { cls := .type "slice", data := .fields #[vl, vu, .none] } } := I3.kept (t' := s3.toks) fun b ob q => Heap.get?_push_of_some _ q
 obtain ⟨T, id, hT, ht, hg⟩ := hr pins { s3 with heap := s3.heap.push { cls := .type "slice", data := .fields #[vl, vu, .none] } } σ H3 x v vl vu l u s3.heap.objs.size Q I4 r1 (Heap.IsSliceOf.new ..) pl pu q3
 show wpAny (model X.prog X.w) X.A (subscriptTail e (.Slice lo hi none p2) v (.ref s3.heap.objs.size)) (EP X pins σ Q) X.xe { s3 with heap := s3.heap.push { cls := .type "slice", data := .fields #[vl, vu, .none] } }
 exact tail_any (ops := [.ref s3.heap.objs.size, v]) ht hT hg (by with_unfolding_all rfl)
def Cw (xs : List V) (lo hi : Option Int) : List V := (xs.drop (HT.sIx xs.length 0 lo)).take (HT.sIx xs.length xs.length hi - HT.sIx xs.length 0 lo)
theorem Ii (xs : List V) (lo hi : Option Int) : (Cw xs lo hi).length ≤ xs.length := by
 unfold Cw
 rw [Rh, Rw]
 exact QP (Nat.min_le_right _ _) (Nat.sub_le _ _)
end
end L2
namespace L2
open PySem PySem.Spec PyProof.Rows
def ixN (n : Nat) (i : Int) : Option Nat := if 0 ≤ i then (if i < n then some i.toNat else none) else if -(n : Int) ≤ i then some (i + n).toNat else none
def atI {α : Type} (xs : List α) (i : Int) : Option α := (ixN xs.length i).bind fun j => xs[j]?
theorem Jr {n : Nat} {i : Int} {j : Nat} (h : ixN n i = some j) : seqIndex? i n = some j ∧ j < n ∧ -(n : Int) ≤ i ∧ i < n := by
 unfold ixN at h
 by_cases h0 : 0 ≤ i
 ·rw [if_pos h0] at h
  by_cases h1 : i < n
  ·rw [if_pos h1] at h
   have e : i.toNat = j := QF.inj h
   exact ⟨by rw [seqIndex_of h0 h1, e], by lia, by lia, h1⟩
  ·rw [if_neg h1] at h; cases h
 ·rw [if_neg h0] at h
  by_cases h1 : -(n : Int) ≤ i
  ·rw [if_pos h1] at h
   have e : (i + n).toNat = j := QF.inj h
   exact ⟨by rw [seqIndex_neg (by lia) h1, e], by lia, h1, by lia⟩
  ·rw [if_neg h1] at h; cases h
theorem JH {α : Type} {xs : List α} {i : Int} {v : α} (h : atI xs i = some v) : ∃ j, seqIndex? i xs.length = some j ∧ xs[j]? = some v ∧ j < xs.length ∧ -(xs.length : Int) ≤ i ∧ i < xs.length := by
 unfold atI at h
 cases e : ixN xs.length i with
 | none => rw [e] at h; cases h
 | some j =>
   rw [e] at h
   obtain ⟨h1, h2, h3, h4⟩ := Jr e
   exact ⟨j, h1, h, h2, h3, h4⟩
theorem AT {α : Type} {xs : List α} {j : Nat} {v : α} (h : xs[j]? = some v) : atI xs (j : Int) = some v := by
 have hj : j < xs.length := (QX.mp h).1
 have e : ixN xs.length (j : Int) = some j := by
  unfold ixN
  rw [if_pos (by lia), if_pos (by lia)]; simp
 unfold atI; rw [e]; exact h
def MD (b : Expr) : Prop := ∀ o i, subscripted b false o i = operate [o, i] (getItem o i)
def IxR (X : Cx) (r : R2) : Prop :=
 ∀ (value slice : Expr) (pins : List (Addr × Obj)) (s : Shared) (σ : St) (H : Hp) (x y : V) (v u : Value) (Q : VK), Inv X pins σ H s → AC x v → AC y u → r x y H Q →
   subscripted slice false v u = operate [v, u] (getItem v u) → wpAny (model X.prog X.w) X.A (subscriptTail value slice v u) (EP X pins σ Q) X.xe s
def MtR (X : Cx) (id : String) (r : V → List V → Hp → VK → Prop) : Prop :=
 ∀ (pins : List (Addr × Obj)) (s : Shared) (σ : St) (H : Hp) (x : V) (xs : List V) (v : Value) (us : List Value) (Q : VK), Inv X pins σ H s → AC x v → Az xs us → r x xs H Q →
   wpAny (model X.prog X.w) X.A (call (.builtin id) (v :: us)) (EP X pins σ Q) X.xe s
section
variable {X : Cx} {a b : Expr} {ta tb : TE} {pos : Pos}
theorem Aj {r : R2} (hr : IxR X r) (ha : PE X a ta) (hb : PE X b tb) (hs : MD b) : PE X (.Subscript a b pos) (tOp r ta tb) := by
 intro pins s σ H Q I h
 exact Subscript_ (NV ha hb I h fun v u s2 x y H2 I2 rx ry q => hr a b pins s2 σ H2 x y v u Q I2 rx ry q (hs _ _))
inductive Na (K : QO) (x : V) (y : V) (H : Hp) (Q : VK) : Prop
 | mk (p : _) (xs : _) (i : _) (v : _) (h1 : x = .ref p) (h2 : y = .int i) (h3 : SqL K H p xs) (h4 : atI xs i = some v) (h5 : Q v H) : Na K x y H Q
inductive N9 (K : QO) (x : V) (y : V) (H : Hp) (Q : VK) : Prop
 | mk (p : _) (xs : _) (i : _) (v : _) (h1 : x = .ref p) (h2 : y = .int i) (h3 : SqT K H p xs) (h4 : atI xs i = some v) (h5 : Q v H) : N9 K x y H Q
theorem Mq : IxR X (Na X.K) := by
 intro value slice pins s σ H x y v u Q I rx ry h hs
 obtain ⟨p, xs, i, z, rfl, rfl, hq, he, q⟩ := h
 cases rx
 obtain ⟨t, rfl⟩ := ry
 obtain ⟨its, r, pl, hz⟩ := I.list hq
 obtain ⟨j, h1, h2, h3, h4, h5⟩ := JH he
 obtain ⟨w, ew, rw'⟩ := r.get h2
 have hl := r.length
 have hn := GX
 have fin : EP X pins σ Q w s := ⟨z, H, I, rw', q⟩
 by_cases h0 : 0 ≤ i
 ·have hj : i.toNat = j := by
   rw [seqIndex_of h0 h5] at h1
   exact QF.inj h1
  exact item_listR pl.isList h0 (by lia) (by rw [hj]; simpa using ew) fin hs
 ·have hj : (i + (its.toArray.size : Int)).toNat = j := by
   rw [seqIndex_neg (by lia) h4] at h1
   rw [Rx, ← hl]
   exact QF.inj h1
  exact subscriptTail_builtinR (x := w) pl.isList.typeIs slot_list_getitem.lookup
   (wpAny_getItem_list_neg (Q := fun r s' => r = w ∧ EP X pins σ Q r s') pl.isList (by lia) (by rw [Rx] <;> lia) (by lia) (by rw [hj]; simpa using ew) ⟨rfl, fin⟩) hs
theorem NK : IxR X (N9 X.K) := by
 intro value slice pins s σ H x y v u Q I rx ry h hs
 obtain ⟨p, xs, i, z, rfl, rfl, hq, he, q⟩ := h
 cases rx
 obtain ⟨t, rfl⟩ := ry
 obtain ⟨its, r, pl, hz⟩ := I.tuple hq
 obtain ⟨j, h1, h2, h3, h4, h5⟩ := JH he
 obtain ⟨w, ew, rw'⟩ := r.get h2
 have hl := r.length
 have hn := GX
 have fin : EP X pins σ Q w s := ⟨z, H, I, rw', q⟩
 exact subscriptTail_builtinR (x := w) pl.typeIs slot_tuple_getitem.lookup
  (getItem_tuple (j := j) (Q := fun r s' => r = w ∧ EP X pins σ Q r s') pl (by lia) (by lia) (by rw [Rx, ← hl]; exact h1) (by simpa using ew) ⟨rfl, fin⟩) hs
theorem IR (its : List Value) (n j : Nat) (u : Value) : Obj.mapSeq (·.setIfInBounds j u) { cls := .type "list", data := .seq its.toArray n } = { cls := .type "list", data := .seq (its.set j u).toArray n } := by
 simp [Obj.mapSeq]
theorem Inv.lst {pins : List (Addr × Obj)} {σ : St} {H : Hp} {s : Shared} {p : Addr} {xs : List V} (I : Inv X pins σ H s) (h : H p = some (.lst xs)) :
 ∃ (its : List Value) (n : Nat), Az xs its ∧ s.heap.get? p = some { cls := .type "list", data := .seq its.toArray n } ∧ xs.length ≤ sizeLine := by
 obtain ⟨z, its, n, r, e⟩ := I.hok p _ h
 exact ⟨its, n, r, e, z⟩
theorem Inv.lstUpd {pins : List (Addr × Obj)} {σ : St} {H : Hp} {s : Shared} {p : Addr} {xs ys : List V} {its its' : List Value} {n n' : Nat} {f : Obj → Obj} (I : Inv X pins σ H s) (h : H p = some (.lst xs))
 (ho : s.heap.get? p = some { cls := .type "list", data := .seq its.toArray n }) (hf : f { cls := .type "list", data := .seq its.toArray n } = { cls := .type "list", data := .seq its'.toArray n' }) (r : Az ys its') (hz : ys.length ≤ sizeLine) (t : Nat) :
 Inv X pins σ (upd H p (.lst ys)) { s with heap := s.heap.update p f, toks := t } := by
 have e : (s.heap.update p f).get? p = some { cls := .type "list", data := .seq its'.toArray n' } := by
  rw [Heap.get?_update_self f ho (by rw [hf] <;> rfl), hf]
 refine I.write (x := p) (e := p) (by rw [h]; trivial) (.inl rfl) (fun b u hb q => (Heap.get?_update_other _ _ (Ne.symm hb)).trans q) ⟨_, e⟩ ?_
 exact ⟨hz, its', n', r, e⟩
inductive MJ (o : V) (i : V) (v : V) (H : Hp) (Q : (Hp → Prop)) : Prop
 | mk (p : _) (xs : _) (k : _) (j : _) (h1 : o = .ref p) (h2 : i = .int k) (h3 : H p = some (.lst xs)) (h4 : ixN xs.length k = some j) (h5 : Q (upd H p (.lst (xs.set j v)))) : MJ o i v H Q
theorem D9 : OA X MJ := by
 intro pins s σ H o i v ov iv u Q I ro ri rv h
 obtain ⟨p, xs, k, j, rfl, rfl, hp, hj, q⟩ := h
 cases ro
 obtain ⟨t, rfl⟩ := ri
 obtain ⟨its, n, r, ho, hz⟩ := I.lst hp
 obtain ⟨h1, h2, h3, h4⟩ := Jr hj
 have hl := r.length
 have hn := GX
 have I' : Inv X pins σ (upd H p (.lst (xs.set j v))) { s with heap := s.heap.update p (Obj.mapSeq (·.setIfInBounds j u)) } :=
  I.lstUpd hp ho (IR its n j u) (r.set rv j) (by rw [Ry]; exact hz) s.toks
 by_cases h0 : 0 ≤ k
 ·have hk : k.toNat = j := by
   rw [seqIndex_of h0 h4] at h1
   exact QF.inj h1
  exact PySem.W.ki_setAt ho h0 (by lia) (by rw [Rx, ← hl]; exact h4) (by rw [hk]; exact ⟨_, I', q⟩)
 ·have hk : (k + (its.toArray.size : Int)).toNat = j := by
   rw [seqIndex_neg (by lia) h3] at h1
   rw [Rx, ← hl]
   exact QF.inj h1
  exact PySem.W.ki_setBack ho (by lia) (by rw [Rx, ← hl]; exact h3) (by lia) (by rw [hk]; exact ⟨_, I', q⟩)
theorem GA (lo hi : Option Int) (n : Nat) : (sliceBounds lo hi none n).1 = ((HT.sIx n 0 lo : Nat) : Int) ∧ (sliceBounds lo hi none n).2.1 = ((HT.sIx n n hi : Nat) : Int) ∧ (sliceBounds lo hi none n).2.2 = 1 := by
 have key : ∀ (i : Int) (d : Nat), max 0 (min (if i < 0 then i + (n : Int) else i) (n : Int)) = ((HT.sIx n d (some i) : Nat) : Int) := by
  intro i d
  rw [← HT.clip_eq]
  by_cases h : i < 0
  ·rw [if_pos h, if_pos h, Int.min_eq_left (by lia), Int.max_comm]
  ·rw [if_neg h, if_neg h, Int.max_eq_right (Int.le_min.mpr ⟨by lia, by lia⟩)]
 refine ⟨?_, ?_, rfl⟩
 ·cases lo with
  | none => simp [sliceBounds, HT.sIx]
  | some i => exact key i 0
 ·cases hi with
  | none => simp [sliceBounds, HT.sIx]
  | some i => exact key i n
theorem Fy (its : List Value) (lo hi : Option Int) : slicePick its.toArray lo hi none = ((its.drop (HT.sIx its.length 0 lo)).take (HT.sIx its.length its.length hi - HT.sIx its.length 0 lo)).toArray := by
 obtain ⟨h1, h2, h3⟩ := GA lo hi its.toArray.size
 unfold slicePick
 rw [h1, h2, h3]
 simp only [sliceRange_one, pick_run, Rx] <;> rfl
inductive N8 (K : QO) (x : V) (lo : Option Int) (hi : Option Int) (H : Hp) (Q : VK) : Prop
 | mk (a : _) (xs : _) (h1 : x = .ref a) (h2 : SqL K H a xs) (h3 : ∀ p, H p = none → Q (.ref p) (upd H p (.lst (Cw xs lo hi)))) : N8 K x lo hi H Q
theorem LY : SlR X (N8 X.K) := by
 intro pins s σ H x v vl vu lo hi sl Q I rx hs pl pu h
 obtain ⟨a, xs, rfl, hx, q⟩ := h
 cases rx
 obtain ⟨its, r, ht, hz⟩ := I.list hx
 have hlen := r.length
 refine ⟨"list", _, slot_list_getitem.lookup, ht.isList.typeIs, ?_⟩
 refine wpAny_getItem_list_slice ht.isList hs pl pu .none (by simp) ?_ (by rw [Rx] <;> lia)
 rw [Fy, ← hlen]
 refine ⟨.ref s.heap.objs.size, _, I.laid (t' := s.toks) (o := .lst (Cw xs lo hi)) (fun b ob q => Heap.get?_push_of_some _ q) (R3 _) ?_, rfl, q _ (I.hok.fresh (R3 _))⟩
 exact ⟨QP (Ii xs lo hi) hz, _, 0, (r.drop (HT.sIx xs.length 0 lo)).take (HT.sIx xs.length xs.length hi - HT.sIx xs.length 0 lo), Heap.get?_push_size _ rfl⟩
def Eo : V → Bool
 | .non => true
 | .bl _ => true
 | .int _ => true
 | .str _ => true
 | _ => false
def eqV : V → V → Bool
 | .non, .non => true
 | .bl a, .bl b => a == b
 | .bl a, .int b => (if a then 1 else 0) == b
 | .int a, .bl b => a == (if b then 1 else 0)
 | .int a, .int b => a == b
 | .str a, .str b => a == b
 | _, _ => false
theorem NR {A : Around} {s : Shared} {y x : V} {u v : Value} (ry : AC y u) (rx : AC x v) (fy : Eo y = true) (fx : Eo x = true) : SeqAt.EqAt A s u v (eqV y x) := by
 cases y with
 | non =>
   cases ry
   cases x with
   | non => cases rx; exact SeqAt.EqAt.same _
   | bl b => cases rx; exact SeqAt.EqAt.none_bool b
   | int b => obtain ⟨t, rfl⟩ := rx; exact SeqAt.EqAt.none_int b t
   | str b => obtain ⟨t, rfl⟩ := rx; exact SeqAt.EqAt.none_str b t
   | _ => exact absurd (show false = true from fx) Bool.false_ne_true
 | bl a =>
   cases ry
   cases x with
   | non => cases rx; exact SeqAt.EqAt.bool_none a
   | bl b => cases rx; exact SeqAt.EqAt.bool_bool a b
   | int b => obtain ⟨t, rfl⟩ := rx; exact SeqAt.EqAt.bool_int a b t
   | str b => obtain ⟨t, rfl⟩ := rx; exact SeqAt.EqAt.bool_str a b t
   | _ => exact absurd (show false = true from fx) Bool.false_ne_true
 | int a =>
   obtain ⟨t', rfl⟩ := ry
   cases x with
   | non => cases rx; exact SeqAt.EqAt.int_none a t'
   | bl b => cases rx; exact SeqAt.EqAt.int_bool a t' b
   | int b => obtain ⟨t, rfl⟩ := rx; exact SeqAt.EqAt.int_int a t' b t
   | str b => obtain ⟨t, rfl⟩ := rx; exact SeqAt.EqAt.int_str a t' b t
   | _ => exact absurd (show false = true from fx) Bool.false_ne_true
 | str a =>
   obtain ⟨t', rfl⟩ := ry
   cases x with
   | non => cases rx; exact SeqAt.EqAt.str_none a t'
   | bl b => cases rx; exact SeqAt.EqAt.str_bool a t' b
   | int b => obtain ⟨t, rfl⟩ := rx; exact SeqAt.EqAt.str_int a t' b t
   | str b => obtain ⟨t, rfl⟩ := rx; exact SeqAt.EqAt.str_str a t' b t
   | _ => exact absurd (show false = true from fx) Bool.false_ne_true
 | _ => exact absurd (show false = true from fy) Bool.false_ne_true
def eqU (x : V) (u : Value) : Bool := match u with
 | .none => eqV .non x
 | .bool b => eqV (.bl b) x
 | .int i _ => eqV (.int i) x
 | .str z _ => eqV (.str z) x
 | _ => false
theorem Lo {x y : V} {u : Value} (r : AC y u) (f : Eo y = true) : eqU x u = eqV y x := by
 cases y with
 | non => cases r; rfl
 | bl b => cases r; rfl
 | int i => obtain ⟨t, rfl⟩ := r; rfl
 | str z => obtain ⟨t, rfl⟩ := r; rfl
 | _ => exact absurd (show false = true from f) Bool.false_ne_true
theorem Hl {x : V} : ∀ {xs : List V} {us : List Value}, Az xs us → xs.all Eo = true → us.any (eqU x) = xs.any fun y => eqV y x
 | _, _, .nil, _ => rfl
 | y :: xs, u :: us, .cons r t, f => by
   rw [List.all_cons, Bool.and_eq_true] at f
   rw [List.any_cons, List.any_cons, Lo r f.1, Hl t f.2]
theorem Fk {A : Around} {s : Shared} {x : V} {v : Value} (rx : AC x v) (fx : Eo x = true) : ∀ {xs : List V} {us : List Value}, Az xs us → xs.all Eo = true → ∀ u ∈ us, SeqAt.EqAt A s u v (eqU x u)
 | _, _, .nil, _ => fun u hu => by cases hu
 | y :: xs, u :: us, .cons r t, f => fun u' hu => by
   rw [List.all_cons, Bool.and_eq_true] at f
   rcases QU.mp hu with rfl | hu
   ·rw [Lo r f.1]; exact NR r rx f.1 fx
   ·exact Fk rx fx t f.2 u' hu
def inV (x : V) (xs : List V) : Bool := xs.any fun y => eqV y x
inductive rIn (K : QO) (neg : Bool) (x : V) (y : V) (H : Hp) (Q : VK) : Prop
 | mk (p : _) (xs : _) (h1 : y = .ref p) (h2 : (SqL K H p xs ∨ SqT K H p xs)) (h3 : Eo x = true) (h4 : xs.all Eo = true) (h5 : Q (.bl (if neg then !inV x xs else inV x xs)) H) : rIn K neg x y H Q
theorem GJ : OpR X (compareOp .NotIn) (rIn X.K true) := by
 intro pins s σ H x y v u Q I rx ry h
 obtain ⟨p, xs, rfl, hq, fx, fs, q⟩ := h
 cases ry
 rcases hq with hq | hq
 ·obtain ⟨its, r, pl, hz⟩ := I.list hq
  refine SeqAt.notIn_listAt (eqU x) pl.isList (fun w hw => Fk rx fx r fs w (by simpa using hw)) ⟨.bl _, H, I, rfl, ?_⟩
  rw [show its.toArray.any (eqU x) = its.any (eqU x) by simp, Hl r fs]
  exact q
 ·obtain ⟨its, r, pl, hz⟩ := I.tuple hq
  refine SeqAt.notIn_tupleAt (eqU x) pl (fun w hw => Fk rx fx r fs w (by simpa using hw)) ⟨.bl _, H, I, rfl, ?_⟩
  rw [show its.toArray.any (eqU x) = its.any (eqU x) by simp, Hl r fs]
  exact q
theorem Hj : CJ X (.builtin "len") (fun xs H Q => ∃ p ys, xs = [.ref p] ∧ (SqL X.K H p ys ∨ SqT X.K H p ys) ∧ Q (.int ys.length) H) := by
 intro pins s σ H xs us Q I r h
 obtain ⟨p, ys, rfl, hq, q⟩ := h
 obtain ⟨u, rfl, rx⟩ := FL r
 cases rx
 have hn := GX
 rcases hq with hq | hq
 ·obtain ⟨its, r', pl, hz⟩ := I.list hq
  have hlen := r'.length
  exact Calls.call_len_list pl.isList (by simp only [Rx] <;> lia) ⟨.int ys.length, H, I.tok _, ⟨s.toks + 1, by rw [Rx, hlen]⟩, q⟩
 ·obtain ⟨its, r', pl, hz⟩ := I.tuple hq
  have hlen := r'.length
  exact len_tuple pl (by simp only [Rx] <;> lia) ⟨.int ys.length, H, I.tok _, ⟨s.toks + 1, by rw [Rx, hlen]⟩, q⟩
theorem Hi : CJ X (.type "list") (fun xs H Q => ∃ p ys, xs = [.ref p] ∧ (SqL X.K H p ys ∨ SqT X.K H p ys) ∧ ∀ l, H l = none → Q (.ref l) (upd H l (.lst ys))) := by
 intro pins s σ H xs us Q I r h
 obtain ⟨p, ys, rfl, hq, q⟩ := h
 obtain ⟨u, rfl, rx⟩ := FL r
 cases rx
 have fin : ∀ (its : List Value), Az ys its → ys.length ≤ sizeLine → ∀ (h' : Heap) (c' : Nat), (∀ b o', s.heap.get? b = some o' → h'.get? b = some o') →
  h'.get? s.heap.objs.size = some { cls := .type "list", dict := none, data := .seq its.toArray c', slots := #[] } → EP X pins σ Q (.ref s.heap.objs.size) { s with heap := h' } := fun its r' hz h' c' kp e =>
  ⟨.ref s.heap.objs.size, _, I.laid (t' := s.toks) kp (R3 _) (show Bj X.prog X.w _ h' _ (.lst ys) from ⟨hz, its, c', r', e⟩), rfl, q _ (I.hok.fresh (R3 _))⟩
 rcases hq with hq | hq
 ·obtain ⟨its, r', pl, hz⟩ := I.list hq
  have hlen := r'.length
  obtain ⟨o, ho, hc, n, hd⟩ := pl.isList
  exact call_list_seq p (.inl rfl) ho hc hd (fun h' c' kp e => fin its r' hz h' c' kp e) (by simp only [Rx] <;> lia)
 ·obtain ⟨its, r', pl, hz⟩ := I.tuple hq
  have hlen := r'.length
  obtain ⟨o, ho, hc, n, hd⟩ := pl
  exact call_list_seq p (.inr rfl) ho hc hd (fun h' c' kp e => fin its r' hz h' c' kp e) (by simp only [Rx] <;> lia)
theorem FJ : CJ X (.type "tuple") (fun xs H Q => ∃ p ys, xs = [.ref p] ∧ ((SqL X.K H p ys ∧ ∀ l, H l = none → Q (.ref l) (upd H l (.tup ys))) ∨ (SqT X.K H p ys ∧ Q (.ref p) H))) := by
 intro pins s σ H xs us Q I r h
 obtain ⟨p, ys, rfl, h⟩ := h
 obtain ⟨u, rfl, rx⟩ := FL r
 cases rx
 rcases h with ⟨hq, q⟩ | ⟨hq, q⟩
 ·obtain ⟨its, r', pl, hz⟩ := I.list hq
  have hlen := r'.length
  refine call_tuple_list pl.isList (fun h' kp => ?_) (by simp only [Rx] <;> lia)
  have I1 : Inv X pins σ H { s with heap := h' } := I.kept (t' := s.toks) kp
  have I2 : Inv X pins σ (upd H h'.objs.size (.tup ys)) { s with heap := h'.push { cls := .type "tuple", data := .seq its.toArray } } :=
   I1.laid (t' := s.toks) (fun b o e => Heap.get?_push_of_some _ e) (R3 _) (show Bj X.prog X.w _ _ _ (.tup ys) from ⟨hz, its, r', IsTup.new _ _⟩)
  exact ⟨.ref h'.objs.size, _, I2, rfl, q _ (I1.hok.fresh (R3 _))⟩
 ·obtain ⟨its, r', pl, hz⟩ := I.tuple hq
  exact call_tuple_same pl ⟨.ref p, H, I, rfl, q⟩
def tyV (K : QO) (T : String) (x : V) (H : Hp) : Prop := match x with
 | .str _ => T = "str"
 | .int _ => T = "int"
 | .ref p => (T = "list" ∧ ∃ xs, SqL K H p xs) ∨ (T = "tuple" ∧ ∃ o, K.lookup p = some o ∧ o.cls = .type "tuple" ∧ o.dict = none) ∨
  (T = "dict" ∧ ((∃ kvs, H p = some (.dK kvs)) ∨ ∃ kvs, H p = some (.dT kvs))) ∨ (T = "set" ∧ ∃ S n, H p = some (.set S n))
 | _ => False
theorem Kk {pins : List (Addr × Obj)} {σ : St} {H : Hp} {s : Shared} {T : String} {x : V} {v : Value} (I : Inv X pins σ H s) (r : AC x v) (ty : tyV X.K T x H) :
 s.TypeIs v T ∧ ∀ a, v = .ref a → ∃ ob, s.heap.get? a = some ob ∧ ob.dict = none := by
 cases x with
 | str z =>
   obtain ⟨t, rfl⟩ := r
   cases (show T = "str" from ty)
   exact ⟨typeIs_str s z t, fun _ e => nomatch e⟩
 | int i =>
   obtain ⟨t, rfl⟩ := r
   cases (show T = "int" from ty)
   exact ⟨typeIs_int s i t, fun _ e => nomatch e⟩
 | ref p =>
   cases r
   rcases ty with ⟨rfl, xs, hq⟩ | ⟨rfl, o, hk, hc, hd⟩ | ⟨rfl, hk⟩ | ⟨rfl, S, n, hk⟩
   ·obtain ⟨its, _, pl, _⟩ := I.list hq
    refine ⟨pl.isList.typeIs, fun a e => ?_⟩
    cases e
    obtain ⟨o, n, e, c, hd, _⟩ := pl
    exact ⟨o, e, hd⟩
   ·refine ⟨⟨o, I.kIn p o hk, hc⟩, fun a e => ?_⟩
    cases e
    exact ⟨o, I.kIn _ o hk, hd⟩
   ·have z : ∃ o, s.heap.get? p = some o ∧ o.ExactDict := by
     rcases hk with ⟨kvs, hk⟩ | ⟨kvs, hk⟩
     ·obtain ⟨_, _, _, _, o, _, _, e, ex, _⟩ := I.hok p _ hk
      exact ⟨o, e, ex⟩
     ·obtain ⟨_, _, _, _, o, _, _, e, ex, _⟩ := I.hok p _ hk
      exact ⟨o, e, ex⟩
    obtain ⟨o, e, ex⟩ := z
    refine ⟨⟨o, e, ex.1⟩, fun a e2 => ?_⟩
    cases e2
    exact ⟨o, e, ex.2.1⟩
   ·obtain ⟨o, _, _, _, e, ex, _⟩ := I.hok p _ hk
    refine ⟨⟨o, e, ex.1⟩, fun a e2 => ?_⟩
    cases e2
    exact ⟨o, e, ex.2.1⟩
 | _ => exact False.elim ty
def Oa (K : QO) (T : String) (r : V → List V → Hp → VK → Prop) (to : TE) : TE := fun σ H Q => to σ H fun x H1 => tyV K T x H1 ∧ r x [] H1 Q
def tBM (K : QO) (T : String) (r : V → List V → Hp → VK → Prop) (to : TE) (t : TA) : TE := fun σ H Q => to σ H fun x H1 => tyV K T x H1 ∧ t σ H1 fun xs H2 => r x xs H2 Q
variable {o e : Expr} {es : List Expr} {to : TE} {t : TA} {name : Str} {apos cpos : Pos} {T id : String} {r : V → List V → Hp → VK → Prop}
theorem Nl (pa : PlainAttrs T) (slot : Slot T name id) (hty : typeOf (.builtin id) = pure (.type "method_descriptor")) (hm : MtR X id r) (ho : PE X o to)
 (hbase : attributeBase o name X.env (eval o X.env) = eval o X.env := by rfl) (hline : (apos.endLine == cpos.line) = true := by rfl) {K : QO} (eK : X.K = K := by rfl) : PE X (.Call (.Attribute o name apos) [] [] cpos) (Oa K T r to) := by
 subst eK
 intro pins s σ H Q I h
 refine wpAny_Call_method0_late hbase hline (thn (ho pins s σ H _ I h) fun v s1 ⟨x, H1, I1, r1, ty, q1⟩ => ?_)
 obtain ⟨h1, h2⟩ := Kk I1 r1 ty
 exact ⟨T, id, pa, slot, hty, h1, h2, Calls.callWith_builtin rfl (PySem.evalArgs_none (hm pins s1 σ H1 x [] v [] Q I1 r1 .nil q1))⟩
theorem Oh (pa : PlainAttrs T) (slot : Slot T name id) (hty : typeOf (.builtin id) = pure (.type "method_descriptor")) (hm : MtR X id r) (ho : PE X o to) (ha : PA X (e :: es) t)
 (hbase : attributeBase o name X.env (eval o X.env) = eval o X.env := by rfl)
 (hfew : ((backTo cpos (starEach (e :: es) X.env)).all (fun x => !x.1) && (backToKw cpos (keywordEach [] X.env)).all (fun x => x.1.isSome)
  && decide ((e :: es).length + ([] : List Keyword).length + (if ([] : List Keyword).isEmpty then 0 else 1) < 30)) = true := by rfl)
 (hline : (apos.endLine == cpos.line) = true := by rfl) (hs : starEach (e :: es) X.env = (false, eval e X.env) :: starEach es X.env := by rfl) (hplain : (backTo cpos (starEach es X.env)).any (·.1) = false := by rfl) {K : QO} (eK : X.K = K := by rfl) :
 PE X (.Call (.Attribute o name apos) (e :: es) [] cpos) (tBM K T r to t) := by
 subst eK
 intro pins s σ H Q I h
 refine wpAny_Call_method_late hbase hfew hline rfl (thn (ho pins s σ H _ I h) fun v s1 ⟨x, H1, I1, r1, ty, q1⟩ => ?_)
 obtain ⟨h1, h2⟩ := Kk I1 r1 ty
 refine ⟨T, id, pa, slot, hty, h1, h2, ?_⟩
 have hA := ha cpos pins s1 σ H1 _ I1 q1
 rw [hs] at hA ⊢
 refine Calls.callWith_builtin (by show (false || (backTo cpos (starEach es X.env)).any (·.1)) = false; rw [hplain] <;> rfl) (Calls.evalArgs_plain ?_)
 exact thn hA fun us s2 ⟨vs, H2, I2, r2, q2⟩ => hm pins s2 σ H2 x vs v us Q I2 r1 r2 q2
end
end L2
namespace L2
open PySem PySem.Spec PyProof.Rows
def MtM (X : Cx) (id : String) (r : V → List V → Hp → VK → Prop) : Prop :=
 ∀ (pins : List (Addr × Obj)) (s : Shared) (σ : St) (H : Hp) (x : V) (xs : List V) (v : Value) (us : List Value) (Q : VK), Inv X pins σ H s → AC x v → Az xs us → r x xs H Q →
   wpAny (model X.prog X.w) X.A (call (.builtin id) (v :: us)) (EP X pins σ Q) X.xe s
theorem Az.one {x : V} {us : List Value} (h : Az [x] us) : ∃ u, us = [u] ∧ AC x u := by
 cases h with
 | cons r t => cases t; exact ⟨_, rfl, r⟩
theorem Az.two : ∀ {x y : V} {us : List Value}, Az [x, y] us → ∃ u v, us = [u, v] ∧ AC x u ∧ AC y v
 | _, _, _, .cons r (.cons q .nil) => ⟨_, _, rfl, r, q⟩
theorem Az.zero : ∀ {us : List Value}, Az [] us → us = []
 | _, .nil => rfl
theorem Az.dropLast {xs : List V} {us : List Value} (h : Az xs us) : Az xs.dropLast us.dropLast := by
 induction h with
 | nil => exact .nil
 | cons r t ih =>
   cases t with
   | nil => exact .nil
   | cons q t' => exact .cons r ih
theorem Az.rep {xs : List V} {us : List Value} (h : Az xs us) : ∀ k : Nat, Az (Rg k xs).flatten (Rg k us).flatten
 | 0 => .nil
 | k + 1 => by
   rw [Rz, Rz, RA, RA]
   exact Az.append h (Az.rep h k)
theorem IZ {α : Type} (l : List α) : l.eraseIdx (l.length - 1) = l.dropLast := by
 induction l with
 | nil => rfl
 | cons a r ih =>
   cases r with
   | nil => rfl
   | cons b r =>
     have e : (a :: b :: r).length - 1 = ((b :: r).length - 1) + 1 := by
      have h1 : (a :: b :: r).length = r.length + 2 := rfl
      have h2 : (b :: r).length = r.length + 1 := rfl
      lia
     rw [e, List.eraseIdx_cons_succ, ih]
     all_goals rfl
theorem Gh (its : List Value) : ∀ (k : Nat) (acc : List Value),
 List.foldl (fun x1 x2 => x1 ++ x2) acc.toArray (Rg k its.toArray) = (acc ++ (Rg k its).flatten).toArray
 | 0, acc => by simp
 | k + 1, acc => by
   have e : acc.toArray ++ its.toArray = (acc ++ its).toArray := by simp
   have e2 : (acc ++ its) ++ (Rg k its).flatten = acc ++ (Rg (k + 1) its).flatten := by
    rw [Rz, RA, RC]
   rw [← e2, ← Gh its k (acc ++ its), ← e, Rz, List.foldl_cons]
section
variable {X : Cx} {pins : List (Addr × Obj)} {σ : St} {H : Hp} {s : Shared} {l b : Addr} {xs ys zs : List V}
theorem Inv.lset {its its' : List Value} {n : Nat} {f : Array Value → Array Value} {t' : Nat} (I : Inv X pins σ H s) (hH : H l = some (.lst xs))
 (e : s.heap.get? l = some { cls := .type "list", data := .seq its.toArray n }) (hf : f its.toArray = its'.toArray) (hv : Az ys its') (hz : ys.length ≤ sizeLine) :
 Inv X pins σ (upd H l (.lst ys)) { s with heap := s.heap.update l (Obj.mapSeq f), toks := t' } := by
 have q := PySem.IsL.update e f
 rw [hf] at q
 refine I.write (x := l) (e := l) (by rw [hH]; exact trivial) (.inl rfl) (fun b' u hb hu => (Heap.get?_update_other s.heap (Obj.mapSeq f) (Ne.symm hb)).trans hu) ⟨_, q⟩ ?_
 exact ⟨hz, its', _, hv, q⟩
theorem Inv.lnew {its : List Value} {t' : Nat} (I : Inv X pins σ H s) (hv : Az ys its) (hz : ys.length ≤ sizeLine) :
 Inv X pins σ (upd H s.heap.objs.size (.lst ys)) { s with heap := s.heap.push { cls := .type "list", data := .seq its.toArray }, toks := t' } :=
 I.laid (fun _ _ q => Heap.get?_push_of_some _ q) (R3 _) ⟨hz, its, 0, hv, Heap.get?_push_size _ rfl⟩
theorem Inv.fresh (I : Inv X pins σ H s) : H s.heap.objs.size = none := I.hok.fresh (R3 _)
theorem Inv.lstM (I : Inv X pins σ H s) (hH : H l = some (.lst xs)) : xs.length ≤ sizeLine ∧ ∃ (its : List Value) (n : Nat), Az xs its ∧ xs.length = its.length ∧ s.heap.get? l = some { cls := .type "list", data := .seq its.toArray n } := by
 obtain ⟨z, its, n, r, e⟩ := I.hok l _ hH
 exact ⟨z, its, n, r, r.length, e⟩
theorem HQ {n : Nat} (h : n ≤ sizeLine) : Builtin.List.listTooLong n = false := by
 unfold Builtin.List.listTooLong
 exact decide_eq_false (by lia)
end
section
variable {X : Cx}
inductive Jf (x : V) (vs : List V) (H : Hp) (Q : VK) : Prop
 | mk (l : _) (xs : _) (y : _) (h1 : x = .ref l) (h2 : vs = [y]) (h3 : H l = some (.lst xs)) (h4 : xs.length < sizeLine) (h5 : Q .non (upd H l (.lst (xs ++ [y])))) : Jf x vs H Q
theorem Cf : MtM X "list.append" Jf := by
 intro pins s σ H x vs v us Q I rx rv h
 obtain ⟨l, xs, y, rfl, rfl, hH, hz, q⟩ := h
 cases rx
 obtain ⟨u, rfl, ru⟩ := rv.one
 obtain ⟨z, its, n, r, hl, e⟩ := I.lstM hH
 refine call_meets F.slot_list_append ⟨_, e, rfl⟩ F.entry_list_append (F.args_list_append_2 _ _) (PySem.list_append l its.toArray n u (by rw [Rx]; lia)) ⟨e, ?_⟩
 refine ⟨.non, _, I.lset (its' := its ++ [u]) hH e (by simp) (r.append (.cons ru .nil)) ?_, rfl, q⟩
 rw [Ro, RD]
 lia
inductive Jb (x : V) (vs : List V) (H : Hp) (Q : VK) : Prop
 | mk (l : _) (b : _) (xs : _) (zs : _) (h1 : x = .ref l) (h2 : vs = [.ref b]) (h3 : H l = some (.lst xs)) (h4 : H b = some (.lst zs)) (h5 : xs.length + zs.length ≤ sizeLine) (h6 : Q .non (upd H l (.lst (xs ++ zs)))) : Jb x vs H Q
theorem JY : MtM X "list.extend" Jb := by
 intro pins s σ H x vs v us Q I rx rv h
 obtain ⟨l, b, xs, zs, rfl, rfl, hH, hB, hz, q⟩ := h
 cases rx
 obtain ⟨u, rfl, ru⟩ := rv.one
 cases ru
 obtain ⟨z, its, n, r, hl, e⟩ := I.lstM hH
 obtain ⟨z2, its2, n2, r2, hl2, e2⟩ := I.lstM hB
 have hsz : its.toArray.size + its2.toArray.size ≤ sizeLine := by rw [Rx, Rx]; lia
 have hlong : ¬ (!its.toArray.isEmpty && Builtin.List.listTooLong (its.toArray.size + its2.toArray.size)) = true := by
  rw [HQ hsz, Bool.and_false]
  exact Bool.false_ne_true
 refine call_meets F.slot_list_extend ⟨_, e, rfl⟩ F.entry_list_extend (F.args_list_extend_2 _ _)
  (AutoSeq1.list_extend_list_list_0 l its.toArray n b its2.toArray n2 hlong (by rw [Rx]; lia) (by lia)) ⟨e, e2, ?_⟩
 refine ⟨.non, _, I.lset (its' := its ++ its2) hH e (by simp) (r.append r2) ?_, rfl, q⟩
 rw [Ro]
 lia
inductive Od (x : V) (vs : List V) (H : Hp) (Q : VK) : Prop
 | mk (l : _) (xs : _) (y : _) (h1 : x = .ref l) (h2 : vs = []) (h3 : H l = some (.lst xs)) (h4 : xs[xs.length - 1]? = some y) (h5 : Q y (upd H l (.lst xs.dropLast))) : Od x vs H Q
theorem Nx : MtM X "list.pop" Od := by
 intro pins s σ H x vs v us Q I rx rv h
 obtain ⟨l, xs, y, rfl, rfl, hH, hy, q⟩ := h
 cases rx
 have hus := rv.zero
 subst hus
 obtain ⟨z, its, n, r, hl, e⟩ := I.lstM hH
 obtain ⟨u, hu, ru⟩ := r.get hy
 have hy' : its.toArray[its.toArray.size - 1]? = some u := by
  show its.toArray[its.length - 1]? = some u
  rw [← RE, ← hl]
  exact hu
 refine call_meets F.slot_list_pop ⟨_, e, rfl⟩ F.entry_list_pop (F.args_list_pop_1 _) (MeetsSeq.list_pop_last l its.toArray n u hy' (by rw [Rx]; lia)) ⟨e, ?_⟩
 refine ⟨y, _, I.lset (its' := its.dropLast) hH e ?_ r.dropLast ?_, ru, q⟩
 ·show its.toArray.eraseIdxIfInBounds (its.toArray.size - 1) = its.dropLast.toArray
  rw [Rx, List.eraseIdxIfInBounds_toArray, IZ]
 ·rw [List.length_dropLast]
  lia
inductive Oe (x : V) (y : V) (H : Hp) (Q : VK) : Prop
 | mk (l : _) (b : _) (xs : _) (zs : _) (h1 : x = .ref l) (h2 : y = .ref b) (h3 : H l = some (.lst xs)) (h4 : H b = some (.lst zs)) (h5 : xs.length + zs.length ≤ sizeLine) (h6 : ∀ p, H p = none → Q (.ref p) (upd H p (.lst (xs ++ zs)))) : Oe x y H Q
theorem GK : OpR X (binaryOp .Add) Oe := by
 intro pins s σ H x y v u Q I rx ry h
 obtain ⟨l, b, xs, zs, rfl, rfl, hH, hB, hz, q⟩ := h
 cases rx
 cases ry
 obtain ⟨z, its, n, r, hl, e⟩ := I.lstM hH
 obtain ⟨z2, its2, n2, r2, hl2, e2⟩ := I.lstM hB
 refine PySem.P.add_list e e2 ?_ (by rw [Rx, Rx]; lia)
 have ea : its.toArray ++ its2.toArray = (its ++ its2).toArray := by simp
 rw [ea]
 exact ⟨.ref _, _, I.lnew (t' := s.toks) (r.append r2) (by rw [Ro]; lia), rfl, q _ I.fresh⟩
inductive Oc (x : V) (y : V) (H : Hp) (Q : VK) : Prop
 | mk (l : _) (k : _) (xs : _) (h1 : x = .ref l) (h2 : y = .int k) (h3 : H l = some (.lst xs)) (h4 : -(2 ^ 63) ≤ k) (h5 : k < 2 ^ 63) (h6 : xs.length * k.toNat ≤ sizeLine) (h7 : ∀ p, H p = none → Q (.ref p) (upd H p (.lst (Rg k.toNat xs).flatten))) : Oc x y H Q
theorem Jl {α : Type} (xs : List α) (k : Nat) : (Rg k xs).flatten.length = k * xs.length := by
 induction k with
 | zero => simp
 | succ k ih => rw [Rz, RA, Ro, ih, Nat.succ_mul, Nat.add_comm]
theorem Fa : OpR X (binaryOp .Mult) Oc := by
 intro pins s σ H x y v u Q I rx ry h
 obtain ⟨l, k, xs, rfl, rfl, hH, h1, h2, hz, q⟩ := h
 cases rx
 obtain ⟨t, rfl⟩ := ry
 obtain ⟨z, its, n, r, hl, e⟩ := I.lstM hH
 have hlen : its.toArray.size * k.toNat ≤ sizeLine := by rw [Rx, ← hl]; exact hz
 have hcap : ¬ its.toArray.size * k.toNat > (2 ^ 63 - 1) / 8 := by
  have : (sizeLine : Nat) ≤ (2 ^ 63 - 1) / 8 := by decide
  lia
 have hfit : ¬ (!Builtin.List.listFitsIndex k) = true := by
  rw [fitsIndex_both h1 h2]
  exact Bool.false_ne_true
 have hlong : ¬ Builtin.List.listTooLong (its.toArray.size * k.toNat) = true := by
  rw [HQ hlen]
  exact Bool.false_ne_true
 have hnew : List.foldl (fun x1 x2 => x1 ++ x2) #[] (Rg (if its.toArray.isEmpty = true then 0 else k.toNat) its.toArray) = (Rg k.toNat its).flatten.toArray := by
  have f0 : ∀ m : Nat, List.foldl (fun x1 x2 => x1 ++ x2) #[] (Rg m its.toArray) = (Rg m its).flatten.toArray := fun m => by
   have := Gh its m []
   rw [List.nil_append] at this
   exact this
  rw [f0]
  cases its with
  | nil => simp
  | cons a r' => rw [if_neg (by simp)]
 refine wpAny_binaryOp_repeat_ref (T := "list") (U := "int") (by decide) ⟨_, e, rfl⟩ (fun s' => typeIs_int s' k t) noFill_list_mul F.fills_int_mul F.slot_int_rmul repeat_list F.slot_int_index.lookup
  (call_meets F.slot_int_rmul (typeIs_int s k t) F.entry_int_rmul (F.args_int_rmul_2 _ _) (int___rmul___int_list k t l its.toArray n)
   ⟨e, rfl, ⟨_, e, rfl⟩, call_meets F.slot_list_mul ⟨_, e, rfl⟩ F.entry_list_mul (F.args_list_mul_2 _ _) (AutoListH.list___mul___list_int_3 l its.toArray n k t hfit hcap hlong) ⟨e, ?_⟩⟩)
 rw [hnew]
 exact ⟨.ref _, _, I.lnew (t' := s.toks) (r.rep k.toNat) (by rw [Jl, RF]; exact hz), rfl, q _ I.fresh⟩
end
section
variable {prog : Program} {w : World} {A : Around} {E : Value → Shared → Prop} {s : Shared}
set_option maxRecDepth 100000 in
end
section
variable {X : Cx}
end
end L2
namespace Att
open PySem PySem.W PySem.Calls PyProof.Rows
theorem ints_of_wellAll {P : Params} {h : Heap} : ∀ (ns : List Int) (vs : List Value), WellAll P h vs (ns.map WData.int) → IntsAre vs ns := by
 intro ns
 induction ns with
 | nil =>
   intro vs w
   rw [List.map_nil] at w
   cases w
   exact .nil
 | cons n ns ih =>
   intro vs w
   rw [RG] at w
   cases w with
   | cons a b =>
     cases a
     exact .cons _ _ (ih _ b)
theorem script_of {l : OpenLaw} {n : Nat} (hn : l.most = some n) {P : Params} {h : Heap} {args : List WData} {vals : List Value}
 (hpre : l.row.toRowW.claim.pre args = true) (hwl : WellAll P h vals args) :
 ∃ a vs ns, vals = [Value.ref a] ∧ args = [WData.list (ns.map WData.int)] ∧ h.get? a = some { cls := .type "list", data := .seq vs.toArray } ∧ IntsAre vs ns ∧ ns.length ≤ n := by
 have hsh : WShape.hasAll [] args [.list .int] = true := (pre_splitW hpre).1
 have hc : l.pre.holds [] { args := args } = true := (pre_splitW hpre).2
 obtain ⟨d, r, rfl, h1, h2⟩ := hasAllW_cons hsh
 obtain rfl := hasAllW_nil h2
 obtain ⟨xs, rfl, h3⟩ := hasW_list h1
 obtain ⟨ns, rfl⟩ := items_int h3
 have hlen : ns.length ≤ n := by
  unfold OpenLaw.pre at hc
  have h4 : (WTm.not (.lt (.lit (.int (n : Int))) (.len (.arg 0)))).holds [] { args := [.list (ns.map .int)] } = true := by
   have h4 := (holds_andW hc).1
   rw [hn] at h4
   exact h4
  have h5 := condW_of h4 (w_not (w_lt w_lit (w_len_list (w_arg rfl))))
  rw [Rp] at h5
  refine Nat.le_of_not_lt fun q => ?_
  have q' : (n : Int) < ((ns.length : Nat) : Int) := by lia
  first
   | (rw [decide_eq_true q'] at h5; exact absurd h5 (by decide))
   | (simp at h5; lia)
 cases hwl with
 | cons w1 w2 =>
   cases w2
   cases w1 with
   | list ho hall => exact ⟨_, _, ns, rfl, rfl, ho, ints_of_wellAll ns _ hall, hlen⟩
theorem post_true (l : OpenLaw) (args : List WData) : l.row.toRowW.claim.post args (.bool true) args = true :=
 postW_of (r := l.row.toRowW) (X := (true == true))
  (show WShape.has [] (.bool true) .bool = true by first | rfl | decide | simp [WShape.has, WShape.arms, WShape.armsAll])
  (show (WTm.eq .res (.lit (.bool true))).value [] { args := args, res := some (.bool true), after := args } = some (.bool (true == true)) from w_eq_bool (w_res rfl) w_lit) rfl
theorem attach_call {l : OpenLaw} {n : Nat} {q : Program} {loose : List Str} {XP : (Str → Option Value) → Heap → Prop} {YP : World → Heap → Prop} {d : DefRec}
 (hn : l.most = some n) (hdf : d.params.defaults = [])
 (call : ∀ (w : World) (s₀ s₁ : Shared) (mg mb : Str → Option Value) (fa : Addr) (o : Obj) (pm cd doc : Value) (a : Addr) (vs : List Value) (ns : List Int),
  Ground q loose [] XP w s₀ mg mb s₁.heap → YP w s₁.heap →
  s₁.heap.get? fa = some o → o.data = .func (docDef d.name d.params d.body d.scope pm cd doc) → s₁.heap.CodeRec cd d.name → mg d.name = some (.ref fa) →
  s₁.heap.get? a = some { cls := .type "list", data := .seq vs.toArray } → IntsAre vs ns → ns.length ≤ n → s₁.gens = #[] →
  codeAny (model l.prog w) callerA (.call (.ref fa) ⟨[.ref a], []⟩) (fun r s' => r = .ok (.ret (.bool true)) ∧ OldK s₁.heap s'.heap ∧ s'.os = s₁.os ∧ AllBare s'.gens) s₁) :
 WalkO q loose XP YP l.row.toRowW d [] (fun f vs => PySem.call f vs) := by
 intro w s₀ s₁ mg mb G Y fa o pm cd doc dV kV ho hd hcd hD hmg hg args vals as hpre hlay hrd hwl hlo
 obtain rfl : dV = .none := Dflts.none hD hdf
 obtain rfl : kV = .none := Dflts.noKw hD
 obtain ⟨a, vs, ns, rfl, rfl, hobj, hints, hlen⟩ := script_of hn hpre hwl
 refine enter_call (codeAny_mono (call w s₀ s₁ mg mb fa o pm cd doc a vs ns G Y ho (fd_plain hd) hcd hmg hobj hints hlen hg) fun r s' hq => ?_)
 obtain ⟨rfl, h2, h3, h4⟩ := hq
 exact ⟨.inl ⟨.bool true, .bool true, [], rfl, fun _ => rfl, .bool true, post_true l _, fun _ => ⟨List.Pairwise.nil, fun _ hm => (nomatch hm)⟩⟩, h2, h3, h4⟩
section
variable {prog : Program} {w : World} {A : Around} {E : Value → Shared → Prop} {s : Shared} {K : Frag}
end
end Att
namespace L2
open PySem PySem.Spec PyProof.Rows
theorem JI {vs : List Value} {ns : List Int} (h : IntsAre vs ns) : Az (ns.map V.int) vs := by
 induction h with
 | nil => exact .nil
 | cons n t h ih => exact .cons ⟨t, rfl⟩ ih
end L2
namespace L2
open PySem PySem.Spec PyProof.Rows
end L2
namespace L2
open PySem PySem.Spec PyProof.Rows
def An (s : Stmt) : Arguments := match s with
 | .FunctionDef _ a _ _ _ _ _ _ _ _ => a
 | _ => { posonlyargs := [], args := [], vararg := none, kwonlyargs := [], kw_defaults := [], kwarg := none, defaults := [] }
def Al (s : Stmt) : List Stmt := match s with
 | .FunctionDef _ _ b _ _ _ _ _ _ _ => b
 | _ => []
def Ae (s : Stmt) : Scope := match s with
 | .FunctionDef _ _ _ _ _ _ sc _ _ _ => sc
 | _ => { kind := .function, names := [], isGenerator := false, isCoroutine := false }
abbrev CX0 : CXT := fun _ _ _ _ _ _ => False
abbrev E0 : XK := fun _ _ _ => False
theorem Oi {X : Cx} : J3 CX0 X E0 := fun _ _ _ _ _ _ _ h => h.elim
structure Fun (K : QO) (x qual : Str) (st : Stmt) (f : Addr) (fd : FuncData) : Prop where
 ex : ∃ (oc : Value) (od : Option Addr) (kV doc pm : Value) (an : Option Addr) (cdv ct : Value) (osl : Array (Option Value)),
  fd = Rr x qual (An st) (Al st) (Ae st) .none kV doc pm an cdv ct ∧ K.lookup f = some ⟨oc, od, .func fd, osl⟩ ∧ Rs K cdv qual = true
 kp : R8 K (.ref f) = true
section
variable {P : Program} {w : World} {K : QO} {mg : Str → Option Value} {base : Heap}
theorem Fun.ok {x qual : Str} {st : Stmt} {f : Addr} {fd : FuncData} {N ps : List Str} {k : Nat} {sp : Sp} (F : Fun K x qual st f fd) (S : Ap N ps (Ae st)) (len : ∀ vs H Q E, sp vs H Q E → vs.length = ps.length)
 (hbody : ∀ (cdv : Value) (A : Around) (outer : List Env) (s : Shared) (H : Hp) (vs : List V) (Q : VK) (E : XK), BT k (A.deeper (envOfC qual (Ae st) s.heap.objs.size f cdv)) → sp vs H Q E →
  ∃ t, PSs (J0 CX0 P w K mg base N qual (Ae st) f cdv A outer s H E).nox (Al st) t ∧ t { nx := fun _ H' => Q .non H', rt := Q } (DI N vs) H) : AE P w K mg base CX0 (k + 1) f fd ps sp := by
 obtain ⟨oc, od, kV, doc, pm, an, cdv, ct, osl, rfl, lk, hcd⟩ := F.ex
 refine MP lk hcd S len fun A outer s H vs Q E hr hsp => ?_
 obtain ⟨t, h, q⟩ := hbody cdv A outer s H vs Q E hr hsp
 exact ⟨t, h.nox, q⟩
theorem Fun.binds {x qual : Str} {st : Stmt} {f : Addr} {fd : FuncData} {ps : List Str} (F : Fun K x qual st f fd)
 (h : ∀ (kV doc pm : Value) (an : Option Addr) (cdv ct : Value) (us : List Value), us.length = ps.length → bindArgs (Rr x qual (An st) (Al st) (Ae st) .none kV doc pm an cdv ct) ⟨us, []⟩ = pure (ps.zip us)) : C2 K fd ps [] := by
 obtain ⟨oc, od, kV, doc, pm, an, cdv, ct, osl, rfl, lk, hcd⟩ := F.ex
 exact .all (h kV doc pm an cdv ct)
theorem Aw {x qual : Str} {st : Stmt} {f : Addr} {oc : Value} {od an : Option Addr} {osl : Array (Option Value)} {kV doc pm cdv ct : Value} (l : K.lookup f = some ⟨oc, od, .func (Rr x qual (An st) (Al st) (Ae st) .none kV doc pm an cdv ct), osl⟩)
 (c : Rs K cdv qual = true) (k : R8 K (.ref f) = true) : Fun K x qual st f (Rr x qual (An st) (Al st) (Ae st) .none kV doc pm an cdv ct) := ⟨⟨oc, od, kV, doc, pm, an, cdv, ct, osl, rfl, l, c⟩, k⟩
end
theorem AU {n : Nat} (h : n ≤ 1000) : n < sizeLine := RH h (by decide)
section
variable {X : Cx}
theorem pv (i : Nat) {x : Str} {pos : Pos} (hN : X.N[i]? = some x := by rfl) (hv : Vis X.env.scope x := by first | exact Or.inl rfl | exact Or.inr (Or.inl rfl) | exact Or.inr (Or.inr rfl)) (hd : (x == ("__debug__" : Str)) = false := by decide)
 (hcd : (x == ("__classdict__" : Str)) = false := by decide) : PE X (.Name x pos) (Kq i) := Ni hN hv hd hcd
end
theorem Ia {A B : Prop} (h : B) : if false = true then A else B := by
 rw [if_neg Bool.false_ne_true]
 exact h
theorem OM {A B : Prop} (h : A) : if true = true then A else B := by
 rw [if_pos rfl]
 exact h
theorem Fn {c A B : Prop} [Decidable c] (h1 : c → A) (h2 : ¬ c → B) : if c then A else B := by
 by_cases h : c
 ·rw [if_pos h]
  exact h1 h
 ·rw [if_neg h]
  exact h2 h
def Af (H H' : Hp) : Prop := ∀ b o, H b = some o → H' b = some o
theorem Af.refl (H : Hp) : Af H H := fun _ _ h => h
theorem Af.trans {H H1 H2 : Hp} (a : Af H H1) (b : Af H1 H2) : Af H H2 := fun c o h => b c o (a c o h)
theorem Af.free {H H' : Hp} (e : Af H H') {l : Addr} (h : H' l = Option.none) : H l = Option.none := by
 cases q : H l with
 | none => rfl
 | some o =>
   rw [e l o q] at h
   cases h
theorem Af.seq {K : QO} {H H' : Hp} {a : Addr} {xs : List V} (e : Af H H') (h : SqL K H a xs) : SqL K H' a xs := by
 rcases h with (h | ⟨o, h⟩) | h
 ·exact .inl (.inl (e _ _ h))
 ·exact .inl (.inr ⟨o, e _ _ h⟩)
 ·exact .inr h
end L2
namespace L2
open PySem PySem.Spec PyProof.Rows
section
variable {κ : Type} [DecidableEq κ]
end
theorem On {P : Program} {w : World} {k : Key} {u : Value} (r : AC (kV k) u) : (Cq P w).is k u = true := by
 cases k with
 | inl i => obtain ⟨t, e⟩ := (show ∃ t, u = Value.int i t from r); subst e; exact HX P w i t
 | inr x => obtain ⟨t, e⟩ := (show ∃ t, u = Value.str x t from r); subst e; exact HW P w x t
theorem Ge {P : Program} {w : World} : ∀ {ks : List Key} {us : List Value}, Az (ks.map kV) us → ItemsAre (Cq P w) ks us
 | [], _, r => by rw [List.map_nil] at r; cases r; exact .nil
 | k :: ks, _, r => by
   rw [RG] at r
   cases r with
   | cons h t => exact .cons (On h) (Ge t)
section
variable {P : Program} {w : World} {H : Hp} {h : Heap} {a : Addr}
end
section
variable {X : Cx} {pins : List (Addr × Obj)} {σ : St} {H : Hp} {s : Shared} {a : Addr} {y v : V} {u r : Value} {o : Option V} {A : Around} {E : Value → Shared → Prop}
theorem Inv.big (I : Inv X pins σ H s) : sysModules < s.heap.objs.size := by
 have h : mainGlobals < s.heap.objs.size := (I.mod.glob.keeps I.bk).lt
 exact RI (by decide) h
end
section
variable {X : Cx} {pins : List (Addr × Obj)} {σ : St} {H : Hp} {s : Shared} {a : Addr} {kvs : List (Key × V)} {k : Key} {u : Value} {A : Around} {E : Value → Shared → Prop}
end
section
variable {X : Cx} {o i e value : Expr} {pos pos' tpos : Pos} {td ty tv : TE}
end
theorem Lp {P : Program} {w : World} {H : Hp} (h : Heap) (hb : sysModules < h.objs.size) : Bj P w H (h.push { cls := .type "dict", data := .dict #[] }) h.objs.size (.dT []) :=
 ⟨R5 _, beq_eq_false_iff_ne.mpr (Ne.symm (QK hb)), [], .nil, _, #[], 0, Heap.get?_push_size _ rfl, ⟨rfl, rfl, rfl⟩, rfl, rfl, List.nodup_nil⟩
def N0 : TE := fun _ H Q => ∀ p, H p = none → Q (.ref p) (upd H p (.dT []))
section
variable {X : Cx} {pos : Pos}
theorem KN : PE X (.Dict [] [] pos) N0 := fun pins s σ H Q I h =>
 wpAny_Dict_empty ⟨.ref s.heap.objs.size, _, I.laid (a := s.heap.objs.size) (o := .dT []) (t' := s.toks) (fun _ _ q => Heap.get?_push_of_some _ q) (R3 _) (Lp s.heap I.big), rfl, h _ (I.hok.fresh (R3 _))⟩
end
structure M1 (X : Cx) (o : Expr) (m : Str) (apos : Pos) (e : Expr) (cpos : Pos) : Prop where
 base : attributeBase o m X.env (eval o X.env) = eval o X.env
 few : ((backTo cpos (starEach [e] X.env)).all (fun x => !x.1) && (backToKw cpos (keywordEach [] X.env)).all (fun x => x.1.isSome)
  && decide (([e] : List Expr).length + ([] : List Keyword).length + (if ([] : List Keyword).isEmpty then 0 else 1) < 30)) = true
 line : (apos.endLine == cpos.line) = true
 trees : backTo cpos (starEach [e] X.env) = [(false, eval e X.env)]
structure M2 (X : Cx) (o : Expr) (m : Str) (apos : Pos) (e f : Expr) (cpos : Pos) : Prop where
 base : attributeBase o m X.env (eval o X.env) = eval o X.env
 few : ((backTo cpos (starEach [e, f] X.env)).all (fun x => !x.1) && (backToKw cpos (keywordEach [] X.env)).all (fun x => x.1.isSome)
  && decide (([e, f] : List Expr).length + ([] : List Keyword).length + (if ([] : List Keyword).isEmpty then 0 else 1) < 30)) = true
 line : (apos.endLine == cpos.line) = true
 trees : backTo cpos (starEach [e, f] X.env) = [(false, eval e X.env), (false, eval f X.env)]
section
variable {X : Cx} {pins : List (Addr × Obj)} {σ : St} {H : Hp} {s : Shared} {a : Addr} {y d : V} {u r : Value} {o : Option V} {A : Around} {E : Value → Shared → Prop}
end
section
variable {X : Cx} {o e f : Expr} {apos cpos : Pos} {td ty tx : TE}
end
section
variable {X : Cx} {pins : List (Addr × Obj)} {σ : St} {H : Hp} {s : Shared} {a : Addr} {kvs : List (Key × V)} {A : Around} {E : Value → Shared → Prop}
end
section
variable {X : Cx} {pins : List (Addr × Obj)} {σ : St} {H : Hp} {s : Shared} {a : Addr} {y : V} {u : Value} {A : Around} {E : Value → Shared → Prop}
end
end L2
namespace Nm
def msr (a b : Int) : Int := if b < 0 then -(RJ a b : Int) else (RJ a b : Int)
theorem gcd_pos {a b : Int} (hb : b ≠ 0) : 0 < RJ a b := RK fun h => hb (Int.gcd_eq_zero_iff.mp h).2
theorem msr_ne {a b : Int} (hb : b ≠ 0) : msr a b ≠ 0 := by
 have := gcd_pos (a := a) hb
 unfold msr; split <;> lia
theorem fdiv_neg_dvd {a g : Int} (h : g ∣ a) : a.fdiv (-g) = -(a / g) := by
 obtain ⟨k, rfl⟩ := h
 by_cases hg : g = 0
 ·subst hg; simp
 ·rw [Int.mul_ediv_cancel_left _ hg, show g * k = -g * -k by rw [Int.neg_mul_neg], RL _ (by lia)]
theorem fdiv_dvd {a g : Int} (h : g ∣ a) : a.fdiv g = a / g := by
 obtain ⟨k, rfl⟩ := h
 by_cases hg : g = 0
 ·subst hg; simp
 ·rw [Int.mul_ediv_cancel_left _ hg, RL _ hg]
theorem top_msr {a b : Int} (hb : b ≠ 0) : a.fdiv (msr a b) = (RM a b).num := by
 rw [Rat.num_divInt, Int.gcd_comm b a]
 have d : (RJ a b : Int) ∣ a := RN ..
 unfold msr
 split
 ·rename_i h
  rw [fdiv_neg_dvd d, Int.sign_eq_neg_one_of_neg h, Int.neg_mul, RO, Int.neg_ediv_of_dvd d]
 ·rw [fdiv_dvd d, Int.sign_eq_one_of_pos (by lia), RO]
theorem bottom_msr {a b : Int} (hb : b ≠ 0) : b.fdiv (msr a b) = (RM a b).den := by
 rw [Rat.den_divInt, if_neg hb, Int.gcd_comm b a]
 have d : (RJ a b : Int) ∣ b := RP ..
 rw [Int.natCast_ediv]
 unfold msr
 split
 ·rename_i h
  rw [fdiv_neg_dvd d, ← Int.neg_ediv_of_dvd d, Int.ofNat_natAbs_of_nonpos (by lia)]
 ·rw [fdiv_dvd d, Int.natAbs_of_nonneg (by lia)]
theorem gcd_turn (x y : Int) : RJ y (x % y) = RJ x y := by
 have e : x % y + y * (x / y) = x := Int.emod_add_mul_ediv x y
 have h : RJ (x % y + y * (x / y)) y = RJ (x % y) y := Int.gcd_add_mul_left_left ..
 rw [e] at h
 rw [h, Int.gcd_comm]
theorem abs_if (i : Int) : (if i < 0 then -i else i) = (i.natAbs : Int) := by split <;> lia
theorem num_mul (q : Rat) : ((q.num : Int) : Rat) = q * ((q.den : Int) : Rat) := by
 have hd : ((q.den : Nat) : Int) ≠ 0 := by have := q.den_pos; lia
 have h1 : q = (q.num : Rat) / ((q.den : Int) : Rat) := by
  have := Rat.num_divInt_den q
  rw [RQ] at this
  exact this.symm
 have h0 : (((q.den : Int)) : Rat) ≠ 0 := fun z => hd (by exact_mod_cast z)
 conv => rhs; lhs; rw [h1]
 rw [RS h0]
theorem den_ne (q : Rat) : ((q.den : Nat) : Int) ≠ 0 := by have := q.den_pos; lia
theorem cast_ne {a : Int} (h : a ≠ 0) : (a : Rat) ≠ 0 := fun z => h (by exact_mod_cast z)
theorem div_eq {t b : Int} {q : Rat} (hb : b ≠ 0) (h : (t : Rat) = q * (b : Rat)) : RM t b = q := by
 rw [RQ, h, Rat.mul_div_cancel (cast_ne hb)]
theorem plus_eq (p q : Rat) : RM (p.num * q.den + q.num * p.den) (p.den * q.den) = p + q :=
 div_eq (RT (den_ne p) (den_ne q)) (by rw [Rat.intCast_add, RU, RU, RU, num_mul p, num_mul q]; grind)
theorem minus_eq (p q : Rat) : RM (p.num * q.den - q.num * p.den) (p.den * q.den) = p - q :=
 div_eq (RT (den_ne p) (den_ne q)) (by rw [RV, RU, RU, RU, num_mul p, num_mul q]; grind)
theorem times_eq (p q : Rat) : RM (p.num * q.num) (p.den * q.den) = p * q :=
 div_eq (RT (den_ne p) (den_ne q)) (by rw [RU, RU, num_mul p, num_mul q]; grind)
theorem pow_add (x : Rat) (m : Nat) : ∀ n : Nat, x ^ (m + n) = x ^ m * x ^ n
 | 0 => by rw [RW, RX]; grind
 | n + 1 => by rw [← Nat.add_assoc, RY, RY, pow_add x m n]; grind
end Nm
namespace Cv
def ev : List Rat → Rat → Rat
 | [], _ => 0
 | q :: r, x => q + x * ev r x
def strip : List Rat → List Rat
 | [] => []
 | q :: r => if strip r = [] ∧ q = 0 then [] else q :: strip r
theorem ev_strip (x : Rat) : ∀ qs, ev (strip qs) x = ev qs x
 | [] => rfl
 | q :: r => by
   have ih := ev_strip x r
   unfold strip
   split
   ·rename_i h
    rw [h.1] at ih
    show (0 : Rat) = q + x * ev r x
    rw [← ih, h.2]; show (0 : Rat) = 0 + x * 0; grind
   ·show q + x * ev (strip r) x = _
    rw [ih]; rfl
theorem strip_length : ∀ qs, (strip qs).length ≤ qs.length
 | [] => R3 _
 | q :: r => by
   have ih := strip_length r
   unfold strip
   split
   ·exact R5 _
   ·exact Nat.succ_le_succ ih
theorem strip_last : ∀ qs, strip qs ≠ [] → (strip qs)[(strip qs).length - 1]? ≠ some 0
 | [], h => absurd rfl h
 | q :: r, h => by
   have ih := strip_last r
   unfold strip at h ⊢
   split at h
   ·exact absurd rfl h
   ·rename_i hc
    rw [if_neg hc]
    by_cases e : strip r = []
    ·rw [e]
     intro z
     have z' : q = 0 := by simpa using z
     exact hc ⟨e, z'⟩
    ·have hl : 0 < (strip r).length := RZ.mpr e
     rw [S1, show (strip r).length + 1 - 1 = ((strip r).length - 1) + 1 by lia, S2]
     exact ih e
theorem strip_mem : ∀ qs q, q ∈ strip qs → q ∈ qs
 | [], _, h => h
 | p :: r, q, h => by
   unfold strip at h
   split at h
   ·cases h
   ·rcases QU.mp h with e | e
    ·exact e ▸ QS
    ·exact QT _ (strip_mem r q e)
theorem take_strip : ∀ (qs : List Rat) (w : Nat), (∀ j q, w ≤ j → qs[j]? = some q → q = 0) → (w = 0 ∨ ∃ q, qs[w - 1]? = some q ∧ q ≠ 0) → qs.take w = strip qs
 | [], w, _, _ => by simp [strip]
 | p :: r, 0, h, _ => by
   have ih := take_strip r 0 (fun j q _ e => h (j + 1) q (by lia) (by simpa using e)) (.inl rfl)
   have hp : p = 0 := h 0 p (R3 _) rfl
   unfold strip
   rw [← ih, if_pos ⟨rfl, hp⟩]; rfl
 | p :: r, w + 1, h, h2 => by
   have hz : ∀ j q, w ≤ j → r[j]? = some q → q = 0 := fun j q hj e => h (j + 1) q (by lia) (by simpa using e)
   by_cases hw : w = 0
   ·subst hw
    have ih := take_strip r 0 hz (.inl rfl)
    rcases h2 with z | ⟨q, e, hq⟩
    ·exact absurd z (by lia)
    ·have e' : p = q := by simpa using e
     subst e'
     unfold strip
     rw [← ih, if_neg (fun z => hq z.2)]; rfl
   ·have ih := take_strip r w hz (by
     rcases h2 with z | ⟨q, e, hq⟩
     ·exact absurd z (by lia)
     ·refine .inr ⟨q, ?_, hq⟩
      rw [show w + 1 - 1 = (w - 1) + 1 by lia, S2] at e
      exact e)
    have hne : strip r ≠ [] := by
     rw [← ih]
     rcases h2 with z | ⟨q, e, hq⟩
     ·exact absurd z (by lia)
     ·rw [show w + 1 - 1 = (w - 1) + 1 by lia, S2] at e
      intro z
      have hl : 0 < (r.take w).length := by
       rw [Rh]
       have := (QX.mp e).1
       lia
      rw [z] at hl; simp at hl
    unfold strip
    rw [← ih, if_neg (fun z => hne (by rw [← ih]; exact z.1))]; rfl
def pw : List Rat → Rat → Rat → Rat
 | [], _, _ => 0
 | q :: r, x, p => q * p + pw r x (p * x)
theorem ev_scale (c x : Rat) : ∀ qs, ev (qs.map (· * c)) x = ev qs x * c
 | [] => by show (0 : Rat) = 0 * c; grind
 | q :: r => by
   show q * c + x * ev (r.map (· * c)) x = (q + x * ev r x) * c
   rw [ev_scale c x r]; grind
theorem ev_snoc (x q : Rat) : ∀ l : List Rat, ev (l ++ [q]) x = ev l x + q * x ^ l.length
 | [] => by show q + x * 0 = 0 + q * x ^ 0; rw [RX]; grind
 | p :: r => by
   show p + x * ev (r ++ [q]) x = (p + x * ev r x) + q * x ^ (r.length + 1)
   rw [ev_snoc x q r, RY]; grind
theorem strip_zeros : ∀ (qs : List Rat) (n : Nat), strip (qs ++ Rg n 0) = strip qs
 | [], 0 => rfl
 | [], n + 1 => by
   have ih := strip_zeros [] n
   show strip (0 :: Rg n 0) = []
   unfold strip
   have e : strip (Rg n 0) = [] := by simpa [strip] using ih
   rw [if_pos ⟨e, rfl⟩]
 | q :: r, n => by
   have ih := strip_zeros r n
   show strip (q :: (r ++ Rg n 0)) = strip (q :: r)
   unfold strip
   rw [ih]
theorem ev_set (x d : Rat) : ∀ (l : List Rat) (i : Nat) (v : Rat), l[i]? = some v → ev (l.set i (v + d)) x = ev l x + d * x ^ i
 | [], _, _, h => by simp at h
 | q :: r, 0, v, h => by
   have e : q = v := by simpa using h
   subst e
   show (q + d) + x * ev r x = (q + x * ev r x) + d * x ^ 0
   rw [RX]; grind
 | q :: r, i + 1, v, h => by
   show q + x * ev (r.set i (v + d)) x = (q + x * ev r x) + d * x ^ (i + 1)
   rw [ev_set x d r i v (by simpa using h), RY]; grind
theorem ev_zeros (x : Rat) : ∀ n, ev (Rg n 0) x = 0
 | 0 => rfl
 | n + 1 => by
   show (0 : Rat) + x * ev (Rg n 0) x = 0
   rw [ev_zeros x n]; grind
def evI (ts : List Int) (x : Rat) : Rat := ev (ts.map fun t : Int => (t : Rat)) x
theorem evI_set (x : Rat) (l : List Int) (i : Nat) (v d : Int) (h : l[i]? = some v) : evI (l.set i (v + d)) x = evI l x + (d : Rat) * x ^ i := by
 unfold evI
 rw [List.map_set, Rat.intCast_add]
 exact ev_set x _ _ i _ (by rw [Rl, h]; rfl)
theorem evI_zeros (x : Rat) (n : Nat) : evI (Rg n 0) x = 0 := by
 unfold evI
 rw [List.map_replicate]
 exact ev_zeros x n
theorem evI_take_succ (x : Rat) (l : List Int) (i : Nat) (v : Int) (h : l[i]? = some v) : evI (l.take (i + 1)) x = evI (l.take i) x + (v : Rat) * x ^ i := by
 have hi : i < l.length := (QX.mp h).1
 unfold evI
 rw [S3, h]
 show ev ((l.take i ++ [v]).map _) x = _
 rw [S4]
 show ev (_ ++ [(v : Rat)]) x = _
 rw [ev_snoc, Rp, Rh, Ru (by lia)]
theorem evI_cons (x : Rat) (t : Int) (l : List Int) : evI (t :: l) x = (t : Rat) + x * evI l x := rfl
def quot (c : Rat) : List Rat → List Rat
 | [] => []
 | [_] => []
 | _ :: b :: l => ev (b :: l) c :: quot c (b :: l)
theorem quot_ev (c x : Rat) : ∀ l : List Rat, ev l x = ev l c + (x - c) * ev (quot c l) x
 | [] => by show (0 : Rat) = 0 + _ * 0; grind
 | [a] => by show a + x * 0 = a + c * 0 + (x - c) * 0; grind
 | a :: b :: l => by
   have h := quot_ev c x (b :: l)
   show a + x * ev (b :: l) x = a + c * ev (b :: l) c + (x - c) * (ev (b :: l) c + x * ev (quot c (b :: l)) x)
   rw [h]; grind
theorem quot_length (c : Rat) : ∀ l : List Rat, (quot c l).length = l.length - 1
 | [] => rfl
 | [_] => rfl
 | _ :: b :: l => by
   show (quot c (b :: l)).length + 1 = _
   rw [quot_length c (b :: l)]
   simp
theorem ev_none (x : Rat) : ∀ l : List Rat, (∀ q ∈ l, q = 0) → ev l x = 0
 | [], _ => rfl
 | a :: l, h => by
   show a + x * ev l x = 0
   rw [h a QS, ev_none x l fun q hq => h q (QT _ hq)]
   grind
theorem ident : ∀ (n : Nat) (l : List Rat), l.length ≤ n → ∀ s : Nat, (∀ k : Nat, s ≤ k → ev l (k : Rat) = 0) → ∀ q ∈ l, q = 0
 | 0, l, hl, _, _ => by
   have e : l = [] := S5 (by lia)
   rw [e]
   exact fun q h => nomatch h
 | n + 1, [], _, _, _ => fun q h => nomatch h
 | n + 1, a :: t, hl, s, h => by
   have hs := h s (R3 _)
   have hq : ∀ q ∈ quot (s : Rat) (a :: t), q = 0 := ident n _ (by rw [quot_length]; simp at hl ⊢; lia) (s + 1) fun k hk => by
    have e := quot_ev (s : Rat) (k : Rat) (a :: t)
    rw [h k (by lia), hs] at e
    have e2 : ((k : Rat) - (s : Rat)) * ev (quot (s : Rat) (a :: t)) (k : Rat) = 0 := by grind
    rcases S6.mp e2 with z | z
    ·have z2 : (k : Rat) = (s : Rat) := by grind
     have z3 : k = s := by exact_mod_cast z2
     lia
    ·exact z
   have hall : ∀ x, ev (a :: t) x = 0 := fun x => by
    rw [quot_ev (s : Rat) x (a :: t), hs, ev_none x _ hq]; grind
   have ha : a = 0 := by
    have := hall 0
    show a = 0
    have e : ev (a :: t) 0 = a + 0 * ev t 0 := rfl
    rw [e] at this
    grind
   have ht : ∀ q ∈ t, q = 0 := ident n t (by simp at hl; lia) 1 fun k hk => by
    have e := hall (k : Rat)
    have e1 : ev (a :: t) (k : Rat) = a + (k : Rat) * ev t (k : Rat) := rfl
    rw [e1, ha] at e
    have e2 : (k : Rat) * ev t (k : Rat) = 0 := by grind
    rcases S6.mp e2 with z | z
    ·have z3 : k = 0 := by exact_mod_cast z
     lia
    ·exact z
   intro q hq'
   rcases QU.mp hq' with z | z
   ·rw [z]; exact ha
   ·exact ht q z
def dif : List Rat → List Rat → List Rat
 | [], m => m.map (· * (-1))
 | a :: l, m => (a - m.headD 0) :: dif l m.tail
theorem ev_head (x : Rat) (m : List Rat) : ev m x = m.headD 0 + x * ev m.tail x := by
 cases m with
 | nil => show (0 : Rat) = 0 + x * 0; grind
 | cons b m => rfl
theorem dif_ev (x : Rat) : ∀ l m : List Rat, ev (dif l m) x = ev l x - ev m x
 | [], m => by
   show ev (m.map (· * (-1))) x = 0 - ev m x
   rw [ev_scale]; grind
 | a :: l, m => by
   show (a - m.headD 0) + x * ev (dif l m.tail) x = (a + x * ev l x) - ev m x
   rw [dif_ev x l m.tail, ev_head x m]; grind
theorem dif_none : ∀ l m : List Rat, l.length = m.length → (∀ q ∈ dif l m, q = 0) → l = m
 | [], [], _, _ => rfl
 | [], _ :: _, e, _ => nomatch e
 | _ :: _, [], e, _ => nomatch e
 | a :: l, b :: m, e, h => by
   have h1 : a - b = 0 := h _ QS
   have h2 := dif_none l m (by simpa using e) fun q hq => h q (QT _ hq)
   rw [h2, show a = b by grind]
theorem same_of (l m : List Rat) (e : l.length = m.length) (h : ∀ x, ev l x = ev m x) : l = m :=
 dif_none l m e (ident _ _ (R3 _) 0 fun k _ => by rw [dif_ev, h]; grind)
end Cv
namespace L2
open PySem PySem.Spec PyProof.Rows
theorem CY {env : Env} : ∀ (names : List (Str × NameKind)) (acc : List (Str × Addr)), (∀ x ∈ names, x.2 = .free → ∃ c, env.cells.lookup x.1 = some c) →
 ∃ cl : List (Str × Addr), (forIn (m := Sem) names acc fun x r => do
  if x.2 == .free then pure (ForInStep.yield ((x.1, ← cellOf env x.1) :: r)) else pure (ForInStep.yield r)) = pure cl ∧
  (∀ p ∈ cl, p ∈ acc ∨ env.cells.lookup p.1 = some p.2) ∧ (∀ p ∈ acc, p ∈ cl) ∧ ∀ x ∈ names, x.2 = .free → ∃ c, (x.1, c) ∈ cl
 | [], acc, _ => ⟨acc, rfl, fun _ h => .inl h, fun _ h => h, fun _ h => nomatch h⟩
 | x :: r, acc, h => by
   by_cases hk : x.2 = .free
   ·obtain ⟨c, hc⟩ := h x QS hk
    obtain ⟨cl, e, h1, h2, h3⟩ := CY r ((x.1, c) :: acc) fun y hy => h y (QT _ hy)
    refine ⟨cl, ?_, fun p hp => ?_, fun p hp => h2 p (QT _ hp), fun y hy hf => ?_⟩
    ·rw [S7]
     have z : (x.2 == NameKind.free) = true := by rw [hk]; rfl
     have cell : cellOf env x.1 = pure c := by unfold cellOf; rw [hc]
     simp only [z, if_true, cell]
     exact e
    ·rcases h1 p hp with q | q
     ·rcases QU.mp q with rfl | q
      ·exact .inr hc
      ·exact .inl q
     ·exact .inr q
    ·rcases QU.mp hy with rfl | hy
     ·exact ⟨c, h2 _ QS⟩
     ·exact h3 y hy hf
   ·obtain ⟨cl, e, h1, h2, h3⟩ := CY r acc fun y hy => h y (QT _ hy)
    refine ⟨cl, ?_, h1, h2, fun y hy hf => ?_⟩
    ·rw [S7]
     have z : (x.2 == NameKind.free) = false := by
      cases e : x.2 <;> first | rfl | exact absurd e hk
     simp only [z, Bool.false_eq_true, if_false]
     exact e
    ·rcases QU.mp hy with rfl | hy
     ·exact absurd hf hk
     ·exact h3 y hy hf
theorem Dy {x : Str} {c : Addr} : ∀ {cl : List (Str × Addr)}, (x, c) ∈ cl → ∃ c', cl.lookup x = some c'
 | [], h => nomatch h
 | (y, d) :: r, h => by
   by_cases e : x = y
   ·subst e; exact ⟨d, by simp⟩
   ·rcases QU.mp h with q | q
    ·cases q; exact absurd rfl e
    ·obtain ⟨c', q'⟩ := Dy q
     refine ⟨c', ?_⟩
     have : (x == y) = false := by simpa using e
     rw [S8, this]
     exact q'
theorem Dz {scope : Scope} {env : Env} (h : ∀ x ∈ scope.names, x.2 = .free → ∃ c, env.cells.lookup x.1 = some c) :
 ∃ cl : List (Str × Addr), closureFor scope env = pure cl ∧ (∀ x c, cl.lookup x = some c → env.cells.lookup x = some c) ∧ ∀ x ∈ scope.names, x.2 = .free → ∃ c, cl.lookup x.1 = some c := by
 obtain ⟨cl, e, h1, _, h3⟩ := CY scope.names [] h
 refine ⟨cl, ?_, fun x c q => ?_, fun x hx hf => ?_⟩
 ·unfold closureFor
  simp only [bind_pure]
  exact e
 ·rcases h1 _ (PySem.mem_of_lookup q) with z | z
  ·exact nomatch z
  ·exact z
 ·obtain ⟨c, hc⟩ := h3 x hx hf
  exact Dy hc
theorem C6 {env : Env} : ∀ {names : List (Str × NameKind)} {x : Str}, names.lookup x = some .free →
 (names.map fun (n, k) => if (k == NameKind.free && env.scope.kind == .function && env.kindOf n == some .cell) then (n, NameKind.cell) else (n, k)).lookup x = some .cell ∨
 (names.map fun (n, k) => if (k == NameKind.free && env.scope.kind == .function && env.kindOf n == some .cell) then (n, NameKind.cell) else (n, k)).lookup x = some .free
 | [], _, h => by simp at h
 | (n, k) :: r, x, h => by
   have ih := @C6 env r x
   show S9 x ((if (k == NameKind.free && env.scope.kind == .function && env.kindOf n == some .cell) = true then (n, NameKind.cell) else (n, k)) :: _) = _ ∨ S9 x ((if (k == NameKind.free && env.scope.kind == .function && env.kindOf n == some .cell) = true then (n, NameKind.cell) else (n, k)) :: _) = _
   cases hx : x == n with
   | true =>
     simp only [S8, hx] at h
     cases h
     by_cases hc : (NameKind.free == NameKind.free && env.scope.kind == .function && env.kindOf n == some .cell) = true
     ·rw [if_pos hc]; simp [S8, hx]
     ·rw [if_neg hc]; simp [S8, hx]
   | false =>
     simp only [S8, hx] at h
     by_cases hc : (k == NameKind.free && env.scope.kind == .function && env.kindOf n == some .cell) = true
     ·rw [if_pos hc]; simp only [S8, hx]; exact ih h
     ·rw [if_neg hc]; simp only [S8, hx]; exact ih h
theorem DO {env : Env} {x : Str} : ∀ {names : List (Str × NameKind)}, (∀ y ∈ names, y.2 ≠ .cell) →
 ((names.map fun (n, k) => if (k == NameKind.free && env.scope.kind == .function && env.kindOf n == some .cell) then (n, NameKind.cell) else (n, k)).lookup x = some .cell ∨
  (names.map fun (n, k) => if (k == NameKind.free && env.scope.kind == .function && env.kindOf n == some .cell) then (n, NameKind.cell) else (n, k)).lookup x = some .free) → (x, NameKind.free) ∈ names
 | [], _, h => by simp at h
 | (n, k) :: r, hc, h => by
   have ih := @DO env x r fun y hy => hc y (QT _ hy)
   have hk : k ≠ .cell := hc (n, k) QS
   change S9 x ((if (k == NameKind.free && env.scope.kind == .function && env.kindOf n == some .cell) = true then (n, NameKind.cell) else (n, k)) :: _) = _ ∨ S9 x ((if (k == NameKind.free && env.scope.kind == .function && env.kindOf n == some .cell) = true then (n, NameKind.cell) else (n, k)) :: _) = _ at h
   cases hx : x == n with
   | true =>
     have e : x = n := by simpa using hx
     subst e
     by_cases hq : (k == NameKind.free && env.scope.kind == .function && env.kindOf x == some .cell) = true
     ·have : k = .free := by
       cases k <;> first | rfl | (simp at hq)
      subst this; exact QS
     ·rw [if_neg hq] at h
      simp only [S8, hx] at h
      rcases h with h | h
      ·cases h; exact absurd rfl hk
      ·cases h; exact QS
   | false =>
     refine QT _ (ih ?_)
     by_cases hq : (k == NameKind.free && env.scope.kind == .function && env.kindOf n == some .cell) = true
     ·rw [if_pos hq] at h; simpa only [S8, hx] using h
     ·rw [if_neg hq] at h; simpa only [S8, hx] using h
def Bs (X : Cx) (N : List Str) (scope : Scope) (cl : List (Str × Addr)) (C : Addr) (s : Shared) (H : Hp) (fp : List Addr) : Cx :=
 { prog := X.prog, w := X.w, K := X.K, mg := X.mg, base := X.base, A := X.A, N := N, s₀ := s, H₀ := H, env := compEnvC scope cl C X.env, outer := X.stack, stack := X.stack, ex := fp,
   fn := fun _ => false, calm := X.calm, pn := [], xe := fun _ _ => False }
def cS (nt : Nat) (js : List Nat) (σ : St) : St := Rg nt none ++ js.map fun i => σ.getD i none
abbrev DV (ys : List Value) : Obj := { cls := .type "list", data := .seq ys.toArray ys.length }
theorem Hh {prog : Program} {w : World} {A : Around} {R : Result → Shared → Prop} {s : Shared} {elt target iter : Expr} {ifs : List Expr} {scope : Scope} {pos : Pos} {it acc : Value} {env : Env} (I : Nat → Shared → Prop)
 (turn : ∀ n s, I n s → wpAny (model prog w) A (pyNext it) (fun r s₁ => match r with
  | none => R (.ok .next) s₁
  | some v => wpAny (model prog w) A (letOwnedTupleGo target it v) (fun _ s₁' => wpAny (model prog w) A (assign target env v) (fun _ s₂ =>
   wpAny (model prog w) A (forIn ifs true fun c r => if r = true then do let ok ← isTrue c env (eval c env); pure (ForInStep.yield ok) else pure (ForInStep.yield r)) (fun ok s₃ =>
    if ok = true then wpAny (model prog w) A (eval elt env) (fun x s₄ =>
     wpAny (model prog w) A (call (.builtin "list.append") [acc, x]) (fun _ s₅ => ∃ m, m < n ∧ I m s₅) (fun _ _ => False) s₄) (fun _ _ => False) s₃
    else ∃ m, m < n ∧ I m s₃) (fun _ _ => False) s₂) (fun _ _ => False) s₁') (fun _ _ => False) s₁) (fun _ _ => False) s)
 (n : Nat) (h : I n s) :
 codeAny (model prog w) A (.compLoop (.ListComp elt [⟨target, iter, ifs, 0⟩] scope pos) 0 it acc env) R s := by
 refine codeAny_loop rfl I (fun n s hI => ?_) n h
 show wpAny _ A ((compTurn (.ListComp elt [⟨target, iter, ifs, 0⟩] scope pos) 0 it acc env).onRaise (fun x => do noteFrame x env; theTreesLotGoes x)) _ _ s
 refine wpAny_noted ?_
 rw [compTurn_list]
 refine wpAny_bind (wpAny_standAt (wpAny_bind (wpAny_mono (turn n s hI) (fun r s₁ h₁ => ?_) fun _ _ h' => h'.elim)))
 cases r with
 | none => exact wpAny_pure h₁
 | some v =>
   refine wpAny_bind (wpAny_mono h₁ (fun _ s₁' h₁' => ?_) fun _ _ h' => h'.elim)
   refine wpAny_bind (wpAny_mono h₁' (fun _ s₂ h₂ => wpAny_bind (wpAny_mono h₂ (fun ok s₃ h₃ => ?_) fun _ _ h' => h'.elim)) fun _ _ h' => h'.elim)
   cases ok with
   | false => exact wpAny_pure ⟨rfl, h₃⟩
   | true =>
     exact wpAny_bind (wpAny_bind (wpAny_mono h₃ (fun x s₄ h₄ => wpAny_bind (wpAny_mono h₄ (fun _ s₅ h₅ => wpAny_pure (wpAny_pure ⟨rfl, h₅⟩)) fun _ _ h' => h'.elim)) fun _ _ h' => h'.elim))
def PTs (X : Cx) (ifs : List Expr) (t : TT) : Prop :=
 ∀ (pins : List (Addr × Obj)) (s : Shared) (σ : St) (H : Hp) (Q : Bool → Hp → Prop), Inv X pins σ H s → t σ H Q →
   wpAny (model X.prog X.w) X.A (forIn ifs true fun c r => if r = true then do let ok ← isTrue c X.env (eval c X.env); pure (ForInStep.yield ok) else pure (ForInStep.yield r)) (TP X pins σ Q) X.xe s
def JN : TT := fun _ H Q => Q true H
theorem BE {X : Cx} : PTs X [] JN := fun _ _ _ H _ I h => wpAny_tests_nil ⟨H, I, h⟩
theorem GE {X : Cx} {c : Expr} {t : TT} (h : PT X c t) : PTs X [c] t := fun pins s σ H Q I q => wpAny_tests_one (h pins s σ H Q I q)
structure LcW (J : It) (n nt : Nat) (js : List Nat) (σ : St) (g : TG) (tc : TT) (te : TE) (Fin : List V → Hp → Prop) (W : Nat → List V → Hp → Prop) : Prop where
 go : ∀ i zs H, i < n → W i zs H → J.go i H ∧ zs.length < sizeLine
 step : ∀ i zs H x H', i < n → W i zs H → J.yld i H x H' → g x (cS nt js σ) H' fun σ2 H2 => tc σ2 H2 fun b H3 => if b = true then te σ2 H3 fun y H4 => W (i + 1) (zs ++ [y]) H4 else W (i + 1) zs H3
 stop : ∀ zs H, W n zs H → J.stop n H ∧ zs.length ≤ sizeLine ∧ Fin zs H
@[irreducible] def tLC (wi : TI) (nt : Nat) (js : List Nat) (g : TG) (tc : TT) (te : TE) : TE := fun σ H Q => wi σ H fun J H1 =>
 ∃ (n : Nat) (W : Nat → List V → Hp → Prop), W 0 [] H1 ∧ LcW J n nt js σ g tc te (fun zs H' => ∀ p, H' p = none → Q (.ref p) (upd H' p (.lst zs))) W
theorem C7 {wi : TI} {nt : Nat} {js : List Nat} {g : TG} {tc : TT} {te : TE} {σ : St} {H : Hp} {Q : VK}
 (h : wi σ H fun J H1 => ∃ (n : Nat) (W : Nat → List V → Hp → Prop), W 0 [] H1 ∧ LcW J n nt js σ g tc te (fun zs H' => ∀ p, H' p = none → Q (.ref p) (upd H' p (.lst zs))) W) : tLC wi nt js g tc te σ H Q := by
 unfold tLC; exact h
theorem MO {wi : TI} {nt : Nat} {js : List Nat} {g : TG} {tc : TT} {te : TE} {σ : St} {H : Hp} {Q : VK} (h : tLC wi nt js g tc te σ H Q) :
 wi σ H fun J H1 => ∃ (n : Nat) (W : Nat → List V → Hp → Prop), W 0 [] H1 ∧ LcW J n nt js σ g tc te (fun zs H' => ∀ p, H' p = none → Q (.ref p) (upd H' p (.lst zs))) W := by
 unfold tLC at h; exact h
structure AZ (X : Cx) (N : List Str) (nt : Nat) (js : List Nat) (scope : Scope) : Prop where
 kind : scope.kind = .function
 nocell : ∀ y ∈ scope.names, y.2 ≠ .cell
 names : ∀ y ∈ scope.names, y.2 = .local → scope.names.lookup y.1 = some .local
 free : ∀ y ∈ scope.names, y.2 = .free → X.env.kindOf y.1 = some .cell ∨ X.env.kindOf y.1 = some .free
 len : N.length = nt + js.length
 outer : ∀ j i, js[j]? = some i → ∃ x, N[nt + j]? = some x ∧ X.N[i]? = some x ∧ scope.names.lookup x = some .free
def JD (NX : List Str) (sc : Scope) (N : List Str) (nt : Nat) (js : List Nat) (scope : Scope) : Bool :=
 decide (scope.kind = .function) && scope.names.all (fun y => decide (y.2 ≠ .cell)) && scope.names.all (fun y => decide (y.2 ≠ .local) || decide (scope.names.lookup y.1 = some .local)) &&
 scope.names.all (fun y => decide (y.2 ≠ .free) || (decide (sc.names.lookup y.1 = some .cell) || decide (sc.names.lookup y.1 = some .free))) && decide (N.length = nt + js.length) &&
 (QL js.length).all fun j => match js[j]?, N[nt + j]? with
  | some i, some x => decide (NX[i]? = some x) && decide (scope.names.lookup x = some .free)
  | _, _ => false
theorem AZ.look {X : Cx} {NX N : List Str} {sc scope : Scope} {nt : Nat} {js : List Nat} (hN : X.N = NX) (hs : X.env.scope = sc) (h : JD NX sc N nt js scope = true) : AZ X N nt js scope := by
 unfold JD at h
 simp only [Bool.and_eq_true, Sa, Bool.or_eq_true, decide_eq_true_eq] at h
 obtain ⟨⟨⟨⟨⟨h1, h2⟩, h3⟩, h4⟩, h5⟩, h6⟩ := h
 refine ⟨h1, h2, fun y hy hl => (h3 y hy).resolve_left fun z => z hl, fun y hy hf => ?_, h5, fun j i e => ?_⟩
 ·have q := (h4 y hy).resolve_left fun z => z hf
  rw [← hs] at q
  exact q
 ·have hj : j < js.length := (QX.mp e).1
  have q := h6 j (QN.mpr hj)
  rw [e] at q
  cases en : N[nt + j]? with
  | none => rw [en] at q; cases q
  | some x =>
    rw [en] at q
    simp only [Bool.and_eq_true, decide_eq_true_eq] at q
    exact ⟨x, rfl, by rw [hN]; exact q.1, q.2⟩
section
variable {X : Cx} {N : List Str} {nt : Nat} {js : List Nat} {scope : Scope} {cl : List (Str × Addr)}
theorem HOk.track {P : Program} {w : World} {H : Hp} {h : Heap} {a : Addr} {o : HO} (x : HOk P w H h) (hn : H a = none) (new : Bj P w (upd H a o) h a o) : HOk P w (upd H a o) h := fun b u e => by
 by_cases hb : b = a
 ·subst hb; rw [Aa] at e; cases e; exact new
 ·rw [Ak hb] at e
  exact (x b u e).stay (fun c v _ q => q) (fun c q => by rw [Ak (Aq q hn)]; exact q) fun c xs q => by rw [Ak (Aq q hn)]; exact q
theorem Lb {pins : List (Addr × Obj)} {σ : St} {H : Hp} {s : Shared} {C D : Addr} {h' : Heap} {tk : Nat} {fp : List Addr} {m : Str → Option Value} (I : Inv X pins σ H s) (ok : AZ X N nt js scope)
 (hcl : ∀ x c, cl.lookup x = some c → X.env.cells.lookup x = some c) (hcl2 : ∀ x ∈ scope.names, x.2 = .free → ∃ c, cl.lookup x.1 = some c)
 (hf : ∀ b ∈ fp, Dl X pins H b) (ho : ∀ b ∈ fp, ∃ o, s.heap.get? b = some o ∧ ∀ v, o.data ≠ .cell v)
 (hD : s.heap.objs.size ≤ D) (hC : s.heap.objs.size ≤ C) (hDC : D ≠ C) (k : ∀ b o, s.heap.get? b = some o → h'.get? b = some o) (hn : h'.Ns C m) (hd : h'.get? D = some (DV [])) :
 Inv (Bs X N scope cl C s H fp) [(D, DV [])] (cS nt js σ) H { s with heap := h', toks := tk } := by
 have lt : ∀ b ∈ fp, b < s.heap.objs.size := fun b hb => by obtain ⟨o, e, _⟩ := ho b hb; exact Heap.lt_size e
 have frlt : ∀ b ∈ frs X.stack, b < s.heap.objs.size := fun b hb => by
  obtain ⟨_, o, e, _⟩ := I.stack.mem hb
  exact Heap.lt_size e
 refine ⟨⟨I.ok.mod, ok.kind, I.ok.glob, I.ok.blt, hC, fun x y c h1 h2 => I.ok.inj x y c (hcl x c h1) (hcl y c h2), fun x hx => ?_, fun x c hx => absurd hx Bool.false_ne_true, I.ok.hd, I.ok.frames, .inl rfl, fun b hb => ⟨?_, fun x c e => (hf b hb).2.2.2.2.1 x c (hcl x c e)⟩, I.bs,
  QP I.ok.bsz I.sz, fun b o e hb => ?_, fun b hb hs => ?_, I.stack, I.stkFree⟩, rfl, I.bare, Un.kept k, ⟨m, hn, fun j x v h1 h2 h3 => ?_⟩, fun x c e => ?_, I.hok.fresh hC, fun x c e => I.freeC x c (hcl x c e), fun p hp => ?_, I.hok.kept k, ?_⟩
 ·obtain ⟨c, hc⟩ := hcl2 (x, .free) (DO ok.nocell hx) rfl
  exact ⟨c, hc⟩
 ·exact QK (QI (lt b hb) hC)
 ·rcases (hf b hb).2.2.2.1 with z | z
  ·exact I.ok.noex b o e z
  ·exact absurd (QI (Heap.lt_size e) (QP I.ok.bsz z)) (QJ _)
 ·rcases QU.mp (I.stkSub b hs) with z | z
  ·exact (hf b hb).2.1 z
  ·exact (hf b hb).2.2.1 z
 ·change N[j]? = some x at h1
  unfold cS at h2
  by_cases hj : j < nt
  ·rw [Rk (by simpa using hj), Rj] at h2
   rw [if_pos hj] at h2; cases h2
  ·rw [Ri (by simpa using Nat.not_lt.mp hj), Rq, Rl] at h2
   cases ei : js[j - nt]? with
   | none => rw [ei] at h2; cases h2
   | some i =>
     rw [ei] at h2
     obtain ⟨y, e1, e2, e3⟩ := ok.outer _ i ei
     rw [show nt + (j - nt) = j by lia, h1] at e1
     cases e1
     have hv : σ[i]? = some (some v) := by
      simp only [Option.map_some, QF.injEq] at h2
      rw [Sb] at h2
      cases eσ : σ[i]? with
      | none => rw [eσ] at h2; cases h2
      | some z => rw [eσ] at h2; simp at h2; rw [h2]
     obtain ⟨m₀, _, hl⟩ := I.loc
     have kf := ok.free (x, .free) (PySem.mem_of_lookup e3) rfl
     obtain ⟨u, r, l⟩ := hl i x v e2 hv (kf.elim (fun z => .inr (.inl z)) fun z => .inr (.inr z))
     refine ⟨u, r, .inr ⟨C6 e3, ?_⟩⟩
     rcases l with ⟨kl, _⟩ | ⟨_, c, ec, ⟨oc, hoc, hod⟩⟩
     ·rcases kf with z | z <;> (rw [z] at kl; cases kl)
     ·obtain ⟨c', hc'⟩ := hcl2 (x, .free) (PySem.mem_of_lookup e3) rfl
      have e' := hcl x c' hc'
      rw [ec] at e'
      cases e'
      exact ⟨c, hc', oc, k _ _ hoc, hod⟩
 ·obtain ⟨v, oc, hoc, hod⟩ := I.cell x c (hcl x c e)
  exact ⟨v, oc, k _ _ hoc, hod⟩
 ·have e : p = (D, DV []) := by
   have hp' : p ∈ [(D, DV [])] := hp
   simpa using hp'
  subst e
  refine ⟨hd, I.hok.fresh hD, hDC, fun hb => absurd (QI (frlt D hb) hD) (QJ _), fun v z => by cases z⟩
 ·show (cS nt js σ).length = N.length
  unfold cS
  rw [Ro, Rq, Rp, ok.len]
end
end L2
namespace L2
open PySem PySem.Spec PyProof.Rows
def Iu (g : TG) (nt : Nat) : Prop := ∀ x σ H Q, g x σ H Q → g x σ H fun σ2 H2 => (σ2.length = σ.length ∧ σ2.drop nt = σ.drop nt) ∧ Q σ2 H2
theorem AH {i nt : Nat} (h : i < nt) : Iu (C9 i) nt := fun x σ H Q q => ⟨⟨Ry, by
 apply Sc
 intro k
 rw [Sd, Sd, QY (by lia)]⟩, q⟩
section
variable {X : Cx} {N : List Str} {nt : Nat} {js : List Nat} {scope : Scope} {elt iter tg : Expr} {ifs : List Expr} {pos : Pos} {g : TG} {tc : TT} {te : TE} {wi : TI}
theorem JE {σ σ2 : St} (hl : σ2.length = (cS nt js σ).length) (hd : σ2.drop nt = (cS nt js σ).drop nt) : ∀ (i : Nat) v, (cS nt js σ)[i]? = some (some v) → σ2[i]? = some (some v) := fun i v e => by
 by_cases hi : i < nt
 ·unfold cS at e
  rw [Rk (by simpa using hi), Rj, if_pos hi] at e
  cases e
 ·have q : ((cS nt js σ).drop nt)[i - nt]? = some (some v) := by rw [Sd, show nt + (i - nt) = i by lia]; exact e
  rw [← hd, Sd, show nt + (i - nt) = i by lia] at q
  exact q
set_option maxHeartbeats 4000000 in
theorem Ij {pins : List (Addr × Obj)} {σ : St} {H : Hp} {s₂ : Shared} {cl : List (Str × Addr)} {J : It} {fp : List Addr} {it : Addr} {tn : Nat → Heap → Prop} {E : Value → Shared → Prop} {Fin : List V → Hp → Prop} {W : Nat → List V → Hp → Prop} {nn : Nat}
 {RR : Value → Addr → Result → Shared → Prop} (hcalm : X.calm = true) (ok : AZ X N nt js scope)
 (hcl : ∀ x c, cl.lookup x = some c → X.env.cells.lookup x = some c) (hcl2 : ∀ x ∈ scope.names, x.2 = .free → ∃ c, cl.lookup x.1 = some c)
 (hg : ∀ cl C s H fp, PG (Bs X N scope cl C s H fp) tg g) (hk : Iu g nt) (hc : ∀ cl C s H fp, PTs (Bs X N scope cl C s H fp) ifs tc) (he : ∀ cl C s H fp, PE (Bs X N scope cl C s H fp) elt te)
 (I : Inv X pins σ H s₂) (T : Is X.prog X.w X.K tg J fp it tn) (st : tn 0 s₂.heap) (hf : ∀ b ∈ fp, Dl X pins H b) (w0 : W 0 [] H) (lw : LcW J nn nt js σ g tc te Fin W)
 (hRR : ∀ D C s' H' zs m, Inv X pins σ (upd H' D (.lst zs)) s' → s'.heap.Ns C m → H' D = none → (upd H' D (.lst zs)) C = none → C ≠ X.env.locals → X.s₀.heap.objs.size ≤ C → (∀ x c, X.env.cells.lookup x = some c → c ≠ C) →
  (∀ p ∈ X.pn ++ pins, p.1 ≠ C) → Fin zs H' → RR (.ref D) C (.ok .next) s') :
 wpAny (model X.prog X.w) X.A (newList []) (fun acc s₃ => wpAny (model X.prog X.w) X.A (newFunctionEnv scope X.env.globals cl [] X.env.qual none .none (some X.env)) (fun cenv s₄ =>
  codeAny (model X.prog X.w) X.A (.compStart (.ListComp elt [⟨tg, iter, ifs, 0⟩] scope pos) 0 (.ref it) acc { cenv with scope := relabel scope X.env }) (RR acc cenv.locals) s₄) E s₃) E s₂ := by
 refine wpAny_newObj_type (wpAny_newFunctionEnv ok.nocell (by intro y hy; simp at hy) (fun h₁ hns₁ hsb₁ => ?_) ok.kind)
 dsimp only at hns₁ hsb₁ ⊢
 generalize hH2 : s₂.heap.push { cls := .type "list", dict := none, data := .seq ([] : List Value).toArray } = H2 at hns₁ hsb₁ ⊢
 have hC : H2.objs.size = s₂.heap.objs.size + 1 := by rw [← hH2, Heap.size_push]
 have hDC : s₂.heap.objs.size ≠ H2.objs.size := by rw [hC]; exact QK (Se _)
 have hCle : s₂.heap.objs.size ≤ H2.objs.size := by rw [hC]; exact Sf _
 have below : ∀ b, b < s₂.heap.objs.size → b ≠ H2.objs.size ∧ b ≠ s₂.heap.objs.size := fun b hb => ⟨by rw [hC]; exact QK (Sg hb), QK hb⟩
 have old : ∀ b o, s₂.heap.get? b = some o → h₁.get? b = some o := fun b o e => hsb₁.extBut b o (below b (Heap.lt_size e)).1 (Heap.get?_push_of_some _ (hH2 ▸ Heap.get?_push_of_some _ e))
 have hacc : h₁.get? s₂.heap.objs.size = some (DV []) := hsb₁.extBut _ _ hDC (Heap.get?_push_of_some _ (hH2 ▸ Heap.get?_push_size _ rfl))
 have ho := T.obj 0 _ st
 have lt : ∀ b ∈ fp, b < s₂.heap.objs.size := fun b hb => by obtain ⟨o, e, _⟩ := ho b hb; exact Heap.lt_size e
 have loop : ∀ s₃ : Shared, s₃ = { s₂ with heap := h₁, toks := s₂.toks + ([] : List (Str × Value)).length } →
  codeAny (model X.prog X.w) X.A (.compLoop (.ListComp elt [⟨tg, iter, ifs, 0⟩] scope pos) 0 (.ref it) (.ref s₂.heap.objs.size) (compEnvC scope cl H2.objs.size X.env)) (RR (.ref s₂.heap.objs.size) H2.objs.size) s₃ := by
  rintro s₃ rfl
  have I0 : Inv (Bs X N scope cl H2.objs.size s₂ H fp) [(s₂.heap.objs.size, DV [])] (cS nt js σ) H { s₂ with heap := h₁, toks := s₂.toks + ([] : List (Str × Value)).length } :=
   Lb I ok hcl hcl2 hf ho (R3 _) hCle hDC old hns₁ hacc
  have fpy : ∀ {H' : Hp} {ys : List Value}, (∀ b ∈ fp, H' b = none) → ∀ b ∈ fp, Dl (Bs X N scope cl H2.objs.size s₂ H fp) [(s₂.heap.objs.size, DV ys)] H' b := fun {H' ys} hn b hb =>
   ⟨hn b hb, (below b (lt b hb)).1, I0.ok.exfs b hb, .inl hb, (I0.ok.exf b hb).2, fun p hp => by
    have hp' : p ∈ [(s₂.heap.objs.size, DV ys)] := hp
    have e : p = (s₂.heap.objs.size, DV ys) := by simpa using hp'
    rw [e]; exact Ne.symm (below b (lt b hb)).2⟩
  refine Hh (fun n s' => ∃ i zs ys H', n = nn - i ∧ i ≤ nn ∧ Inv (Bs X N scope cl H2.objs.size s₂ H fp) [(s₂.heap.objs.size, DV ys)] (cS nt js σ) H' s' ∧ Az zs ys ∧ tn i s'.heap ∧ (∀ b ∈ fp, H' b = none) ∧ W i zs H') ?_ nn
   ⟨0, [], [], H, rfl, R5 _, I0, .nil, T.keep 0 _ _ st (fun b _ o e => old b o e), fun b hb => (hf b hb).1, w0⟩
  rintro n s' ⟨i, zs, ys, H', hn0, hile, I', rv, st', fr', w'⟩
  by_cases hlt : i < nn
  case neg =>
   have hie : i = nn := Nat.le_antisymm hile (Nat.not_lt.mp hlt)
   rw [hie] at w' st'
   obtain ⟨stop, zl, fin⟩ := lw.stop zs H' w'
   refine thn (T.done (Bs X N scope cl H2.objs.size s₂ H fp) rfl rfl rfl hcalm nn _ s' _ H' (fun _ _ => False) I' (fpy fr') st' stop) fun r s4 ⟨hr, I4⟩ => ?_
   subst hr
   have zD := (I4.pin (s₂.heap.objs.size, DV ys) (R4 _ (Sh.mpr rfl)))
   have u := I4.base
   have u2 : Un (frs X.stack) fp H (upd H' s₂.heap.objs.size (.lst zs)) s₂.heap s4.heap :=
    ⟨u.keep, u.slot, fun b o q n hx => by rw [Ak (QK (Heap.lt_size q))]; exact u.free b o q n hx, u.there, fun b xs q => by rw [Ak (Aq (u.tups b xs q) zD.2.1)]; exact u.tups b xs q,
     fun b o xs q => by rw [Ak (Aq (u.frzs b o xs q) zD.2.1)]; exact u.frzs b o xs q, fun b ps q => by
      obtain ⟨more, e⟩ := u.tbls b ps q
      exact ⟨more, by rw [Ak (Aq e zD.2.1)]; exact e⟩⟩
   have hok2 : HOk X.prog X.w (upd H' s₂.heap.objs.size (.lst zs)) s4.heap := HOk.track I4.hok zD.2.1 ⟨zl, ys, _, rv, zD.1⟩
   have I5 : Inv X pins σ (upd H' s₂.heap.objs.size (.lst zs)) s4 := I.call' I4.os u2 hok2 I4.bare fun b hb => ⟨(hf b hb).2.2.2.1, (hf b hb).2.1, (hf b hb).2.2.2.2.1, (hf b hb).2.2.2.2.2⟩
   obtain ⟨m, hn, _⟩ := I4.loc
   refine hRR _ _ s4 H' zs m I5 hn zD.2.1 ?_ ?_ (QP I.sz hCle) ?_ ?_ fin
   ·rw [Ak (Ne.symm hDC)]; exact I4.free
   ·exact R0 (QI I.lt hCle)
   ·intro x c e z
    obtain ⟨v, q⟩ := I.cell x c e
    exact absurd (QI q.lt (by rw [z]; exact hCle)) (QJ _)
   ·intro p hp z
    exact absurd (QI (Heap.lt_size (I.pin p hp).1) (by rw [z]; exact hCle)) (QJ _)
  case pos =>
   obtain ⟨go, zl⟩ := lw.go i zs H' hlt w'
   have step := lw.step i zs H'
   refine thn (T.item (Bs X N scope cl H2.objs.size s₂ H fp) rfl rfl rfl hcalm i _ s' _ H' (fun _ _ => False) I' (fpy fr') st' go) fun r s4 ⟨u, hr, h4⟩ => ?_
   subst hr
   refine thn h4 fun _ s5 ⟨x, H5, I5, r5, y5, st5, fr5⟩ => ?_
   have I5' := I5.pinned (fpy fr5) (T.obj _ _ st5)
   refine thn (hg cl _ s₂ H fp _ s5 _ H5 x u _ I5' r5 (hk _ _ _ _ (step x H5 hlt w' y5))) fun _ s6 ⟨σ6, H6, I6, ⟨hl6, hd6⟩, q6⟩ => ?_
   refine thn (hc cl _ s₂ H fp _ s6 σ6 H6 _ I6 q6) fun okb s7 ⟨H7, I7, q7⟩ => ?_
   have frs' : ∀ {H8 : Hp} {σ8 : St} {s8 : Shared}, Inv (Bs X N scope cl H2.objs.size s₂ H fp) ([(s₂.heap.objs.size, DV ys)] ++ EY fp s5.heap) σ8 H8 s8 → tn (i + 1) s8.heap ∧ ∀ b ∈ fp, H8 b = none := fun {H8 σ8 s8} I8 =>
    ⟨T.keep _ _ _ st5 fun b hb o e => (I8.pin (b, o) (R4 _ (R4 _ (CV hb e)))).1, fun b hb => by
     obtain ⟨o, e, d⟩ := T.obj _ _ st5 b hb
     exact (I8.pin (b, o) (R4 _ (R4 _ (CV hb e)))).2.1⟩
   cases okb with
   | false =>
     rw [if_neg Bool.false_ne_true] at q7 ⊢
     obtain ⟨a1, a2⟩ := frs' I7
     exact ⟨nn - (i + 1), by rw [hn0]; exact Nat.sub_lt_sub_left hlt (Se i), i + 1, zs, ys, H7, rfl, hlt, I7.unpinned.weak (by rw [hl6]) (JE hl6 hd6), rv, a1, a2, q7⟩
   | true =>
     rw [if_pos rfl] at q7 ⊢
     refine thn (he cl _ s₂ H fp _ s7 σ6 H7 _ I7 q7) fun v s8 ⟨y, H8, I8, r8, q8⟩ => ?_
     have zD := (I8.pin (s₂.heap.objs.size, DV ys) (R4 _ (QW _ (Sh.mpr rfl))))
     have ylen : ys.length < sizeLine := by rw [← rv.length]; exact zl
     obtain ⟨a1, a2⟩ := frs' I8
     refine append_at (hsz := by rw [Rx]; exact QQ ylen) zD.1 fun h9 hs9 hD9 => ?_
     have I8u : Inv (Bs X N scope cl H2.objs.size s₂ H fp) [] (cS nt js σ) H8 s8 := (I8.pins_of (pins' := []) fun p hp => nomatch hp).weak (by rw [hl6]) (JE hl6 hd6)
     have I9 : Inv (Bs X N scope cl H2.objs.size s₂ H fp) [] (cS nt js σ) H8 { s8 with heap := h9 } := I8u.turned (t' := s8.toks) (it := s₂.heap.objs.size) (fun b o hb e => hs9.extBut b o hb e) zD.2.1 hDC (.inr (R3 _))
      (fun x c e z => by
       obtain ⟨v, q⟩ := I.cell x c (hcl x c e)
       exact absurd (QI q.lt (by rw [z]; exact R3 _)) (QJ _)) (fun p hp => nomatch hp)
     refine ⟨nn - (i + 1), by rw [hn0]; exact Nat.sub_lt_sub_left hlt (Se i), i + 1, zs ++ [y], ys ++ [v], H8, rfl, hlt, I9.pins_of (fun p hp => ?_), rv.snoc r8, T.keep _ _ _ a1 fun b hb o e => hs9.extBut b o (below b (lt b hb)).2 e, a2, q8⟩
     have e : p = (s₂.heap.objs.size, DV (ys ++ [v])) := by simpa using hp
     subst e
     refine ⟨?_, zD.2.1, hDC, zD.2.2.2.1, fun v z => by cases z⟩
     rw [hD9]
     show some ({ cls := .type "list", data := .seq (ys.toArray.push v) (ys.length + 1) } : Obj) = some { cls := .type "list", data := .seq (ys ++ [v]).toArray (ys ++ [v]).length }
     rw [Ro, RD, List.push_toArray]
 exact codeAny_compStart_list (loop _ rfl) (T.self _ 0 _ _ _ (T.keep 0 _ _ st (fun b _ o e => old b o e)) (loop _ rfl))
theorem Df (hcalm : X.calm = true) (ok : AZ X N nt js scope) (hi : PI X tg iter wi) (hg : ∀ cl C s H fp, PG (Bs X N scope cl C s H fp) tg g) (hk : Iu g nt) (hc : ∀ cl C s H fp, PTs (Bs X N scope cl C s H fp) ifs tc)
 (he : ∀ cl C s H fp, PE (Bs X N scope cl C s H fp) elt te) (hs : ∀ x, foldedSetIterable iter X.env x = pure x := by intro _; rfl) : PE X (.ListComp elt [⟨tg, iter, ifs, 0⟩] scope pos) (tLC wi nt js g tc te) := by
 intro pins s σ H Q I h
 obtain ⟨cl, hclos, hcl, hcl2⟩ := Dz (scope := scope) (env := X.env) fun x hx hf => I.ok.has x.1 (ok.free x hx hf)
 rw [eval_ListComp]
 refine wpAny_comprehension_free (use := none) rfl hs hclos ok.kind ok.names ?_
 refine thn (hi pins s σ H _ I (MO h)) fun v s1 h1 => thn h1 fun itv s2 h2 => ?_
 obtain ⟨it, fp, tn, J, H2, e, I2, T, st2, f2, nn, W, w0, lw⟩ := h2
 subst e
 refine Ij (RR := fun acc C => compPost (model X.prog X.w) X.A X.xe none (EP X pins σ Q) acc C) hcalm ok hcl hcl2 hg hk hc he I2 T st2 f2 w0 lw ?_
 intro D C s' H' zs m I3 hn hDn hCn hCL hC0 hCc hCp fin
 exact ⟨m, hn, fun h'' hs'' => ⟨.ref D, _, I3.turned (t' := s'.toks) (it := C) (fun b o hb e => hs''.extBut b o hb e) hCn hCL (.inr hC0) hCc hCp, rfl, fin D hDn⟩⟩
theorem HB {i : Nat} {y : Str} {py spos : Pos} (hcalm : X.calm = true) (hN : X.N.Nodup) (hi' : X.N[i]? = some y) (hy : X.env.kindOf y = some .local) (ok : AZ X N nt js scope) (hi : PI X tg iter wi) (hg : ∀ cl C s H fp, PG (Bs X N scope cl C s H fp) tg g) (hk : Iu g nt)
 (hc : ∀ cl C s H fp, PTs (Bs X N scope cl C s H fp) ifs tc) (he : ∀ cl C s H fp, PE (Bs X N scope cl C s H fp) elt te)
 (hsw : swapsWith (.ListComp elt [⟨tg, iter, ifs, 0⟩] scope pos) (some (.Name y py)) spos.line X.env = pure true) (hs : ∀ x, foldedSetIterable iter X.env x = pure x := by intro _; rfl) :
 PS X (.Assign [.Name y py] (.ListComp elt [⟨tg, iter, ifs, 0⟩] scope pos) spos) (N3 (tLC wi nt js g tc te) (C9 i)) := by
 intro pins s σ H D₀ I h
 obtain ⟨cl, hclos, hcl, hcl2⟩ := Dz (scope := scope) (env := X.env) fun x hx hf => I.ok.has x.1 (ok.free x hx hf)
 rw [exec_Assign_Name_used _ _ _ _ hsw]
 refine wpAny_bind (wpAny_standAt (wpAny_bind ?_))
 show wpAny _ X.A (do let _ ← comprehension (.ListComp elt [⟨tg, iter, ifs, 0⟩] scope pos) scope X.env _ (newList []) false (eval iter X.env) (some (assign (.Name y py) X.env))) _ _ s
 refine wpAny_bind (wpAny_mono (wpAny_comprehension_free (use := some (assign (.Name y py) X.env)) (Q := fun _ s' => SP X pins D₀ .next s') rfl hs hclos ok.kind ok.names
  (thn (hi pins s σ H _ I (MO (show tLC wi nt js g tc te σ H fun x H1 => C9 i x σ H1 D₀.nx from h))) fun v s1 h1 => thn h1 fun itv s2 h2 => ?_)) (fun _ s' hq => wpAny_pure (wpAny_pure hq)) fun _ _ e => e)
 obtain ⟨it, fp, tn, J, H2, e, I2, T, st2, f2, nn, W, w0, lw⟩ := h2
 subst e
 refine Ij (RR := fun acc C => compPost (model X.prog X.w) X.A X.xe (some (assign (.Name y py) X.env)) (fun _ s' => SP X pins D₀ .next s') acc C) hcalm ok hcl hcl2 hg hk hc he I2 T st2 f2 w0 lw ?_
 intro D C s' H' zs m I3 hn hDn hCn hCL hC0 hCc hCp fin
 show wpAny _ X.A (assign (.Name y py) X.env (.ref D)) _ _ _
 refine wpAny_assign_Name (FN (v := .ref D) I3 hN hi' (.inl hy) rfl (fun s3 I4 hsb => ?_) (.inr hy))
 obtain ⟨a, hsb, ha⟩ := hsb
 have haC : C ≠ a := by
  rcases ha with z | z
  ·rw [z]; exact hCL
  ·exact Ne.symm (hCc y a z)
 refine ⟨m, hn.sameBut hsb haC, fun h'' hs'' => ?_⟩
 exact ⟨_, _, I4.turned (t' := s3.toks) (it := C) (fun b o hb e => hs''.extBut b o hb e) hCn hCL (.inr hC0) hCc hCp, fin D hDn⟩
end
end L2
namespace L2
open PySem PySem.Spec PyProof.Rows
def Bd (n : Nat) (x : Int) : Prop := x.natAbs < 2 ^ n
theorem Bd.bits {n : Nat} {x : Int} (h : Bd n x) : Builtin.Int.intBits x ≤ n := PySem.intBits_le_iff.mpr h
def LJ (i j : Int) : Prop := ∃ m n, Bd m i ∧ Bd n j ∧ m + n ≤ 134217728
theorem LJ.ok {i j : Int} (h : LJ i j) : IntMulOk i j := by
 obtain ⟨m, n, h1, h2, h3⟩ := h
 exact PySem.IntMulOk.of_le h1.bits h2.bits h3
section
variable {X : Cx}
theorem Bh {k : Nat} (hr : BT k X.A) (hT : X.prog.given.tree = none) (hk : 32 ≤ k := by decide)
 (hst : ∃ (env : Env) (l : List Env), X.stack = env :: l ∧ env.scope.isGenerator = false ∧ env.scope.isCoroutine = false ∧ env.builtins = builtinsNs ∧ env.globals = mainGlobals := by exact ⟨_, _, rfl, rfl, rfl, rfl, rfl⟩) :
 OpR X (binaryOp .FloorDiv) (rI (fun _ j => j ≠ 0) fun i j => .int (i.fdiv j)) := by
 intro pins s σ H x y v u Q I rx ry h
 obtain ⟨i, j, rfl, rfl, hc, q⟩ := h
 obtain ⟨t, rfl⟩ := rx
 obtain ⟨t', rfl⟩ := ry
 obtain ⟨env, l, e1, e2, e3, e4, e5⟩ := hst
 have hd : X.A.depth + Builtin.pylongFrames < recursionLimit := by
  have := hr.dp
  have e : Builtin.pylongFrames ≤ 101 := by decide
  lia
 refine floordiv_int hc ⟨.int (i.fdiv j), H, I.tok _, ⟨_, rfl⟩, q⟩ (.inr (PySem.PylongRoom.of I.nolimit hd (PySem.SeerAt.of (I.ok.mod.seer.keeps I.bk) hT (by rw [I.ok.frames, e1]) e2 e3 e4 e5)))
end
structure Fd (P : Program) (w : World) (K : QO) (mg : Str → Option Value) (base : Heap) (n : Nat) (x : Str) (ps : List Str) (sp : Sp) : Prop where
 ex : ∃ (f : Addr) (fd : FuncData), AE P w K mg base CX0 n f fd ps sp ∧ C2 K fd ps [] ∧ R8 K (.ref f) = true ∧ mg x = some (.ref f)
theorem Am {X : Cx} {n k : Nat} {x : Str} {ps : List Str} {sp : Sp} {e : Expr} {es : List Expr} {t : TA} {p pos : Pos} (F : Fd X.prog X.w X.K X.mg X.base n x ps sp) (hr : BT k X.A) (hg : Gl X x) (ha : PA X (e :: es) t) (hn : n ≤ k := by decide)
 (hdb : (x == ("__debug__" : Str)) = false := by decide) (he : starEach (e :: es) X.env = (false, eval e X.env) :: starEach es X.env := by rfl) (hpl : (backTo pos (starEach es X.env)).any (·.1) = false := by rfl) :
 PE X (.Call (.Name x p) (e :: es) [] pos) (MI sp [] E0 t) := by
 obtain ⟨f, fd, F1, F2, F3, F4⟩ := F.ex
 exact Me F1 (hr.mono hn) hg F4 F3 F2 .nil Oi ha hdb he hpl
inductive Rds (K : QO) (H : Hp) : V → PyData → Prop where
 | non : Rds K H .non .none
 | bl (b : Bool) : Rds K H (.bl b) (.bool b)
 | int (i : Int) : Rds K H (.int i) (.int i)
 | str (x : Str) : Rds K H (.str x) (.str x)
 | lst {a : Addr} {xs : List V} {ds : List PyData} : SqL K H a xs → xs.length = ds.length → (∀ (i : Nat) x d, xs[i]? = some x → ds[i]? = some d → Rds K H x d) → Rds K H (.ref a) (.list ds)
 | tup {a : Addr} {xs : List V} {ds : List PyData} : SqT K H a xs → xs.length = ds.length → (∀ (i : Nat) x d, xs[i]? = some x → ds[i]? = some d → Rds K H x d) → Rds K H (.ref a) (.tuple ds)
theorem Dd {h : Heap} : ∀ {us : List Value} {xs : List V} {ds : List PyData}, Az xs us → xs.length = ds.length → (∀ (i : Nat) x d u, xs[i]? = some x → ds[i]? = some d → AC x u → ∃ as, Reads h u d as) → ∃ as, ReadsAll h us ds as
 | [], _, [], .nil, _, _ => ⟨[], .nil⟩
 | [], _, _ :: _, .nil, hl, _ => by simp at hl
 | _ :: _, _, [], .cons _ _, hl, _ => by simp at hl
 | u :: us, x :: xs, d :: ds, .cons r t, hl, hr => by
   obtain ⟨a1, r1⟩ := hr 0 x d u rfl rfl r
   obtain ⟨a2, r2⟩ := Dd (us := us) (xs := xs) (ds := ds) t (by simpa using hl) fun i x' d' u' e1 e2 q => hr (i + 1) x' d' u' (by simpa using e1) (by simpa using e2) q
   exact ⟨_, .cons r1 r2⟩
theorem CB {X : Cx} {pins : List (Addr × Obj)} {σ : St} {H : Hp} {s : Shared} (I : Inv X pins σ H s) {x : V} {d : PyData} (r : Rds X.K H x d) : ∀ {u : Value}, AC x u → ∃ as, Reads s.heap u d as := by
 induction r with
 | non => intro u ru; cases ru; exact ⟨_, .none⟩
 | bl b => intro u ru; cases ru; exact ⟨_, .bool b⟩
 | int i => intro u ru; obtain ⟨t, rfl⟩ := ru; exact ⟨_, .int i t⟩
 | str z => intro u ru; obtain ⟨t, rfl⟩ := ru; exact ⟨_, .str z t⟩
 | lst q hl _ ih =>
   intro u ru
   cases ru
   obtain ⟨its, rv, ⟨o, n, e, c, _, dd⟩, _⟩ := I.list q
   obtain ⟨as, ra⟩ := Dd rv hl fun i x d u e1 e2 rr => ih i x d e1 e2 rr
   exact ⟨_, .list e c dd (by simpa using ra)⟩
 | tup q hl _ ih =>
   intro u ru
   cases ru
   obtain ⟨its, rv, ⟨o, e, c, n, dd⟩, _⟩ := I.tuple q
   obtain ⟨as, ra⟩ := Dd rv hl fun i x d u e1 e2 rr => ih i x d e1 e2 rr
   exact ⟨_, .tuple e c dd (by simpa using ra)⟩
section
variable {X : Cx}
@[irreducible] def Er (K : QO) (neg : Bool) : R2 := fun x y H Q => ∃ d e, Rds K H x d ∧ Rds K H y e ∧ SeqAt.shaped d = true ∧ SeqAt.shaped e = true ∧ Q (.bl (if neg then !PyData.eqv d e else PyData.eqv d e)) H
theorem He {K : QO} {neg : Bool} {x y : V} {H : Hp} {Q : VK} (h : ∃ d e, Rds K H x d ∧ Rds K H y e ∧ SeqAt.shaped d = true ∧ SeqAt.shaped e = true ∧ Q (.bl (if neg then !PyData.eqv d e else PyData.eqv d e)) H) : Er K neg x y H Q := by
 unfold Er; exact h
theorem No (hu : X.A.units + 64 < cLine) : OpR X (compareOp .Eq) (Er X.K false) := by
 intro pins s σ H x y v u Q I rx ry h
 unfold Er at h
 obtain ⟨d, e, r1, r2, h1, h2, q⟩ := h
 obtain ⟨as, q1⟩ := CB I r1 rx
 obtain ⟨bs, q2⟩ := CB I r2 ry
 exact SeqAt.compareEq_shaped q1 q2 h1 h2 hu ⟨.bl _, H, I, rfl, q⟩
theorem Nn (hu : X.A.units + 64 < cLine) : OpR X (compareOp .NotEq) (Er X.K true) := by
 intro pins s σ H x y v u Q I rx ry h
 unfold Er at h
 obtain ⟨d, e, r1, r2, h1, h2, q⟩ := h
 obtain ⟨as, q1⟩ := CB I r1 rx
 obtain ⟨bs, q2⟩ := CB I r2 ry
 exact SeqAt.compareNe_shaped q1 q2 h1 h2 hu ⟨.bl _, H, I, rfl, q⟩
end
end L2
namespace L2
open PySem PySem.Spec PyProof.Rows
theorem AF : bootBuiltins "len" = some (.builtin "len") := by decide +kernel
theorem Hk : bootBuiltins "abs" = some (.builtin "abs") := by decide +kernel
theorem DA : bootBuiltins "isinstance" = some (.builtin "isinstance") := by decide +kernel
theorem EI : bootBuiltins "list" = some (.type "list") := by decide +kernel
theorem CH : bootBuiltins "tuple" = some (.type "tuple") := by decide +kernel
theorem Io : bootBuiltins "reversed" = some (.type "reversed") := by decide +kernel
def Fx (H : Hp) (L : List (Addr × HO)) : Prop := ∀ p ∈ L, H p.1 = some p.2
def Mv (a : Addr) (H H' : Hp) : Prop := ∀ b o, b ≠ a → H b = some o → H' b = some o
theorem Mv.refl (a : Addr) (H : Hp) : Mv a H H := fun _ _ _ h => h
theorem Mv.trans {a : Addr} {H H1 H2 : Hp} (x : Mv a H H1) (y : Mv a H1 H2) : Mv a H H2 := fun b o n h => y b o n (x b o n h)
theorem Mv.new {a p : Addr} {H : Hp} {o : HO} (h : H p = none) : Mv a H (upd H p o) := fun b u _ q => by rw [Ak (Aq q h)]; exact q
theorem JG {ns : List Int} {k : Int} (h0 : 0 ≤ k) (h : k < (ns.length : Int)) : ∃ v : Int, atI (ns.map V.int) k = some (.int v) := by
 have hk : k.toNat < ns.length := by lia
 have ek : k = ((k.toNat : Nat) : Int) := by lia
 have q : atI (ns.map V.int) ((k.toNat : Nat) : Int) = some (.int ns[k.toNat]) := AT (by rw [Rl, Si hk] <;> rfl)
 rw [← ek] at q
 exact ⟨_, q⟩
def nT (q : Rat) : HO := .tup [.int q.num, .int q.den]
def Pen (H : Hp) (a : Addr) : Prop := ∃ c0 c1 c2 : Int, H a = some (.lst [.int c0, .int c1, .int c2])
theorem Pen.same {H : Hp} {a p : Addr} {o : HO} (x : Pen H a) (h : H p = none) : Pen (upd H p o) a := by
 obtain ⟨c0, c1, c2, e⟩ := x
 exact ⟨c0, c1, c2, by rw [Ak (Aq e h)]; exact e⟩
theorem Pen.put {H : Hp} {a : Addr} {c0 c1 c2 : Int} : Pen (upd H a (.lst [.int c0, .int c1, .int c2])) a := ⟨c0, c1, c2, Aa⟩
def Bp (i j : Int) : Prop := (-(2 ^ 64) < i ∧ i < 2 ^ 64) ∨ (-(2 ^ 64) < j ∧ j < 2 ^ 64) ∨ LJ i j
theorem Bp.ok {i j : Int} (h : Bp i j) : IntMulOk i j := by
 rcases h with ⟨h1, h2⟩ | ⟨h1, h2⟩ | h
 ·exact .of_left (intBits_le_64 h1 h2)
 ·exact .of_right (intBits_le_64 h1 h2)
 ·exact h.ok
theorem As {X : Cx} : OpR X (binaryOp .Mult) (rI Bp fun i j => .int (i * j)) := opI fun _ _ _ _ _ _ _ hc q => mul_int q hc.ok
def AW (a : Addr) (H H' : Hp) : Prop := ∀ b, b ≠ a → H' b = H b
theorem AW.mv {a : Addr} {H H' : Hp} (x : AW a H H') : Mv a H H' := fun b o n h => by rw [x b n]; exact h
theorem AW.put {a : Addr} {H : Hp} {o : HO} : AW a H (upd H a o) := fun b n => Ak n
theorem Pen.ne {H : Hp} {a p : Addr} {o : HO} (x : Pen H a) (h : H p = some o) (hd : ∀ c0 c1 c2 : Int, o ≠ .lst [.int c0, .int c1, .int c2]) : p ≠ a := by
 obtain ⟨c0, c1, c2, e⟩ := x
 exact En h e (hd c0 c1 c2)
structure Lg (a : Addr) (H : Hp) (L : List (Addr × HO)) : Prop where
 fx : Fx H L
 ne : ∀ x ∈ L, x.1 ≠ a
 pen : Pen H a
theorem Om (q : Rat) : ∀ c0 c1 c2 : Int, nT q ≠ .lst [.int c0, .int c1, .int c2] := fun _ _ _ z => by cases z
theorem Mz {xs : List Int} {i : Int} (h0 : 0 ≤ i) (h : i < (xs.length : Int)) : ∃ v : Int, atI (xs.map V.int) i = some (.int v) ∧ v ∈ xs := by
 have hk : i.toNat < xs.length := by lia
 have ek : i = ((i.toNat : Nat) : Int) := by lia
 have q : atI (xs.map V.int) ((i.toNat : Nat) : Int) = some (.int xs[i.toNat]) := AT (by rw [Rl, Si hk] <;> rfl)
 rw [← ek] at q
 exact ⟨_, q, Sj hk⟩
theorem Kv {K : QO} {H : Hp} {a p : Addr} {xs : List V} {o : HO} (hS : SqL K H a xs) (hp : H p = none) : SqL K (upd H p o) a xs := by
 have st : ∀ u, H a = some u → upd H p o a = some u := fun u e => by rw [Ak (Aq e hp)]; exact e
 rcases hS with (h | ⟨o, h⟩) | h
 ·exact .inl (.inl (st _ h))
 ·exact .inl (.inr ⟨o, st _ h⟩)
 ·exact .inr h
inductive D8 (vs : List V) (H : Hp) (Q : VK) (E_3 : XK) : Prop
 | mk (a : Addr) (m : Int) (h1 : vs = [.ref a, .int m]) (h2 : Pen H a) (h3 : 1 ≤ m) (h4 : m < 1073741824) (h5 : ∀ (d : Int) (H' : Hp), 0 ≤ d → d < m → AW a H H' → Pen H' a → Q (.int d) H') : D8 vs H Q E_3
inductive J9 (K : QO) (vs : List V) (H : Hp) (Q : VK) (E_3 : XK) : Prop
 | mk (a : Addr) (ns : List Int) (k : Int) (h1 : vs = [.ref a, .int k]) (h2 : SqL K H a (ns.map V.int)) (h3 : ns.length ≤ 63) (h4 : 0 ≤ k) (h5 : k < 2 ^ 62) (h6 : ∀ (p : Addr) (c0 c1 : Int), H p = none → Q (.ref p) (upd H p (.lst [.int c0, .int c1, .int 0]))) : J9 K vs H Q E_3
inductive Cz (vs : List V) (H : Hp) (Q : VK) (E_3 : XK) : Prop
 | mk (t b : Int) (h1 : vs = [.int t, .int b]) (h2 : b ≠ 0) (h3 : ∀ p, H p = none → Q (.ref p) (upd H p (nT (RM t b)))) : Cz vs H Q E_3
inductive FQ (vs : List V) (H : Hp) (Q : VK) (E_3 : XK) : Prop
 | mk (a b : Int) (h1 : vs = [.int a, .int b]) (h2 : Q (.int (RJ a b)) H) : FQ vs H Q E_3
inductive FP (n : Nat) (vs : List V) (H : Hp) (Q : VK) (E_3 : XK) : Prop
 | mk (a : _) (h1 : vs = [.ref a]) (h2 : Pen H a) (h3 : ∀ (q : Rat) (r : Addr) (H' : Hp), Mv a H H' → Pen H' a → H' r = some (nT q) → Bd n q.num → Bd n q.den → Q (.ref r) H') : FP n vs H Q E_3
def mu (i : Nat) (σ : St) : Nat := match σ[i]? with | some (some (.int y)) => y.toNat | _ => 0
theorem Bd.mono {m n : Nat} {x : Int} (h : Bd m x) (hmn : m ≤ n) : Bd n x := QI h (Sk (by decide) hmn)
theorem Bd.num {n : Nat} {t b : Int} (h : Bd n t) : Bd n (RM t b).num := by
 unfold Bd at *
 by_cases hb : b = 0
 ·subst hb; simp; exact RK (by simp)
 ·rw [← Nm.top_msr hb]
  exact RH (PySem.natAbs_fdiv_le t _) h
theorem Bd.den {n : Nat} {t b : Int} (hb : b ≠ 0) (h : Bd n b) : Bd n (RM t b).den := by
 unfold Bd at *
 rw [← Nm.bottom_msr hb]
 exact RH (PySem.natAbs_fdiv_le b _) h
end L2
namespace L2
open PySem PySem.Spec PyProof.Rows
def Gn (K : QO) (a : Addr) (xs : List V) : It :=
 ⟨fun i H => SqL K H a xs ∧ i < xs.length, fun i H x H' => H' = H ∧ xs[xs.length - 1 - i]? = some x, fun i _ => xs.length = i⟩
theorem Km {P : Program} {w : World} {K : QO} {tg : Expr} (a it : Addr) (xs : List V) : Is P w K tg (Gn K a xs) [it] it (fun i h => i ≤ xs.length ∧ h.IsRevIter it a ((xs.length : Int) - 1 - (i : Int))) where
 mem := by simp
 obj := fun i h st b hb => by
  have e : b = it := by simpa using hb
  subst e
  obtain ⟨_, o, e, c, d⟩ := st
  exact ⟨o, e, fun v z => by rw [d] at z; cases z⟩
 keep := fun i h h' st k => ⟨st.1, st.2.at fun o e => k it (by simp) o e⟩
 item := by
  intro X hP hw hK hc i pins s σ H E I hf st hg
  subst hP hw hK
  obtain ⟨hq, hi⟩ := hg
  obtain ⟨its, rv, p, hz⟩ := I.list hq
  have hl := rv.length
  have hx : xs[xs.length - 1 - i]? = some (xs[xs.length - 1 - i]'(by lia)) := Si (by lia)
  obtain ⟨u, hu, ru⟩ := rv.get hx
  obtain ⟨f0, f1, f2, f3, f4, f5⟩ := hf it (by simp)
  have e : (xs.length : Int) - 1 - (i : Int) = ((xs.length - 1 - i : Nat) : Int) := by lia
  have st2 := st.2
  rw [e] at st2
  refine wpAny_pyNext_rev_item st2 p.isList (x := u) (by simpa using hu) fun h' st' sb => ?_
  have I1 : Inv X pins σ H { s with heap := h' } := I.turned (t' := s.toks) (fun b o hb e => (sb.2 b hb).trans e) f0 f1 f3 f4 f5
  obtain ⟨o, e', c, d⟩ := id st'
  have e2 : ((xs.length - 1 - i : Nat) : Int) - 1 = (xs.length : Int) - 1 - ((i + 1 : Nat) : Int) := by lia
  rw [e2] at st'
  exact ⟨u, rfl, Ic (s := { s with heap := h' }) e' c d (by decide) ⟨_, H, I1, ru, ⟨rfl, hx⟩, ⟨hi, st'⟩, fun b hb => (hf b hb).1⟩⟩
 done := by
  intro X hP hw hK hc i pins s σ H E I hf st hg
  subst hP hw hK
  obtain ⟨f0, f1, f2, f3, f4, f5⟩ := hf it (by simp)
  have hg' : xs.length = i := hg
  have st2 := st.2
  rw [show (xs.length : Int) - 1 - (i : Int) = -1 by lia] at st2
  exact wpAny_pyNext_rev_end (I.ok.hd hc) st2 fun h' eb => ⟨rfl, I.turned (t' := s.toks) (fun b o hb e => eb b o hb e) f0 f1 f3 f4 f5⟩
 self := fun _ _ _ _ _ st h => wpAny_pyIter_revIter st.2 h
section
variable {X : Cx} {tg : Expr}
def Os (K : QO) (tl : TE) : TI := fun σ H R => tl σ H fun x H1 => ∃ v, [x] = [v] ∧ ∃ a xs, v = .ref a ∧ SqL K H1 a xs ∧ R (Gn K a xs) H1
theorem Ng {l : Expr} {tl : TE} {p pos : Pos} (hg : Gl X "reversed") (hm : X.mg "reversed" = none) (hl : PE X l tl) (hs : starEach [l] X.env = [(false, eval l X.env)] := by rfl) : PI X tg (.Call (.Name "reversed" p) [l] [] pos) (Os X.K tl) := by
 intro pins s σ H R I h
 have ha : PA X [l] (MH tl O6) := A0 hl Ac (by rw [hs]; rfl)
 refine Call_ (Cu I hg hm Io (PyProof.Rows.callWith_type1 (thn (ha pos pins s σ H (fun vs H1 => ∃ x, vs = [x] ∧ ∃ a xs, x = .ref a ∧ SqL X.K H1 a xs ∧ R (Gn X.K a xs) H1) I h) fun us s1 ⟨vs, H1, I1, r1, q1⟩ => ?_) hs rfl))
 obtain ⟨x, e0, a, xs, e, hq, q⟩ := q1
 subst e0
 subst e
 cases r1 with
 | cons r rr =>
   cases rr
   cases r
   obtain ⟨its, rv, p, hz⟩ := I1.list hq
   refine call_reversed_list p.isList ?_
   have I2 : Inv X pins σ H1 { s1 with heap := s1.heap.push (revObj a ((its.toArray.size : Int) - 1)) } := I1.kept (t' := s1.toks) fun b o e => Heap.get?_push_of_some _ e
   have st : ({ s1 with heap := s1.heap.push (revObj a ((its.toArray.size : Int) - 1)) } : Shared).heap.IsRevIter s1.heap.objs.size a ((xs.length : Int) - 1 - ((0 : Nat) : Int)) := by
    refine ⟨_, Heap.get?_push_size _ rfl, rfl, ?_⟩
    have e : ((its.toArray.size : Nat) : Int) - 1 = (xs.length : Int) - 1 - ((0 : Nat) : Int) := by rw [Rx, ← rv.length]; simp
    show Data.fields #[.ref a, rawInt _] = _
    rw [e]
   refine wpAny_pyIter_revIter st ?_
   refine ⟨s1.heap.objs.size, [s1.heap.objs.size], _, _, H1, rfl, I2, Km a _ xs, ⟨R5 _, st⟩, fun b hb => ?_, q⟩
   have e : b = s1.heap.objs.size := by simpa using hb
   subst e
   exact I1.fpOk (R3 _) (I1.hok.fresh (R3 _))
end
theorem Mu {K : QO} {a : Addr} {xs : List V} {g : TG} {tb : TS} {D : CI} {σ : St} {H : Hp} (Pv : Nat → St → Hp → Prop) (h0 : Pv 0 σ H) (hl : ∀ i σ H, i ≤ xs.length → Pv i σ H → SqL K H a xs)
 (hs : ∀ i x σ H, i < xs.length → xs[xs.length - 1 - i]? = some x → Pv i σ H → g x σ H fun σ2 H2 => tb { D with nx := Pv (i + 1), ct := Pv (i + 1), bk := D.nx } σ2 H2) (hd : ∀ σ H, Pv xs.length σ H → D.nx σ H) :
 ∃ W : Nat → Nat → St → Hp → Prop, (∃ m, W 0 m σ H) ∧ ∀ i m σ H, W i m σ H →
   ((Gn K a xs).stop i H ∧ D.nx σ H) ∨ ((Gn K a xs).go i H ∧ ∃ N : St → Hp → Prop, (∀ σ' H', N σ' H' → ∃ m', m' < m ∧ W (i + 1) m' σ' H') ∧ ∀ x H', (Gn K a xs).yld i H x H' → g x σ H' fun σ2 H2 => tb { D with nx := N, ct := N, bk := D.nx } σ2 H2) := by
 refine ⟨fun i m σ H => m = xs.length - i ∧ i ≤ xs.length ∧ Pv i σ H, ⟨xs.length, by simp, R5 _, h0⟩, ?_⟩
 rintro i m σ H ⟨rfl, hi, p⟩
 have q := hl i σ H hi p
 by_cases hlt : i < xs.length
 ·refine .inr ⟨⟨q, hlt⟩, Pv (i + 1), fun σ' H' p' => ⟨xs.length - (i + 1), by lia, rfl, hlt, p'⟩, fun x H' y => ?_⟩
  obtain ⟨e, y⟩ := y
  subst e
  exact hs i x σ _ hlt y p
 ·have e : i = xs.length := by lia
  subst e
  exact .inl ⟨rfl, hd σ H p⟩
end L2
namespace L2
open PySem PySem.Spec PyProof.Rows
theorem SqT.same {K : QO} {H H' : Hp} {a : Addr} {xs : List V} (h : SqT K H a xs) (e : Af H H') : SqT K H' a xs := by
 rcases h with (h | ⟨o, h⟩) | h
 ·exact .inl (.inl (e _ _ h))
 ·exact .inl (.inr ⟨o, e _ _ h⟩)
 ·exact .inr h
theorem Af.new {H : Hp} {p : Addr} {o : HO} (h : H p = none) : Af H (upd H p o) := fun b u q => by rw [Ak (Aq q h)]; exact q
theorem Af.mv {H H' : Hp} {a : Addr} (h : Af H H') : Mv a H H' := fun b o _ q => h b o q
theorem Paired.get {α β : Type} {F : α → β → Prop} : ∀ {l₁ : List α} {l₂ : List β} {i : Nat} {a : α}, Paired F l₁ l₂ → l₁[i]? = some a → ∃ b, l₂[i]? = some b ∧ F a b
 | _, _, _, _, .nil, e => by simp at e
 | _, _, 0, _, .cons h _, e => by simp at e; subst e; exact ⟨_, rfl, h⟩
 | _, _, i + 1, _, .cons _ t, e => by
   obtain ⟨b, h1, h2⟩ := Paired.get (i := i) t (by simpa using e)
   exact ⟨b, by simpa using h1, h2⟩
theorem Paired.get' {α β : Type} {F : α → β → Prop} : ∀ {l₁ : List α} {l₂ : List β} {i : Nat} {b : β}, Paired F l₁ l₂ → l₂[i]? = some b → ∃ a, l₁[i]? = some a ∧ F a b
 | _, _, _, _, .nil, e => by simp at e
 | _, _, 0, _, .cons h _, e => by simp at e; subst e; exact ⟨_, rfl, h⟩
 | _, _, i + 1, _, .cons _ t, e => by
   obtain ⟨b, h1, h2⟩ := Paired.get' (i := i) t (by simpa using e)
   exact ⟨b, by simpa using h1, h2⟩
theorem Paired.take {α β : Type} {F : α → β → Prop} : ∀ {l₁ : List α} {l₂ : List β} (n : Nat), Paired F l₁ l₂ → Paired F (l₁.take n) (l₂.take n)
 | _, _, 0, _ => by simp; exact .nil
 | _, _, _ + 1, .nil => .nil
 | _, _, n + 1, .cons h t => .cons h (Paired.take n t)
theorem Paired.append {α β : Type} {F : α → β → Prop} {l₁ l₁' : List α} {l₂ l₂' : List β} (a : Paired F l₁ l₂) (b : Paired F l₁' l₂') : Paired F (l₁ ++ l₁') (l₂ ++ l₂') := by
 induction a with
 | nil => exact b
 | cons h t ih => exact .cons h ih
theorem Paired.set {α β : Type} {F : α → β → Prop} {a : α} {b : β} (q : F a b) : ∀ {l₁ : List α} {l₂ : List β} (i : Nat), Paired F l₁ l₂ → Paired F (l₁.set i a) (l₂.set i b)
 | _, _, _, .nil => .nil
 | _, _, 0, .cons _ t => .cons q t
 | _, _, i + 1, .cons h t => .cons h (Paired.set q i t)
def AA (K : QO) (H : Hp) (x : V) (q : Rat) : Prop := ∃ r, x = .ref r ∧ SqT K H r [.int q.num, .int q.den]
abbrev Ao (K : QO) (H : Hp) : List V → List Rat → Prop := Paired (AA K H)
theorem AA.of {K : QO} {H : Hp} {r : Addr} {q : Rat} (h : H r = some (nT q)) : AA K H (.ref r) q := ⟨r, rfl, SqT.of h⟩
theorem AA.same {K : QO} {H H' : Hp} {x : V} {q : Rat} (h : AA K H x q) (e : Af H H') : AA K H' x q := by
 obtain ⟨r, rfl, h⟩ := h
 exact ⟨r, rfl, h.same e⟩
theorem Ao.same {K : QO} {H H' : Hp} {xs : List V} {qs : List Rat} (h : Ao K H xs qs) (e : Af H H') : Ao K H' xs qs := Paired.mapP h fun _ _ z => z.same e
theorem SqT.mv {K : QO} {H H' : Hp} {a p : Addr} {xs : List V} (h : SqT K H a xs) (pn : Pen H p) (m : Mv p H H') : SqT K H' a xs := by
 obtain ⟨c0, c1, c2, e⟩ := pn
 rcases h with (h | ⟨o, h⟩) | h
 ·exact .inl (.inl (m _ _ (En h e (fun z => by cases z)) h))
 ·exact .inl (.inr ⟨o, m _ _ (En h e (fun z => by cases z)) h⟩)
 ·exact .inr h
theorem AA.mv {K : QO} {H H' : Hp} {x : V} {q : Rat} {p : Addr} (h : AA K H x q) (pn : Pen H p) (m : Mv p H H') : AA K H' x q := by
 obtain ⟨r, rfl, h⟩ := h
 exact ⟨r, rfl, h.mv pn m⟩
theorem Ao.mv {K : QO} {H H' : Hp} {xs : List V} {qs : List Rat} {p : Addr} (h : Ao K H xs qs) (pn : Pen H p) (m : Mv p H H') : Ao K H' xs qs := Paired.mapP h fun _ _ z => z.mv pn m
theorem SqT.put {K : QO} {H : Hp} {a p : Addr} {xs ys : List V} {o : HO} (h : SqT K H a xs) (hp : H p = some (.lst ys)) : SqT K (upd H p o) a xs := by
 rcases h with (h | ⟨u, h⟩) | h
 ·exact .inl (.inl (by rw [Ak (En h hp (fun z => by cases z))]; exact h))
 ·exact .inl (.inr ⟨u, by rw [Ak (En h hp (fun z => by cases z))]; exact h⟩)
 ·exact .inr h
theorem AA.put {K : QO} {H : Hp} {x : V} {q : Rat} {p : Addr} {ys : List V} {o : HO} (h : AA K H x q) (hp : H p = some (.lst ys)) : AA K (upd H p o) x q := by
 obtain ⟨r, rfl, h⟩ := h
 exact ⟨r, rfl, h.put hp⟩
theorem Ao.put {K : QO} {H : Hp} {xs : List V} {qs : List Rat} {p : Addr} {ys : List V} {o : HO} (h : Ao K H xs qs) (hp : H p = some (.lst ys)) : Ao K (upd H p o) xs qs := Paired.mapP h fun _ _ z => z.put hp
def Crv (K : QO) (H : Hp) (r : Addr) (qs : List Rat) : Prop := ∃ xs, SqT K H r xs ∧ Ao K H xs qs
theorem Crv.same {K : QO} {H H' : Hp} {r : Addr} {qs : List Rat} (h : Crv K H r qs) (e : Af H H') : Crv K H' r qs := let ⟨xs, a, b⟩ := h; ⟨xs, a.same e, b.same e⟩
theorem Crv.mv {K : QO} {H H' : Hp} {r p : Addr} {qs : List Rat} (h : Crv K H r qs) (pn : Pen H p) (m : Mv p H H') : Crv K H' r qs := let ⟨xs, a, b⟩ := h; ⟨xs, a.mv pn m, b.mv pn m⟩
def nD (q : Rat) : PyData := .tuple [.int q.num, .int q.den]
theorem AA.rds {K : QO} {H : Hp} {x : V} {q : Rat} (h : AA K H x q) : Rds K H x (nD q) := by
 obtain ⟨r, rfl, h⟩ := h
 refine .tup h rfl fun i x d e1 e2 => ?_
 match i with
 | 0 => simp at e1 e2; subst e1; subst e2; exact .int _
 | 1 => simp at e1 e2; subst e1; subst e2; exact .int _
 | i + 2 => simp at e1
theorem IQ (p q : Rat) : PyData.eqv (nD p) (nD q) = decide (p = q) := by
 show (p.num == q.num && (((p.den : Int) == (q.den : Int)) && true)) = _
 rw [Bool.and_true, Bool.eq_iff_iff]
 simp only [Bool.and_eq_true, beq_iff_eq, decide_eq_true_eq]
 constructor
 ·rintro ⟨h1, h2⟩
  exact Rat.ext h1 (Int.ofNat.inj h2)
 ·rintro rfl
  exact ⟨rfl, rfl⟩
theorem DT : ∀ ps qs : List Rat, PyData.eqvAll (ps.map nD) (qs.map nD) = decide (ps = qs)
 | [], [] => rfl
 | [], _ :: _ => rfl
 | _ :: _, [] => rfl
 | p :: ps, q :: qs => by
   show (PyData.eqv (nD p) (nD q) && PyData.eqvAll (ps.map nD) (qs.map nD)) = _
   rw [IQ, DT ps qs, Bool.eq_iff_iff]
   simp
theorem Ec (q : Rat) : SeqAt.shaped (nD q) = true := by rfl
theorem Ao.rds {K : QO} {H : Hp} {xs : List V} {qs : List Rat} (h : Ao K H xs qs) : ∀ (i : Nat) x d, xs[i]? = some x → (qs.map nD)[i]? = some d → Rds K H x d := fun i x d e1 e2 => by
 obtain ⟨q, hq, hn⟩ := Paired.get h e1
 rw [Rl, hq] at e2
 cases e2
 exact hn.rds
theorem Ao.rdsT {K : QO} {H : Hp} {r : Addr} {xs : List V} {qs : List Rat} (h : Ao K H xs qs) (s : SqT K H r xs) : Rds K H (.ref r) (.tuple (qs.map nD)) := .tup s (by rw [h.length, Rp]) h.rds
theorem Ao.rdsL {K : QO} {H : Hp} {r : Addr} {xs : List V} {qs : List Rat} (h : Ao K H xs qs) (s : SqL K H r xs) : Rds K H (.ref r) (.list (qs.map nD)) := .lst s (by rw [h.length, Rp]) h.rds
theorem DS : ∀ qs : List Rat, PyData.canLayAll0 (qs.map nD) = true
 | [] => rfl
 | q :: r => by
   show (PyData.canLay0 (nD q) && PyData.canLayAll0 (r.map nD)) = true
   rw [DS r]; rfl
theorem CD : ∀ qs : List Rat, PyData.depthAll (qs.map nD) ≤ 1
 | [] => R5 _
 | q :: r => by
   have ih := CD r
   show max (PyData.depth (nD q)) (PyData.depthAll (r.map nD)) ≤ 1
   exact Nat.max_le.mpr ⟨R3 _, ih⟩
theorem GW (qs : List Rat) : SeqAt.shaped (.list (qs.map nD)) = true := by
 show (PyData.canLayAll0 (qs.map nD) && decide (PyData.depthAll (qs.map nD) + 1 ≤ 64)) = true
 rw [DS, Bool.true_and]
 exact decide_eq_true (by have := CD qs; lia)
theorem eqN {K : QO} {H : Hp} {x y : V} {p q : Rat} {Q : VK} {neg : Bool} (h1 : AA K H x p) (h2 : AA K H y q) (h : Q (.bl (if neg then !decide (p = q) else decide (p = q))) H) : Er K neg x y H Q :=
 He ⟨_, _, h1.rds, h2.rds, Ec _, Ec _, by rw [IQ]; exact h⟩
theorem eqL {K : QO} {H : Hp} {a b : Addr} {xs ys : List V} {ps qs : List Rat} {Q : VK} {neg : Bool} (s1 : SqL K H a xs) (n1 : Ao K H xs ps) (s2 : SqL K H b ys) (n2 : Ao K H ys qs) (h : Q (.bl (if neg then !decide (ps = qs) else decide (ps = qs))) H) : Er K neg (.ref a) (.ref b) H Q := by
 refine He ⟨_, _, n1.rdsL s1, n2.rdsL s2, GW _, GW _, ?_⟩
 have e : PyData.eqv (.list (ps.map nD)) (.list (qs.map nD)) = decide (ps = qs) := DT ps qs
 rw [e]; exact h
theorem MF {c : TT} {tb : TS} {D : CI} {σ : St} {H : Hp} (Pv : St → Hp → Prop) (μ : St → Hp → Nat) (h0 : Pv σ H)
 (hs : ∀ σ H, Pv σ H → c σ H fun b H1 => if b = true then ∃ N : St → Hp → Prop, (∀ σ' H', N σ' H' → ∃ m', m' < μ σ H ∧ (m' = μ σ' H' ∧ Pv σ' H')) ∧ tb { D with nx := N, ct := N, bk := D.nx } σ H1 else D.nx σ H1) : IB c tb D σ H := by
 refine ⟨fun m σ H => m = μ σ H ∧ Pv σ H, ⟨_, rfl, h0⟩, ?_⟩
 rintro m σ H ⟨rfl, p⟩
 exact hs σ H p
theorem ME {tb : TS} {D : CI} {σ : St} {H1 : Hp} {m : Nat} {Pv : St → Hp → Prop} {μ : St → Hp → Nat}
 (h : tb { D with nx := fun σ' H' => Pv σ' H' ∧ μ σ' H' < m, ct := fun σ' H' => Pv σ' H' ∧ μ σ' H' < m, bk := D.nx } σ H1) :
 ∃ N : St → Hp → Prop, (∀ σ' H', N σ' H' → ∃ m', m' < m ∧ (m' = μ σ' H' ∧ Pv σ' H')) ∧ tb { D with nx := N, ct := N, bk := D.nx } σ H1 :=
 ⟨_, fun _ _ ⟨p, l⟩ => ⟨_, l, rfl, p⟩, h⟩
def RB (n : Nat) (q : Rat) : Prop := Bd n q.num ∧ Bd n (q.den : Int)
theorem Bd.mul {m n : Nat} {x y : Int} (h1 : Bd m x) (h2 : Bd n y) : Bd (m + n) (x * y) := by
 unfold Bd at *
 rw [Int.natAbs_mul, Nat.pow_add]
 exact Nat.mul_lt_mul'' h1 h2
theorem Bd.add {n : Nat} {x y : Int} (h1 : Bd n x) (h2 : Bd n y) : Bd (n + 1) (x + y) := by
 unfold Bd at *
 rw [Nat.pow_succ, Nat.mul_two]
 exact RH (Int.natAbs_add_le x y) (Nat.add_lt_add h1 h2)
theorem Bd.sub {n : Nat} {x y : Int} (h1 : Bd n x) (h2 : Bd n y) : Bd (n + 1) (x - y) := by
 rw [Int.sub_eq_add_neg]
 exact Bd.add h1 (by unfold Bd; rw [Int.natAbs_neg]; exact h2)
theorem Bd.fdiv {n : Nat} {x y : Int} (h : Bd n x) : Bd n (x.fdiv y) := RH (PySem.natAbs_fdiv_le x y) h
theorem Bp.bd {m n : Nat} {x y : Int} (h1 : Bd m x) (h2 : Bd n y) (h : m + n ≤ 134217728 := by lia) : Bp x y := .inr (.inr ⟨m, n, h1, h2, h⟩)
theorem RB.mono {m n : Nat} {q : Rat} (h : RB m q) (hmn : m ≤ n) : RB n q := ⟨h.1.mono hmn, h.2.mono hmn⟩
theorem RB.div {m n : Nat} {t b : Int} (h1 : Bd n t) (h2 : Bd n b) (hb : b ≠ 0) : RB n (RM t b) := ⟨Bd.num h1, Bd.den hb h2⟩
theorem Hu : ∀ {us : List Value} {xs : List V}, us.map Ke = xs.map some → (∀ u ∈ us, ∀ x, Ke u = some x → AC x u) → Az xs us
 | [], [], _, _ => .nil
 | [], _ :: _, e, _ => by simp at e
 | _ :: _, [], e, _ => by simp at e
 | u :: us, x :: xs, e, h => by
   simp only [RG, List.cons.injEq] at e
   exact .cons (h u QS x e.1) (Hu e.2 fun v hv => h v (QT _ hv))
theorem LD {u : Value} {x : V} (h : Ke u = some x) : AC x u := by
 cases u <;> first | (cases h; rfl) | (cases h; exact ⟨_, rfl⟩) | cases h
theorem K9 {K : QO} {H : Hp} {a : Addr} {o : Obj} {vs : Array Value} {n : Nat} {q : Rat} (hk : K.lookup a = some o) (hc : o.cls = .type "tuple") (hd : o.data = .seq vs n) (e : vs.toList.map Ke = [some (.int q.num), some (.int (q.den : Int))]) : SqT K H a [.int q.num, .int q.den] := by
 refine .inr ⟨o, vs, n, hk, hc, hd, ?_, Hu e fun u _ x h => LD h⟩
 have hl := congrArg List.length e
 simp at hl
 rw [hl]; decide
theorem RB.plus {m n : Nat} {p q : Rat} (h1 : RB m p) (h2 : RB n q) : RB (m + n + 1) (p + q) := by
 rw [← Nm.plus_eq]
 refine ⟨Bd.num (Bd.add (h1.1.mul h2.2) ((h2.1.mul h1.2).mono (by lia))), Bd.den (RT (Nm.den_ne p) (Nm.den_ne q)) ((h1.2.mul h2.2).mono (by lia))⟩
theorem RB.minus {m n : Nat} {p q : Rat} (h1 : RB m p) (h2 : RB n q) : RB (m + n + 1) (p - q) := by
 rw [← Nm.minus_eq]
 refine ⟨Bd.num (Bd.sub (h1.1.mul h2.2) ((h2.1.mul h1.2).mono (by lia))), Bd.den (RT (Nm.den_ne p) (Nm.den_ne q)) ((h1.2.mul h2.2).mono (by lia))⟩
theorem RB.times {m n : Nat} {p q : Rat} (h1 : RB m p) (h2 : RB n q) : RB (m + n) (p * q) := by
 rw [← Nm.times_eq]
 exact ⟨Bd.num (h1.1.mul h2.1), Bd.den (RT (Nm.den_ne p) (Nm.den_ne q)) (h1.2.mul h2.2)⟩
theorem RB.zero {n : Nat} (h : 1 ≤ n) : RB n 0 := ⟨(show Bd 1 0 by unfold Bd; decide).mono h, (show Bd 1 1 by unfold Bd; decide).mono h⟩
theorem RB.one {n : Nat} (h : 1 ≤ n) : RB n 1 := ⟨(show Bd 1 1 by unfold Bd; decide).mono h, (show Bd 1 1 by unfold Bd; decide).mono h⟩
inductive C5 (K : QO) (g : Rat → Rat → Rat) (vs : List V) (H : Hp) (Q : VK) (E_3 : XK) : Prop
 | mk (x y : V) (p q : Rat) (m n : Nat) (h1 : vs = [x, y]) (h2 : AA K H x p) (h3 : AA K H y q) (h4 : RB m p) (h5 : RB n q) (h6 : m + n ≤ 100000000) (h7 : ∀ r, H r = none → Q (.ref r) (upd H r (nT (g p q)))) : C5 K g vs H Q E_3
end L2
namespace L2
open PySem PySem.Spec PyProof.Rows
def Sq (b : Bool) (K : QO) (H : Hp) (a : Addr) (xs : List V) : Prop := match b with
 | true => SqL K H a xs
 | false => SqT K H a xs
theorem Sq.same {b : Bool} {K : QO} {H H' : Hp} {a : Addr} {xs : List V} (h : Sq b K H a xs) (e : Af H H') : Sq b K H' a xs := by
 cases b
 ·exact SqT.same h e
 ·exact e.seq h
theorem JQ {X : Cx} {tg l : Expr} {w1 w2 : TI} (h1 : PI X tg l w1) (h2 : PI X tg l w2) : PI X tg l (fun σ H R => w1 σ H R ∨ w2 σ H R) := fun pins s σ H R I h => by
 rcases h with h | h
 ·exact h1 pins s σ H R I h
 ·exact h2 pins s σ H R I h
abbrev NP (K : QO) (tl : TE) : TI := fun σ H R => Lf K tl σ H R ∨ NO K tl σ H R
theorem Jw {K : QO} {b : Bool} {a : Addr} {n : Nat} {xs : List V} {g : TG} {tb : TS} {D : CI} {σ : St} {H : Hp} (hσ : σ[n]? = some (some (.ref a))) (Pv : Nat → St → Hp → Prop) (h0 : Pv 0 σ H) (hl : ∀ i σ H, i ≤ xs.length → Pv i σ H → Sq b K H a xs)
 (hs : ∀ i x σ H, xs[i]? = some x → Pv i σ H → g x σ H fun σ2 H2 => tb { D with nx := Pv (i + 1), ct := Pv (i + 1), bk := D.nx } σ2 H2) (hd : ∀ σ H, Pv xs.length σ H → D.nx σ H) :
 MZ (NP K (Kq n)) g tb D σ H := by
 have q := hl 0 σ H (R5 _) h0
 cases b with
 | true => exact .inl ⟨_, hσ, a, rfl, ⟨xs, q⟩, Id Pv h0 hl hs hd⟩
 | false => exact .inr ⟨_, hσ, a, rfl, ⟨xs, q⟩, EH Pv h0 hl hs hd⟩
theorem KY {K : QO} {b : Bool} {a : Addr} {n : Nat} {js : List Nat} {xs : List V} {te : TE} {σ : St} {H : Hp} {Q : VK} (hσ : σ[n]? = some (some (.ref a))) (Pv : Nat → List V → Hp → Prop) (h0 : Pv 0 [] H)
 (hl : ∀ i zs H, i ≤ xs.length → Pv i zs H → Sq b K H a xs ∧ zs.length = i) (hz : xs.length ≤ sizeLine)
 (hs : ∀ i x zs H, xs[i]? = some x → Pv i zs H → te ((cS 1 js σ).set 0 (some x)) H fun y H4 => Pv (i + 1) (zs ++ [y]) H4) (fin : ∀ zs H', Pv xs.length zs H' → ∀ p, H' p = none → Q (.ref p) (upd H' p (.lst zs))) :
 tLC (NP K (Kq n)) 1 js (C9 0) JN te σ H Q := by
 have q := (hl 0 [] H (R5 _) h0).1
 cases b with
 | true =>
   refine C7 (.inl ⟨_, hσ, a, rfl, ⟨xs, q⟩, xs.length, Pv, h0, ⟨?_, ?_, ?_⟩⟩)
   ·intro i zs H' hi p
    have hle := QQ hi
    obtain ⟨h1, h2⟩ := hl i zs H' hle p
    exact ⟨⟨xs, xs[i], h1, by simp [hi]⟩, by lia⟩
   ·rintro i zs H' x H1 hi p ⟨rfl, y⟩
    have hle := QQ hi
    have hx := y xs (hl i zs _ hle p).1
    exact hs i x zs _ hx p
   ·intro zs H' p
    have hle := R3 xs.length
    obtain ⟨h1, h2⟩ := hl _ zs H' hle p
    exact ⟨⟨xs, h1, R3 _⟩, by lia, fin zs H' p⟩
 | false =>
   refine C7 (.inr ⟨_, hσ, a, rfl, ⟨xs, q⟩, xs.length, Pv, h0, ⟨?_, ?_, ?_⟩⟩)
   ·intro i zs H' hi p
    have hle := QQ hi
    obtain ⟨h1, h2⟩ := hl i zs H' hle p
    exact ⟨⟨xs, xs[i], h1, by simp [hi]⟩, by lia⟩
   ·rintro i zs H' x H1 hi p ⟨rfl, y⟩
    have hle := QQ hi
    have hx := y xs (hl i zs _ hle p).1
    exact hs i x zs _ hx p
   ·intro zs H' p
    have hle := R3 xs.length
    obtain ⟨h1, h2⟩ := hl _ zs H' hle p
    exact ⟨⟨xs, h1, R3 _⟩, by lia, fin zs H' p⟩
section
variable {X : Cx} (K : QO)
theorem ixT (e : X.K = K := by rfl) : IxR X (N9 K) := by subst e; exact NK
theorem ixL (e : X.K = K := by rfl) : IxR X (Na K) := by subst e; exact Mq
theorem eqD (hu : X.A.units + 64 < cLine) (e : X.K = K := by rfl) : OpR X (compareOp .Eq) (Er K false) := by subst e; exact No hu
theorem neD (hu : X.A.units + 64 < cLine) (e : X.K = K := by rfl) : OpR X (compareOp .NotEq) (Er K true) := by subst e; exact Nn hu
theorem Nt (e : X.K = K := by rfl) : OpR X (compareOp .NotIn) (rIn K true) := by subst e; exact GJ
theorem slL (e : X.K = K := by rfl) : SlR X (N8 K) := by subst e; exact LY
inductive TyX (K : QO) (H : Hp) : V → Value → Prop where
 | of {x : V} {t : Value} (h : Eg K H x t) : TyX K H x t
 | tup {a : Addr} {xs : List V} (h : SqT K H a xs) : TyX K H (.ref a) (.type "tuple")
 | lst {a : Addr} {xs : List V} (h : SqL K H a xs) : TyX K H (.ref a) (.type "list")
inductive Ox (xs : List V) (H : Hp) (Q : VK) : Prop
 | mk (x : _) (T : _) (t : _) (b : _) (h1 : xs = [x, .ty T]) (h2 : TyX K H x t) (h3 : R9 K t (.type T) = some b) (h4 : Q (.bl b) H) : Ox xs H Q
theorem Oo (e : X.K = K := by rfl) : CJ X (.builtin "isinstance") (Ox K) := by
 subst e
 intro pins s σ H xs us Q I r h
 obtain ⟨x, T, t, b, rfl, ty, e, q⟩ := h
 obtain ⟨u, w', rfl, rx, rT⟩ := MG r
 cases rT
 cases ty with
 | of ty => exact K5 I rx ty e fun tk => ⟨.bl b, H, I.tok _, rfl, q⟩
 | tup hq =>
   cases rx
   obtain ⟨its, rv, ⟨o, e1, c, _⟩, _⟩ := I.tuple hq
   exact Ra PySem.W.kitx_tuple I.kIn ⟨o, e1, c⟩ e (fun z => nomatch z) fun tk => ⟨.bl b, H, I.tok _, rfl, q⟩
 | lst hq =>
   cases rx
   obtain ⟨its, rv, ⟨o, n, e1, c, _⟩, _⟩ := I.list hq
   exact Ra Rb I.kIn ⟨o, e1, c⟩ e (fun z => nomatch z) fun tk => ⟨.bl b, H, I.tok _, rfl, q⟩
inductive Ow (xs : List V) (H : Hp) (Q : VK) : Prop
 | mk (p : _) (ys : _) (h1 : xs = [.ref p]) (h2 : (SqL K H p ys ∨ SqT K H p ys)) (h3 : Q (.int ys.length) H) : Ow xs H Q
theorem BO (e : X.K = K := by rfl) : CJ X (.builtin "len") (Ow K) := by subst e; exact fun pins s σ H xs us Q I r ⟨p, ys, h1, h2, h3⟩ => Hj pins s σ H xs us Q I r ⟨p, ys, h1, h2, h3⟩
inductive MR (xs : List V) (H : Hp) (Q : VK) : Prop
 | mk (p : _) (ys : _) (h1 : xs = [.ref p]) (h2 : (SqL K H p ys ∨ SqT K H p ys)) (h3 : ∀ l, H l = none → Q (.ref l) (upd H l (.lst ys))) : MR xs H Q
theorem MN (e : X.K = K := by rfl) : CJ X (.type "list") (MR K) := by subst e; exact fun pins s σ H xs us Q I r ⟨p, ys, h1, h2, h3⟩ => Hi pins s σ H xs us Q I r ⟨p, ys, h1, h2, h3⟩
inductive Lv (xs : List V) (H : Hp) (Q : VK) : Prop
 | mk (p : _) (ys : _) (h1 : xs = [.ref p]) (h2 : ((SqL K H p ys ∧ ∀ l, H l = none → Q (.ref l) (upd H l (.tup ys))) ∨ (SqT K H p ys ∧ Q (.ref p) H))) : Lv xs H Q
theorem EK (e : X.K = K := by rfl) : CJ X (.type "tuple") (Lv K) := by subst e; exact fun pins s σ H xs us Q I r ⟨p, ys, h1, h2⟩ => FJ pins s σ H xs us Q I r ⟨p, ys, h1, h2⟩
variable {tg l : Expr} {tl : TE}
theorem piL (hl : PE X l tl) (e : X.K = K := by rfl) : PI X tg l (Lf K tl) := by subst e; exact Jh hl
theorem piT (hl : PE X l tl) (e : X.K = K := by rfl) : PI X tg l (NO K tl) := by subst e; exact KL hl
theorem piS (hl : PE X l tl) (e : X.K = K := by rfl) : PI X tg l (NP K tl) := by subst e; exact JQ (Jh hl) (KL hl)
theorem Og {p pos : Pos} (hg : Gl X "reversed") (hm : X.mg "reversed" = none) (hl : PE X l tl) (hs : starEach [l] X.env = [(false, eval l X.env)] := by rfl) (e : X.K = K := by rfl) : PI X tg (.Call (.Name "reversed" p) [l] [] pos) (Os K tl) := by subst e; exact Ng hg hm hl hs
theorem pgT {es : List Expr} {k : Nat} {t : TGs} {n : Nat} {pos : Pos} (hc : X.calm = true) (h : PGs X es t) (hn : (assignEach es X.env).length = n := by rfl) (hst : (assignEach es X.env).findIdx? (·.1) = none := by rfl) (e : X.K = K := by rfl) : PG X (.Tuple es k pos) (K8 K n t) := by subst e; exact Nh hc h hn hst
end
end L2
namespace L2
open PySem PySem.Spec PyProof.Rows
inductive LF (K : QO) (H : Hp) : V → Bool → Prop where
 | int (i : Int) : LF K H (.int i) true
 | bl (b : Bool) : LF K H (.bl b) false
 | oth {x : V} {t : Value} (ty : TyX K H x t) (h : R9 K t (.type "int") = some false) : LF K H x false
theorem ND (K : QO) : R9 K (.type "tuple") (.type "tuple") = some true := by kernel_rfl
theorem GY {lo : Int} {n : Nat} {js : List Nat} {te : TE} {σ : St} {H : Hp} {Fin : List V → Hp → Prop} (Pv : Nat → List V → Hp → Prop) (h0 : Pv 0 [] H) (hl : ∀ i zs H, i ≤ n → Pv i zs H → zs.length = i) (hz : n ≤ sizeLine)
 (hs : ∀ i zs H, i < n → Pv i zs H → te ((cS 1 js σ).set 0 (some (.int (lo + i)))) H fun y H4 => Pv (i + 1) (zs ++ [y]) H4) (fin : ∀ zs H', Pv n zs H' → Fin zs H') :
 ∃ (n' : Nat) (W : Nat → List V → Hp → Prop), W 0 [] H ∧ LcW (Itr lo n) n' 1 js σ (C9 0) JN te Fin W := by
 refine ⟨n, Pv, h0, ⟨?_, ?_, ?_⟩⟩
 ·intro i zs H' hi p
  have := hl i zs H' (QQ hi) p
  exact ⟨hi, by lia⟩
 ·rintro i zs H' x H1 hi p ⟨rfl, rfl⟩
  exact hs i zs _ hi p
 ·intro zs H' p
  have := hl n zs H' (R3 _) p
  exact ⟨R3 _, by lia, fin zs H' p⟩
theorem Ip {α : Type} {xs : List α} {v : α} (h : xs[xs.length - 1]? = some v) : atI xs (-1) = some v := by
 have hl : xs.length - 1 < xs.length := (QX.mp h).1
 have e : ixN xs.length (-1) = some (xs.length - 1) := by
  unfold ixN
  rw [if_neg (by decide), if_pos (by lia)]
  congr 1
  lia
 unfold atI
 rw [e]
 exact h
def Cn (qs : List Rat) : Prop := qs = [] ∨ ∃ q, qs[qs.length - 1]? = some q ∧ q ≠ 0
theorem BW (qs : List Rat) : Cn (Cv.strip qs) := by
 by_cases h : Cv.strip qs = []
 ·exact .inl h
 ·have hl : 0 < (Cv.strip qs).length := RZ.mpr h
  have e := Si (l := Cv.strip qs) (i := (Cv.strip qs).length - 1) (by lia)
  refine .inr ⟨_, e, fun z => Cv.strip_last qs h ?_⟩
  rw [e, z]
theorem Pen.sm {H H' : Hp} {p : Addr} (h : Pen H p) (e : Af H H') : Pen H' p := let ⟨c0, c1, c2, z⟩ := h; ⟨c0, c1, c2, e _ _ z⟩
theorem HA {K : QO} {H : Hp} {x : V} {q : Rat} (h : AA K H x q) : ∀ n : Nat, Ao K H (Rg n [x]).flatten (Rg n q)
 | 0 => .nil
 | n + 1 => by
   rw [Rz, RA, Rz]
   exact .cons h (HA h n)
theorem E1 {ns : List Int} {i : Nat} {t : Int} {k : Int} (h : ns[i]? = some t) (e : k = (i : Int)) : atI (ns.map V.int) k = some (.int t) := by
 subst e
 exact AT (by rw [Rl, h]; rfl)
theorem HZ {n i : Nat} {k : Int} (h : i < n) (e : k = (i : Int)) : ixN n k = some i := by
 subst e
 unfold ixN
 rw [if_pos (by lia), if_pos (by lia), Rt]
theorem Af.put {H H' : Hp} {p : Addr} {o : HO} (h : Af H H') (hp : H p = none) : Af H (upd H' p o) := fun b u q => by rw [Ak (Aq q hp)]; exact h b u q
def Up (c M : Nat) (t : Int) : Prop := t.natAbs ≤ c * 2 ^ M
theorem Up.bd {c k M : Nat} {t : Int} (h : Up c M t) (hc : c < 2 ^ k) : Bd (M + k) t := by
 unfold Up at h
 unfold Bd
 rw [Nat.pow_add, RF (2 ^ M)]
 exact RH h (Nat.mul_lt_mul_of_pos_right hc (Nat.pow_pos (by decide)))
theorem Up.add {c M : Nat} {t d : Int} (h : Up c M t) (hd : Bd M d) : Up (c + 1) M (t + d) := by
 unfold Up at *
 unfold Bd at hd
 rw [Sl, Sm]
 exact QP (Int.natAbs_add_le t d) (Nat.add_le_add h (QQ hd))
theorem Up.mono {c c' M : Nat} {t : Int} (h : Up c M t) (hc : c ≤ c') : Up c' M t := QP h (Nat.mul_le_mul_right _ hc)
end L2
namespace L2
open PySem PySem.Spec PyProof.Rows
def CX1 (P : Program) (w : World) : CXT := fun outer H s E e s' => ∃ (ea : Addr) (cls a0 : Value) (B : Heap) (H' : Hp), e = .ref ea ∧ s'.os = s.os ∧ AllBare s'.gens ∧ Un (frs outer) [] H H' s.heap s'.heap ∧ HOk P w H' s'.heap ∧
 Heap.FlyingW B outer ea cls a0 s'.heap ∧ (∀ b o, s.heap.get? b = some o → b ∉ frs outer → ∃ o', B.get? b = some o') ∧ (∀ b u, H' b = some u → ∃ o', B.get? b = some o') ∧ E cls none H'
section
variable {X : Cx} {pins : List (Addr × Obj)} {σ : St} {H H' : Hp} {s s' : Shared} {B : Heap}
end
section
variable {P : Program} {w : World} {K : QO} {mg : Str → Option Value} {base : Heap} {N : List Str} {qual : Str} {scope : Scope} {f : Addr} {cd : Value} {A : Around} {outer : List Env} {s : Shared} {H : Hp} {E : XK}
end
structure XCls (K : QO) (x : Str) (C : Addr) : Prop where
 ns : Sn K mainGlobals x = some (some (.ref C))
 ob : ∃ bm N nm q bs hdct sn sub ab col dd k0 k1 k2 k3 k5, K.lookup C = some (excClassObj nm q C N bs bm hdct sn sub ab col dd k0 k1 k2 k3 k5 "ValueError.__new__")
 ex : PySem.W.excIn K C [.type "ValueError", .type "Exception", .type "BaseException", .type "object"] "ValueError.__new__" = true
section
variable {X : Cx} {pins : List (Addr × Obj)} {σ : St} {H H' : Hp} {s s' : Shared} {B : Heap}
end
section
open PySem.W PySem.Builtin PySem.Builtin.ObjectAttr PySem.Builtin.Getset_descriptor
variable {prog : Program} {w : World} {A : Around} {E : Value → Shared → Prop} {s : Shared} {K : QO} {x D : Addr}
structure XTy (K : QO) (D : Addr) : Prop where
 ga : findIn K (.ref D) "__getattribute__" = some (some (.builtin "BaseException.__getattribute__"))
 gt : findIn K (.ref D) "__getattr__" = some none
 ca : findIn K (.ref D) "__class__" = some (some (.builtin "object.__class__"))
 gg : specialIn K (.builtin "object.__class__") "__get__" = some (some (.builtin "getset_descriptor.__get__"))
 tk : takesIn K (.builtin "object.__class__") = some true
 ob : mroIn K D (.type "object") = some true
 be : mroIn K D (.type "BaseException") = some true
 cl : ∃ c d cd sl, K.lookup D = some ⟨c, d, .cls cd, sl⟩
end
section
open PySem.W
variable {X : Cx} (K : QO)
end
section
variable {P : Program} {w : World} {K : QO} {mg : Str → Option Value} {base : Heap}
end
structure FdX (P : Program) (w : World) (K : QO) (mg : Str → Option Value) (base : Heap) (n : Nat) (x : Str) (ps : List Str) (sp : Sp) : Prop where
 ex : ∃ (f : Addr) (fd : FuncData), AE P w K mg base (CX1 P w) n f fd ps sp ∧ C2 K fd ps [] ∧ R8 K (.ref f) = true ∧ mg x = some (.ref f)
end L2
namespace L2
open PySem PySem.Spec PyProof.Rows
def Itd (lo : Int) (n : Nat) : It := ⟨fun i _ => i < n, fun i H x H' => H' = H ∧ x = .int (lo - i), fun i _ => n ≤ i⟩
theorem JK {P : Program} {w : World} {K : QO} {tg : Expr} (it : Addr) (lo : Int) (n : Nat) : Is P w K tg (Itd lo n) [it] it (fun i h => IsRangeIter h it (lo + (i : Nat) * (-1)) ((n : Int) - (i : Nat)) (-1)) where
 mem := by simp
 obj := fun i h st b hb => by
  have e : b = it := by simpa using hb
  subst e
  exact ⟨_, st, fun v z => by
   have z' : Data.fields _ = Data.cell v := z
   cases z'⟩
 keep := fun i h h' st k => k it (by simp) _ st
 item := by
  intro X hP hw hK hc i pins s σ H E I hf st hg
  subst hP hw hK
  obtain ⟨f0, f1, f2, f3, f4, f5⟩ := hf it (by simp)
  refine (Walks.range (prog := X.prog) (w := X.w) (I.ok.hd hc) it lo (-1) n).item i s _ _ hg st fun v h' tk hv st' kk => ?_
  obtain ⟨t, rfl⟩ := hv
  have I1 : Inv X pins σ H { s with heap := h', toks := tk } := I.turned (fun b o hb e => kk b o (by simpa using hb) e) f0 f1 f3 f4 f5
  refine ⟨_, rfl, Ic (s := { s with heap := h', toks := tk }) (n := "range_iterator") st' rfl rfl (by decide) ⟨.int (lo - i), H, I1, ⟨t, ?_⟩, ⟨rfl, rfl⟩, st', fun b hb => (hf b hb).1⟩⟩
  rw [show lo + (i : Int) * -1 = lo - i by lia]
 done := by
  intro X hP hw hK hc i pins s σ H E I hf st hg
  subst hP hw hK
  obtain ⟨f0, f1, f2, f3, f4, f5⟩ := hf it (by simp)
  exact wpAny_pyNext_range_end (I.ok.hd hc) st (by have : n ≤ i := hg; lia) fun h' eb => ⟨rfl, I.turned (t' := s.toks) (fun b o hb e => eb b o hb e) f0 f1 f3 f4 f5⟩
 self := fun _ _ _ _ _ st h => wpAny_pyIter_rangeiter st h
theorem FU (a b : Int) : Builtin.Range.rangeSize a b (-1) = (((a - b).toNat : Nat) : Int) := by
 unfold Builtin.Range.rangeSize
 rw [if_neg (by decide)]
 split
 ·rw [show -(-1 : Int) = 1 by decide, Int.ediv_one]; lia
 ·lia
section
variable {X : Cx} {tg : Expr}
def Ot (ta : TA) : TI := fun σ H R => ta σ H fun vs H1 => ∃ i j : Int, vs = [.int i, .int j, .int (-1)] ∧ (-1000000 ≤ i ∧ i ≤ 1000000 ∧ -1000000 ≤ j ∧ j ≤ 1000000) ∧ R (Itd i (i - j).toNat) H1
theorem Mb {a b c : Expr} {ta : TA} {p pos : Pos} (hg : Gl X "range") (hm : X.mg "range" = none) (ha : PA X [a, b, c] ta) (hs : starEach [a, b, c] X.env = [(false, eval a X.env), (false, eval b X.env), (false, eval c X.env)] := by rfl)
 (hs2 : starEach [b, c] X.env = [(false, eval b X.env), (false, eval c X.env)] := by rfl) : PI X tg (.Call (.Name "range" p) [a, b, c] [] pos) (Ot ta) := by
 intro pins s σ H R I h
 refine Call_ (Cu I hg hm boot_range (PyProof.Rows.callWith_type1 (thn (ha pos pins s σ H _ I h) fun us s1 ⟨vs, H1, I1, r1, q1⟩ => ?_) (by rw [hs, hs2]) (by rw [hs2]; rfl)))
 obtain ⟨i, j, e, ⟨q1, q2, q3, q4⟩, q⟩ := q1
 subst e
 cases r1 with
 | cons r rr =>
   cases rr with
   | cons r' rr =>
     cases rr with
     | cons r3 rr =>
       cases rr
       obtain ⟨t, rfl⟩ := r
       obtain ⟨t', rfl⟩ := r'
       obtain ⟨t3, rfl⟩ := r3
       have sm : Builtin.Range.small i j (-1) = true := by
        unfold Builtin.Range.small
        rw [FU]
        simp only [Builtin.Range.rangeFitsLong, Bool.and_eq_true, Bool.or_eq_true, decide_eq_true_eq, beq_iff_eq]
        rw [if_neg (by decide)]
        simp only [Bool.and_eq_true, decide_eq_true_eq]
        lia
       refine call_range_3 (by decide) ?_ (.inl (PyProof.noPylong_small (by lia)))
       refine wpAny_pyIter_range (IsRange.new ..) sm ?_
       have I2 : Inv X pins σ H1 { s1 with heap := s1.heap.push { cls := .type "range", data := .fields #[.int i t, .int j t', .int (-1) t3] }, toks := s1.toks } := I1.kept fun b o e => Heap.get?_push_of_some _ e
       refine ⟨_, [_], _, _, H1, rfl, I2.kept (t' := s1.toks) fun b o e => Heap.get?_push_of_some _ e, JK _ i (i - j).toNat, ?_, fun b hb => ?_, q⟩
       ·show IsRangeIter _ _ (i + ((0 : Nat) : Int) * (-1)) ((((i - j).toNat : Nat) : Int) - ((0 : Nat) : Int)) (-1)
        rw [show i + ((0 : Nat) : Int) * (-1) = i by lia, show (((i - j).toNat : Nat) : Int) - ((0 : Nat) : Int) = Builtin.Range.rangeSize i j (-1) by rw [FU]; lia]
        exact Heap.get?_push_size _ rfl
       ·have e := Sh.mp hb
        subst e
        exact I2.fpOk (R3 _) (I2.hok.fresh (R3 _))
end
theorem Lm {lo : Int} {n : Nat} {g : TG} {tb : TS} {D : CI} {σ : St} {H : Hp} (Pv : Nat → St → Hp → Prop) (h0 : Pv 0 σ H)
 (hs : ∀ i σ H, i < n → Pv i σ H → g (.int (lo - i)) σ H fun σ2 H2 => tb { D with nx := Pv (i + 1), ct := Pv (i + 1), bk := D.nx } σ2 H2) (hd : ∀ σ H, Pv n σ H → D.nx σ H) :
 ∃ W : Nat → Nat → St → Hp → Prop, (∃ m, W 0 m σ H) ∧ ∀ i m σ H, W i m σ H →
   ((Itd lo n).stop i H ∧ D.nx σ H) ∨ ((Itd lo n).go i H ∧ ∃ N : St → Hp → Prop, (∀ σ' H', N σ' H' → ∃ m', m' < m ∧ W (i + 1) m' σ' H') ∧ ∀ x H', (Itd lo n).yld i H x H' → g x σ H' fun σ2 H2 => tb { D with nx := N, ct := N, bk := D.nx } σ2 H2) := by
 refine ⟨fun i m σ H => m = n - i ∧ i ≤ n ∧ Pv i σ H, ⟨n, by simp, R5 _, h0⟩, ?_⟩
 rintro i m σ H ⟨rfl, hi, p⟩
 by_cases hlt : i < n
 ·refine .inr ⟨hlt, Pv (i + 1), fun σ' H' p' => ⟨n - (i + 1), by lia, rfl, hlt, p'⟩, fun x H' y => ?_⟩
  obtain ⟨rfl, rfl⟩ := y
  exact hs i σ _ hlt p
 ·have e : i = n := by lia
  subst e
  exact .inl ⟨R3 _, hd σ H p⟩
theorem Fl {K : QO} {a : Addr} {js : List Nat} {xs : List V} {te : TE} {σ : St} {H : Hp} {Fin : List V → Hp → Prop} (Pv : Nat → List V → Hp → Prop) (h0 : Pv 0 [] H)
 (hl : ∀ i zs H, i ≤ xs.length → Pv i zs H → SqL K H a xs ∧ zs.length = i) (hz : xs.length ≤ sizeLine)
 (hs : ∀ i x zs H, xs[i]? = some x → Pv i zs H → te ((cS 1 js σ).set 0 (some x)) H fun y H4 => Pv (i + 1) (zs ++ [y]) H4) (fin : ∀ zs H', Pv xs.length zs H' → Fin zs H') :
 ∃ (n' : Nat) (W : Nat → List V → Hp → Prop), W 0 [] H ∧ LcW (Itl K a) n' 1 js σ (C9 0) JN te Fin W := by
 refine ⟨xs.length, Pv, h0, ⟨?_, ?_, ?_⟩⟩
 ·intro i zs H' hi p
  obtain ⟨h1, h2⟩ := hl i zs H' (QQ hi) p
  exact ⟨⟨xs, xs[i], h1, by simp [hi]⟩, by lia⟩
 ·rintro i zs H' x H1 hi p ⟨rfl, y⟩
  exact hs i x zs _ (y xs (hl i zs _ (QQ hi) p).1) p
 ·intro zs H' p
  obtain ⟨h1, h2⟩ := hl _ zs H' (R3 _) p
  exact ⟨⟨xs, h1, R3 _⟩, by lia, fin zs H' p⟩
end L2
namespace L2
open PySem PySem.Spec PyProof.Rows
theorem Kx {s BU : TS} {D : CI} {σ : St} {H : Hp} (Pv : St → Hp → Prop) (h : ∀ nx : St → Hp → Prop, (∀ σ' H', Pv σ' H' → nx σ' H') → s { D with nx := nx } σ H) (k : ∀ σ' H', Pv σ' H' → BU D σ' H') : LU s BU D σ H := h _ k
theorem FV {i : Nat} {v : V} {c : TT} {t u BU : TS} {D : CI} {σ : St} {H : Hp} (Pv : St → Hp → Prop) (h : ∀ nx : St → Hp → Prop, (∀ σ' H', Pv σ' H' → nx σ' H') → Kr c t u { D with nx := nx } (σ.set i (some v)) H) (k : ∀ σ' H', Pv σ' H' → BU D σ' H') : C9 i v σ H (LU (Kr c t u) BU D) := h _ k
theorem Bd.neg {n : Nat} {x : Int} (h : Bd n x) : Bd n (-x) := by unfold Bd at *; rw [Int.natAbs_neg]; exact h
theorem M9 {a c b : Rat} (hb : b ≠ 0) (h : a * b = c * b) : a = c := by
 have h2 : a * b * b⁻¹ = c * b * b⁻¹ := by rw [h]
 rw [Rat.mul_assoc, Rat.mul_assoc, Rat.mul_inv_cancel _ hb, Rat.mul_one, Rat.mul_one] at h2
 exact h2
theorem Lq {b : Int} (hb : b ≠ 0) (t : Int) : RM t b * (b : Rat) = (t : Rat) := by
 rw [RQ]
 exact RS (Nm.cast_ne hb)
theorem Jy {b : Int} (hb : b ≠ 0) (x : Rat) : ∀ ts : List Int, Cv.ev (ts.map fun t => RM t b) x * (b : Rat) = Cv.evI ts x
 | [] => by show (0 : Rat) * _ = 0; grind
 | t :: ts => by
   have ih := Jy hb x ts
   have e := Lq hb t
   show (RM t b + x * Cv.ev (ts.map fun t => RM t b) x) * (b : Rat) = (t : Rat) + x * Cv.evI ts x
   rw [← ih, ← e]
   grind
theorem Hf {α : Type} {l : List α} {n i : Nat} {v : α} (hn : l.length = n) (hi : i < n) (h : l[n - 1 - i]? = some v) : l.drop (n - (i + 1)) = v :: l.drop (n - i) := by
 have hlt : n - (i + 1) < l.length := by rw [hn]; exact Nat.sub_lt (RH (R5 _) hi) (So i)
 rw [List.drop_eq_getElem_cons hlt, show n - (i + 1) + 1 = n - i from Nat.succ_pred_eq_of_pos (Nat.sub_pos_of_lt hi)]
 congr 1
 have e : l[n - (i + 1)]? = some v := by rw [show n - (i + 1) = n - 1 - i by rw [Nat.sub_sub, Nat.add_comm]]; exact h
 rw [Si hlt] at e
 exact QF.inj e
theorem Mv.put' {a l : Addr} {H H' : Hp} {o : HO} (m : Mv a H H') (hl : H l = none) : Mv a H (upd H' l o) := fun b u n q => by rw [Ak (Aq q hl)]; exact m b u n q
theorem Pen.put' {H : Hp} {a l : Addr} {o : HO} (h : Pen H a) (la : l ≠ a) : Pen (upd H l o) a := let ⟨x0, x1, x2, ex⟩ := h; ⟨x0, x1, x2, by rw [Ak (Ne.symm la)]; exact ex⟩
theorem Pen.ne' {H : Hp} {a l : Addr} (h : Pen H a) (hl : H l = none) : l ≠ a := let ⟨_, _, _, ex⟩ := h; (Aq ex hl).symm
def O0 (K : QO) (H : Hp) (x : V) (rs : List Rat) : Prop := ∃ a ys, x = .ref a ∧ SqL K H a ys ∧ Ao K H ys rs
abbrev Rows (K : QO) (H : Hp) : List V → List (List Rat) → Prop := Paired (O0 K H)
def rD (rs : List Rat) : PyData := .list (rs.map nD)
theorem O0.rds {K : QO} {H : Hp} {x : V} {rs : List Rat} (h : O0 K H x rs) : Rds K H x (rD rs) := by
 obtain ⟨a, ys, rfl, s, n⟩ := h
 exact n.rdsL s
theorem Je : ∀ ps qs : List (List Rat), PyData.eqvAll (ps.map rD) (qs.map rD) = decide (ps = qs)
 | [], [] => rfl
 | [], _ :: _ => rfl
 | _ :: _, [] => rfl
 | p :: ps, q :: qs => by
   show (PyData.eqv (rD p) (rD q) && PyData.eqvAll (ps.map rD) (qs.map rD)) = _
   have e : PyData.eqv (rD p) (rD q) = decide (p = q) := DT p q
   rw [e, Je ps qs, Bool.eq_iff_iff]
   simp
theorem Jd : ∀ qs : List (List Rat), PyData.canLayAll0 (qs.map rD) = true
 | [] => rfl
 | q :: r => by
   show (PyData.canLayAll0 (q.map nD) && PyData.canLayAll0 (r.map rD)) = true
   rw [DS q, Jd r]; rfl
theorem FY : ∀ qs : List (List Rat), PyData.depthAll (qs.map rD) ≤ 2
 | [] => R5 _
 | q :: r => by
   have ih := FY r
   have iq := CD q
   show max (PyData.depthAll (q.map nD) + 1) (PyData.depthAll (r.map rD)) ≤ 2
   exact Nat.max_le.mpr ⟨by lia, ih⟩
theorem Jc (qs : List (List Rat)) : SeqAt.shaped (.list (qs.map rD)) = true := by
 show (PyData.canLayAll0 (qs.map rD) && decide (PyData.depthAll (qs.map rD) + 1 ≤ 64)) = true
 rw [Jd, Bool.true_and]
 exact decide_eq_true (by have := FY qs; lia)
theorem Rows.rds {K : QO} {H : Hp} {xs : List V} {rss : List (List Rat)} (h : Rows K H xs rss) : ∀ (i : Nat) x d, xs[i]? = some x → (rss.map rD)[i]? = some d → Rds K H x d := fun i x d e1 e2 => by
 obtain ⟨q, hq, hn⟩ := Paired.get h e1
 rw [Rl, hq] at e2
 cases e2
 exact hn.rds
theorem OQ {K : QO} {H : Hp} {a b : Addr} {xs ys : List V} {ps qs : List (List Rat)} {Q : VK} {neg : Bool} (s1 : SqL K H a xs) (n1 : Rows K H xs ps) (s2 : SqL K H b ys) (n2 : Rows K H ys qs) (h : Q (.bl (if neg then !decide (ps = qs) else decide (ps = qs))) H) : Er K neg (.ref a) (.ref b) H Q := by
 refine He ⟨_, _, .lst s1 (by rw [n1.length, Rp]) n1.rds, .lst s2 (by rw [n2.length, Rp]) n2.rds, Jc _, Jc _, ?_⟩
 have e : PyData.eqv (.list (ps.map rD)) (.list (qs.map rD)) = decide (ps = qs) := Je ps qs
 rw [e]; exact h
end L2
namespace L2
open PySem PySem.Spec PyProof.Rows
section
variable {X : Cx}
@[irreducible] def KF (K : QO) (neg : Bool) : R2 := fun x y H Q => ∃ p ds d, y = .ref p ∧ Rds K H (.ref p) (.list ds) ∧ Rds K H x d ∧ SeqAt.shaped (.list ds) = true ∧ SeqAt.shaped d = true ∧ Q (.bl (if neg then !(ds.any fun y => PyData.eqv y d) else ds.any fun y => PyData.eqv y d)) H
theorem NN {K : QO} {neg : Bool} {x y : V} {H : Hp} {Q : VK} (h : ∃ p ds d, y = .ref p ∧ Rds K H (.ref p) (.list ds) ∧ Rds K H x d ∧ SeqAt.shaped (.list ds) = true ∧ SeqAt.shaped d = true ∧ Q (.bl (if neg then !(ds.any fun y => PyData.eqv y d) else ds.any fun y => PyData.eqv y d)) H) : KF K neg x y H Q := by
 unfold KF; exact h
theorem inD (K : QO) {k : Nat} (hr : BT k X.A) (e : X.K = K := by rfl) : OpR X (compareOp .In) (KF K false) := by
 subst e
 intro pins s σ H x y v u Q I rx ry h
 unfold KF at h
 obtain ⟨p, ds, d, rfl, r1, r2, h1, h2, q⟩ := h
 cases ry
 obtain ⟨as, q1⟩ := CB I r1 (u := .ref p) rfl
 obtain ⟨bs, q2⟩ := CB I r2 rx
 exact SeqAt.in_list_reads q1 q2 (SeqAt.canLay_of_shaped h1) (SeqAt.canLay_of_shaped h2) (PyProof.Rows.room_in_shaped h2 (by have := hr.un; lia)) ⟨.bl _, H, I, rfl, q⟩
end
theorem LB (q : Rat) : ∀ qs : List Rat, ((qs.map nD).any fun y => PyData.eqv y (nD q)) = decide (q ∈ qs)
 | [] => by simp
 | c :: r => by
   rw [RG, List.any_cons, IQ, LB q r, Bool.eq_iff_iff]
   simp only [Bool.or_eq_true, decide_eq_true_eq, QU]
   constructor
   ·rintro (h | h)
    ·exact .inl h.symm
    ·exact .inr h
   ·rintro (h | h)
    ·exact .inl h.symm
    ·exact .inr h
theorem inN {K : QO} {H : Hp} {x : V} {a : Addr} {xs : List V} {q : Rat} {qs : List Rat} {Q : VK} {neg : Bool} (h1 : AA K H x q) (s2 : SqL K H a xs) (n2 : Ao K H xs qs) (h : Q (.bl (if neg then !decide (q ∈ qs) else decide (q ∈ qs))) H) : KF K neg x (.ref a) H Q :=
 NN ⟨a, _, _, rfl, n2.rdsL s2, h1.rds, GW _, Ec _, by rw [LB]; exact h⟩
structure Fv where
 x : Rat
 k : Int
 n : Rat
deriving DecidableEq
end L2
namespace L2
open PySem PySem.Spec PyProof.Rows
section
variable {X : Cx} {e : Expr} {te : TE}
end
def Hm (t : TGs) (nt : Nat) : Prop := ∀ (vs : List V) (σ : St) (H : Hp) (Q : St → Hp → Prop) (σ0 : St), (σ.length = σ0.length ∧ σ.drop nt = σ0.drop nt) → t vs σ H Q → t vs σ H fun σ2 H2 => (σ2.length = σ0.length ∧ σ2.drop nt = σ0.drop nt) ∧ Q σ2 H2
theorem EL {nt : Nat} : Hm Mt nt := fun _ _ _ _ _ r ⟨e, q⟩ => ⟨e, r, q⟩
theorem Co {i nt : Nat} {u : TGs} (h : i < nt) (hu : Hm u nt) : Hm (Fq (C9 i) u) nt := fun vs σ H Q σ0 r ⟨v, rs, e, q⟩ => ⟨v, rs, e, hu rs (σ.set i (some v)) H Q σ0 ⟨by rw [Ry]; exact r.1, by
 rw [← r.2]
 apply Sc
 intro k
 rw [Sd, Sd, QY (by lia)]⟩ q⟩
theorem FO {K : QO} {n nt : Nat} {t : TGs} (h : Hm t nt) : Iu (K8 K n t) nt := fun _ σ H Q ⟨a, xs, e, s, l, q⟩ => ⟨a, xs, e, s, l, h xs σ H Q σ ⟨rfl, rfl⟩ q⟩
end L2
namespace L2
def Be : List Rat → List Rat → List Rat
 | [], m => m
 | a :: l, [] => a :: l
 | a :: l, b :: m => (a + b) :: Be l m
theorem Iq (l : List Rat) : Be l [] = l := by cases l <;> rfl
theorem BK (x : Rat) : ∀ l m, Cv.ev (Be l m) x = Cv.ev l x + Cv.ev m x
 | [], m => by show _ = 0 + _; grind [Be]
 | a :: l, [] => by show _ = _ + 0; rw [Be]; grind
 | a :: l, b :: m => by
   have ih := BK x l m
   show (a + b) + x * Cv.ev (Be l m) x = (a + x * Cv.ev l x) + (b + x * Cv.ev m x)
   rw [ih]; grind
theorem Bl : ∀ l m, (Be l m).length = max l.length m.length
 | [], m => by show m.length = max 0 m.length; lia
 | a :: l, [] => by show l.length + 1 = max (l.length + 1) 0; lia
 | a :: l, b :: m => by
   have ih := Bl l m
   show (Be l m).length + 1 = max (l.length + 1) (m.length + 1)
   lia
theorem Ir : ∀ (l m : List Rat) (i : Nat), l.length ≤ i → (Be l m)[i]? = m[i]?
 | [], m, i, _ => rfl
 | a :: l, [], i, h => by rw [Iq, Sr h]; rfl
 | a :: l, b :: m, 0, h => by simp at h
 | a :: l, b :: m, i + 1, h => by
   have ih := Ir l m i (by simpa using h)
   show (Be l m)[i]? = m[i]?
   exact ih
def CU : List Rat → List Rat → List Rat
 | [], _ => []
 | a :: l, m => Be (m.map (· * a)) (0 :: CU l m)
theorem Cs (x : Rat) (m : List Rat) : ∀ l, Cv.ev (CU l m) x = Cv.ev l x * Cv.ev m x
 | [] => by show (0 : Rat) = 0 * _; grind
 | a :: l => by
   have ih := Cs x m l
   show Cv.ev (Be (m.map (· * a)) (0 :: CU l m)) x = (a + x * Cv.ev l x) * _
   rw [BK, Cv.ev_scale]
   show _ + (0 + x * Cv.ev (CU l m) x) = _
   rw [ih]; grind
theorem C0 (m : List Rat) (hm : 1 ≤ m.length) : ∀ l, 1 ≤ l.length → (CU l m).length = l.length + m.length - 1
 | [], h => by simp at h
 | [a], _ => by
   show (Be (m.map (· * a)) [0]).length = 1 + m.length - 1
   rw [Bl, Rp]
   show max m.length 1 = _
   lia
 | a :: b :: l, _ => by
   have ih := C0 m hm (b :: l) (by simp)
   show (Be (m.map (· * a)) (0 :: CU (b :: l) m)).length = l.length + 1 + 1 + m.length - 1
   rw [Bl, Rp]
   show max m.length ((CU (b :: l) m).length + 1) = _
   rw [ih]
   show max m.length (l.length + 1 + m.length - 1 + 1) = _
   lia
theorem Ed (m : List Rat) (u : Rat) (hu : m[m.length - 1]? = some u) : ∀ (l : List Rat) (v : Rat), l[l.length - 1]? = some v → (CU l m)[l.length + m.length - 2]? = some (u * v)
 | [], v, h => by simp at h
 | [a], v, h => by
   have hm : m.length - 1 < m.length := (QX.mp hu).1
   have e : a = v := by simpa using h
   subst e
   show (Be (m.map (· * a)) [0])[1 + m.length - 2]? = _
   cases m with
   | nil => simp at hm
   | cons b m' =>
     rw [show 1 + (b :: m').length - 2 = m'.length by simp only [S1]; lia]
     have hu' : (b :: m')[m'.length]? = some u := hu
     cases m' with
     | nil =>
       have e : b = u := by simpa using hu'
       subst e
       show some (b * a + 0) = some (b * a)
       congr 1; grind
     | cons c m'' =>
       show (Be ((c :: m'').map (· * a)) [])[m''.length]? = _
       rw [Iq, Rl]
       have hu2 : (c :: m'')[m''.length]? = some u := hu'
       rw [hu2]; rfl
 | a :: b :: l, v, h => by
   have hm : m.length - 1 < m.length := (QX.mp hu).1
   have ih := Ed m u hu (b :: l) v h
   show (Be (m.map (· * a)) (0 :: CU (b :: l) m))[l.length + 1 + 1 + m.length - 2]? = _
   rw [Ir _ _ _ (by rw [Rp]; lia)]
   rw [show l.length + 1 + 1 + m.length - 2 = (l.length + 1 + m.length - 2) + 1 by lia]
   exact ih
theorem Lj {l m : List Rat} (hl : Cn l) (hm : Cn m) (nl : l ≠ []) (nm : m ≠ []) : Cn (CU l m) := by
 rcases hl with h | ⟨v, hv, v0⟩
 ·exact absurd h nl
 rcases hm with h | ⟨u, hu, u0⟩
 ·exact absurd h nm
 have l1 : 1 ≤ l.length := RZ.mpr nl
 have m1 : 1 ≤ m.length := RZ.mpr nm
 refine .inr ⟨u * v, ?_, fun z => ?_⟩
 ·rw [C0 m m1 l l1, show l.length + m.length - 1 - 1 = l.length + m.length - 2 by lia]
  exact Ed m u hu l v hv
 ·rcases S6.mp z with z | z
  ·exact u0 z
  ·exact v0 z
theorem Ju {l m : List Rat} (hm : Cn m) (hle : l.length ≤ m.length) (h : ∀ x, Cv.ev l x = Cv.ev m x) : l = m := by
 have e : l ++ Rg (m.length - l.length) 0 = m := by
  refine Cv.same_of _ _ (by rw [Ro, Rq]; lia) fun x => ?_
  rw [← Cv.ev_strip, Cv.strip_zeros, Cv.ev_strip]
  exact h x
 by_cases hlt : l.length < m.length
 ·rcases hm with hm | ⟨q, hq, q0⟩
  ·rw [hm] at hlt; simp at hlt
  ·exfalso
   rw [← e, Ro, Rq, Ri (by lia), Rj, if_pos (by lia)] at hq
   exact q0 (QF.inj hq).symm
 ·rw [show m.length - l.length = 0 by lia, List.replicate_zero, Rc] at e
  exact e
theorem Fp {l m : List Rat} (hl : Cn l) (hm : Cn m) (h : ∀ x, Cv.ev l x = Cv.ev m x) : l = m := by
 by_cases hle : l.length ≤ m.length
 ·exact Ju hm hle h
 ·exact (Ju hl (by lia) fun x => (h x).symm).symm
open PySem PySem.Spec PyProof.Rows
theorem NA {K : QO} {a : Addr} {js : List Nat} {xs : List V} {te : TE} {σ : St} {H : Hp} {Fin : List V → Hp → Prop} (Pv : Nat → List V → Hp → Prop) (h0 : Pv 0 [] H)
 (hl : ∀ i zs H, i ≤ xs.length → Pv i zs H → SqT K H a xs ∧ zs.length = i) (hz : xs.length ≤ sizeLine)
 (hs : ∀ i x zs H, xs[i]? = some x → Pv i zs H → te ((cS 1 js σ).set 0 (some x)) H fun y H4 => Pv (i + 1) (zs ++ [y]) H4) (fin : ∀ zs H', Pv xs.length zs H' → Fin zs H') :
 ∃ (n' : Nat) (W : Nat → List V → Hp → Prop), W 0 [] H ∧ LcW (Itt K a) n' 1 js σ (C9 0) JN te Fin W := by
 refine ⟨xs.length, Pv, h0, ⟨?_, ?_, ?_⟩⟩
 ·intro i zs H' hi p
  obtain ⟨h1, h2⟩ := hl i zs H' (QQ hi) p
  exact ⟨⟨xs, xs[i], h1, by simp [hi]⟩, by lia⟩
 ·rintro i zs H' x H1 hi p ⟨rfl, y⟩
  exact hs i x zs _ (y xs (hl i zs _ (QQ hi) p).1) p
 ·intro zs H' p
  obtain ⟨h1, h2⟩ := hl _ zs H' (R3 _) p
  exact ⟨⟨xs, h1, R3 _⟩, by lia, fin zs H' p⟩
end L2
namespace L2
def ch : Nat → Nat → Nat
 | _, 0 => 1
 | 0, _ + 1 => 0
 | n + 1, k + 1 => ch n k + ch n (k + 1)
def goL (a b : Rat) : Rat → List Rat → List Rat
 | p, [] => [a * p]
 | p, c :: r => (a * p + b * c) :: goL a b c r
def MQ (a b : Rat) : List Rat → List Rat
 | [] => []
 | q :: r => match MQ a b r with
   | [] => [q]
   | c :: s => (q + b * c) :: goL a b c s
end L2
namespace L2
def sd : List Rat → List Rat
 | [] => []
 | [_] => []
 | _ :: p :: r => Be (0 :: sd (p :: r)) (MQ 1 1 (p :: r))
end L2
namespace L2
open PySem PySem.Spec PyProof.Rows PySem.SeqAt
end L2
namespace L2
def dL : List Rat → List Rat
 | [] => []
 | _ :: r => Be r (0 :: dL r)
def ty (x : Rat) : List Rat → List Rat
 | [] => []
 | q :: r => Be (q :: ty x r) ((ty x r).map (· * x))
theorem Cg : ∀ (l m : List Rat) (k : Nat), (Be l m).getD k 0 = l.getD k 0 + m.getD k 0
 | [], m, k => by show m.getD k 0 = 0 + m.getD k 0; grind
 | a :: l, [], k => by show (a :: l).getD k 0 = (a :: l).getD k 0 + 0; grind
 | a :: l, b :: m, 0 => rfl
 | a :: l, b :: m, k + 1 => Cg l m k
theorem BB (y : Rat) (l : List Rat) (k : Nat) : (l.map (· * y)).getD k 0 = l.getD k 0 * y := by
 rw [Sb, Sb, Rl]
 cases l[k]? with
 | none => show (0 : Rat) = 0 * y; grind
 | some t => rfl
theorem Ik {l m : List Rat} (h : ∀ k : Nat, Cv.ev l ((k : Nat) : Rat) = Cv.ev m ((k : Nat) : Rat)) (k : Nat) : l.getD k 0 = m.getD k 0 := by
 have z := Cv.ident _ (Be l (m.map (· * (-1)))) (R3 _) 0 fun k _ => by
  rw [BK, Cv.ev_scale, h k]; grind
 have e : (Be l (m.map (· * (-1)))).getD k 0 = 0 := by
  rw [Sb]
  cases q : (Be l (m.map (· * (-1))))[k]? with
  | none => rfl
  | some t => exact z t (Rn q)
 rw [Cg, BB] at e
 grind
def quo (c : Rat) : List Rat → List Rat
 | [] => []
 | _ :: r => Be r ((quo c r).map (· * c))
theorem KG (c x : Rat) : ∀ l, Cv.ev l x = Cv.ev l c + (x - c) * Cv.ev (quo c l) x
 | [] => by show (0 : Rat) = 0 + _ * 0; grind
 | q :: r => by
   have ih := KG c x r
   show q + x * Cv.ev r x = (q + c * Cv.ev r c) + (x - c) * Cv.ev (Be r ((quo c r).map (· * c))) x
   rw [BK, Cv.ev_scale]
   have h : (x - c) * (Cv.ev r x + Cv.ev (quo c r) x * c) = x * Cv.ev r x - c * (Cv.ev r x - (x - c) * Cv.ev (quo c r) x) := by grind
   rw [h, show Cv.ev r x - (x - c) * Cv.ev (quo c r) x = Cv.ev r c by grind]
   grind
theorem EV (c : Rat) : ∀ l, (quo c l).length = l.length - 1
 | [] => rfl
 | q :: r => by
   have ih := EV c r
   show (Be r ((quo c r).map (· * c))).length = r.length
   rw [Bl, Rp, ih]
   lia
end L2
namespace L2
def prL : List Rat → List Rat
 | [] => [1]
 | o :: os => CU [-o, 1] (prL os)
def prV (x : Rat) : List Rat → Rat
 | [] => 1
 | o :: os => (x - o) * prV x os
theorem E6 (x : Rat) : ∀ os, Cv.ev (prL os) x = prV x os
 | [] => by show (1 : Rat) + x * 0 = 1; grind
 | o :: os => by
   show Cv.ev (CU [-o, 1] (prL os)) x = _
   rw [Cs, E6 x os]
   show (-o + x * (1 + x * 0)) * prV x os = (x - o) * prV x os
   grind
theorem IG {x : Rat} : ∀ {os : List Rat}, x ∈ os → prV x os = 0
 | o :: os, h => by
   show (x - o) * prV x os = 0
   rcases QU.mp h with e | e
   ·rw [e]; grind
   ·rw [IG e]; grind
end L2
namespace L2
open PySem PySem.Spec PyProof.Rows
theorem Jo {K : QO} {a : Addr} {js : List Nat} {xs : List V} {tc : TT} {te : TE} {σ : St} {H : Hp} {Fin : List V → Hp → Prop} (Pv : Nat → List V → Hp → Prop) (h0 : Pv 0 [] H)
 (hl : ∀ i zs H, i ≤ xs.length → Pv i zs H → SqL K H a xs ∧ zs.length ≤ i) (hz : xs.length ≤ sizeLine)
 (hs : ∀ i x zs H, xs[i]? = some x → Pv i zs H → tc ((cS 1 js σ).set 0 (some x)) H fun b H3 => if b = true then te ((cS 1 js σ).set 0 (some x)) H3 fun y H4 => Pv (i + 1) (zs ++ [y]) H4 else Pv (i + 1) zs H3) (fin : ∀ zs H', Pv xs.length zs H' → Fin zs H') :
 ∃ (n' : Nat) (W : Nat → List V → Hp → Prop), W 0 [] H ∧ LcW (Itl K a) n' 1 js σ (C9 0) tc te Fin W := by
 refine ⟨xs.length, Pv, h0, ⟨?_, ?_, ?_⟩⟩
 ·intro i zs H' hi p
  obtain ⟨h1, h2⟩ := hl i zs H' (QQ hi) p
  exact ⟨⟨xs, xs[i], h1, by simp [hi]⟩, by lia⟩
 ·rintro i zs H' x H1 hi p ⟨rfl, y⟩
  exact hs i x zs _ (y xs (hl i zs _ (QQ hi) p).1) p
 ·intro zs H' p
  obtain ⟨h1, h2⟩ := hl _ zs H' (R3 _) p
  exact ⟨⟨xs, h1, R3 _⟩, by lia, fin zs H' p⟩
end L2
namespace PySem
open Sem (wp)
open Builtin
set_option maxRecDepth 100000
end PySem
namespace L2
open PySem PySem.Spec PyProof.Rows
variable {X : Cx}
end L2
namespace L2
open PySem PySem.Spec PyProof.Rows
end L2
namespace L2
open PySem PySem.Spec PyProof.Rows
def kQ (q : Rat) : List Key := [.inl q.num, .inl (q.den : Int)]
theorem NJ {p q : Rat} (h : kQ p = kQ q) : p = q := by
 unfold kQ at h
 injection h with h1 h2
 injection h2 with h2 _
 injection h1 with h1
 injection h2 with h2
 exact Rat.ext h1 (Int.ofNat.inj h2)
def E2 (H : Hp) (x : V) (q : Rat) : Prop := ∃ r, x = .ref r ∧ H r = some (nT q)
abbrev Ax (H : Hp) : List V → List Rat → Prop := Paired (E2 H)
theorem E2.num {K : QO} {H : Hp} {x : V} {q : Rat} (h : E2 H x q) : AA K H x q := let ⟨r, e, h⟩ := h; ⟨r, e, SqT.of h⟩
theorem E2.same {H H' : Hp} {x : V} {q : Rat} (h : E2 H x q) (e : Af H H') : E2 H' x q := let ⟨r, z, h⟩ := h; ⟨r, z, e _ _ h⟩
theorem E2.mv {H H' : Hp} {x : V} {q : Rat} {p : Addr} (h : E2 H x q) (pn : Pen H p) (m : Mv p H H') : E2 H' x q := let ⟨r, z, h⟩ := h; ⟨r, z, m r _ (pn.ne h (Om q)) h⟩
theorem E2.put {H : Hp} {x : V} {q : Rat} {p : Addr} {ys : List V} {o : HO} (h : E2 H x q) (hp : H p = some (.lst ys)) : E2 (upd H p o) x q := let ⟨r, z, h⟩ := h; ⟨r, z, by rw [Ak (En h hp (fun z => by cases z))]; exact h⟩
theorem Ax.nums {K : QO} {H : Hp} {xs : List V} {qs : List Rat} (h : Ax H xs qs) : Ao K H xs qs := Paired.mapP h fun _ _ z => z.num
theorem Ax.same {H H' : Hp} {xs : List V} {qs : List Rat} (h : Ax H xs qs) (e : Af H H') : Ax H' xs qs := Paired.mapP h fun _ _ z => z.same e
theorem Ax.mv {H H' : Hp} {xs : List V} {qs : List Rat} {p : Addr} (h : Ax H xs qs) (pn : Pen H p) (m : Mv p H H') : Ax H' xs qs := Paired.mapP h fun _ _ z => z.mv pn m
theorem Ax.put {H : Hp} {xs : List V} {qs : List Rat} {p : Addr} {ys : List V} {o : HO} (h : Ax H xs qs) (hp : H p = some (.lst ys)) : Ax (upd H p o) xs qs := Paired.mapP h fun _ _ z => z.put hp
def PtT (K : QO) (H : Hp) (x : V) (ps : List Rat) : Prop := ∃ a us p, x = .ref a ∧ SqT K H a us ∧ Ao K H us ps ∧ us[0]? = some (.ref p) ∧ H p = some (nT (ps.getD 0 0))
abbrev Cm (K : QO) (H : Hp) : List V → List (List Rat) → Prop := Paired (PtT K H)
section
variable {K : QO} {H H' : Hp} {x : V} {ps : List Rat} {xs : List V} {pss : List (List Rat)} {p : Addr} {ys : List V} {o : HO}
theorem PtT.same (h : PtT K H x ps) (e : Af H H') : PtT K H' x ps := let ⟨a, us, b, z, h1, h2, h3, h4⟩ := h; ⟨a, us, b, z, h1.same e, h2.same e, h3, e _ _ h4⟩
theorem Cm.same (h : Cm K H xs pss) (e : Af H H') : Cm K H' xs pss := Paired.mapP h fun _ _ z => z.same e
end
def TlT (K : QO) (H : Hp) (v : V) (t : Fv) : Prop := ∃ a p rn, v = .ref a ∧ SqT K H a [.ref p, .int t.k, rn] ∧ H p = some (nT t.x) ∧ AA K H rn t.n
abbrev Fw (K : QO) (H : Hp) : List V → List Fv → Prop := Paired (TlT K H)
section
variable {K : QO} {H H' : Hp} {x : V} {t : Fv} {xs : List V} {ts : List Fv} {p : Addr} {ys : List V} {o : HO}
theorem TlT.same (h : TlT K H x t) (e : Af H H') : TlT K H' x t := let ⟨a, b, rn, z, h1, h2, h3⟩ := h; ⟨a, b, rn, z, h1.same e, e _ _ h2, h3.same e⟩
theorem TlT.put (h : TlT K H x t) (hp : H p = some (.lst ys)) : TlT K (upd H p o) x t := let ⟨a, b, rn, z, h1, h2, h3⟩ := h; ⟨a, b, rn, z, h1.put hp, by rw [Ak (En h2 hp (fun z => by cases z))]; exact h2, h3.put hp⟩
theorem Fw.same (h : Fw K H xs ts) (e : Af H H') : Fw K H' xs ts := Paired.mapP h fun _ _ z => z.same e
theorem Fw.put (h : Fw K H xs ts) (hp : H p = some (.lst ys)) : Fw K (upd H p o) xs ts := Paired.mapP h fun _ _ z => z.put hp
end
end L2
namespace L2
theorem CS : ∀ os, (prL os).length = os.length + 1
 | [] => rfl
 | o :: os => by
   have ih := CS os
   show (Be ((prL os).map (· * -o)) (0 :: Be ((prL os).map (· * 1)) (0 :: CU [] (prL os)))).length = _
   have e : CU [] (prL os) = [] := rfl
   rw [Bl, Rp, S1, Bl, Rp, e, ih]
   simp only [S1, Ss]
   lia
def nwT (T : Nat → Nat → Rat) (x : Nat → Rat) (j : Nat) : Nat → List Rat
 | 0 => []
 | n + 1 => Be (nwT T x j n) ((prL ((QL n).map fun i => x (j + i))).map (· * T n j))
def prF (x : Nat → Rat) (j n : Nat) (X : Rat) : Rat := prV X ((QL n).map fun i => x (j + i))
theorem Jg (X : Rat) : ∀ (l m : List Rat), prV X (l ++ m) = prV X l * prV X m
 | [], m => by show prV X m = 1 * prV X m; grind
 | a :: l, m => by
   show (X - a) * prV X (l ++ m) = (X - a) * prV X l * prV X m
   rw [Jg X l m]; grind
theorem EX (x : Nat → Rat) (j n : Nat) (X : Rat) : prF x j (n + 1) X = prF x j n X * (X - x (j + n)) := by
 unfold prF
 rw [Su, S4, Jg]
 show _ * ((X - x (j + n)) * 1) = _
 grind
theorem Ga (x : Nat → Rat) (j : Nat) (X : Rat) : ∀ n, prF x j (n + 1) X = (X - x j) * prF x (j + 1) n X
 | 0 => by show (X - x (j + 0)) * 1 = (X - x j) * 1; rw [RW]
 | n + 1 => by
   rw [EX, Ga x j X n, EX, show j + (n + 1) = j + 1 + n by lia]; grind
theorem Eb (T : Nat → Nat → Rat) (x : Nat → Rat) (j n : Nat) (X : Rat) : Cv.ev (nwT T x j (n + 1)) X = Cv.ev (nwT T x j n) X + T n j * prF x j n X := by
 show Cv.ev (Be _ _) X = _
 rw [BK, Cv.ev_scale, E6]
 show _ + prV X _ * _ = _ + _ * prV X _
 grind
def LG (T : Nat → Nat → Rat) (x : Nat → Rat) (N : Nat) : Prop := ∀ k j, j + k + 1 < N → T (k + 1) j * (x (j + k + 1) - x j) = T k (j + 1) - T k j
theorem HP {T : Nat → Nat → Rat} {x : Nat → Rat} {N : Nat} (h : LG T x N) (X : Rat) : ∀ n j, j + n < N → Cv.ev (nwT T x j (n + 1)) X = Cv.ev (nwT T x (j + 1) n) X + T n j * prF x (j + 1) n X
 | 0, j, _ => by
   rw [Eb]
   show Cv.ev [] X + T 0 j * 1 = Cv.ev [] X + T 0 j * 1
   rfl
 | n + 1, j, hj => by
   have ih := HP h X n j (by lia)
   have hk := h n j (by lia)
   rw [Eb, ih, Eb T x (j + 1) n, Ga, EX x (j + 1) n, show j + 1 + n = j + n + 1 by lia]
   grind
theorem KP {T : Nat → Nat → Rat} {x : Nat → Rat} {N : Nat} (h : LG T x N) : ∀ n j i, j + n ≤ N → i < n → Cv.ev (nwT T x j n) (x (j + i)) = T 0 (j + i)
 | n + 1, j, i, hj, hi => by
   have IH := KP h n
   by_cases hin : i < n
   ·rw [Eb, IH j i (by lia) hin]
    have : prF x j n (x (j + i)) = 0 := IG (Sv.mpr ⟨i, QN.mpr hin, rfl⟩)
    rw [this]; grind
   ·have e : i = n := by lia
    subst e
    match i, hj, IH with
    | 0, _, _ =>
      rw [Eb]
      show (0 : Rat) + T 0 j * 1 = T 0 j
      grind
    | i + 1, hj, IH =>
      rw [HP h _ (i + 1) j (by lia)]
      have ih := IH (j + 1) i (by lia) (by lia)
      rw [show j + 1 + i = j + (i + 1) by lia] at ih
      rw [ih]
      have : prF x (j + 1) (i + 1) (x (j + (i + 1))) = 0 := IG (Sv.mpr ⟨i, QN.mpr (by lia), by show x (j + 1 + i) = _; rw [show j + 1 + i = j + (i + 1) by lia]⟩)
      rw [this]; grind
end L2
namespace HT
open PySem PyProof.Rows
open PySem.SeqAt
open PySem.AutoSeq1 (wpAny_loadPart')
open PySem.MeetsSeq PySem.MeetsSeq2 PySem.MeetsSeq3
end HT
namespace L2
open PySem PySem.Spec PyProof.Rows
section
variable {X : Cx} {K : QO}
end
theorem DE (xs : List V) (v : Nat) : Cw xs none (some (v : Int)) = xs.take v := by
 unfold Cw
 have e1 : HT.sIx xs.length 0 none = 0 := rfl
 have e2 : HT.sIx xs.length xs.length (some (v : Int)) = min v xs.length := HT.sIx_nat _ _ v
 rw [e1, e2, Sw, Sx]
 by_cases h : v ≤ xs.length
 ·rw [Ru h]
 ·rw [Rv (by lia), Sy (R3 _), Sy (by lia)]
end L2
namespace L2
open PySem PySem.Spec PyProof.Rows PySem.SeqAt
section
variable {X : Cx}
end
theorem Ft (xs : List V) (v : Nat) : Cw xs (some (v : Int)) none = xs.drop v := by
 unfold Cw
 have e1 : HT.sIx xs.length 0 (some (v : Int)) = min v xs.length := HT.sIx_nat _ _ v
 have e2 : HT.sIx xs.length xs.length none = xs.length := rfl
 rw [e1, e2]
 by_cases h : v ≤ xs.length
 ·rw [Ru h, Sy (by rw [Rw]; exact R3 _)]
 ·rw [Rv (by lia), Sz, SA, SB (by lia)]
end L2
namespace L2
open PySem PySem.Spec PyProof.Rows
theorem Lw : bootBuiltins "zip" = some (.type "zip") := by decide +kernel
section
variable {X : Cx} {pins : List (Addr × Obj)} {σ : List (Option V)} {H : Hp} {s : Shared} {h' : Heap}
theorem Inv.turnedL {t' : Nat} {ch : List Addr} (I : Inv X pins σ H s) (k : ∀ b o, b ∉ ch → s.heap.get? b = some o → h'.get? b = some o) (hf : ∀ b ∈ ch, Dl X pins H b) : Inv X pins σ H { s with heap := h', toks := t' } := by
 have nit : ∀ b u, H b = some u → b ∉ ch := fun b u e z => by rw [(hf b z).1] at e; cases e
 refine I.step (g' := s.gens) (d' := s.drawn) (ch := ch) (fun b hb => ?_) (fun b o _ _ hc e _ => k b o hc e) (fun b o _ _ hc e _ => ⟨o.slots, k b o hc e⟩) (fun _ _ _ _ n => n)
  (fun b o hc e => ⟨o, k b o hc e⟩) (fun _ _ e => e) (fun _ _ _ e => e) (fun b ps e => ⟨#[], by rw [e]; simp⟩) (fun m hm => ?_) (fun b u e => ?_) I.bare
 ·obtain ⟨_, hL, _, h1, h2, h3⟩ := hf b hb
  exact ⟨h1, hL, h2, h3⟩
 ·obtain ⟨o, es, ep, ho, r⟩ := hm
  exact ⟨o, es, ep, k _ o (fun z => (hf _ z).2.1 rfl) ho, r⟩
 ·refine (I.hok b u e).stay (fun c v hc q => k c v ?_ q) (fun _ q => q) fun _ _ q => q
  rcases hc with z | z
  ·rw [z]; exact nit b u e
  ·exact nit c _ z
end
def Itz (K : QO) (a b : Addr) (xs ys : List V) : It :=
 ⟨fun i H => SqL K H a xs ∧ SqL K H b ys ∧ i < min xs.length ys.length,
  fun i H x H' => ∃ T x1 y1, xs[i]? = some x1 ∧ ys[i]? = some y1 ∧ H T = none ∧ x = .ref T ∧ H' = upd H T (.tup [x1, y1]),
  fun i H => SqL K H a xs ∧ SqL K H b ys ∧ min xs.length ys.length ≤ i⟩
theorem Kl {P : Program} {w : World} {K : QO} {elts : List Expr} {kk} {pos : Pos} {a b z TI TO i1 i2 : Addr} (D : ZipApart z TI TO i1 i2 a b) (xs ys : List V) :
 Is P w K (.Tuple elts kk pos) (Itz K a b xs ys) [z, TI, TO, i1, i2] z (fun i h => IsZip h z TI TO .none ∧ IsPair h TI (.ref i1) (.ref i2) ∧ (∃ u v, IsPair h TO u v) ∧ h.IsListIter i1 a i ∧ h.IsListIter i2 b i) where
 mem := by simp
 obj := fun i h st c hc => by
  obtain ⟨hz, hTI, ⟨u, v, hTO⟩, ⟨o1, e1, _, d1⟩, ⟨o2, e2, _, d2⟩⟩ := st
  have hc' : c = z ∨ c = TI ∨ c = TO ∨ c = i1 ∨ c = i2 := by simpa using hc
  rcases hc' with rfl | rfl | rfl | rfl | rfl
  ·exact ⟨_, hz, fun v z => by cases z⟩
  ·exact ⟨_, hTI, fun v z => by cases z⟩
  ·exact ⟨_, hTO, fun v z => by cases z⟩
  ·exact ⟨o1, e1, fun v z => by rw [d1] at z; cases z⟩
  ·exact ⟨o2, e2, fun v z => by rw [d2] at z; cases z⟩
 keep := fun i h h' st k => by
  obtain ⟨hz, hTI, ⟨u, v, hTO⟩, h1, h2⟩ := st
  exact ⟨k z (by simp) _ hz, k TI (by simp) _ hTI, ⟨u, v, k TO (by simp) _ hTO⟩, h1.at fun o e => k i1 (by simp) o e, h2.at fun o e => k i2 (by simp) o e⟩
 item := by
  intro X hP hw hK hc i pins s σ H E I hf st hg
  subst hP hw hK
  obtain ⟨hq1, hq2, hi⟩ := hg
  obtain ⟨its1, rv1, p1, _⟩ := I.list hq1
  obtain ⟨its2, rv2, p2, _⟩ := I.list hq2
  have hx : xs[i]? = some (xs[i]'(by lia)) := Si (by lia)
  have hy : ys[i]? = some (ys[i]'(by lia)) := Si (by lia)
  obtain ⟨u1, hu1, ru1⟩ := rv1.get hx
  obtain ⟨u2, hu2, ru2⟩ := rv2.get hy
  generalize xs[i]'(by lia) = x1 at hx ru1
  generalize ys[i]'(by lia) = y1 at hy ru2
  obtain ⟨hz, hTI, ⟨ta, tb, hTO⟩, h1, h2⟩ := st
  refine wpAny_pyNext_zip_item D hz hTI hTO h1 h2 p1.isList p2.isList (x := u1) (y := u2) (by simpa using hu1) (by simpa using hu2) fun h' a1 a2 a3 a4 a5 a6 a7 => ?_
  refine ⟨_, rfl, wpAny_letOwnedTupleGo_zip (s := { s with heap := h' }) a1 fun h'' b1 b2 => ?_⟩
  have lz : z < s.heap.objs.size := Heap.lt_size hz
  have lTI : TI < s.heap.objs.size := Heap.lt_size hTI
  have lTO : TO < s.heap.objs.size := Heap.lt_size hTO
  have l1 : i1 < s.heap.objs.size := by obtain ⟨_, e, _⟩ := h1; exact Heap.lt_size e
  have l2 : i2 < s.heap.objs.size := by obtain ⟨_, e, _⟩ := h2; exact Heap.lt_size e
  have I1 : Inv X pins σ (upd H s.heap.objs.size (.tup [x1, y1])) { s with heap := s.heap.push { cls := .type "tuple", data := .seq #[u1, u2] } } :=
   I.laid (t' := s.toks) (o := .tup [x1, y1]) (fun b ob q => Heap.get?_push_of_some _ q) (R3 _) ⟨by show 2 ≤ sizeLine; decide, [u1, u2], .cons ru1 (.cons ru2 .nil), IsTup.new _ _⟩
  have hfp : ∀ c ∈ [z, TI, TO, i1, i2], Dl X pins (upd H s.heap.objs.size (.tup [x1, y1])) c := fun c hc => by
   obtain ⟨f0, fr⟩ := hf c hc
   have hlt : c < s.heap.objs.size := by
    have hc' : c = z ∨ c = TI ∨ c = TO ∨ c = i1 ∨ c = i2 := by simpa using hc
    rcases hc' with rfl | rfl | rfl | rfl | rfl <;> assumption
   exact ⟨by rw [Ak (QK hlt)]; exact f0, fr⟩
  have I2 := I1.turnedL (h' := h'') (t' := s.toks) (ch := [z, TO, i1, i2]) (fun c o hcn e => by
   have hcn' : c ≠ z ∧ c ≠ TO ∧ c ≠ i1 ∧ c ≠ i2 := by simpa using hcn
   obtain ⟨c1, c2, c3, c4⟩ := hcn'
   refine b2.extBut _ _ c1 ?_
   by_cases hcs : c = s.heap.objs.size
   ·subst hcs
    have e' : (s.heap.push { cls := .type "tuple", data := .seq #[u1, u2] }).get? s.heap.objs.size = some o := e
    rw [Heap.get?_push_size _ rfl] at e'
    cases e'
    exact a5
   ·have e' : (s.heap.push { cls := .type "tuple", data := .seq #[u1, u2] }).get? c = some o := e
    refine a7 c o c1 c2 c3 c4 ?_
    rw [Heap.get?_push_ne _ _ _ hcs] at e'
    exact e') (fun c hc => hfp c (by
     have hc' : c = z ∨ c = TO ∨ c = i1 ∨ c = i2 := by simpa using hc
     rcases hc' with rfl | rfl | rfl | rfl <;> simp))
  refine ⟨.ref s.heap.objs.size, upd H s.heap.objs.size (.tup [x1, y1]), I2, rfl, ⟨_, x1, y1, hx, hy, I.hok.fresh (R3 _), rfl, rfl⟩, ⟨b1, ?_, ⟨_, _, b2.extBut _ _ D.TOz a2⟩, a3.extBut b2.extBut D.i1z, a4.extBut b2.extBut D.i2z⟩, fun c hc => (hfp c hc).1⟩
  exact b2.extBut _ _ D.TIz (a7 _ _ D.TIz D.TITO D.TIi1 D.TIi2 hTI)
 done := by
  intro X hP hw hK hc i pins s σ H E I hf st hg
  subst hP hw hK
  obtain ⟨hq1, hq2, hi⟩ := hg
  obtain ⟨its1, rv1, p1, _⟩ := I.list hq1
  obtain ⟨its2, rv2, p2, _⟩ := I.list hq2
  have e1 := rv1.length
  have e2 := rv2.length
  obtain ⟨hz, hTI, ⟨ta, tb, hTO⟩, h1, h2⟩ := st
  refine wpAny_pyNext_zip_end (I.ok.hd hc) D hz hTI hTO h1 h2 p1.isList p2.isList ?_ fun h' k => ⟨rfl, I.turnedL (t' := s.toks) (ch := [z, TO, i1, i2]) (fun c o hcn e => by
   have hcn' : c ≠ z ∧ c ≠ TO ∧ c ≠ i1 ∧ c ≠ i2 := by simpa using hcn
   exact k c o hcn'.1 hcn'.2.1 hcn'.2.2.1 hcn'.2.2.2 e) fun c hc => hf c (by
    have hc' : c = z ∨ c = TO ∨ c = i1 ∨ c = i2 := by simpa using hc
    rcases hc' with rfl | rfl | rfl | rfl <;> simp)⟩
  by_cases h : xs.length ≤ i
  ·exact .inl (by rw [SC]; simp; lia)
  ·exact .inr (by rw [SC]; simp; lia)
 self := fun _ _ _ _ _ st h => wpAny_pyIter_zip st.1 h
section
variable {X : Cx}
def Op (K : QO) (ta : TA) : TI := fun σ H R => ta σ H fun vs H1 => ∃ a b xs ys, vs = [.ref a, .ref b] ∧ SqL K H1 a xs ∧ SqL K H1 b ys ∧ R (Itz K a b xs ys) H1
theorem Nf {elts : List Expr} {kk} {pos' : Pos} {e1 e2 : Expr} {ta : TA} {p pos : Pos} (hg : Gl X "zip") (hm : X.mg "zip" = none) (ha : PA X [e1, e2] ta) (hs : starEach [e1, e2] X.env = [(false, eval e1 X.env), (false, eval e2 X.env)] := by rfl) (hs2 : starEach [e2] X.env = [(false, eval e2 X.env)] := by rfl) :
 PI X (.Tuple elts kk pos') (.Call (.Name "zip" p) [e1, e2] [] pos) (Op X.K ta) := by
 intro pins s σ H R I h
 refine Call_ (Cu I hg hm Lw (PyProof.Rows.callWith_type1 (thn (ha pos pins s σ H _ I h) fun us s1 ⟨vs, H1, I1, r1, q1⟩ => ?_) (by rw [hs, hs2]) (by rw [hs2]; rfl)))
 obtain ⟨a, b, xs, ys, e, hq1, hq2, q⟩ := q1
 subst e
 cases r1 with
 | cons r rr =>
   cases rr with
   | cons r' rr =>
     cases rr
     cases r
     cases r'
     obtain ⟨its1, rv1, p1, _⟩ := I1.list hq1
     obtain ⟨its2, rv2, p2, _⟩ := I1.list hq2
     have la : a < s1.heap.objs.size := by obtain ⟨_, e, _⟩ := p1.isList; exact Heap.lt_size e
     have lb : b < s1.heap.objs.size := by obtain ⟨_, e, _⟩ := p2.isList; exact Heap.lt_size e
     refine call_zip_2 p1.isList p2.isList fun h' hz hTI hTO hi1 hi2 hsz hk => ?_
     refine wpAny_pyIter_zip (s := { s1 with heap := h' }) hz ?_
     have D := zipApart_new la lb
     refine ⟨s1.heap.objs.size + 4, [s1.heap.objs.size + 4, s1.heap.objs.size + 2, s1.heap.objs.size + 3, s1.heap.objs.size, s1.heap.objs.size + 1], _, _, H1, rfl, I1.kept (t' := s1.toks) hk, Kl D xs ys, ⟨hz, hTI, ⟨_, _, hTO⟩, hi1, hi2⟩, fun c hc => ?_, q⟩
     have hge : s1.heap.objs.size ≤ c := by
      have hc' : c = s1.heap.objs.size + 4 ∨ c = s1.heap.objs.size + 2 ∨ c = s1.heap.objs.size + 3 ∨ c = s1.heap.objs.size ∨ c = s1.heap.objs.size + 1 := by simpa using hc
      rcases hc' with rfl | rfl | rfl | rfl | rfl
      ·exact SD _ _
      ·exact SD _ _
      ·exact SD _ _
      ·exact R3 _
      ·exact SD _ _
     exact I1.fpOk hge (I1.hok.fresh hge)
theorem MK (K : QO) {elts : List Expr} {kk} {pos' : Pos} {e1 e2 : Expr} {ta : TA} {p pos : Pos} (hg : Gl X "zip") (hm : X.mg "zip" = none) (ha : PA X [e1, e2] ta) (hs : starEach [e1, e2] X.env = [(false, eval e1 X.env), (false, eval e2 X.env)] := by rfl) (hs2 : starEach [e2] X.env = [(false, eval e2 X.env)] := by rfl) (e : X.K = K := by rfl) :
 PI X (.Tuple elts kk pos') (.Call (.Name "zip" p) [e1, e2] [] pos) (Op K ta) := by subst e; exact Nf hg hm ha hs hs2
end
theorem Jv {K : QO} {a b : Addr} {xs ys : List V} {g : TG} {tb : TS} {D : CI} {σ : St} {H : Hp} (Pv : Nat → St → Hp → Prop) (h0 : Pv 0 σ H) (hl : ∀ i σ H, i ≤ min xs.length ys.length → Pv i σ H → SqL K H a xs ∧ SqL K H b ys)
 (hs : ∀ i x y T σ H, xs[i]? = some x → ys[i]? = some y → H T = none → Pv i σ H → g (.ref T) σ (upd H T (.tup [x, y])) fun σ2 H2 => tb { D with nx := Pv (i + 1), ct := Pv (i + 1), bk := D.nx } σ2 H2) (hd : ∀ σ H, Pv (min xs.length ys.length) σ H → D.nx σ H) :
 ∃ W : Nat → Nat → St → Hp → Prop, (∃ m, W 0 m σ H) ∧ ∀ i m σ H, W i m σ H →
   ((Itz K a b xs ys).stop i H ∧ D.nx σ H) ∨ ((Itz K a b xs ys).go i H ∧ ∃ N : St → Hp → Prop, (∀ σ' H', N σ' H' → ∃ m', m' < m ∧ W (i + 1) m' σ' H') ∧ ∀ x H', (Itz K a b xs ys).yld i H x H' → g x σ H' fun σ2 H2 => tb { D with nx := N, ct := N, bk := D.nx } σ2 H2) := by
 refine ⟨fun i m σ H => m = min xs.length ys.length - i ∧ i ≤ min xs.length ys.length ∧ Pv i σ H, ⟨min xs.length ys.length, by simp, R5 _, h0⟩, ?_⟩
 rintro i m σ H ⟨rfl, hi, p⟩
 obtain ⟨q1, q2⟩ := hl i σ H hi p
 by_cases hlt : i < min xs.length ys.length
 ·refine .inr ⟨⟨q1, q2, hlt⟩, Pv (i + 1), fun σ' H' p' => ⟨min xs.length ys.length - (i + 1), by lia, rfl, hlt, p'⟩, fun x H' y => ?_⟩
  obtain ⟨T, x1, y1, hx, hy, hT, rfl, rfl⟩ := y
  exact hs i x1 y1 T σ _ hx hy hT p
 ·have e : i = min xs.length ys.length := by lia
  subst e
  exact .inl ⟨⟨q1, q2, R3 _⟩, hd σ H p⟩
end L2
namespace L2
open PySem PySem.Spec PyProof.Rows
namespace St
open SetTable
def it (mask : Nat) : Nat → Nat → Nat
 | 0, i => i
 | n + 1, i => it mask n ((i * 5 + 1) % (mask + 1))
theorem cover7 : ∀ i : Fin 8, ∀ e : Fin 8, ∃ m : Fin 8, it 7 m.val i.val = e.val := by decide +kernel
theorem cover31 : ∀ i : Fin 32, ∀ e : Fin 32, ∃ m : Fin 32, it 31 m.val i.val = e.val := by decide +kernel
theorem cover {mask : Nat} (hm : mask = 7 ∨ mask = 31) {i e : Nat} (hi : i < mask + 1) (he : e < mask + 1) : ∃ m, m ≤ mask ∧ it mask m i = e := by
 rcases hm with rfl | rfl
 ·obtain ⟨m, h⟩ := cover7 ⟨i, hi⟩ ⟨e, he⟩
  exact ⟨m.val, by lia, h⟩
 ·obtain ⟨m, h⟩ := cover31 ⟨i, hi⟩ ⟨e, he⟩
  exact ⟨m.val, by lia, h⟩
def bs (mask : Nat) (b : Nat) : Nat → Nat × Nat
 | 0 => (b % (mask + 1), b)
 | n + 1 => leap mask (bs mask b n).1 (bs mask b n).2
theorem bs_pert (mask b : Nat) : ∀ n, (bs mask b n).2 = b / 32 ^ n
 | 0 => by show b = b / 1; rw [Nat.div_one]
 | n + 1 => by
   show (bs mask b n).2 / 32 = _
   rw [bs_pert mask b n, Nat.div_div_eq_div_mul, Nat.pow_succ]
theorem bs_lt (mask b : Nat) : ∀ n, (bs mask b n).1 < mask + 1
 | 0 => Nat.mod_lt _ (So _)
 | _ + 1 => Nat.mod_lt _ (So _)
theorem bits_lt (h : Int) : bits h < 2 ^ 64 := by
 unfold bits
 have h1 : (0 : Int) ≤ h % 2 ^ 64 := SE _ (by decide)
 have h2 : h % 2 ^ 64 < 2 ^ 64 := SF _ (by decide)
 lia
theorem bs_late {mask b n : Nat} (hb : b < 2 ^ 64) (hn : 13 ≤ n) : (bs mask b n).2 = 0 := by
 rw [bs_pert]
 refine Nat.div_eq_of_lt (QI hb ?_)
 exact QP (by decide : 2 ^ 64 ≤ 32 ^ 13) (Sk (by decide) hn)
theorem bs_cyc {mask b : Nat} (hb : b < 2 ^ 64) : ∀ m n, 13 ≤ n → (bs mask b (n + m)).1 = it mask m (bs mask b n).1
 | 0, n, _ => rfl
 | m + 1, n, hn => by
   have ih := bs_cyc (mask := mask) hb m (n + 1) (by lia)
   rw [show n + (m + 1) = n + 1 + m by lia, ih]
   show it mask m (leap mask (bs mask b n).1 (bs mask b n).2).1 = it mask m (((bs mask b n).1 * 5 + 1) % (mask + 1))
   rw [bs_late hb hn]
   rfl
theorem bs_hits {mask b e : Nat} (hm : mask = 7 ∨ mask = 31) (hb : b < 2 ^ 64) (he : e < mask + 1) : ∃ n, n ≤ 13 + mask ∧ (bs mask b n).1 = e := by
 obtain ⟨m, h1, h2⟩ := cover hm (bs_lt mask b 13) he
 exact ⟨13 + m, by lia, by rw [bs_cyc hb m 13 (R3 _)]; exact h2⟩
def base (mask i pert : Nat) : Probe := { j := i, more := runEnd mask i - i, i, perturb := pert, dummy := none }
def advs (t : SetTable) : Nat → Probe → Probe
 | 0, p => p
 | n + 1, p => advs t n (t.advance p)
theorem advs_add (t : SetTable) : ∀ m n p, advs t (m + n) p = advs t n (advs t m p)
 | 0, n, p => by rw [SG]; rfl
 | m + 1, n, p => by rw [show m + 1 + n = (m + n) + 1 by lia]; exact advs_add t m n _
theorem run_le (mask i : Nat) : runEnd mask i - i ≤ 9 := by unfold runEnd; split <;> lia
theorem advs_run (t : SetTable) : ∀ (r j i pert : Nat), advs t (r + 1) { j := j, more := r, i := i, perturb := pert, dummy := none } = base t.mask (leap t.mask i pert).1 (leap t.mask i pert).2
 | 0, j, i, pert => rfl
 | r + 1, j, i, pert => by
   have ih := advs_run t r (j + 1) i pert
   show advs t (r + 1) (t.advance { j := j, more := r + 1, i := i, perturb := pert, dummy := none }) = _
   rw [← ih]
   rfl
theorem reach (t : SetTable) (h : Int) : ∀ n, ∃ k, k ≤ 10 * n ∧ advs t k (t.probeStart h) = base t.mask (bs t.mask (bits h) n).1 (bs t.mask (bits h) n).2
 | 0 => ⟨0, R3 _, rfl⟩
 | n + 1 => by
   obtain ⟨k, hk, e⟩ := reach t h n
   refine ⟨k + (runEnd t.mask (bs t.mask (bits h) n).1 - (bs t.mask (bits h) n).1 + 1), ?_, ?_⟩
   ·have := run_le t.mask (bs t.mask (bits h) n).1
    lia
   ·rw [advs_add, e]
    exact advs_run t _ _ _ _
theorem slot_empty {t : SetTable} (hd : t.dummies = #[]) {e : Nat} (he : ∀ i : Nat, t.place[i]? ≠ some e) : t.slot e = .empty := by
 unfold slot
 have h1 : (t.place[below t.place e]? == some e) = false := by
  rw [beq_eq_false_iff_ne]; exact he _
 have h2 : has t.dummies e = false := by
  rw [hd]; unfold has; rfl
 simp only [h1, h2]
 rfl
theorem slot_cases {t : SetTable} (hd : t.dummies = #[]) (j : Nat) : t.slot j = .empty ∨ ∃ i, t.slot j = .live i ∧ t.place[i]? = some j := by
 by_cases h : t.place[below t.place j]? = some j
 ·refine .inr ⟨below t.place j, ?_, h⟩
  unfold slot
  have h1 : (t.place[below t.place j]? == some j) = true := by rw [h]; exact beq_self_eq_true _
  simp only [h1]
  rfl
 ·refine .inl ?_
  unfold slot
  have h1 : (t.place[below t.place j]? == some j) = false := by rw [beq_eq_false_iff_ne]; exact h
  have h2 : has t.dummies j = false := by rw [hd]; unfold has; rfl
  simp only [h1, h2]
  rfl
def Hit (t : SetTable) (k : Nat) (p : Probe) : Prop := t.slot (advs t k p).j = .empty
theorem adv_dummy (t : SetTable) {p : Probe} (h : p.dummy = none) : (t.advance p).dummy = none := by
 unfold advance
 split
 ·exact h
 ·exact h
theorem go_hit {t : SetTable} (hd : t.dummies = #[]) {ha : Nat → Int} {h : Int} : ∀ (fuel k : Nat) (p : Probe), k < fuel → p.dummy = none → Hit t k p →
 (∃ j, probe.go t ha h fuel p = some (.empty j none)) ∨ ∃ j i next k', probe.go t ha h fuel p = some (.candidate j i next) ∧ t.slot j = .live i ∧ t.place[i]? = some j ∧ next.dummy = none ∧ Hit t k' next ∧ k' < k
 | fuel + 1, k, p, hk, hp, hh => by
   unfold probe.go
   rcases slot_cases hd p.j with z | ⟨i, z, zp⟩
   ·rw [z]
    exact .inl ⟨p.j, by simp only [hp]⟩
   ·rw [z]
    have hk0 : ∃ k', k = k' + 1 := by
     cases k with
     | zero => unfold Hit at hh; rw [show advs t 0 p = p from rfl, z] at hh; cases hh
     | succ k' => exact ⟨k', rfl⟩
    obtain ⟨k', rfl⟩ := hk0
    have hh' : Hit t k' (t.advance p) := hh
    by_cases hq : (ha i == h) = true
    ·refine .inr ⟨p.j, i, t.advance p, k', ?_, z, zp, adv_dummy t hp, hh', by lia⟩
     simp only [hq]
     rfl
    ·have hq' : (ha i == h) = false := by simpa using hq
     simp only [hq']
     rcases go_hit hd fuel k' (t.advance p) (by lia) (adv_dummy t hp) hh' with ⟨j, e⟩ | ⟨j, i', nx, k2, e, r1, r2, r3, r4, r5⟩
     ·exact .inl ⟨j, e⟩
     ·exact .inr ⟨j, i', nx, k2, e, r1, r2, r3, r4, by lia⟩
theorem nd_le : ∀ {l m : List Nat}, l.Nodup → (∀ x, x ∈ l → x ∈ m) → l.length ≤ m.length
 | [], m, _, _ => R5 _
 | a :: l, m, hn, hs => by
   rw [Re] at hn
   have ha := hs a QS
   have ih := nd_le (l := l) (m := m.erase a) hn.2 fun x hx => (List.mem_erase_of_ne (fun e : x = a => hn.1 (e ▸ hx))).mpr (hs x (QT _ hx))
   rw [List.length_erase_of_mem ha] at ih
   have := List.length_pos_of_mem ha
   rw [S1]; lia
theorem start_hit {t : SetTable} (hm : t.mask = 7 ∨ t.mask = 31) (hd : t.dummies = #[]) (hs : t.place.size ≤ t.mask) (h : Int) : ∃ k, k < 10 * turns t.mask ∧ Hit t k (t.probeStart h) := by
 have he : ∃ e, e < t.mask + 1 ∧ ∀ i : Nat, t.place[i]? ≠ some e := by
  refine Classical.byContradiction fun hn => ?_
  have hall : ∀ e, e < t.mask + 1 → e ∈ t.place.toList := fun e he => by
   refine Classical.byContradiction fun hne => hn ⟨e, he, fun i hi => hne ?_⟩
   exact Rn (by rw [RE]; exact hi)
  have hsub : (QL (t.mask + 1)).Subset t.place.toList := fun e he => hall e (QN.mp he)
  have hlen := nd_le (List.nodup_range (n := t.mask + 1)) hsub
  rw [SH, QZ] at hlen
  lia
 obtain ⟨e, he1, he2⟩ := he
 obtain ⟨n, hn, hb⟩ := bs_hits (b := bits h) hm (bits_lt h) he1
 obtain ⟨k, hk, hr⟩ := reach t h n
 refine ⟨k, ?_, ?_⟩
 ·unfold turns; lia
 ·unfold Hit
  rw [hr]
  show t.slot (bs t.mask (bits h) n).1 = _
  rw [hb]
  exact slot_empty hd he2
end St
end L2
namespace L2
open PySem PySem.Spec PyProof.Rows
namespace St
open SetTable
section
variable {prog : Program} {w : World} {K : Type} [DecidableEq K] (knd : KeyKind prog w K)
def IsN (h : Heap) (ks : List K) (a : Addr) : Prop := ∃ o items n, h.get? a = some o ∧ o.cls = .type "tuple" ∧ o.data = .seq items n ∧ ItemsAre knd ks items.toList ∧ ∀ v ∈ items.toList, ∃ k t, v = .int k t
variable {knd}
theorem IsN.key {h : Heap} {ks : List K} {a : Addr} (x : IsN knd h ks a) : IsTupleKey knd h ks a := let ⟨o, i, n, h1, h2, h3, h4, _⟩ := x; ⟨o, i, n, h1, h2, h3, h4⟩
theorem IsN.keep {h h' : Heap} {ks : List K} {a : Addr} (x : IsN knd h ks a) (k : ∀ o, h.get? a = some o → h'.get? a = some o) : IsN knd h' ks a := let ⟨o, i, n, h1, h2⟩ := x; ⟨o, i, n, k o h1, h2⟩
variable {A : Around} {E : Value → Shared → Prop} {s : Shared}
theorem wpAny_seqItemsQ {M : Model} {a : Addr} {o : Obj} {items n} {Q : Option (Array Value) → Shared → Prop} (ho : s.heap.get? a = some o) (hd : o.data = .seq items n) (h : Q (some items) s) : wpAny M A (seqItems? (.ref a)) Q E s := by
 unfold seqItems?
 refine wpAny_bind (wpAny_load ho ?_)
 rw [hd]
 exact wpAny_pure h
theorem hashByValue_n {ks : List K} {a : Addr} {Q : Bool → Shared → Prop} (hk : IsN knd s.heap ks a) (h : Q true s) : wpAny (model prog w) A (hashByValue 8 (.ref a)) Q E s := by
 have hT := hk.key.typeIs
 obtain ⟨o, items, n, ho, _, hd, hi, hall⟩ := hk
 unfold hashByValue
 refine wpAny_bind (wpAny_specialOf hT F.slot_tuple_hash.lookup ?_)
 show wpAny _ _ (seqItems? (.ref a) >>= _) _ _ s
 refine wpAny_bind (wpAny_seqItemsQ ho hd ?_)
 refine wpAny_bind ?_
 show wpAny _ _ (forIn items _ _) _ _ s
 rw [← SI]
 refine wpAny_forIn_list _ (fun BU r s' => r.1 = none ∧ s' = s ∧ ∀ v ∈ BU, ∃ k t, v = Value.int k t) _ ?_ ?_ _ _ ⟨rfl, rfl, hall⟩
 ·rintro v BU r s' ⟨hr, rfl, hall⟩
  obtain ⟨k, t, rfl⟩ := hall v QS
  refine wpAny_bind (m := hashByValue 7 (.int k t)) (wpAny_pure ?_)
  simp only [Bool.not_true, Bool.false_eq_true, if_false]
  exact wpAny_pure ⟨rfl, rfl, fun u hu' => hall u (QT _ hu')⟩
 ·rintro ⟨r1, r2⟩ s' ⟨hr, rfl, _⟩
  simp only at hr
  subst hr
  exact wpAny_pure h
theorem ofClass_n {ks : List K} {a : Addr} {Q : Bool → Shared → Prop} (hk : IsN knd s.heap ks a) (h : Q false s) : wpAny (model prog w) A (ofAClassStatement 8 (.ref a)) Q E s := by
 have hT := hk.key.typeIs
 obtain ⟨o, items, n, ho, _, hd, hi, hall⟩ := hk
 unfold ofAClassStatement
 refine wpAny_bind (wpAny_typeOf hT ?_)
 refine wpAny_bind (m := pure true) (wpAny_pure ?_)
 simp only [Bool.not_true, Bool.false_eq_true, if_false]
 refine wpAny_bind (wpAny_seqItemsQ ho hd ?_)
 refine wpAny_bind ?_
 show wpAny _ _ (forIn items _ _) _ _ s
 rw [← SI]
 refine wpAny_forIn_list _ (fun BU r s' => r.1 = none ∧ s' = s ∧ ∀ v ∈ BU, ∃ k t, v = Value.int k t) _ ?_ ?_ _ _ ⟨rfl, rfl, hall⟩
 ·rintro v BU r s' ⟨hr, rfl, hall⟩
  obtain ⟨k, t, rfl⟩ := hall v QS
  refine wpAny_bind (m := ofAClassStatement 7 (.int k t)) (wpAny_pure ?_)
  simp only [Bool.false_eq_true, if_false]
  exact wpAny_pure ⟨rfl, rfl, fun u hu' => hall u (QT _ hu')⟩
 ·rintro ⟨r1, r2⟩ s' ⟨hr, rfl, _⟩
  simp only at hr
  subst hr
  exact wpAny_pure h
def Ns (knd : KeyKind prog w K) (h : Heap) (l : List Value) (ks : List K) : Prop := ∀ v ∈ l, ∃ b k', v = .ref b ∧ IsN knd h k' b ∧ k' ≠ ks
theorem unseen {ks : List K} {x : Addr} {Q : Bool → Shared → Prop} (hx : IsN knd s.heap ks x) {l : List Value} (hl : Ns knd s.heap l ks) (h : Q false s) : wpAny (model prog w) A (searchCouldBeSeen (.ref x) l) Q E s := by
 unfold searchCouldBeSeen
 refine wpAny_bind ?_
 refine wpAny_forIn_list _ (fun BU r s' => r.1 = none ∧ s' = s ∧ Ns knd s.heap BU ks) _ ?_ ?_ _ _ ⟨rfl, rfl, hl⟩
 ·rintro v BU r s' ⟨hr, rfl, hall⟩
  obtain ⟨b, k', rfl, hb, hne⟩ := hall v QS
  have hrest : Ns knd s'.heap BU ks := fun u hu' => hall u (QT _ hu')
  have hxb : (x == b) = false := by
   rw [beq_eq_false_iff_ne]
   intro e
   subst e
   exact hne (hb.key.inj hx.key)
  have hc : ((match (Value.ref x), (Value.ref b) with | .ref a, .ref b => a == b | _, _ => false) || (carriedByValue (.ref x) && carriedByValue (.ref b))) = false := by
   show ((x == b) || (false && false)) = false
   rw [hxb]; rfl
  show wpAny _ _ (if ((match (Value.ref x), (Value.ref b) with | .ref a, .ref b => a == b | _, _ => false) || (carriedByValue (.ref x) && carriedByValue (.ref b))) = true then _ else _) _ _ _
  rw [if_neg (by rw [hc]; exact Bool.false_ne_true)]
  refine wpAny_bind (wpAny_eqIsQuiet_tuple hx.key ?_)
  simp only [Bool.not_true, Bool.false_eq_true, if_false]
  refine wpAny_bind (wpAny_eqIsQuiet_tuple hb.key ?_)
  simp only [Bool.not_true, Bool.false_eq_true, if_false]
  refine wpAny_bind (ofClass_n hx ?_)
  simp only [Bool.false_eq_true, if_false]
  refine wpAny_bind (ofClass_n hb ?_)
  simp only [Bool.false_eq_true, if_false]
  exact wpAny_pure ⟨rfl, rfl, hrest⟩
 ·rintro ⟨r1, r2⟩ s' ⟨hr, rfl, _⟩
  simp only at hr
  subst hr
  exact wpAny_pure h
theorem search_free {S : Addr} {o : Obj} {es : Array (Int × Value)} {ep : Nat} {t : SetTable} (ho : s.heap.get? S = some o) (hd : o.data = .set es ep t) (hf : t.fits es.size = true) (hm : t.mask = 7 ∨ t.mask = 31) (hdm : t.dummies = #[])
 {x : Addr} {ks : List K} (hx : IsN knd s.heap ks x) (hes : ∀ e ∈ es.toList, ∃ b k', e.2 = Value.ref b ∧ IsN knd s.heap k' b ∧ k' ≠ ks) (hu : A.units < cLine) {h : Int} {Q : SetFound → Shared → Prop} (hQ : ∀ j, Q (.free j false) s) :
 ∀ (k F : Nat) (stand : Option Probe), k < F → k < 10 * turns t.mask → (stand.getD (t.probeStart h)).dummy = none → Hit t k (stand.getD (t.probeStart h)) → wpAny (model prog w) A (setSearchFrom S (.ref x) h true F stand) Q E s := by
 intro k
 induction k using Nat.strongRecOn with
 | ind k ih =>
   intro F stand hF hk hdn hh
   obtain ⟨F', rfl⟩ : ∃ F', F = F' + 1 := ⟨F - 1, by lia⟩
   unfold setSearchFrom
   refine wpAny_bind (wpAny_setState_of ho hd hf ?_)
   dsimp only
   have hgw : t.gaveWay = false := by
    unfold gaveWay
    rcases hm with z | z <;> rw [z] <;> rfl
   rw [hgw]
   simp only [Bool.false_eq_true, if_false]
   have bad : ∀ {ha : Nat → Int}, (∀ met, t.probe ha h (stand.getD (t.probeStart h)) = some met → False) → False := fun {ha} hn => by
    rcases go_hit (ha := ha) (h := h) hdm (10 * turns t.mask) k _ hk hdn hh with ⟨j, e⟩ | ⟨j, i, next, k', e, _⟩
    ·exact hn _ e
    ·exact hn _ e
   split
   ·next met heq =>
    rcases go_hit hdm (10 * turns t.mask) k _ hk hdn hh with ⟨j, e⟩ | ⟨j, i, next, k', e, r1, r2, r3, r4, r5⟩
    ·have e2 := QF.inj (e.symm.trans heq)
     subst e2
     exact wpAny_pure (hQ j)
    ·have e2 := QF.inj (e.symm.trans heq)
     subst e2
     dsimp only
     have hps : t.place.size = es.size := by
      unfold fits at hf
      rw [Bool.and_eq_true] at hf
      exact eq_of_beq hf.1
     have hil : i < es.size := by
      have := (Array.getElem?_eq_some_iff.mp r2).1
      lia
     obtain ⟨h0, y, hei⟩ : ∃ h0 y, es[i]? = some (h0, y) := ⟨es[i].1, es[i].2, SJ hil⟩
     obtain ⟨b, kb, eb, hb, hne⟩ := hes (h0, y) (Rn (by rw [RE]; exact hei))
     have eb : y = .ref b := eb
     subst eb
     have hNs : Ns knd s.heap (List.map (fun x => x.snd) (Array.filter (fun x => x.fst == h) es).toList) ks := fun v hv => by
      obtain ⟨e0, he0, rfl⟩ := Sv.mp hv
      rw [Array.toList_filter] at he0
      obtain ⟨b', k2, q1, q2, q3⟩ := hes e0 (QM.mp he0).1
      exact ⟨b', k2, q1, q2, q3⟩
     have hsm : t.sameMemory t.moves t.mask = some true := by unfold sameMemory; rw [if_pos (beq_self_eq_true _)]
     rcases Bool.eq_false_or_eq_true t.led with hl | hl
     ·simp only [hl, Bool.not_true, Bool.false_eq_true, if_false]
      rw [hei]
      dsimp only
      refine wpAny_bind (wpAny_holding (wpAny_eqBool_tuple hu hb.key hx.key ?_))
      rw [decide_eq_false hne]
      refine wpAny_bind (wpAny_setState_of ho hd hf ?_)
      simp only [Bool.and_false, Bool.false_eq_true, if_false, hsm, if_true, r1, hei]
      refine wpAny_bind (wpAny_isSame_ref_self ?_)
      simp only [if_true]
      refine wpAny_bind (wpAny_pure ?_)
      simp only [Bool.false_eq_true, if_false]
      exact ih k' r5 F' (some next) (by lia) (by lia) r3 r4
     ·simp only [hl, Bool.not_false, if_true]
      refine wpAny_bind (unseen hx hNs ?_)
      simp only [Bool.false_eq_true, if_false]
      rw [hei]
      dsimp only
      refine wpAny_bind (wpAny_holding (wpAny_eqBool_tuple hu hb.key hx.key ?_))
      rw [decide_eq_false hne]
      refine wpAny_bind (wpAny_setState_of ho hd hf ?_)
      simp only [Bool.and_false, Bool.false_eq_true, if_false, hsm, if_true, r1, hei]
      refine wpAny_bind (wpAny_isSame_ref_self ?_)
      simp only [if_true]
      refine wpAny_bind (wpAny_pure ?_)
      simp only [Bool.false_eq_true, if_false]
      exact ih k' r5 F' (some next) (by lia) (by lia) r3 r4
   ·next heq => exact (bad heq).elim
end
end St
end L2
namespace L2
open PySem PySem.Spec PyProof.Rows
namespace St
open SetTable
theorem free_ok {owner : Array (Option Nat)} {b e : Nat} (he : owner.getD e (some 0) = none) : ∀ (fuel m n : Nat), m < fuel → (bs 31 b (n + m)).1 = e →
 ∃ j, layClean.free 31 owner fuel (bs 31 b n).1 (bs 31 b n).2 = some j ∧ owner.getD j (some 0) = none
 | fuel + 1, m, n, hm, hb => by
   unfold layClean.free
   split
   ·next k hk =>
    have := List.find?_some hk
    exact ⟨_, rfl, Option.isNone_iff_eq_none.mp this⟩
   ·next hk =>
    cases m with
    | zero =>
      exfalso
      rw [List.find?_eq_none] at hk
      have h0 : (0 : Nat) ∈ QL (runEnd 31 (bs 31 b n).1 + 1 - (bs 31 b n).1) := QN.mpr (by unfold runEnd; split <;> lia)
      have h1 := hk 0 h0
      rw [RW] at hb h1
      rw [hb, he] at h1
      exact h1 rfl
    | succ m =>
      obtain ⟨j, h1, h2⟩ := free_ok he fuel m (n + 1) (by lia) (by rw [show n + 1 + m = n + (m + 1) by lia]; exact hb)
      exact ⟨j, h1, h2⟩
def lv (owner : Array (Option Nat)) (j : Nat) : Option (Nat × Nat) := (owner.getD j none).map (j, ·)
theorem lv_set {owner : Array (Option Nat)} {j k : Nat} (hj : owner.getD j (some 0) = none) (hs : owner.size = 32) : (((QL 32).filterMap (lv (owner.setIfInBounds j (some k)))).map (·.2)).Perm (k :: ((QL 32).filterMap (lv owner)).map (·.2)) ∧ j < 32 := by
 have hjl : j < 32 := by
  refine Nat.lt_of_not_le fun hle => ?_
  rw [SK, SC (by lia)] at hj
  cases hj
 refine ⟨?_, hjl⟩
 have hsplit : QL 32 = QL j ++ j :: (QL 32).drop (j + 1) := by
  have h1 : (QL 32)[j]? = some j := SL hjl
  obtain ⟨hlt, hg⟩ := QX.mp h1
  have h2 := (List.take_append_drop j (QL 32)).symm
  rw [List.drop_eq_getElem_cons hlt, hg, List.take_range, Ru (by lia)] at h2
  exact h2
 have hne1 : ∀ a ∈ QL j, lv (owner.setIfInBounds j (some k)) a = lv owner a := fun a ha => by
  have : a ≠ j := by have := QN.mp ha; lia
  unfold lv
  rw [SK, SK, SM (Ne.symm this)]
 have hne2 : ∀ a ∈ (QL 32).drop (j + 1), lv (owner.setIfInBounds j (some k)) a = lv owner a := fun a ha => by
  have : a ≠ j := by
   obtain ⟨i, hi⟩ := List.getElem?_of_mem ha
   rw [Sd] at hi
   have hi2 := (QX.mp hi)
   obtain ⟨hl, hi3⟩ := hi2
   rw [List.getElem_range] at hi3
   lia
  unfold lv
  rw [SK, SK, SM (Ne.symm this)]
 have hnew : lv (owner.setIfInBounds j (some k)) j = some (j, k) := by
  unfold lv
  rw [SK, Array.getElem?_setIfInBounds_self_of_lt (by lia)]; rfl
 have hold : lv owner j = none := by
  unfold lv
  rw [SK] at hj ⊢
  have hlt : j < owner.size := by lia
  rw [SJ hlt] at hj ⊢
  show (owner[j]).map _ = none
  have hj' : owner[j] = none := hj
  rw [hj']; rfl
 have hcong : ∀ {l : List Nat}, (∀ a ∈ l, lv (owner.setIfInBounds j (some k)) a = lv owner a) → l.filterMap (lv (owner.setIfInBounds j (some k))) = l.filterMap (lv owner) := fun {l} h => by
  induction l with
  | nil => rfl
  | cons a l ih =>
    rw [QR, QR, h a QS, ih fun b hb => h b (QT _ hb)]
 rw [hsplit, List.filterMap_append, List.filterMap_append, List.filterMap_cons_some hnew, List.filterMap_cons_none hold, hcong hne1, hcong hne2, S4, S4, RG]
 exact List.perm_middle
def Own (owner : Array (Option Nat)) (k : Nat) : Prop := owner.size = 32 ∧ (((QL 32).filterMap (lv owner)).map (·.2)).Perm (QL k)
theorem own_free {owner : Array (Option Nat)} {k : Nat} (ho : Own owner k) (hk : k < 32) : ∃ e, e < 32 ∧ owner.getD e (some 0) = none := by
 refine Classical.byContradiction fun hn => ?_
 have hall : ∀ e, e < 32 → owner.getD e (some 0) ≠ none := fun e he z => hn ⟨e, he, z⟩
 have hlen := ho.2.length_eq
 rw [Rp, SH] at hlen
 have hall2 : ∀ a ∈ QL 32, (lv owner a).isSome = true := fun a ha => by
  have ha' := QN.mp ha
  have h1 := hall a ha'
  unfold lv
  rw [SK] at h1 ⊢
  have hlt : a < owner.size := by rw [ho.1]; exact ha'
  rw [SJ hlt] at h1 ⊢
  cases hc : owner[a] with
  | none => rw [hc] at h1; exact absurd rfl h1
  | some v => show ((some v).map (fun x => (a, x))).isSome = true; rfl
 have hfl : ∀ {l : List Nat}, (∀ a ∈ l, (lv owner a).isSome = true) → (l.filterMap (lv owner)).length = l.length := fun {l} h => by
  induction l with
  | nil => rfl
  | cons a l ih =>
    obtain ⟨v, hv⟩ := Option.isSome_iff_exists.mp (h a QS)
    rw [List.filterMap_cons_some hv, S1, S1, ih fun b hb => h b (QT _ hb)]
 rw [hfl hall2, SH] at hlen
 lia
def stp (acc : Option (Array (Option Nat) × Nat)) (h : Int) : Option (Array (Option Nat) × Nat) := do
 let (owner, k) ← acc
 let j ← layClean.free 31 owner (turns 31) (bits h % (31 + 1)) (bits h)
 pure (owner.setIfInBounds j (some k), k + 1)
theorem stp_ok {owner : Array (Option Nat)} {k : Nat} (ho : Own owner k) (hk : k < 32) (h : Int) : ∃ owner', stp (some (owner, k)) h = some (owner', k + 1) ∧ Own owner' (k + 1) := by
 obtain ⟨e, he, hn⟩ := own_free ho hk
 obtain ⟨n, hn1, hn2⟩ := bs_hits (mask := 31) (b := bits h) (.inr rfl) (bits_lt h) (show e < 31 + 1 by lia)
 obtain ⟨j, hj1, hj2⟩ := free_ok (owner := owner) (b := bits h) hn (turns 31) n 0 (by unfold turns; lia) (by rw [SG]; exact hn2)
 have hp := lv_set (k := k) hj2 ho.1
 refine ⟨owner.setIfInBounds j (some k), ?_, ?_, ?_⟩
 ·have hj1' : layClean.free 31 owner (turns 31) (bits h % (31 + 1)) (bits h) = some j := hj1
  show (do let j ← layClean.free 31 owner (turns 31) (bits h % (31 + 1)) (bits h); pure (owner.setIfInBounds j (some k), k + 1)) = _
  rw [hj1']; rfl
 ·rw [Array.size_setIfInBounds]; exact ho.1
 ·refine hp.1.trans ?_
  rw [show QL (k + 1) = QL k ++ [k] from Su]
  exact (List.Perm.cons k ho.2).trans (List.perm_append_comm (l₁ := [k]))
theorem fold_ok : ∀ (hs : List Int) {owner : Array (Option Nat)} {k : Nat}, Own owner k → k + hs.length ≤ 32 → ∃ owner', hs.foldl stp (some (owner, k)) = some (owner', k + hs.length) ∧ Own owner' (k + hs.length)
 | [], owner, k, ho, _ => ⟨owner, rfl, ho⟩
 | h :: hs, owner, k, ho, hl => by
   rw [S1] at hl
   obtain ⟨o1, e1, ho1⟩ := stp_ok ho (by lia) h
   obtain ⟨o2, e2, ho2⟩ := fold_ok hs ho1 (by lia)
   refine ⟨o2, ?_, ?_⟩
   ·rw [List.foldl_cons, e1, e2, S1, show k + 1 + hs.length = k + (hs.length + 1) by lia]
   ·rw [S1, show k + (hs.length + 1) = k + 1 + hs.length by lia]; exact ho2
theorem own_none : Own (SN 32 none) 0 := by
 refine ⟨Array.size_replicate, ?_⟩
 have : (QL 32).filterMap (lv (SN 32 none)) = [] := by decide +kernel
 rw [this]; exact List.Perm.refl _
theorem laid_ok (hashes : Array Int) (hn : hashes.size ≤ 32) (finger moves : Nat) (led plain : Bool) : ∃ t order, laid 31 finger moves led plain hashes = some (t, order) ∧ t.mask = 31 ∧ t.dummies = #[] ∧ t.place.size = hashes.size ∧ order.toList.Perm (QL hashes.size) := by
 obtain ⟨owner, e, ho⟩ := fold_ok hashes.toList own_none (by rw [QZ]; lia)
 have hc : layClean 31 hashes = some owner := by
  unfold layClean
  have e' : hashes.foldl stp (some (SN 32 none, 0)) = some (owner, 0 + hashes.toList.length) := by rw [← Array.foldl_toList]; exact e
  have e2 : hashes.foldl (init := some (SN (31 + 1) none, 0)) (fun acc h => do
   let (owner, k) ← acc
   let j ← layClean.free 31 owner (turns 31) (bits h % (31 + 1)) (bits h)
   pure (owner.setIfInBounds j (some k), k + 1)) = some (owner, 0 + hashes.toList.length) := e'
  rw [e2]; rfl
 have hp := ho.2
 rw [SG, QZ] at hp
 refine ⟨{ mask := 31, place := (((QL 32).filterMap (lv owner)).map (·.1)).toArray, dummies := #[], finger, led, moves, plain }, (((QL 32).filterMap (lv owner)).map (·.2)).toArray, ?_, rfl, rfl, ?_, ?_⟩
 ·unfold laid
  rw [hc]
  rfl
 ·have := hp.length_eq
  rw [Rp, SH] at this
  show (((QL 32).filterMap (lv owner)).map (·.1)).toArray.size = _
  rw [Rx, Rp]; exact this
 ·exact hp
end St
end L2
namespace L2
open PySem PySem.Spec PyProof.Rows
namespace St
open SetTable
section
variable {prog : Program} {w : World} {K : Type} [DecidableEq K] (knd : KeyKind prog w K) (G : Addr → Prop)
def SetN (h : Heap) (S : Addr) (keys : List (List K)) : Prop := ∃ o es ep t, h.get? S = some o ∧ o.ExactSet ∧ o.data = .set es ep t ∧ (t.mask = 7 ∧ es.size ≤ 4 ∨ t.mask = 31) ∧ t.dummies = #[] ∧ t.place.size = es.size ∧ es.size = keys.length ∧
 ∀ e ∈ es.toList, ∃ b k, e.2 = Value.ref b ∧ IsN knd h k b ∧ k ∈ keys ∧ G b
variable {knd} {G}
theorem SetN.keep {h h' : Heap} {S : Addr} {keys : List (List K)} (x : SetN knd G h S keys) (k : ∀ b o, b = S ∨ G b → h.get? b = some o → h'.get? b = some o) : SetN knd G h' S keys := by
 obtain ⟨o, es, ep, t, h1, h2, h3, h4, h5, h6, h7, h8⟩ := x
 refine ⟨o, es, ep, t, k _ _ (.inl rfl) h1, h2, h3, h4, h5, h6, h7, fun e he => ?_⟩
 obtain ⟨b, k', q1, q2, q3, q4⟩ := h8 e he
 exact ⟨b, k', q1, q2.keep fun o e => k _ o (.inr q4) e, q3, q4⟩
variable {A : Around} {E : Value → Shared → Prop} {s : Shared}
theorem insert_size {α : Type} (xs : Array α) (p : Nat) (x : α) : (insertAt xs p x).size = xs.size + 1 := by
 have h := (SetTable.insertAt_perm xs p x).length_eq
 rw [QZ, QZ, SO] at h
 exact h
theorem keep_but {h h' : Heap} {S : Addr} (sb : Heap.SameBut S h h') {ks : List K} {b : Addr} {o : Obj} {es ep t} (hS : h.get? S = some o) (hd : o.data = .set es ep t) (x : IsN knd h ks b) : IsN knd h' ks b := by
 obtain ⟨o', items, n, h1, h2, h3, h4⟩ := id x
 have hne : b ≠ S := by
  rintro rfl
  rw [hS] at h1
  cases h1
  rw [hd] at h3
  cases h3
 exact x.keep fun o'' e => (sb.2 b hne).trans e
theorem add_tail {S : Addr} {o : Obj} {es : Array (Int × Value)} {ep : Nat} {t : SetTable} (ho : s.heap.get? S = some o) (hcl : o.ExactSet) (hd : o.data = .set es ep t) {es1 : Array (Int × Value)} {t1 : SetTable} {keys : List (List K)}
 (hmk : t1.mask = 7 ∧ es1.size ≤ 5 ∨ t1.mask = 31) (hdm : t1.dummies = #[]) (hps : t1.place.size = es1.size) (hn : es1.size = keys.length) (h17 : es1.size ≤ 17) (hel : ∀ e ∈ es1.toList, ∃ b k, e.2 = Value.ref b ∧ IsN knd s.heap k b ∧ k ∈ keys ∧ G b) {m : Nat} (hm : m = es1.size) {Q : Bool → Shared → Prop}
 (h : ∀ h', Heap.SameBut S s.heap h' → SetN knd G h' S keys → Q true { s with heap := h' }) :
 wpAny (model prog w) A (do storeSet S es1 t1; if (!false && t1.tooFull) = true then do { setRelay S (grown m); pure true } else pure true) Q E s := by
 refine wpAny_bind (wpAny_storeSet_of ho hd ?_ (QP h17 (by decide)))
 have hg1 : (s.heap.update S (Obj.putSet es1 t1)).get? S = some { o with data := .set es1 (ep + 1) t1 } := by
  have := Heap.get?_update_self (Obj.putSet es1 t1) ho (by rw [putSet_of _ _ hd]; rfl)
  rw [putSet_of _ _ hd] at this; exact this
 have sb1 : Heap.SameBut S s.heap (s.heap.update S (Obj.putSet es1 t1)) := Heap.SameBut.update ..
 generalize s.heap.update S (Obj.putSet es1 t1) = h1 at hg1 sb1 ⊢
 have hel1 : ∀ e ∈ es1.toList, ∃ b k, e.2 = Value.ref b ∧ IsN knd h1 k b ∧ k ∈ keys ∧ G b := fun e he => by
  obtain ⟨b, k, q1, q2, q3, q4⟩ := hel e he
  exact ⟨b, k, q1, keep_but sb1 ho hd q2, q3, q4⟩
 have hfl : SetTable.fill t1 = es1.size := by unfold SetTable.fill; rw [hdm, hps]; rfl
 by_cases hfull : t1.tooFull = true
 ·have hf5 : es1.size * 5 ≥ t1.mask * 3 := by
   unfold tooFull at hfull
   rw [hfl] at hfull
   exact of_decide_eq_true hfull
  have hm7 : t1.mask = 7 ∧ es1.size = 5 := by
   rcases hmk with z | z
   ·rw [z.1] at hf5; exact ⟨z.1, by lia⟩
   ·rw [z] at hf5; lia
  simp only [hfull, Bool.not_false, Bool.and_self, if_true]
  refine wpAny_bind ?_
  unfold setRelay
  have hfit1 : t1.fits es1.size = true := by
   unfold fits
   rw [hfl, hps, hm7.1, hm7.2]; rfl
  refine wpAny_bind (wpAny_setState_of (s := { s with heap := h1 }) (o := { o with data := .set es1 (ep + 1) t1 }) hg1 rfl hfit1 ?_)
  dsimp only
  have hgr : grown m = 20 := by rw [hm, hm7.2]; rfl
  have hsa : sizeAbove 20 = 32 := by decide
  rw [hgr, hsa, if_neg (by decide)]
  have hrl : t1.relaid (es1.map (·.1)) 20 = laid 31 t1.finger (t1.movedTo 31) t1.led t1.plain (es1.map (·.1)) := by
   unfold relaid
   rw [hsa]
  obtain ⟨t2, order, el, et1, et2, et3, eo⟩ := laid_ok (es1.map (·.1)) (by rw [Array.size_map]; lia) t1.finger (t1.movedTo 31) t1.led t1.plain
  rw [Array.size_map] at et3 eo
  have hperm : (order.filterMap (es1[·]?)).toList.Perm es1.toList := by
   rw [Array.toList_filterMap]
   have := eo.filterMap (fun i => es1[i]?)
   rw [filterMap_getElem?_range] at this
   exact this
  have hsz2 : (order.filterMap (es1[·]?)).size = es1.size := by
   have := hperm.length_eq
   rw [QZ, QZ] at this
   exact this
  rw [hrl, el]
  refine wpAny_bind ?_
  show wpAny _ _ (if ((order.filterMap (es1[·]?)).size != es1.size) = true then _ else pure (order.filterMap (es1[·]?), t2)) _ _ _
  rw [if_neg (by rw [hsz2]; simp)]
  refine wpAny_pure ?_
  generalize order.filterMap (es1[·]?) = es2 at hperm hsz2 ⊢
  refine wpAny_storeSet_of (s := { s with heap := h1 }) (o := { o with data := .set es1 (ep + 1) t1 }) hg1 rfl ?_ (by rw [hsz2]; exact QP h17 (by decide))
  have hg2 : (h1.update S (Obj.putSet es2 t2)).get? S = some { o with data := .set es2 (ep + 1 + 1) t2 } := by
   have := Heap.get?_update_self (Obj.putSet es2 t2) hg1 (by rw [putSet_of (es := es1) (ep := ep + 1) (t := t1) _ _ rfl]; rfl)
   rw [putSet_of (es := es1) (ep := ep + 1) (t := t1) _ _ rfl] at this; exact this
  have sb2 : Heap.SameBut S h1 (h1.update S (Obj.putSet es2 t2)) := Heap.SameBut.update ..
  have hel2 : ∀ e ∈ es2.toList, ∃ b k, e.2 = Value.ref b ∧ IsN knd (h1.update S (Obj.putSet es2 t2)) k b ∧ k ∈ keys ∧ G b := fun e he => by
   obtain ⟨b, k, q1, q2, q3, q4⟩ := hel1 e (hperm.mem_iff.mp he)
   exact ⟨b, k, q1, keep_but (es := es1) (ep := ep + 1) (t := t1) sb2 hg1 rfl q2, q3, q4⟩
  refine wpAny_pure (h (h1.update S (Obj.putSet es2 t2)) ⟨sb2.1.trans sb1.1, fun b hb => (sb2.2 b hb).trans (sb1.2 b hb)⟩ ⟨_, _, _, _, hg2, hcl, rfl, .inr et1, et2, by rw [et3, hsz2], by rw [hsz2]; exact hn, hel2⟩)
 ·have hfull' : t1.tooFull = false := by simpa using hfull
  simp only [hfull', Bool.and_false, Bool.false_eq_true, if_false]
  refine wpAny_pure (h h1 sb1 ⟨_, _, _, _, hg1, hcl, rfl, ?_, hdm, hps, hn, hel1⟩)
  rcases hmk with z | z
  ·refine .inl ⟨z.1, ?_⟩
   unfold tooFull at hfull'
   rw [hfl, z.1] at hfull'
   have hf' := of_decide_eq_false hfull'
   lia
  ·exact .inr z
theorem add_n {S x : Addr} {ks : List K} {keys : List (List K)} {hsh : Int} {Q : Bool → Shared → Prop} (hS : SetN knd G s.heap S keys) (hx : IsN knd s.heap ks x) (hGx : G x) (hne : ks ∉ keys) (hl : keys.length ≤ 16) (hu : A.units < cLine)
 (h : ∀ h', Heap.SameBut S s.heap h' → SetN knd G h' S (ks :: keys) → Q true { s with heap := h' }) : wpAny (model prog w) A (setAddHashed S (.ref x) hsh) Q E s := by
 obtain ⟨o, es, ep, t, ho, hcl, hd, hmk, hdm, hps, hn, hel⟩ := hS
 have hm : t.mask = 7 ∨ t.mask = 31 := hmk.elim (fun z => .inl z.1) .inr
 have hsz : es.size ≤ t.mask := by rcases hmk with z | z <;> lia
 have hfl : SetTable.fill t = es.size := by unfold SetTable.fill; rw [hdm, hps]; rfl
 have hfit : t.fits es.size = true := by
  unfold fits
  rw [hfl, hps]
  simp
  exact hsz
 have hes : ∀ e ∈ es.toList, ∃ b k', e.2 = Value.ref b ∧ IsN knd s.heap k' b ∧ k' ≠ ks := fun e he => by
  obtain ⟨b, k, q1, q2, q3, _⟩ := hel e he
  exact ⟨b, k, q1, q2, fun z => hne (z ▸ q3)⟩
 unfold setAddHashed setAddHashedIn
 refine wpAny_holding (wpAny_bind (wpAny_setState_of ho hd hfit ?_))
 dsimp only
 have hbs : byScan (.ref x) es = false := rfl
 rw [hbs]
 simp only [Bool.false_eq_true, if_false]
 obtain ⟨k, hk1, hk2⟩ := start_hit hm hdm (by rw [hps]; exact hsz) hsh
 have hkF : k < 100000 := by
  unfold turns at hk1
  rcases hm with z | z <;> rw [z] at hk1 <;> lia
 refine wpAny_bind (m := setSearch S (.ref x) hsh true) (search_free ho hd hfit hm hdm hx hes hu (fun j => ?_) k 100000 none hkF hk1 rfl hk2)
 dsimp only
 refine wpAny_bind (wpAny_setState_of ho hd hfit ?_)
 dsimp only
 have hput : (t.put j).1 = { t with place := insertAt t.place (t.put j).2 j } := by
  unfold put
  have hz : has t.dummies j = false := by rw [hdm]; unfold has; rfl
  simp only [hz, Bool.false_eq_true, if_false]
 have hpl1 : (t.put j).1.place.size = es.size + 1 := by rw [hput]; show (insertAt _ _ _).size = _; rw [insert_size, hps]
 have hdm1 : (t.put j).1.dummies = #[] := by rw [hput]; exact hdm
 have hmk1 : (t.put j).1.mask = t.mask := by rw [hput]
 generalize (t.put j).1 = t1 at hpl1 hdm1 hmk1 ⊢
 generalize (t.put j).2 = p
 have hsz1 : (insertAt es p (hsh, Value.ref x)).size = es.size + 1 := insert_size _ _ _
 have hel1 : ∀ e ∈ (insertAt es p (hsh, Value.ref x)).toList, ∃ b k, e.2 = Value.ref b ∧ IsN knd s.heap k b ∧ k ∈ ks :: keys ∧ G b := fun e he => by
  have he' := (SetTable.insertAt_perm es p (hsh, Value.ref x)).mem_iff.mp he
  rw [Array.toList_push] at he'
  rcases QV.mp he' with z | z
  ·obtain ⟨b, k, q1, q2, q3, q4⟩ := hel e z
   exact ⟨b, k, q1, q2, QT _ q3, q4⟩
  ·rw [Sh.mp z]
   exact ⟨x, ks, rfl, hx, QS, hGx⟩
 have tail := add_tail (knd := knd) (G := G) (A := A) (E := E) (Q := Q) ho hcl hd (es1 := insertAt es p (hsh, Value.ref x)) (t1 := t1) (keys := ks :: keys) (by rw [hmk1, hsz1]; rcases hmk with z | z; exact .inl ⟨z.1, by lia⟩; exact .inr z) hdm1 (by rw [hpl1, hsz1]) (by rw [hsz1, hn]; rfl) (by rw [hsz1]; lia) hel1 (m := es.size + 1) (by rw [hsz1]) h
 split
 ·refine wpAny_bind (hashByValue_n hx ?_)
  simp only [if_true]
  exact tail
 ·refine wpAny_bind (wpAny_pure ?_)
  simp only [if_true]
  exact tail
end
end St
end L2
namespace L2
open PySem PySem.Spec PyProof.Rows
namespace St
section
variable {prog : Program} {w : World} {K : Type} [DecidableEq K] {knd : KeyKind prog w K} {G : Addr → Prop} {A : Around} {R : Result → Shared → Prop} {I : Addr} {fp wr : List Addr} {GG : Array GenState → Array GenState → Prop} {n : Nat} {P : Nat → Value → Prop} {St : Nat → Shared → Prop}
def ksAt (key : Nat → List K) : Nat → List (List K)
 | 0 => []
 | i + 1 => key i :: ksAt key i
theorem ksAt_length (key : Nat → List K) : ∀ i, (ksAt key i).length = i
 | 0 => rfl
 | i + 1 => by show (ksAt key i).length + 1 = i + 1; rw [ksAt_length key i]
theorem ksAt_mem {key : Nat → List K} {k : List K} : ∀ {i}, k ∈ ksAt key i → ∃ j, j < i ∧ key j = k
 | i + 1, h => by
   rcases QU.mp h with z | z
   ·exact ⟨i, Se _, z.symm⟩
   ·obtain ⟨j, h1, h2⟩ := ksAt_mem z
    exact ⟨j, Sg h1, h2⟩
theorem turn_of {S : Addr} {s : Shared} (hz : wpAny (model prog w) A.in1 (Builtin.«set.update.loop» ⟨[.ref S, .ref I], []⟩)
 (fun fin s' => match fin with | .done f => R (.ok f) s' | .again c' => c'.quiet = true ∧ codeAny (model prog w) A c' R s') (fun e s' => R (.error e) s') s) :
 codeAny (model prog w) A (.builtin "set.update.loop" ⟨[.ref S, .ref I], []⟩) R s :=
 codeAny_builtin F.entry_set_update_loop ((Around.under_plainId F.plain_set_update_loop (A := A) ⟨[.ref S, .ref I], []⟩).symm ▸ hz)
theorem loop_n (W : WalksS prog w A.in1 I fp wr GG n P St) (S : Addr) (hSf : S ∉ fp) (key : Nat → List K) (adr : Nat → Addr) (hval : ∀ i v, P i v → v = Value.ref (adr i)) (hG : ∀ i, i < n → G (adr i)) (hGw : ∀ b, G b → b ∉ wr ∧ b ≠ S)
 (hinj : ∀ i j, i < n → j < n → key i = key j → i = j) (hn : n ≤ 17) (hu : A.units + 1 < cLine) (left i : Nat) (s : Shared) (hk : i + left = n) (hst : St i s) (hN : ∀ j, j < n → IsN knd s.heap (key j) (adr j)) (hS : SetN knd G s.heap S (ksAt key i))
 (hR : ∀ s', Moved (S :: wr) GG s s' → SetN knd G s'.heap S (ksAt key n) → R (.ok (.ret .none)) s') : codeAny (model prog w) A (.builtin "set.update.loop" ⟨[.ref S, .ref I], []⟩) R s := by
 have grow : ∀ {a b : Shared}, Moved wr GG a b → Moved (S :: wr) GG a b := fun m => m.mono fun _ => QT _
 have stay : ∀ {a b : Shared}, Moved wr GG a b → ∀ c o, c = S ∨ G c → a.heap.get? c = some o → b.heap.get? c = some o := fun m c o hc => m.heap c o (hc.elim (fun z => z ▸ mt (W.sub _) hSf) fun z => (hGw c z).1)
 induction left generalizing i s with
 | zero =>
   obtain rfl : i = n := by lia
   refine turn_of (show wpAny (model prog w) A.in1 (pyNext (Value.ref I) >>= _) _ _ s from wpAny_bind (W.done s _ _ hst fun s' m => ?_))
   exact wpAny_pure (hR s' (grow m) (hS.keep (stay m)))
 | succ left ih =>
   have hlt : i < n := by lia
   refine turn_of (show wpAny (model prog w) A.in1 (pyNext (Value.ref I) >>= _) _ _ s from wpAny_bind (W.item i s _ _ hlt hst fun v s' hP hst' m => ?_))
   obtain rfl := hval i v hP
   have hN' : ∀ j, j < n → IsN knd s'.heap (key j) (adr j) := fun j hj => (hN j hj).keep fun o e => stay m _ o (.inr (hG j hj)) e
   have hS' : SetN knd G s'.heap S (ksAt key i) := hS.keep (stay m)
   refine wpAny_bind (m := holding [Value.ref (adr i)] (setAdd S (Value.ref (adr i)))) (wpAny_holding ?_)
   unfold setAdd
   refine wpAny_holding (wpAny_bind (wpAny_pyHash_tuple hu (hN' i hlt).key ?_))
   refine add_n (knd := knd) (G := G) (s := { s' with toks := s'.toks + ((key i).length + 1) }) hS' (hN' i hlt) (hG i hlt) (fun z => ?_) (by rw [ksAt_length]; lia) hu fun h' sb hS2 => ?_
   ·obtain ⟨j, j1, j2⟩ := ksAt_mem z
    have := hinj j i (by lia) hlt j2
    lia
   have other : ∀ c o, c ≠ S → s'.heap.get? c = some o → h'.get? c = some o := fun c o hc e => (sb.2 c hc).trans e
   refine wpAny_pure ⟨plainId_quiet F.plain_set_update_loop _, ih (i + 1) _ (by lia) (W.frame _ s' _ _ hst' (SD _ _) fun b hb o e => other b o (fun z => hSf (z ▸ hb)) e) (fun j hj => (hN' j hj).keep fun o e => other _ o (hGw _ (hG j hj)).2 e) hS2 fun s'' m2 hS3 => ?_⟩
   exact hR s'' (((grow m).then_heap (SD _ _) fun b o hb e => other b o (fun z => hb (z ▸ QS)) e).trans W.gtrans m2) hS3
end
section
variable {prog : Program} {w : World} {K : Type} [DecidableEq K] {knd : KeyKind prog w K} {A : Around} {E : Value → Shared → Prop} {s : Shared}
abbrev nS (led : Bool) : Obj := { cls := .type "set", dict := none, data := .set #[] 0 (.fresh 0 0 led) }
abbrev nI (l : Addr) : Obj := { cls := .type "list_iterator", data := .fields #[.ref l, .int 0 0] }
theorem init_n {l : Addr} {items : Array Value} (led : Bool) (key : Nat → List K) (adr : Nat → Addr) (hh : A.handled = none) (hl : s.heap.IsList l items) (hv : ∀ (i : Nat) (v : Value), items[i]? = some v → v = Value.ref (adr i)) (hN : ∀ j, j < items.size → IsN knd s.heap (key j) (adr j))
 (hinj : ∀ i j, i < items.size → j < items.size → key i = key j → i = j) (hb : items.size ≤ 17) (hu : A.units + 20 < cLine) {Q : Fin → Shared → Prop} {E' : Value → Shared → Prop}
 (h : ∀ (h' : Heap) (tk : Nat), SetN knd (fun b => b < s.heap.objs.size) h' s.heap.objs.size (ksAt key items.size) → (∀ b o, s.heap.get? b = some o → h'.get? b = some o) → Q (.done (.ret .none)) { s with heap := h', toks := tk }) :
 wpAny (model prog w) A (Builtin.«set.__init__» ⟨[.ref s.heap.objs.size, .ref l], []⟩) Q E' { s with heap := s.heap.push (nS led) } := by
 have lS : l < s.heap.objs.size := by obtain ⟨_, e, _⟩ := hl; exact Heap.lt_size e
 obtain ⟨⟨_, od, _, osl⟩, el, hc, nl, hd⟩ := id hl
 simp only at hc hd; subst hc hd
 have el1 : (s.heap.push (nS led)).get? l = some { cls := .type "list", dict := od, data := .seq items nl, slots := osl } := Heap.get?_push_of_some _ el
 have eS : (s.heap.push (nS led)).get? s.heap.objs.size = some (nS led) := Heap.get?_push_size _ rfl
 have hl1 : (s.heap.push (nS led)).IsList l items := ⟨_, el1, rfl, nl, rfl⟩
 have t1 := F.sub_list_set; have t2 := F.sub_list_frozenset; have t3 : (Value.type "list" == Value.type "dict") = false := by decide
 unfold Builtin.«set.__init__» noKeywords Builtin.Frozenset.updateFrom
 generalize hPI : pyIter = PI; wp_walk; subst hPI
 have zS : (s.heap.push (nS led)).objs.size = s.heap.objs.size + 1 := Heap.size_push ..
 refine wpAny_pyIter_list hl1 (wpAny_bind (wpAny_runValue ?_))
 have up : ∀ b o, s.heap.get? b = some o → ((s.heap.push (nS led)).push (nI l)).get? b = some o := fun b o e => Heap.get?_push_of_some _ (Heap.get?_push_of_some _ e)
 have lI : l ≠ (s.heap.push (nS led)).objs.size := by rw [zS]; exact QK (Sg lS)
 refine loop_n (knd := knd) (G := fun b => b < s.heap.objs.size) ((Walks.list (A := A.in1) hh _ l lI items).toS) s.heap.objs.size ?_ key adr (fun i v hP => hv i v hP) (fun i hi => ?_) (fun b hb => ⟨?_, QK hb⟩) hinj hb (by lia) items.size 0 _ (SG _)
  ⟨⟨_, Heap.get?_push_size _ rfl, rfl, rfl⟩, hl1.push _⟩ (fun j hj => (hN j hj).keep fun o e => up _ _ e) ⟨_, _, _, _, Heap.get?_push_of_some _ eS, ⟨rfl, rfl, rfl⟩, rfl, .inl ⟨rfl, R5 _⟩, rfl, rfl, rfl, (fun e he => by simp at he)⟩ ?_
 ·rw [zS]; intro hm
  rcases QU.mp hm with z | z
  ·exact absurd z (QK (Se _))
  ·exact absurd (Sh.mp z) (R0 lS)
 ·obtain ⟨_, _, _, e, _⟩ := hN i hi; exact Heap.lt_size e
 ·rw [zS]; intro hm
  exact absurd (Sh.mp hm) (QK (Sg hb))
 rintro ⟨h', g', d', tk', os'⟩ m hS'
 obtain rfl : g' = s.gens := m.gens
 obtain rfl : d' = s.drawn := m.drawn
 obtain rfl : os' = s.os := m.os
 refine wpAny_pure (wpAny_pure (h h' tk' hS' fun b o e => ?_))
 have lb := Heap.lt_size e
 refine m.heap b o (fun hm => ?_) (up b o e)
 rw [zS] at hm
 rcases QU.mp hm with z | z
 ·exact absurd z (QK lb)
 ·exact absurd (Sh.mp z) (QK (Sg lb))
theorem call_setN {l : Addr} {items : Array Value} {Q : Value → Shared → Prop} (key : Nat → List K) (adr : Nat → Addr) (hh : A.handled = none) (hl : s.heap.IsList l items) (hv : ∀ (i : Nat) (v : Value), items[i]? = some v → v = Value.ref (adr i)) (hN : ∀ j, j < items.size → IsN knd s.heap (key j) (adr j))
 (hinj : ∀ i j, i < items.size → j < items.size → key i = key j → i = j) (hb : items.size ≤ 17) (hu : A.units + 40 < cLine)
 (h : ∀ (h' : Heap) (tk : Nat), SetN knd (fun b => b < s.heap.objs.size) h' s.heap.objs.size (ksAt key items.size) → (∀ b o, s.heap.get? b = some o → h'.get? b = some o) → Q (.ref s.heap.objs.size) { s with heap := h', toks := tk }) :
 wpAny (model prog w) A (call (.type "set") [.ref l]) Q E s := by
 obtain ⟨_, _, hmro⟩ := F.called_set.mro
 have m1 := F.called_set.made; have m2 := F.called_set.sub; have m3 := F.called_set.notType; have m4 := F.called_set.canCreate; have m5 := F.typeCall_set_1 (.ref l)
 refine wpAny_call (codeAny_of_tree (show wpAny _ _ (callAny (.type "set") _) _ _ _ from wpAny_pure ⟨Code.quiet_builtin _ (by decide +kernel), codeAny_builtin F.entry_type_call ?_⟩))
 rw [Around.under_plain (weight_type_call_type "set" [.ref l] []) rfl]
 repeat any_goals first | assumption | wp_step
 refine codeAny_mono (code_set_new_1 (.ref l) (E := E) (Q₁ := fun v s₁ => v = .ref s.heap.objs.size ∧ ∃ led, s₁ = { s with heap := s.heap.push (nS led) }) fun led => ⟨rfl, led, rfl⟩) fun r s₁ hr => ?_
 rcases r with e | fl
 ·exact hr
 cases fl with
 | ret v =>
   obtain ⟨e1, led, e2⟩ := hr
   subst e1 e2
   have hT : Shared.TypeIs { s with heap := s.heap.push (nS led) } (.ref s.heap.objs.size) "set" := ⟨_, Heap.get?_push_size _ rfl, rfl⟩
   have m6 := F.called_set.init.lookup; have m7 := F.called_set.init.bind (.ref s.heap.objs.size)
   repeat any_goals first | assumption | wp_step
   refine codeAny_mono (codeAny_call_builtin (R := wants (fun r s₂ => r = .none ∧ Q (.ref s.heap.objs.size) s₂) E) F.called_set.init.plain F.entry_set_init (check_set_init_1 hT ?_)) fun r₂ s₂ hr₂ => ?_
   ·refine init_n (knd := knd) led key adr ?_ hl hv hN hinj hb ?_ fun h' tk hS hk => ?_
    ·simp [hh]
    ·simp only [Around.in1]; lia
    ·exact ⟨rfl, h h' tk hS hk⟩
   ·rcases r₂ with e | fl₂
    ·exact hr₂
    cases fl₂ with
    | ret _ =>
      obtain ⟨e3, q⟩ := hr₂
      subst e3
      repeat any_goals first | assumption | wp_step
    | _ => exact hr₂.elim
 | _ => exact hr.elim
end
end St
end L2
namespace L2
open PySem PySem.Spec PyProof.Rows
theorem NU : bootBuiltins "set" = some (.type "set") := by decide +kernel
def LH (p : Addr) (n : Nat) : HO := .ext fun h => ∃ o es ep t, h.get? p = some o ∧ o.ExactSet ∧ o.data = .set es ep t ∧ SetTable.fits t es.size = true ∧ es.size = n
theorem NL {P : Program} {w : World} {H : Hp} {h : Heap} {a : Addr} {q : Rat} (ok : HOk P w H h) (e : H a = some (nT q)) : St.IsN (Cq P w) h (kQ q) a := by
 obtain ⟨_, its, rv, o, ho, hc, n, hd⟩ := ok a _ e
 refine ⟨o, its.toArray, n, ho, hc, hd, Ge (ks := kQ q) rv, fun v hv => ?_⟩
 have hv' : v ∈ its := by simpa using hv
 cases rv with
 | cons r1 rr =>
   cases rr with
   | cons r2 rr =>
     cases rr
     obtain ⟨t1, rfl⟩ := r1
     obtain ⟨t2, rfl⟩ := r2
     rcases QU.mp hv' with z | z
     ·exact ⟨_, _, z⟩
     ·exact ⟨_, _, Sh.mp z⟩
section
variable {X : Cx}
inductive KD (K : QO) (xs : List V) (H : Hp) (Q : VK) : Prop
 | mk (l : Addr) (ys : List V) (qs : List Rat) (h1 : xs = [.ref l]) (h2 : SqL K H l ys) (h3 : Ax H ys qs) (h4 : qs.Nodup) (h5 : qs.length ≤ 17) (h6 : ∀ p, H p = none → Q (.ref p) (upd H p (LH p qs.length))) : KD K xs H Q
theorem Kb (hc : X.calm = true) (hu : X.A.units + 64 < cLine) : CJ X (.type "set") (KD X.K) := by
 intro pins s σ H xs us Q I r h
 obtain ⟨l, ys, qs, rfl, hq, hn, hnd, h17, q⟩ := h
 obtain ⟨u, rfl, rfl⟩ := FL r
 obtain ⟨its, rv, p, hz⟩ := I.list hq
 have hl := rv.length
 have hyl := hn.length
 have hsz : its.toArray.size = qs.length := by rw [Rx]; lia
 let adr : Nat → Addr := fun j => match ys[j]? with | some (.ref r) => r | _ => 0
 have had : ∀ j, j < qs.length → ∃ r, ys[j]? = some (.ref r) ∧ adr j = r ∧ H r = some (nT (qs.getD j 0)) := fun j hj => by
  have g : qs[j]? = some (qs.getD j 0) := by rw [Sb, Si hj]; rfl
  obtain ⟨y, hy, r, rfl, hr⟩ := Paired.get' hn g
  exact ⟨r, hy, by show (match ys[j]? with | some (.ref r) => r | _ => 0) = r; rw [hy], hr⟩
 refine St.call_setN (knd := Cq X.prog X.w) (fun j => kQ (qs.getD j 0)) adr (I.ok.hd hc) p.isList (fun i v hv => ?_) (fun j hj => ?_) (fun i j hi hj e => ?_) (by lia) (by lia) fun h' tk hS hk => ?_
 ·have hv' : its[i]? = some v := by simpa using hv
  have hi : i < its.length := (QX.mp hv').1
  obtain ⟨r, hy, hr, _⟩ := had i (by lia)
  obtain ⟨u, hu1, ru⟩ := rv.get hy
  rw [hv'] at hu1
  cases hu1
  rw [hr]; exact ru
 ·rw [hsz] at hj
  obtain ⟨r, _, hr, hH⟩ := had j hj
  rw [hr]
  exact NL I.hok hH
 ·rw [hsz] at hi hj
  have e' := NJ e
  have g1 : qs[i]? = some (qs.getD i 0) := by rw [Sb, Si hi]; rfl
  have g2 : qs[j]? = some (qs.getD j 0) := by rw [Sb, Si hj]; rfl
  exact (List.getElem?_inj hi hnd).mp (by rw [g1, g2, e'])
 ·obtain ⟨o, es, ep, t, h1, h2, h3, h4, h5, h6, h7, _⟩ := hS
  rw [St.ksAt_length, hsz] at h7
  have hfit : SetTable.fits t es.size = true := by
   unfold SetTable.fits SetTable.fill
   rw [h5, h6]
   rcases h4 with z | z <;> simp <;> lia
  have new : Bj X.prog X.w (upd H s.heap.objs.size (LH s.heap.objs.size qs.length)) h' s.heap.objs.size (LH s.heap.objs.size qs.length) := by
   refine ⟨⟨o, es, ep, t, h1, h2, h3, hfit, h7⟩, ⟨o, h1⟩, fun g1 g2 hg hk => ?_⟩
   obtain ⟨o, es, ep, t, k1, k2, k3, k4, k5⟩ := hg
   exact ⟨o, es, ep, t, hk o k1, k2, k3, k4, k5⟩
  exact ⟨.ref s.heap.objs.size, _, I.laid (t' := tk) hk (R3 _) new, rfl, q _ (I.hok.fresh (R3 _))⟩
theorem OJ (K : QO) (hc : X.calm = true) (hu : X.A.units + 64 < cLine) (e : X.K = K := by rfl) : CJ X (.type "set") (KD K) := by subst e; exact Kb hc hu
theorem Kc : CJ X (.builtin "len") (fun xs H Q => ∃ (p : Addr) (n : Nat), xs = [.ref p] ∧ H p = some (LH p n) ∧ n ≤ 1000 ∧ Q (.int (n : Int)) H) := by
 intro pins s σ H xs us Q I r h
 obtain ⟨p, n, rfl, hp, hn, q⟩ := h
 obtain ⟨u, rfl, rfl⟩ := FL r
 obtain ⟨⟨o, es, ep, t, h1, h2, h3, h4, h5⟩, _⟩ := I.hok p _ hp
 subst h5
 exact call_len_set h1 h2 h3 h4 (by lia) ⟨.int _, H, I.tok _, ⟨_, rfl⟩, q⟩
end
end L2
namespace L2
open PySem PySem.Spec PyProof.Rows
section
open PySem.W
variable {X : Cx} (K : QO)
end
end L2
namespace L2
open PySem PySem.Spec PyProof.Rows
structure OB (X : Cx) (N : List Str) (nt : Nat) (js : List Nat) (scope : Scope) (x : Str) : Prop where
 kind : scope.kind = .function
 split : ∃ pre post, scope.names = pre ++ (x, .cell) :: post ∧ (∀ y ∈ pre, y.2 ≠ .cell) ∧ ∀ y ∈ post, y.2 ≠ .cell
 only : ∀ y ∈ scope.names, y.2 = .cell → y.1 = x
 lx : scope.names.lookup x = some .cell
 names : ∀ y ∈ scope.names, y.2 = .local → scope.names.lookup y.1 = some .local
 free : ∀ y ∈ scope.names, y.2 = .free → X.env.kindOf y.1 = some .cell ∨ X.env.kindOf y.1 = some .free
 len : N.length = nt + js.length
 outer : ∀ j i, js[j]? = some i → ∃ x, N[nt + j]? = some x ∧ X.N[i]? = some x ∧ scope.names.lookup x = some .free
section
variable {X : Cx} {N : List Str} {nt : Nat} {js : List Nat} {scope : Scope} {cl : List (Str × Addr)} {x : Str} {c : Addr}
end
section
variable {X : Cx} {N : List Str} {nt : Nat} {js : List Nat} {scope : Scope} {elt iter tg : Expr} {ifs : List Expr} {pos : Pos} {g : TG} {tc : TT} {te : TE} {wi : TI} {xn : Str}
end
end L2
namespace L2
open PySem PySem.Spec PyProof.Rows
@[reducible] def Cl (u : QO → TS) (K : QO) : TS := u K
theorem Ad {X : Cx} {st : Stmt} {BU : List Stmt} {t v : TS} {K : QO} {u : QO → TS} (h1 : PS X st t) (h2 : PSs X BU v) (e : v = u K) : PSs X (st :: BU) (LU t (Cl u K)) := by
 subst e; exact KK h1 h2
section
variable {X : Cx} {o e : Expr} {es : List Expr} {to : TE} {t : TA} {name : Str} {apos cpos : Pos} {T id : String} {r : V → List V → Hp → VK → Prop}
theorem Mf (K : QO) (pa : PlainAttrs T) (slot : Slot T name id) (hty : typeOf (.builtin id) = pure (.type "method_descriptor")) (hm : MtR X id r) (ho : PE X o to)
 (hbase : attributeBase o name X.env (eval o X.env) = eval o X.env := by rfl) (hline : (apos.endLine == cpos.line) = true := by rfl) (eK : X.K = K := by rfl) : PE X (.Call (.Attribute o name apos) [] [] cpos) (Oa K T r to) := Nl pa slot hty hm ho hbase hline eK
theorem Dg (K : QO) (pa : PlainAttrs T) (slot : Slot T name id) (hty : typeOf (.builtin id) = pure (.type "method_descriptor")) (hm : MtR X id r) (ho : PE X o to) (ha : PA X (e :: es) t)
 (hbase : attributeBase o name X.env (eval o X.env) = eval o X.env := by rfl)
 (hfew : ((backTo cpos (starEach (e :: es) X.env)).all (fun x => !x.1) && (backToKw cpos (keywordEach [] X.env)).all (fun x => x.1.isSome)
  && decide ((e :: es).length + ([] : List Keyword).length + (if ([] : List Keyword).isEmpty then 0 else 1) < 30)) = true := by rfl)
 (hline : (apos.endLine == cpos.line) = true := by rfl) (hs : starEach (e :: es) X.env = (false, eval e X.env) :: starEach es X.env := by rfl) (hplain : (backTo cpos (starEach es X.env)).any (·.1) = false := by rfl) (eK : X.K = K := by rfl) :
 PE X (.Call (.Attribute o name apos) (e :: es) [] cpos) (tBM K T r to t) := Oh pa slot hty hm ho ha hbase hfew hline hs hplain eK
end
theorem Bw {c : Bool} {A B : Prop} (e : c = true) (h : A) : if c = true then A else B := by
 rw [if_pos e]; exact h
theorem AR {c : Bool} {A B : Prop} (e : c = false) (h : B) : if c = true then A else B := by
 rw [if_neg (by rw [e]; decide)]; exact h
theorem Bn {α : Type} {l : List α} {n : Nat} (h : l.length = n + 1) : ∃ a r, l = a :: r ∧ r.length = n := by
 cases l with
 | nil => cases h
 | cons a r => exact ⟨a, r, rfl, Nat.succ.inj h⟩
theorem Fun.binds1 {K : QO} {x qual : Str} {st : Stmt} {f : Addr} {fd : FuncData} (p1 : Str) (F : Fun K x qual st f fd)
 (h : ∀ (kV doc pm : Value) (an : Option Addr) (cdv ct a1 : Value), bindArgs (Rr x qual (An st) (Al st) (Ae st) .none kV doc pm an cdv ct) ⟨[a1], []⟩ = pure [(p1, a1)]) : C2 K fd [p1] [] :=
 F.binds fun kV doc pm an cdv ct us l0 => by
  obtain ⟨a1, r1, rfl, l1⟩ := Bn l0
  cases SQ.mp l1
  exact h kV doc pm an cdv ct a1
theorem Fun.binds2 {K : QO} {x qual : Str} {st : Stmt} {f : Addr} {fd : FuncData} (p1 p2 : Str) (F : Fun K x qual st f fd)
 (h : ∀ (kV doc pm : Value) (an : Option Addr) (cdv ct a1 a2 : Value), bindArgs (Rr x qual (An st) (Al st) (Ae st) .none kV doc pm an cdv ct) ⟨[a1, a2], []⟩ = pure [(p1, a1), (p2, a2)]) : C2 K fd [p1, p2] [] :=
 F.binds fun kV doc pm an cdv ct us l0 => by
  obtain ⟨a1, r1, rfl, l1⟩ := Bn l0
  obtain ⟨a2, r2, rfl, l2⟩ := Bn l1
  cases SQ.mp l2
  exact h kV doc pm an cdv ct a1 a2
theorem Fun.binds3 {K : QO} {x qual : Str} {st : Stmt} {f : Addr} {fd : FuncData} (p1 p2 p3 : Str) (F : Fun K x qual st f fd)
 (h : ∀ (kV doc pm : Value) (an : Option Addr) (cdv ct a1 a2 a3 : Value), bindArgs (Rr x qual (An st) (Al st) (Ae st) .none kV doc pm an cdv ct) ⟨[a1, a2, a3], []⟩ = pure [(p1, a1), (p2, a2), (p3, a3)]) : C2 K fd [p1, p2, p3] [] :=
 F.binds fun kV doc pm an cdv ct us l0 => by
  obtain ⟨a1, r1, rfl, l1⟩ := Bn l0
  obtain ⟨a2, r2, rfl, l2⟩ := Bn l1
  obtain ⟨a3, r3, rfl, l3⟩ := Bn l2
  cases SQ.mp l3
  exact h kV doc pm an cdv ct a1 a2 a3
theorem Fun.binds4 {K : QO} {x qual : Str} {st : Stmt} {f : Addr} {fd : FuncData} (p1 p2 p3 p4 : Str) (F : Fun K x qual st f fd)
 (h : ∀ (kV doc pm : Value) (an : Option Addr) (cdv ct a1 a2 a3 a4 : Value), bindArgs (Rr x qual (An st) (Al st) (Ae st) .none kV doc pm an cdv ct) ⟨[a1, a2, a3, a4], []⟩ = pure [(p1, a1), (p2, a2), (p3, a3), (p4, a4)]) : C2 K fd [p1, p2, p3, p4] [] :=
 F.binds fun kV doc pm an cdv ct us l0 => by
  obtain ⟨a1, r1, rfl, l1⟩ := Bn l0
  obtain ⟨a2, r2, rfl, l2⟩ := Bn l1
  obtain ⟨a3, r3, rfl, l3⟩ := Bn l2
  obtain ⟨a4, r4, rfl, l4⟩ := Bn l3
  cases SQ.mp l4
  exact h kV doc pm an cdv ct a1 a2 a3 a4
@[reducible] def L1 {α1 : Type} {δ : Type} (x1 : α1) (u : α1 → δ) : δ := u x1
@[reducible] def L2 {α1 α2 : Type} {δ : Type} (x1 : α1) (x2 : α2) (u : α1 → α2 → δ) : δ := u x1 x2
@[reducible] def L3 {α1 α2 α3 : Type} {δ : Type} (x1 : α1) (x2 : α2) (x3 : α3) (u : α1 → α2 → α3 → δ) : δ := u x1 x2 x3
@[reducible] def L4 {α1 α2 α3 α4 : Type} {δ : Type} (x1 : α1) (x2 : α2) (x3 : α3) (x4 : α4) (u : α1 → α2 → α3 → α4 → δ) : δ := u x1 x2 x3 x4
@[reducible] def L5 {α1 α2 α3 α4 α5 : Type} {δ : Type} (x1 : α1) (x2 : α2) (x3 : α3) (x4 : α4) (x5 : α5) (u : α1 → α2 → α3 → α4 → α5 → δ) : δ := u x1 x2 x3 x4 x5
@[reducible] def L6 {α1 α2 α3 α4 α5 α6 : Type} {δ : Type} (x1 : α1) (x2 : α2) (x3 : α3) (x4 : α4) (x5 : α5) (x6 : α6) (u : α1 → α2 → α3 → α4 → α5 → α6 → δ) : δ := u x1 x2 x3 x4 x5 x6
@[reducible] def L7 {α1 α2 α3 α4 α5 α6 α7 : Type} {δ : Type} (x1 : α1) (x2 : α2) (x3 : α3) (x4 : α4) (x5 : α5) (x6 : α6) (x7 : α7) (u : α1 → α2 → α3 → α4 → α5 → α6 → α7 → δ) : δ := u x1 x2 x3 x4 x5 x6 x7
@[reducible] def L8 {α1 α2 α3 α4 α5 α6 α7 α8 : Type} {δ : Type} (x1 : α1) (x2 : α2) (x3 : α3) (x4 : α4) (x5 : α5) (x6 : α6) (x7 : α7) (x8 : α8) (u : α1 → α2 → α3 → α4 → α5 → α6 → α7 → α8 → δ) : δ := u x1 x2 x3 x4 x5 x6 x7 x8
@[reducible] def L9 {α1 α2 α3 α4 α5 α6 α7 α8 α9 : Type} {δ : Type} (x1 : α1) (x2 : α2) (x3 : α3) (x4 : α4) (x5 : α5) (x6 : α6) (x7 : α7) (x8 : α8) (x9 : α9) (u : α1 → α2 → α3 → α4 → α5 → α6 → α7 → α8 → α9 → δ) : δ := u x1 x2 x3 x4 x5 x6 x7 x8 x9
@[reducible] def L10 {α1 α2 α3 α4 α5 α6 α7 α8 α9 α10 : Type} {δ : Type} (x1 : α1) (x2 : α2) (x3 : α3) (x4 : α4) (x5 : α5) (x6 : α6) (x7 : α7) (x8 : α8) (x9 : α9) (x10 : α10) (u : α1 → α2 → α3 → α4 → α5 → α6 → α7 → α8 → α9 → α10 → δ) : δ := u x1 x2 x3 x4 x5 x6 x7 x8 x9 x10
@[reducible] def L11 {α1 α2 α3 α4 α5 α6 α7 α8 α9 α10 α11 : Type} {δ : Type} (x1 : α1) (x2 : α2) (x3 : α3) (x4 : α4) (x5 : α5) (x6 : α6) (x7 : α7) (x8 : α8) (x9 : α9) (x10 : α10) (x11 : α11) (u : α1 → α2 → α3 → α4 → α5 → α6 → α7 → α8 → α9 → α10 → α11 → δ) : δ := u x1 x2 x3 x4 x5 x6 x7 x8 x9 x10 x11
@[reducible] def L12 {α1 α2 α3 α4 α5 α6 α7 α8 α9 α10 α11 α12 : Type} {δ : Type} (x1 : α1) (x2 : α2) (x3 : α3) (x4 : α4) (x5 : α5) (x6 : α6) (x7 : α7) (x8 : α8) (x9 : α9) (x10 : α10) (x11 : α11) (x12 : α12) (u : α1 → α2 → α3 → α4 → α5 → α6 → α7 → α8 → α9 → α10 → α11 → α12 → δ) : δ := u x1 x2 x3 x4 x5 x6 x7 x8 x9 x10 x11 x12
@[reducible] def L13 {α1 α2 α3 α4 α5 α6 α7 α8 α9 α10 α11 α12 α13 : Type} {δ : Type} (x1 : α1) (x2 : α2) (x3 : α3) (x4 : α4) (x5 : α5) (x6 : α6) (x7 : α7) (x8 : α8) (x9 : α9) (x10 : α10) (x11 : α11) (x12 : α12) (x13 : α13) (u : α1 → α2 → α3 → α4 → α5 → α6 → α7 → α8 → α9 → α10 → α11 → α12 → α13 → δ) : δ := u x1 x2 x3 x4 x5 x6 x7 x8 x9 x10 x11 x12 x13
@[reducible] def L14 {α1 α2 α3 α4 α5 α6 α7 α8 α9 α10 α11 α12 α13 α14 : Type} {δ : Type} (x1 : α1) (x2 : α2) (x3 : α3) (x4 : α4) (x5 : α5) (x6 : α6) (x7 : α7) (x8 : α8) (x9 : α9) (x10 : α10) (x11 : α11) (x12 : α12) (x13 : α13) (x14 : α14) (u : α1 → α2 → α3 → α4 → α5 → α6 → α7 → α8 → α9 → α10 → α11 → α12 → α13 → α14 → δ) : δ := u x1 x2 x3 x4 x5 x6 x7 x8 x9 x10 x11 x12 x13 x14
@[reducible] def L15 {α1 α2 α3 α4 α5 α6 α7 α8 α9 α10 α11 α12 α13 α14 α15 : Type} {δ : Type} (x1 : α1) (x2 : α2) (x3 : α3) (x4 : α4) (x5 : α5) (x6 : α6) (x7 : α7) (x8 : α8) (x9 : α9) (x10 : α10) (x11 : α11) (x12 : α12) (x13 : α13) (x14 : α14) (x15 : α15) (u : α1 → α2 → α3 → α4 → α5 → α6 → α7 → α8 → α9 → α10 → α11 → α12 → α13 → α14 → α15 → δ) : δ := u x1 x2 x3 x4 x5 x6 x7 x8 x9 x10 x11 x12 x13 x14 x15
@[reducible] def L16 {α1 α2 α3 α4 α5 α6 α7 α8 α9 α10 α11 α12 α13 α14 α15 α16 : Type} {δ : Type} (x1 : α1) (x2 : α2) (x3 : α3) (x4 : α4) (x5 : α5) (x6 : α6) (x7 : α7) (x8 : α8) (x9 : α9) (x10 : α10) (x11 : α11) (x12 : α12) (x13 : α13) (x14 : α14) (x15 : α15) (x16 : α16) (u : α1 → α2 → α3 → α4 → α5 → α6 → α7 → α8 → α9 → α10 → α11 → α12 → α13 → α14 → α15 → α16 → δ) : δ := u x1 x2 x3 x4 x5 x6 x7 x8 x9 x10 x11 x12 x13 x14 x15 x16
@[reducible] def L17 {α1 α2 α3 α4 α5 α6 α7 α8 α9 α10 α11 α12 α13 α14 α15 α16 α17 : Type} {δ : Type} (x1 : α1) (x2 : α2) (x3 : α3) (x4 : α4) (x5 : α5) (x6 : α6) (x7 : α7) (x8 : α8) (x9 : α9) (x10 : α10) (x11 : α11) (x12 : α12) (x13 : α13) (x14 : α14) (x15 : α15) (x16 : α16) (x17 : α17) (u : α1 → α2 → α3 → α4 → α5 → α6 → α7 → α8 → α9 → α10 → α11 → α12 → α13 → α14 → α15 → α16 → α17 → δ) : δ := u x1 x2 x3 x4 x5 x6 x7 x8 x9 x10 x11 x12 x13 x14 x15 x16 x17
@[reducible] def L18 {α1 α2 α3 α4 α5 α6 α7 α8 α9 α10 α11 α12 α13 α14 α15 α16 α17 α18 : Type} {δ : Type} (x1 : α1) (x2 : α2) (x3 : α3) (x4 : α4) (x5 : α5) (x6 : α6) (x7 : α7) (x8 : α8) (x9 : α9) (x10 : α10) (x11 : α11) (x12 : α12) (x13 : α13) (x14 : α14) (x15 : α15) (x16 : α16) (x17 : α17) (x18 : α18) (u : α1 → α2 → α3 → α4 → α5 → α6 → α7 → α8 → α9 → α10 → α11 → α12 → α13 → α14 → α15 → α16 → α17 → α18 → δ) : δ := u x1 x2 x3 x4 x5 x6 x7 x8 x9 x10 x11 x12 x13 x14 x15 x16 x17 x18
@[reducible] def L19 {α1 α2 α3 α4 α5 α6 α7 α8 α9 α10 α11 α12 α13 α14 α15 α16 α17 α18 α19 : Type} {δ : Type} (x1 : α1) (x2 : α2) (x3 : α3) (x4 : α4) (x5 : α5) (x6 : α6) (x7 : α7) (x8 : α8) (x9 : α9) (x10 : α10) (x11 : α11) (x12 : α12) (x13 : α13) (x14 : α14) (x15 : α15) (x16 : α16) (x17 : α17) (x18 : α18) (x19 : α19) (u : α1 → α2 → α3 → α4 → α5 → α6 → α7 → α8 → α9 → α10 → α11 → α12 → α13 → α14 → α15 → α16 → α17 → α18 → α19 → δ) : δ := u x1 x2 x3 x4 x5 x6 x7 x8 x9 x10 x11 x12 x13 x14 x15 x16 x17 x18 x19
@[reducible] def L20 {α1 α2 α3 α4 α5 α6 α7 α8 α9 α10 α11 α12 α13 α14 α15 α16 α17 α18 α19 α20 : Type} {δ : Type} (x1 : α1) (x2 : α2) (x3 : α3) (x4 : α4) (x5 : α5) (x6 : α6) (x7 : α7) (x8 : α8) (x9 : α9) (x10 : α10) (x11 : α11) (x12 : α12) (x13 : α13) (x14 : α14) (x15 : α15) (x16 : α16) (x17 : α17) (x18 : α18) (x19 : α19) (x20 : α20) (u : α1 → α2 → α3 → α4 → α5 → α6 → α7 → α8 → α9 → α10 → α11 → α12 → α13 → α14 → α15 → α16 → α17 → α18 → α19 → α20 → δ) : δ := u x1 x2 x3 x4 x5 x6 x7 x8 x9 x10 x11 x12 x13 x14 x15 x16 x17 x18 x19 x20
@[reducible] def L21 {α1 α2 α3 α4 α5 α6 α7 α8 α9 α10 α11 α12 α13 α14 α15 α16 α17 α18 α19 α20 α21 : Type} {δ : Type} (x1 : α1) (x2 : α2) (x3 : α3) (x4 : α4) (x5 : α5) (x6 : α6) (x7 : α7) (x8 : α8) (x9 : α9) (x10 : α10) (x11 : α11) (x12 : α12) (x13 : α13) (x14 : α14) (x15 : α15) (x16 : α16) (x17 : α17) (x18 : α18) (x19 : α19) (x20 : α20) (x21 : α21) (u : α1 → α2 → α3 → α4 → α5 → α6 → α7 → α8 → α9 → α10 → α11 → α12 → α13 → α14 → α15 → α16 → α17 → α18 → α19 → α20 → α21 → δ) : δ := u x1 x2 x3 x4 x5 x6 x7 x8 x9 x10 x11 x12 x13 x14 x15 x16 x17 x18 x19 x20 x21
@[reducible] def L22 {α1 α2 α3 α4 α5 α6 α7 α8 α9 α10 α11 α12 α13 α14 α15 α16 α17 α18 α19 α20 α21 α22 : Type} {δ : Type} (x1 : α1) (x2 : α2) (x3 : α3) (x4 : α4) (x5 : α5) (x6 : α6) (x7 : α7) (x8 : α8) (x9 : α9) (x10 : α10) (x11 : α11) (x12 : α12) (x13 : α13) (x14 : α14) (x15 : α15) (x16 : α16) (x17 : α17) (x18 : α18) (x19 : α19) (x20 : α20) (x21 : α21) (x22 : α22) (u : α1 → α2 → α3 → α4 → α5 → α6 → α7 → α8 → α9 → α10 → α11 → α12 → α13 → α14 → α15 → α16 → α17 → α18 → α19 → α20 → α21 → α22 → δ) : δ := u x1 x2 x3 x4 x5 x6 x7 x8 x9 x10 x11 x12 x13 x14 x15 x16 x17 x18 x19 x20 x21 x22
@[reducible] def L23 {α1 α2 α3 α4 α5 α6 α7 α8 α9 α10 α11 α12 α13 α14 α15 α16 α17 α18 α19 α20 α21 α22 α23 : Type} {δ : Type} (x1 : α1) (x2 : α2) (x3 : α3) (x4 : α4) (x5 : α5) (x6 : α6) (x7 : α7) (x8 : α8) (x9 : α9) (x10 : α10) (x11 : α11) (x12 : α12) (x13 : α13) (x14 : α14) (x15 : α15) (x16 : α16) (x17 : α17) (x18 : α18) (x19 : α19) (x20 : α20) (x21 : α21) (x22 : α22) (x23 : α23) (u : α1 → α2 → α3 → α4 → α5 → α6 → α7 → α8 → α9 → α10 → α11 → α12 → α13 → α14 → α15 → α16 → α17 → α18 → α19 → α20 → α21 → α22 → α23 → δ) : δ := u x1 x2 x3 x4 x5 x6 x7 x8 x9 x10 x11 x12 x13 x14 x15 x16 x17 x18 x19 x20 x21 x22 x23
@[reducible] def L24 {α1 α2 α3 α4 α5 α6 α7 α8 α9 α10 α11 α12 α13 α14 α15 α16 α17 α18 α19 α20 α21 α22 α23 α24 : Type} {δ : Type} (x1 : α1) (x2 : α2) (x3 : α3) (x4 : α4) (x5 : α5) (x6 : α6) (x7 : α7) (x8 : α8) (x9 : α9) (x10 : α10) (x11 : α11) (x12 : α12) (x13 : α13) (x14 : α14) (x15 : α15) (x16 : α16) (x17 : α17) (x18 : α18) (x19 : α19) (x20 : α20) (x21 : α21) (x22 : α22) (x23 : α23) (x24 : α24) (u : α1 → α2 → α3 → α4 → α5 → α6 → α7 → α8 → α9 → α10 → α11 → α12 → α13 → α14 → α15 → α16 → α17 → α18 → α19 → α20 → α21 → α22 → α23 → α24 → δ) : δ := u x1 x2 x3 x4 x5 x6 x7 x8 x9 x10 x11 x12 x13 x14 x15 x16 x17 x18 x19 x20 x21 x22 x23 x24
theorem AQ {X : Cx} {c : Expr} {a b : List Stmt} {pos : Pos} {tc : TT} {v1 v2 : TS} {K : QO} {u1 u2 : QO → TS} (hc : PT X c tc) (ha : PSs X a v1) (hb : PSs X b v2) (e1 : v1 = u1 K) (e2 : v2 = u2 K) : PS X (.If c a b pos) (Kr tc (Cl u1 K) (Cl u2 K)) := by
 subst e1; subst e2; exact Of hc ha hb
theorem AX {X : Cx} {tg iter : Expr} {body : List Stmt} {wi : TI} {g : TG} {v : TS} {pos : Pos} {K : QO} {u : QO → TS} (hp : PassesOwn (model X.prog X.w) X.A X.env X.xe) (hc : X.calm = true) (hi : PI X tg iter wi) (hg : PG X tg g) (hb : PSs X body v) (e : v = u K)
 (hs : ∀ x, foldedSetIterable iter X.env x = pure x := by intro _; rfl) : PS X (.For tg iter body [] pos) (MZ wi g (Cl u K)) := by
 subst e; exact Nc hp hc hi hg hb hs
theorem KT {a b c d : Nat} (h1 : a = c) (h2 : b = d) : ((a : Int) - (b : Int)).toNat = c - d := by rw [h1, h2]; exact Int.toNat_sub c d
theorem Dj {a b : Nat} (h : a = b) : ((a : Int) - 1).toNat = b - 1 := KT (b := 1) h rfl
theorem JW {a b c d : Nat} (h1 : a = c) (h2 : b = d) (_h : 1 ≤ d) : ((a : Int) + (b : Int) - 1).toNat = c + d - 1 := by
 rw [h1, h2, ← Int.natCast_add]
 exact Dj rfl
theorem KS {a b : Nat} (h : 1 ≤ b) : ((a : Int) + (b : Int) - 1).toNat = a + b - 1 := JW rfl rfl h
theorem JV {a b m : Nat} (h1 : a ≤ m) (h2 : b ≤ m) : ((a : Int) + (b : Int) - 1).toNat ≤ 2 * m := by
 rw [← Int.natCast_add, Dj rfl, Nat.two_mul]
 exact QP (Nat.sub_le _ _) (Nat.add_le_add h1 h2)
theorem KU {a b i : Nat} (h : a = b) (hi : i < b) : (a : Int) - 1 - (i : Int) = ((b - 1 - i : Nat) : Int) := by
 rw [h, Int.ofNat_sub (show i ≤ b - 1 from Nat.le_pred_of_lt hi), Int.ofNat_sub (show 1 ≤ b from RH (R5 i) hi)]
 rfl
theorem Nu {b i : Nat} (hi : i < b) : b - 1 - i < b := RH (Nat.sub_le _ _) (Nat.sub_lt (RH (R5 i) hi) Nat.one_pos)
theorem Ml {a b : Nat} (h : a = b) : ((a : Int) - 1 - -1).toNat = b := by
 rw [h, Int.sub_neg, Int.sub_add_cancel]
 exact Rt b
theorem Mn {a k m t b : Nat} (ha : a ≤ 200) (hk : k < m - 1) (hm : m = 2 ∨ m = 3) (e : a = t) : t + min k b ≤ 204 := by
 rw [← e]
 have h4 : k ≤ 4 := by
  rcases hm with rfl | rfl
  ·exact QP (QQ hk) (by decide)
  ·exact QP (QQ hk) (by decide)
 exact Nat.add_le_add ha (QP (Nat.min_le_left _ _) h4)
theorem Mm {a m : Nat} (ha : a ≤ 200) (hm : m = 2 ∨ m = 3) : a + (m - 1) * 1 ≤ 300 := by
 rcases hm with rfl | rfl
 ·exact QP (SR ha _) (by decide)
 ·exact QP (SR ha _) (by decide)
theorem Mj {a m : Nat} (h : a = m) (hm : m = 2 ∨ m = 3) : ((a : Int) - 1).toNat ≤ 2 := by
 rw [Dj h]
 rcases hm with rfl | rfl <;> decide
theorem Nv {i j a b n : Nat} (hi : i < a) (hj : j < b) (h : n = a + b - 1) : i + j < n := by
 rw [h]
 refine Nat.lt_sub_of_add_lt ?_
 rw [Nat.add_right_comm]
 exact Nat.add_lt_add_of_le_of_lt hi hj
end L2
namespace L2
open PySem PySem.Spec PyProof.Rows
def Ex (f : Addr) (fd : FuncData) : HO := .ext fun h => h.get? f = some { cls := .type "function", data := .func fd }
def Eh (c : Addr) (o : Obj) : HO := .ext fun h => h.get? c = some o
def Hn (c : Addr) (q : Str) : HO := .ext fun h => h.CodeRec (.ref c) q
def offC (cs : List Addr) (H : Hp) : Hp := fun b => if b ∈ cs then none else H b
def onC (cs : List Addr) (H0 H : Hp) : Hp := fun b => if b ∈ cs then H0 b else H b
theorem Ea {cs : List Addr} {H : Hp} {b : Addr} (h : b ∈ cs) : offC cs H b = none := if_pos h
theorem BF {cs : List Addr} {H : Hp} {b : Addr} (h : b ∉ cs) : offC cs H b = H b := if_neg h
theorem MM {cs : List Addr} {H0 H : Hp} {b : Addr} (h : b ∈ cs) : onC cs H0 H b = H0 b := if_pos h
theorem Dh {cs : List Addr} {H0 H : Hp} {b : Addr} (h : b ∉ cs) : onC cs H0 H b = H b := if_neg h
theorem Di {cs : List Addr} {H : Hp} {b : Addr} (h : H b = none) : offC cs H b = none := by
 unfold offC; split
 ·rfl
 ·exact h
section
variable {P : Program} {w : World} {fs cs : List Addr} {H H' : Hp} {h h' : Heap}
theorem Un.onC (u : Un fs [] (offC cs H) H' h h') (hc : ∀ c ∈ cs, ∃ o, H c = some (Eh c o)) : Un fs [] H (onC cs H H') h h' := by
 have no : ∀ {b : Addr} {o : HO}, H b = some o → (∀ c ob, o ≠ Eh c ob) → b ∉ cs := fun {b o} e hne hb => by
  obtain ⟨ob, q⟩ := hc b hb
  rw [e] at q
  exact hne b ob (QF.inj q)
 refine ⟨fun b o e n hb hx => u.keep b o e (Di n) hb hx, fun b o e n hb hx => u.slot b o e (Di n) hb hx, fun b o e n hx => ?_, u.there, fun b xs e => ?_, fun b o v e => ?_, fun b ps e => ?_⟩
 ·have hb : b ∉ cs := fun z => by obtain ⟨ob, q⟩ := hc b z; rw [n] at q; cases q
  rw [Dh hb]
  exact u.free b o e (Di n) hx
 ·have hb := no e fun c ob z => by cases z
  rw [Dh hb]
  exact u.tups b xs (by rw [BF hb]; exact e)
 ·have hb := no e fun c ob z => by cases z
  rw [Dh hb]
  exact u.frzs b o v (by rw [BF hb]; exact e)
 ·have hb := no e fun c ob z => by cases z
  rw [Dh hb]
  exact u.tbls b ps (by rw [BF hb]; exact e)
theorem HOk.onC (ok : HOk P w H h) (u : Un fs [] (offC cs H) H' h h') (ok' : HOk P w H' h') (hc : ∀ c ∈ cs, ∃ o, H c = some (Eh c o)) (hn : ∀ c ∈ cs, H' c = none) (hf : ∀ c ∈ cs, c ∉ fs) : HOk P w (onC cs H H') h' := fun b o e => by
 by_cases hb : b ∈ cs
 ·rw [MM hb] at e
  obtain ⟨ob, q⟩ := hc b hb
  rw [q] at e
  cases e
  obtain ⟨p, _, st⟩ := ok b _ q
  have p' : h.get? b = some ob := p
  have k := u.keep b ob p' (Ea hb) (hf b hb) (by simp)
  exact ⟨k, ⟨ob, k⟩, st⟩
 ·rw [Dh hb] at e
  have nc : ∀ {c : Addr} {v : HO}, H' c = some v → c ∉ cs := fun {c v} q z => by rw [hn c z] at q; cases q
  exact (ok' b o e).stay (fun _ _ _ q => q) (fun c q => by rw [Dh (nc q)]; exact q) fun c xs q => by rw [Dh (nc q)]; exact q
theorem HOk.offC (ok : HOk P w H h) (hc : ∀ c ∈ cs, ∃ o, H c = some (Eh c o)) : HOk P w (offC cs H) h := fun b o e => by
 by_cases hb : b ∈ cs
 ·rw [Ea hb] at e; cases e
 ·rw [BF hb] at e
  have no : ∀ {c : Addr} {v : HO}, H c = some v → (∀ d ob, v ≠ Eh d ob) → c ∉ cs := fun {c v} q hne z => by
   obtain ⟨ob, q'⟩ := hc c z
   rw [q] at q'
   exact hne c ob (QF.inj q')
  exact (ok b o e).stay (fun _ _ _ q => q) (fun c q => by rw [BF (no q fun d ob z => by cases z)]; exact q) fun c xs q => by rw [BF (no q fun d ob z => by cases z)]; exact q
end
def JC (CX : CXT) (P : Program) (w : World) (K : QO) (mg : Str → Option Value) (base : Heap) (N : List Str) (qual : Str) (scope : Scope) (f : Addr) (cd : Value) (cl : List (Str × Addr)) (A : Around) (outer : List Env) (s : Shared) (H : Hp) (E : XK) : Cx where
 prog := P
 w := w
 K := K
 mg := mg
 base := base
 A := A.deeper (SS qual scope s.heap.objs.size f cd cl)
 N := N
 s₀ := s
 H₀ := H
 env := SS qual scope s.heap.objs.size f cd cl
 outer := outer
 stack := SS qual scope s.heap.objs.size f cd cl :: outer
 ex := []
 calm := true
 fn := fun _ => false
 pn := []
 xe := fun e s' => wpAny (model P w) (A.deeper (SS qual scope s.heap.objs.size f cd cl)) (leaving (SS qual scope s.heap.objs.size f cd cl) e) (fun _ s'' => CX outer H s E e s'') (fun e' s'' => CX outer H s E e' s'') s'
structure Iv (H : Hp) (scope : Scope) (N ps : List Str) (cl : List (Str × Addr)) (σ : St) (vs : List V) : Prop where
 kind : scope.kind = .function
 co : scope.isCoroutine = false
 gen : scope.isGenerator = false
 nocell : ∀ x ∈ scope.names, x.2 ≠ .cell
 par : ∀ p ∈ ps, scope.names.lookup p = some .local
 inj : ∀ x y c, cl.lookup x = some c → cl.lookup y = some c → x = y
 has : ∀ x, scope.names.lookup x = some .free → ∃ c, cl.lookup x = some c
 len : σ.length = N.length
 cel : ∀ p ∈ cl, ∃ (o : Obj) (v : Option Value), H p.2 = some (Eh p.2 o) ∧ o.data = .cell v
 val : ∀ (i : Nat) (x : Str) (v : V), N[i]? = some x → σ[i]? = some (some v) →
  (scope.names.lookup x = some .local ∧ ∃ j : Nat, ps[j]? = some x ∧ vs[j]? = some v) ∨ (scope.names.lookup x = some .free ∧ ∃ c o u, cl.lookup x = some c ∧ H c = some (Eh c o) ∧ o.data = .cell (some u) ∧ AC v u)
theorem Iv.cells {H : Hp} {scope : Scope} {N ps : List Str} {cl : List (Str × Addr)} {σ : St} {vs : List V} (S : Iv H scope N ps cl σ vs) : ∀ c ∈ cl.map (·.2), ∃ o, H c = some (Eh c o) := fun c hc => by
 obtain ⟨p, hp, rfl⟩ := Sv.mp hc
 obtain ⟨o, v, e, _⟩ := S.cel p hp
 exact ⟨o, e⟩
theorem Mr {CX : CXT} {P : Program} {w : World} {K : QO} {mg : Str → Option Value} {base : Heap} {N ps : List Str} {qual : Str} {scope : Scope} {f : Addr} {cd : Value} {cl : List (Str × Addr)} {A : Around} {outer : List Env} {s : Shared} {H : Hp} {E : XK} {us : List Value} {vs : List V} {σ : St} {h1 : Heap}
 (S : Iv H scope N ps cl σ vs) (hd : A.handled = none) (e0 : Kf P w K mg base A outer s H) (r : Az vs us) (hlk : ∀ (j : Nat) (x : Str) (u : Value), ps[j]? = some x → us[j]? = some u → (ps.zip us).reverse.lookup x = some u)
 (hns : h1.Ns s.heap.objs.size fun x => (ps.zip us).reverse.lookup x) (hk : ∀ b o, s.heap.get? b = some o → h1.get? b = some o) (tk : Nat) :
 Inv (JC CX P w K mg base N qual scope f cd cl A outer s (offC (cl.map (·.2)) H) E) [] σ (offC (cl.map (·.2)) H) { s with heap := h1, toks := tk } := by
 have hcs := S.cells
 have ok' := e0.hok.offC hcs
 have noA : ∀ b : Addr, b ∉ (JC CX P w K mg base N qual scope f cd cl A outer s (offC (cl.map (·.2)) H) E).ex := fun b z => absurd (show b ∈ ([] : List Addr) from z) (by simp)
 have mem : ∀ {x : Str} {c : Addr}, cl.lookup x = some c → c ∈ cl.map (·.2) := fun h => ST (f := (·.2)) (PySem.mem_of_lookup h)
 have cellOf : ∀ {x : Str} {c : Addr}, cl.lookup x = some c → ∀ o, H c = some (Eh c o) → h1.get? c = some o := fun {x c} h o q => by
  obtain ⟨p, _, _⟩ := e0.hok c _ q
  exact hk c o p
 refine ⟨⟨e0.mod, S.kind, rfl, rfl, R3 _, S.inj, fun y hy => ?_, fun y c h => ?_, fun _ => hd, Around.frames_deeper e0.frames, .inr ⟨rfl, rfl⟩, fun b z => absurd z (noA b), fun b o e => ⟨(e0.bs b o e).1, Di (e0.bs b o e).2⟩, e0.bsz, fun b _ _ => noA b, fun b z => absurd z (noA b), e0.funs, fun b hb => Di (e0.frf b hb)⟩,
  rfl, e0.bare, Un.kept hk, ⟨_, hns, fun i y v h1 h2 h3 => ?_⟩, fun y c h => ?_, ok'.fresh (R3 _), fun y c h => Ea (mem h), fun p hp => absurd (show p ∈ ([] : List (Addr × Obj)) from hp) (by simp), ok'.kept hk, S.len⟩
 ·rcases hy with hy | hy
  ·exact absurd rfl (S.nocell _ (PySem.mem_of_lookup hy))
  ·exact S.has y hy
 ·cases h
 ·rcases S.val i y v h1 h2 with ⟨hl, j, hp, hv⟩ | ⟨hl, c, o, u, hc, ho, hd, rv⟩
  ·obtain ⟨u, hu, rv⟩ := r.get hv
   exact ⟨u, rv, .inl ⟨hl, hlk j y u hp hu⟩⟩
  ·exact ⟨u, rv, .inr ⟨.inr hl, c, hc, o, cellOf hc o ho, hd⟩⟩
 ·obtain ⟨o, v, ho, hd⟩ := S.cel (y, c) (PySem.mem_of_lookup h)
  exact ⟨v, o, cellOf h o ho, hd⟩
theorem NB {CX : CXT} {P : Program} {w : World} {K : QO} {mg : Str → Option Value} {base : Heap} {k : Nat} {f c' : Addr} {name qual : Str} {params : Arguments} {body : Expr} {scope : Scope} {cl : List (Str × Addr)} {pm ctv : Value} {N ps : List Str} {sp : Sp}
 (len : ∀ vs H Q E, sp vs H Q E → vs.length = ps.length)
 (hlk : ∀ us : List Value, us.length = ps.length → ∀ (j : Nat) (x : Str) (u : Value), ps[j]? = some x → us[j]? = some u → (ps.zip us).reverse.lookup x = some u)
 (hbody : ∀ (A : Around) (outer : List Env) (s : Shared) (H : Hp) (vs : List V) (Q : VK) (E : XK), BT k (A.deeper (SS qual scope s.heap.objs.size f (.ref c') cl)) → sp vs H Q E →
  H f = some (Ex f (SU name qual params body scope cl pm (.ref c') ctv)) ∧ H c' = some (Hn c' qual) ∧ ∃ σ, Iv H scope N ps cl σ vs ∧
  ∃ t, PE (JC CX P w K mg base N qual scope f (.ref c') cl A outer s (offC (cl.map (·.2)) H) E) body t ∧ t σ (offC (cl.map (·.2)) H) (fun v H' => (∀ c ∈ cl.map (·.2), H' c = none) → Q v (onC (cl.map (·.2)) H H')) ∧
  ∀ e s', CX outer (offC (cl.map (·.2)) H) s E e s' → CX outer H s E e s') :
 AE P w K mg base CX (k + 1) f (SU name qual params body scope cl pm (.ref c') ctv) ps sp := by
 refine ⟨len, fun A outer s H args us vs Q E hr e0 hb r hsp => ?_⟩
 have hl := len _ _ _ _ hsp
 obtain ⟨hf, hcode, σ, S, t, ht, hq, hCX⟩ := hbody A outer s H vs Q E (hr.deeper _) hsp
 have lim : s.heap.NoLimit := e0.mod.nolimit.keeps fun b o e => (e0.bs b o e).1
 obtain ⟨hfo, _, _⟩ := e0.hok f _ hf
 obtain ⟨hco, _, _⟩ := e0.hok c' _ hcode
 have hlu : us.length = ps.length := by rw [← r.length]; exact hl
 refine PySem.W.kla_callFunE hr.depth hfo rfl S.co S.gen rfl hco (hb _ _ _ _ ?_)
 refine wpAny_newFunctionEnv S.nocell (fun y hy => S.par _ (Rf hy).1) (fun h1 hns hsb => ?_) S.kind
 have hk : ∀ b o, s.heap.get? b = some o → h1.get? b = some o := fun b o e => hsb.extBut b o (QK (Heap.lt_size e)) (Heap.get?_push_of_some _ e)
 refine ⟨lim.keeps hk, ?_⟩
 show codeAny _ _ (.expr body (SS qual scope s.heap.objs.size f (.ref c') cl)) _ _
 have I := Mr (CX := CX) (qual := qual) (f := f) (cd := .ref c') (E := E) S hr.hd e0 r (hlk us hlu) hns hk (s.toks + (ps.zip us).length)
 refine PySem.W.kla_codeExpr (wpAny_mono (ht [] _ _ _ _ I hq) (fun u s' hs => ?_) fun e s' hs => ?_)
 ·obtain ⟨v, H', J, rv, q⟩ := hs
  have hn : ∀ c ∈ cl.map (·.2), H' c = none := fun c hc => by
   obtain ⟨p, hp, rfl⟩ := Sv.mp hc
   obtain ⟨o, v, e, _⟩ := S.cel p hp
   obtain ⟨p', _, _⟩ := e0.hok _ _ e
   exact J.base.free _ o p' (Ea hc) (by intro z; cases z)
  have ub : Un (frs outer) [] (offC (cl.map (·.2)) H) H' s.heap s'.heap := J.base
  refine ⟨v, onC (cl.map (·.2)) H H', J.os, J.bare, Un.onC ub S.cells, HOk.onC e0.hok ub J.hok S.cells hn fun c hc hz => ?_, rv, q hn⟩
  obtain ⟨o, e⟩ := S.cells c hc
  have z : H c = none := e0.frf c hz
  rw [z] at e; cases e
 ·exact wpAny_mono hs (fun _ s'' h => hCX _ _ h) fun _ s'' h => hCX _ _ h
section
variable {X : Cx} {CX : CXT} {k i : Nat} {E : XK} {x : Str} {p pos : Pos} {e : Expr} {es : List Expr} {t : TA}
end
def DB (cs : List Addr) (os : Addr → Obj) (H : Hp) : Hp := fun b => if b ∈ cs then some (Eh b (os b)) else H b
theorem Iz {cs : List Addr} {os : Addr → Obj} {H : Hp} {b : Addr} (h : b ∈ cs) : DB cs os H b = some (Eh b (os b)) := if_pos h
theorem Bt {cs : List Addr} {os : Addr → Obj} {H : Hp} {b : Addr} (h : b ∉ cs) : DB cs os H b = H b := if_neg h
structure Ho (env : Env) (cl : List (Str × Addr)) : Prop where
 sub : ∀ x c, (x, c) ∈ cl → env.cells.lookup x = some c
 inj : ∀ x y c, (x, c) ∈ cl → (y, c) ∈ cl → x = y
def Kg (N : List Str) (σ : St) (sc : Scope) (cl : List (Str × Addr)) (os : Addr → Obj) : Prop := ∀ x c, (x, c) ∈ cl → (∃ v, (os c).data = .cell v) ∧
 ∀ (i : Nat) (v : V), N[i]? = some x → σ[i]? = some (some v) → sc.names.lookup x = some .cell → ∃ u, (os c).data = .cell (some u) ∧ AC v u
theorem Ho.look {env : Env} {cl : List (Str × Addr)} (C : Ho env cl) {x : Str} {c : Addr} (h : (x, c) ∈ cl) : cl.lookup x = some c := by
 cases e : cl.lookup x with
 | none =>
   have := List.lookup_eq_none_iff.mp e (x, c) h
   simp at this
 | some d =>
   have h2 := C.sub x d (PySem.mem_of_lookup e)
   rw [C.sub x c h] at h2
   exact congrArg some (QF.inj h2).symm
section
variable {X : Cx} {CX : CXT} {k : Nat} {f : Addr} {fd : FuncData} {ps : List Str} {sp : Sp} {E : XK} {x : Str} {p pos : Pos} {e : Expr} {es : List Expr} {t : TA}
theorem M5 {pins : List (Addr × Obj)} {σ : St} {H : Hp} {s : Shared} {Q : VK} {us : List Value} {vs : List V} {cl : List (Str × Addr)} (F : AE X.prog X.w X.K X.mg X.base CX k f fd ps sp) (hr : BT k X.A) (hb : C2 X.K fd ps [])
 (hfn : ∀ y, X.fn y = true) (hx : ∀ (e : Value) (H' : Hp) (s' : Shared), Inv X pins σ H s → CX X.stack H' s E e s' → X.xe e s') (I : Inv X pins σ H s) (r : Az vs us) (C : Ho X.env cl)
 (h : ∀ os, (∀ c ∈ cl.map (·.2), H c = none) → Kg X.N σ X.env.scope cl os → sp vs (DB (cl.map (·.2)) os H) (fun v H2 => (∀ c ∈ cl.map (·.2), H2 c = some (Eh c (os c))) ∧ Q v (offC (cl.map (·.2)) H2)) E) :
 wpAny (model X.prog X.w) X.A (call (.ref f) us) (EP X pins σ Q) X.xe s := by
 obtain ⟨os, hos⟩ : ∃ os : Addr → Obj, ∀ c ∈ cl.map (·.2), s.heap.get? c = some (os c) ∧ ∃ v, (os c).data = .cell v := by
  refine ⟨fun c => (s.heap.get? c).getD { cls := .none, data := .plain }, fun c hc => ?_⟩
  obtain ⟨⟨y, c⟩, hp, rfl⟩ := Sv.mp hc
  obtain ⟨v, o, ho, hd⟩ := I.cell y c (C.sub y c hp)
  have e : ((s.heap.get? c).getD { cls := .none, data := .plain }) = o := by rw [ho]; rfl
  exact ⟨by show s.heap.get? c = some ((s.heap.get? c).getD { cls := .none, data := .plain }); rw [e]; exact ho, v, by show ((s.heap.get? c).getD { cls := .none, data := .plain }).data = _; rw [e]; exact hd⟩
 have hcn : ∀ c ∈ cl.map (·.2), H c = none := fun c hc => by
  obtain ⟨⟨y, c⟩, hp, rfl⟩ := Sv.mp hc
  exact I.freeC y c (C.sub y c hp)
 have hab : ∀ c ∈ cl.map (·.2), X.s₀.heap.objs.size ≤ c := fun c hc => by
  obtain ⟨⟨y, c⟩, hp, rfl⟩ := Sv.mp hc
  exact I.ok.cab y c (hfn y) (C.sub y c hp)
 have hfr : ∀ b ∈ frs X.stack, b ∉ cl.map (·.2) := fun b hb hc => by
  rcases QU.mp (I.stkSub b hb) with z | z
  ·obtain ⟨⟨y, c⟩, hp, e⟩ := Sv.mp hc
   exact I.cne y c (C.sub y c hp) (by rw [← z]; exact e)
  ·obtain ⟨_, o, ho, _⟩ := I.ok.funs.mem z
   exact absurd (QI (Heap.lt_size ho) (hab b hc)) (QJ _)
 have hci : Kg X.N σ X.env.scope cl os := fun y c hp => by
  obtain ⟨h1, v0, h2⟩ := hos c (ST (f := (·.2)) hp)
  refine ⟨⟨v0, h2⟩, fun i v hN hσ hk => ?_⟩
  obtain ⟨m, hn, hl⟩ := I.loc
  obtain ⟨u, ru, lk⟩ := hl i y v hN hσ (.inr (.inl hk))
  rcases lk with ⟨hk', _⟩ | ⟨_, c2, hc2, o, ho, hd⟩
  ·rw [show X.env.kindOf y = some .cell from hk] at hk'; cases hk'
  ·rw [C.sub y c hp] at hc2
   cases hc2
   rw [h1] at ho
   cases ho
   exact ⟨u, hd, ru⟩
 have q := h os hcn hci
 have e0 := I.env0
 have hokT : HOk X.prog X.w (DB (cl.map (·.2)) os H) s.heap := fun b o e => by
  by_cases hb : b ∈ cl.map (·.2)
  ·rw [Iz hb] at e
   cases e
   have g := (hos b hb).1
   exact ⟨g, ⟨_, g⟩, fun h1 h2 z st => st _ z⟩
  ·rw [Bt hb] at e
   have no : ∀ {c : Addr} {v : HO}, H c = some v → c ∉ cl.map (·.2) := fun {c v} q z => by rw [hcn c z] at q; cases q
   exact (I.hok b o e).stay (fun _ _ _ q => q) (fun c q => by rw [Bt (no q)]; exact q) fun c xs q => by rw [Bt (no q)]; exact q
 have eT : Kf X.prog X.w X.K X.mg X.base X.A X.stack s (DB (cl.map (·.2)) os H) := ⟨e0.frames, e0.mod, fun b o e => ⟨(e0.bs b o e).1, by
  have hb : b ∉ cl.map (·.2) := fun hc => absurd (QI (Heap.lt_size e) (QP I.ok.bsz (hab b hc))) (QJ _)
  rw [Bt hb]; exact (e0.bs b o e).2⟩, e0.bsz, e0.funs, fun b hb => by rw [Bt (hfr b hb)]; exact e0.frf b hb, hokT, e0.bare⟩
 have hl : us.length = ps.length := by rw [← r.length]; exact F.len _ _ _ _ q
 have hb' := hb s us I.kIn (by rw [Rc]; exact hl)
 rw [Rc] at hb'
 refine wpAny_call (codeAny_mono (F.run X.A X.stack s _ ⟨us, []⟩ us vs _ E hr eT hb' r q) fun rr s' hq => ?_)
 cases rr with
 | error e => exact hx e _ s' I hq
 | ok fl =>
   cases fl with
   | next => exact False.elim hq
   | brk => exact False.elim hq
   | cont => exact False.elim hq
   | ret u =>
     obtain ⟨v, H2, hos', bare, un, hok2, rv, hc2, qv⟩ := hq
     refine I.after ⟨v, offC (cl.map (·.2)) H2, hos', bare, ⟨fun b o e n hb hx' => ?_, fun b o e n hb hx' => ?_, fun b o e n hx' => ?_, un.there, fun b xs e => ?_, fun b o w' e => ?_, fun b pp e => ?_⟩, HOk.offC hok2 (fun c hc => ⟨_, hc2 c hc⟩), rv, qv⟩
     ·by_cases hbc : b ∈ cl.map (·.2)
      ·obtain ⟨g, _, _⟩ := hok2 b _ (hc2 b hbc)
       have g' : s'.heap.get? b = some (os b) := g
       rw [(hos b hbc).1] at e
       cases e
       exact g'
      ·exact un.keep b o e (by rw [Bt hbc]; exact n) hb hx'
     ·exact un.slot b o e (by rw [Bt (hfr b hb)]; exact n) hb hx'
     ·by_cases hbc : b ∈ cl.map (·.2)
      ·exact Ea hbc
      ·rw [BF hbc]; exact un.free b o e (by rw [Bt hbc]; exact n) hx'
     ·have hbc : b ∉ cl.map (·.2) := fun z => by rw [hcn b z] at e; cases e
      rw [BF hbc]; exact un.tups b xs (by rw [Bt hbc]; exact e)
     ·have hbc : b ∉ cl.map (·.2) := fun z => by rw [hcn b z] at e; cases e
      rw [BF hbc]; exact un.frzs b o w' (by rw [Bt hbc]; exact e)
     ·have hbc : b ∉ cl.map (·.2) := fun z => by rw [hcn b z] at e; cases e
      rw [BF hbc]; exact un.tbls b pp (by rw [Bt hbc]; exact e)
end
section
variable {K : QO} {cs : List Addr} {H H' : Hp}
theorem Af.trk {os : Addr → Obj} (hn : ∀ c ∈ cs, H c = none) : Af H (DB cs os H) := fun b o e => by
 have hb : b ∉ cs := fun z => by rw [hn b z] at e; cases e
 rw [Bt hb]; exact e
theorem Af.untrk {os : Addr → Obj} (s : Af (DB cs os H) H') (hn : ∀ c ∈ cs, H c = none) : Af H (offC cs H') := fun b o e => by
 have hb : b ∉ cs := fun z => by rw [hn b z] at e; cases e
 rw [BF hb]; exact s b o (by rw [Bt hb]; exact e)
end
end L2
namespace L2
open PySem PySem.Spec PyProof.Rows
def Bm (mg : Str → Option Value) (base : Heap) : Prop := ∃ bm ob, mg "__builtins__" = some (.ref bm) ∧ bm ≠ builtinsNs ∧ base.get? bm = some ob ∧ ob.cls = .type "module" ∧ ob.dict = some builtinsNs ∧ ob.data = .plain
def Ck (Pt : Addr) (q : Str) (H : Hp) : Prop := ∃ ps : Array Value, H Pt = some (.tbl ps) ∧ TriplesOk ps.toList ∧ ∀ pos cv, codeAmong pos ps.toList = some cv → ∃ c', cv = .ref c' ∧ H c' = some (Hn c' q)
theorem FI {pos : Pos} {a b : Int} {c cv : Value} (l : List Value) (h : TriplesOk l) (e : codeAmong pos (l ++ [rawInt a, rawInt b, c]) = some cv) : codeAmong pos l = some cv ∨ cv = c := by
 fun_induction TriplesOk l with
 | case1 =>
   simp only [List.nil_append, rawInt, codeAmong] at e
   split at e
   ·exact .inr (QF.inj e).symm
   ·cases e
 | case2 a' t b' u x BU ih =>
   simp only [List.cons_append, codeAmong] at e ⊢
   split at e
   ·rename_i hc; rw [if_pos hc]; exact .inl e
   ·rename_i hc; rw [if_neg hc]; exact ih h e
 | case3 l h1 h2 => exact h.elim
structure LK (H H' : Hp) (Pt : Addr) (q : Str) (f c' : Addr) (fd : FuncData) : Prop where
 new : H f = none
 lam : H' f = some (Ex f fd)
 cod : H' c' = some (Hn c' q)
 tab : Ck Pt q H'
 old : ∀ b o, b ≠ Pt → H b = some o → H' b = some o
def O8 (env : Env) (mg : Str → Option Value) (Pt : Addr) (q : Str) (params : Arguments) (body : Expr) (scope : Scope) : TE := fun _ H Q => Ck Pt q H ∧ ∀ f c' cl ctv H', Ho env cl → (∀ x ∈ scope.names, x.2 = .free → ∃ c, (x.1, c) ∈ cl) →
 LK H H' Pt q f c' (SU "<lambda>" q params body scope cl ((mg "__name__").getD .none) (.ref c') ctv) → Q (.ref f) H'
theorem Nk {X : Cx} {params : Arguments} {body : Expr} {scope : Scope} {pos : Pos} {c Pt : Addr} (hc : X.env.code = .ref c) (hcd : SV X.K c Pt = true) (hbm : Bm X.mg X.base)
 (hdef : defaultsOf params X.env = ([], []) := by rfl) (hfree : ∀ x ∈ scope.names, x.2 = .free → X.env.kindOf x.1 = some .cell ∨ X.env.kindOf x.1 = some .free) :
 PE X (.Lambda params body scope pos) (O8 X.env X.mg Pt (X.env.qual ++ "<lambda>") params body scope) := by
 intro pins s σ H Q I h
 obtain ⟨⟨ps, hP, ht, hcodes⟩, h⟩ := h
 have hPo : s.heap.get? Pt = some (SW ps) := I.hok Pt _ hP
 have hcells : ∀ x ∈ scope.names, x.2 = .free → ∃ c, X.env.cells.lookup x.1 = some c := fun x hx hf => I.ok.has _ (hfree x hx hf)
 obtain ⟨cl, e1, h1, _, h3⟩ := CY scope.names [] hcells
 have hcl : closureFor scope X.env = pure cl := by
  unfold closureFor
  simp only [bind_pure]
  exact e1
 have C : Ho X.env cl := ⟨fun x c hp => by
  rcases h1 _ hp with z | z
  ·exact nomatch z
  ·exact z, fun x y c hx hy => I.ok.inj x y c (by
   rcases h1 _ hx with z | z
   ·exact nomatch z
   ·exact z) (by
   rcases h1 _ hy with z | z
   ·exact nomatch z
   ·exact z)⟩
 have hgs : s.heap.Ns mainGlobals X.mg := I.mod.glob.keeps I.bk
 obtain ⟨bm, ob, b1, b2, b3, b4, b5, b6⟩ := hbm
 have b3' : s.heap.get? bm = some ob := I.bk _ _ b3
 have hgP : mainGlobals ≠ Pt := fun q => by
  obtain ⟨o, es, ep, e, hd, _⟩ := hgs
  rw [q, hPo] at e; cases e; cases hd
 have hbP : bm ≠ Pt := fun q => by rw [q, hPo] at b3'; cases b3'; cases b4
 have hbG : bm ≠ mainGlobals := fun q => by
  obtain ⟨o, es, ep, e, hd, _⟩ := hgs
  rw [q, e] at b3'; cases b3'; rw [hd] at b6; cases b6
 refine PySem.W.kla_eval hdef ?_
 have hB : s.heap.BuiltinsAt X.mg Pt := ⟨bm, ob, b1, b2, hbG, hbP, b3', b4, b5, b6⟩
 cases hf : codeAmong pos ps.toList with
 | none =>
   refine PySem.W.kla_makeFunction (mg := X.mg) hcl I.ok.glob hgs hc (SX I.kIn hcd) hPo ht hf hgP hB fun c' ctv h' tk hx hge hlt hrec htb => ?_
   have hcn : H c' = none := I.hok.fresh hge
   have hsz : s.heap.objs.size ≤ h'.objs.size := QP hge (QQ hlt)
   have hfn : H h'.objs.size = none := I.hok.fresh hsz
   have hcf : c' ≠ h'.objs.size := QK hlt
   have hPc : Pt ≠ c' := Aq hP hcn
   have hPf : Pt ≠ h'.objs.size := Aq hP hfn
   have at_ : ∀ b, b ≠ Pt → b ≠ c' → b ≠ h'.objs.size → upd (upd (upd H Pt (.tbl (ps ++ #[rawInt pos.line, rawInt pos.col, .ref c']))) c' (Hn c' (X.env.qual ++ "<lambda>"))) h'.objs.size (Ex h'.objs.size (SU "<lambda>" (X.env.qual ++ "<lambda>") params body scope cl ((X.mg "__name__").getD .none) (.ref c') ctv)) b = H b := fun b n1 n2 n3 => by rw [Ak n3, Ak n2, Ak n1]
   have aP : upd (upd (upd H Pt (.tbl (ps ++ #[rawInt pos.line, rawInt pos.col, .ref c']))) c' (Hn c' (X.env.qual ++ "<lambda>"))) h'.objs.size (Ex h'.objs.size (SU "<lambda>" (X.env.qual ++ "<lambda>") params body scope cl ((X.mg "__name__").getD .none) (.ref c') ctv)) Pt = some (.tbl (ps ++ #[rawInt pos.line, rawInt pos.col, .ref c'])) := by rw [Ak hPf, Ak hPc]; exact Aa
   have aC : upd (upd (upd H Pt (.tbl (ps ++ #[rawInt pos.line, rawInt pos.col, .ref c']))) c' (Hn c' (X.env.qual ++ "<lambda>"))) h'.objs.size (Ex h'.objs.size (SU "<lambda>" (X.env.qual ++ "<lambda>") params body scope cl ((X.mg "__name__").getD .none) (.ref c') ctv)) c' = some (Hn c' (X.env.qual ++ "<lambda>")) := by rw [Ak hcf]; exact Aa
   have aF : upd (upd (upd H Pt (.tbl (ps ++ #[rawInt pos.line, rawInt pos.col, .ref c']))) c' (Hn c' (X.env.qual ++ "<lambda>"))) h'.objs.size (Ex h'.objs.size (SU "<lambda>" (X.env.qual ++ "<lambda>") params body scope cl ((X.mg "__name__").getD .none) (.ref c') ctv)) h'.objs.size = some (Ex h'.objs.size (SU "<lambda>" (X.env.qual ++ "<lambda>") params body scope cl ((X.mg "__name__").getD .none) (.ref c') ctv)) := Aa
   generalize upd (upd (upd H Pt (.tbl (ps ++ #[rawInt pos.line, rawInt pos.col, .ref c']))) c' (Hn c' (X.env.qual ++ "<lambda>"))) h'.objs.size (Ex h'.objs.size (SU "<lambda>" (X.env.qual ++ "<lambda>") params body scope cl ((X.mg "__name__").getD .none) (.ref c') ctv)) = H' at at_ aP aC aF
   have old : ∀ b o, b ≠ Pt → H b = some o → H' b = some o := fun b o n e => by rw [at_ b n (Aq e hcn) (Aq e hfn)]; exact e
   have lts : ∀ {b : Addr} {o : Obj}, s.heap.get? b = some o → b ≠ c' ∧ b ≠ h'.objs.size := fun e => ⟨QK (QI (Heap.lt_size e) hge), QK (QI (Heap.lt_size e) hsz)⟩
   have kp : ∀ b o, b ≠ Pt → s.heap.get? b = some o → (h'.push (SY "<lambda>" (X.env.qual ++ "<lambda>") params body scope cl ((X.mg "__name__").getD .none) c' ctv)).get? b = some o := fun b o n e => Heap.get?_push_of_some _ (hx b o n e)
   have nP : ∀ {b : Addr}, H b = none → b ≠ Pt := fun n z => by rw [z, hP] at n; cases n
   refine I.after ⟨.ref h'.objs.size, H', rfl, I.bare, ⟨fun b o e n _ _ => kp b o (nP n) e, fun b o e n _ _ => ⟨o.slots, kp b o (nP n) e⟩, fun b o e n _ => by rw [at_ b (nP n) (lts e).1 (lts e).2]; exact n, fun b o e _ => ?_, fun b xs e => old b _ (fun z => by rw [z, hP] at e; cases e) e, fun b o u e => old b _ (fun z => by rw [z, hP] at e; cases e) e, fun b pp e => ?_⟩, fun b o e => ?_, rfl, ?_⟩
   ·by_cases n : b = Pt
    ·subst n; exact ⟨_, Heap.get?_push_of_some _ htb⟩
    ·exact ⟨o, kp b o n e⟩
   ·by_cases n : b = Pt
    ·subst n; rw [hP] at e; cases e; exact ⟨_, aP⟩
    ·exact ⟨#[], by rw [old b _ n e]; simp⟩
   ·by_cases n3 : b = h'.objs.size
    ·subst n3; rw [aF] at e; cases e
     have g : (h'.push (SY "<lambda>" (X.env.qual ++ "<lambda>") params body scope cl ((X.mg "__name__").getD .none) c' ctv)).get? h'.objs.size = some (SY "<lambda>" (X.env.qual ++ "<lambda>") params body scope cl ((X.mg "__name__").getD .none) c' ctv) := Heap.get?_push_size _ rfl
     exact ⟨g, ⟨_, g⟩, fun h1 h2 z st => st _ z⟩
    ·by_cases n2 : b = c'
     ·subst n2; rw [aC] at e; cases e
      obtain ⟨c2, oc, vs, t, e2, hoc, hd, hv⟩ := hrec
      cases e2
      have g := Heap.get?_push_of_some (SY "<lambda>" (X.env.qual ++ "<lambda>") params body scope cl ((X.mg "__name__").getD .none) b ctv) hoc
      exact ⟨⟨_, oc, vs, t, rfl, g, hd, hv⟩, ⟨_, g⟩, fun h1 h2 ⟨c3, oc3, vs3, t3, e3, hoc3, hd3, hv3⟩ st => by cases e3; exact ⟨_, oc3, vs3, t3, rfl, st _ hoc3, hd3, hv3⟩⟩
     ·by_cases n1 : b = Pt
      ·subst n1; rw [aP] at e; cases e
       show (h'.push _).get? b = some _
       exact Heap.get?_push_of_some _ htb
      ·rw [at_ b n1 n2 n3] at e
       exact (I.hok b o e).stay (fun d u hd q => kp d u (fun z => by
        rcases hd with hd | hd
        ·exact n1 (by rw [← hd]; exact z)
        ·rw [z, hP] at hd; cases hd) q) (fun d q => old d _ (fun z => by rw [z, hP] at q; cases q) q) fun d xs q => old d _ (fun z => by rw [z, hP] at q; cases q) q
   ·refine h h'.objs.size c' cl ctv H' C h3 ⟨hfn, aF, aC, ⟨_, aP, ?_, fun pos' cv q => ?_⟩, old⟩
    ·rw [Array.toList_append]; exact TriplesOk_snoc _ _ _ _ ht
    ·rw [Array.toList_append] at q
     rcases FI _ ht q with z | z
     ·obtain ⟨c2, e2, k2⟩ := hcodes pos' cv z
      exact ⟨c2, e2, old c2 _ (fun z => by rw [z, hP] at k2; cases k2) k2⟩
     ·exact ⟨c', z, aC⟩
 | some cv =>
   obtain ⟨c', rfl, hco⟩ := hcodes pos cv hf
   refine PySem.W.kla_makeFunctionHit (mg := X.mg) hcl I.ok.glob hgs hc (SX I.kIn hcd) hPo ht hf hB fun ctv h' tk hk hsz => ?_
   have hfn : H h'.objs.size = none := I.hok.fresh hsz
   have J := I.laid (t' := tk) (h' := h'.push { cls := .type "function", data := .func (SU "<lambda>" (X.env.qual ++ "<lambda>") params body scope cl ((X.mg "__name__").getD .none) (.ref c') ctv) }) (a := h'.objs.size) (o := Ex h'.objs.size (SU "<lambda>" (X.env.qual ++ "<lambda>") params body scope cl ((X.mg "__name__").getD .none) (.ref c') ctv)) (fun b ob q => Heap.get?_push_of_some _ (hk b ob q)) hsz (by
    have g : (h'.push { cls := .type "function", data := .func (SU "<lambda>" (X.env.qual ++ "<lambda>") params body scope cl ((X.mg "__name__").getD .none) (.ref c') ctv) }).get? h'.objs.size = some { cls := .type "function", data := .func (SU "<lambda>" (X.env.qual ++ "<lambda>") params body scope cl ((X.mg "__name__").getD .none) (.ref c') ctv) } := Heap.get?_push_size _ rfl
    exact ⟨g, ⟨_, g⟩, fun h1 h2 z st => st _ z⟩)
   have old : ∀ b o, H b = some o → upd H h'.objs.size (Ex h'.objs.size (SU "<lambda>" (X.env.qual ++ "<lambda>") params body scope cl ((X.mg "__name__").getD .none) (.ref c') ctv)) b = some o := fun b o e => by rw [Ak (Aq e hfn)]; exact e
   exact ⟨.ref h'.objs.size, _, J, rfl, h _ c' cl ctv _ C h3 ⟨hfn, Aa, old _ _ hco, ⟨ps, old _ _ hP, ht, fun pos' cv q => by
    obtain ⟨c2, e2, k2⟩ := hcodes pos' cv q
    exact ⟨c2, e2, old _ _ k2⟩⟩, fun b o _ e => old b o e⟩⟩
end L2
namespace L2
open PySem PySem.Spec PyProof.Rows
def LI (Pt : Addr) (H : Hp) : Prop := ∀ b, b ≠ Pt → H b = none ∨ ∃ o xs, H b = some (.frz o (.lst xs))
theorem K1 {P : Program} {w : World} {K : QO} {mg mb : Str → Option Value} {CX : CXT} {k : Nat} {fa a Pt c : Addr} {fd : FuncData} {x : Str} {sp : Sp} {s₁ : Shared} {vs : List Value} {ns : List Int}
 (KX : K.In s₁.heap) (hns : s₁.heap.Ns mainGlobals mg) (hb : s₁.heap.Ns builtinsNs mb) (hbb : ∀ x : Str, x ≠ "__name__" → mb x = bootBuiltins x) (hlim : s₁.heap.NoLimit) (hsee : s₁.heap.NoSeer) (hbm : Bm mg s₁.heap) (hg : s₁.gens = #[])
 (hPt : s₁.heap.get? Pt = some (SW #[])) (hPK : K.lookup Pt = none) (hcd : SV K c Pt = true)
 (ha : s₁.heap.get? a = some { cls := .type "list", data := .seq vs.toArray }) (hi : IntsAre vs ns) (hl : ns.length ≤ sizeLine) (hr : BT k callerA)
 (F : ∀ base : Heap, K.In base → base.Ns mainGlobals mg → Bm mg base → AE P w K mg base CX k fa fd [x] sp) (hbind : ∀ (s : Shared) (u : Value), BindsTo s fd ⟨[u], []⟩ [(x, u)])
 (hsp : ∀ H : Hp, LI Pt H → SqL K H a (ns.map V.int) → H Pt = some (.tbl #[]) → sp [.ref a] H (fun v _ => v = .bl true) fun _ _ _ => False)
 (hCX : ∀ H e s', CX [] H s₁ (fun _ _ _ => False) e s' → False) :
 codeAny (model P w) callerA (.call (.ref fa) ⟨[.ref a], []⟩) (fun r s' => r = .ok (.ret (.bool true)) ∧ OldK s₁.heap s'.heap ∧ s'.os = s₁.os ∧ AllBare s'.gens) s₁ := by
 have rv := JI hi
 have lenV := hi.length
 have aP : a ≠ Pt := fun z => by rw [z, hPt] at ha; cases ha
 have core : ∀ H : Hp, LI Pt H → H Pt = some (.tbl #[]) → SqL K H a (ns.map V.int) → HOk P w H s₁.heap → (∀ b, H b ≠ none → b = a ∨ b = Pt) → (H a ≠ none → K.lookup a = none) →
  codeAny (model P w) callerA (.call (.ref fa) ⟨[.ref a], []⟩) (fun r s' => r = .ok (.ret (.bool true)) ∧ OldK s₁.heap s'.heap ∧ s'.os = s₁.os ∧ AllBare s'.gens) s₁ := by
  intro H hO hHP hS hok hA hK
  have base_of : ∀ {b : Addr} {o : Obj}, s₁.heap.get? b = some o → H b = none → (Fo s₁.heap H).get? b = some o := fun e n => Lh e n
  have noA : ∀ {b : Addr} {o : Obj} {es : Array DictEntry} {ep : Nat}, s₁.heap.get? b = some o → o.data = .dict es ep → H b = none := fun {b o es ep} e d => by
   cases q : H b with
   | none => rfl
   | some u =>
     rcases hA b (by rw [q]; simp) with e' | e'
     ·subst e'
      rw [ha] at e; cases e
      have d' : Data.seq vs.toArray _ = Data.dict es ep := d
      cases d'
     ·subst e'
      rw [hPt] at e; cases e
      have d' : Data.fields #[] = Data.dict es ep := d
      cases d'
  have nsK : ∀ {b : Addr} {m : Str → Option Value}, s₁.heap.Ns b m → (Fo s₁.heap H).Ns b m := fun {b m} ⟨o, es, ep, e, d, r⟩ => ⟨o, es, ep, base_of e (noA e d), d, r⟩
  have hKb : K.In (Fo s₁.heap H) := fun b o e => base_of (KX b o e) (by
   cases q : H b with
   | none => rfl
   | some u =>
     rcases hA b (by rw [q]; simp) with e' | e'
     ·subst e'
      rw [hK (by rw [q]; simp)] at e; cases e
     ·subst e'
      rw [hPK] at e; cases e)
  have modN : ∀ {bm : Addr} {ob : Obj}, s₁.heap.get? bm = some ob → ob.cls = .type "module" → H bm = none := fun {bm ob} z u => by
   cases q : H bm with
   | none => rfl
   | some o =>
     rcases hA bm (by rw [q]; simp) with e' | e'
     ·subst e'
      rw [ha] at z; cases z
      have u' : Value.type "list" = Value.type "module" := u
      exact absurd u' (by decide)
     ·subst e'
      rw [hPt] at z; cases z; cases u
  have seerK : (Fo s₁.heap H).NoSeer := ⟨let ⟨mc, x, y⟩ := hsee.statics; ⟨mc, nsK x, y⟩, let ⟨mm, x, y⟩ := hsee.mods; ⟨mm, nsK x, y⟩, let ⟨mi, x, y⟩ := hsee.imp; ⟨mi, nsK x, y⟩, by
   obtain ⟨mg', bm, ob, x, y, z, u, v⟩ := hsee.main
   exact ⟨mg', bm, ob, nsK x, y, base_of z (modN z u), u, v⟩⟩
  have bmK : Bm mg (Fo s₁.heap H) := by
   obtain ⟨bm, ob, x, y, z, u, v, t⟩ := hbm
   exact ⟨bm, ob, x, y, base_of z (modN z u), u, v, t⟩
  have hM : Mod K mg (Fo s₁.heap H) := ⟨hKb, nsK hns, ⟨mb, nsK hb, hbb⟩, let ⟨mc, h1, h2⟩ := hlim; ⟨mc, nsK h1, h2⟩, seerK⟩
  have e0 : Kf P w K mg (Fo s₁.heap H) callerA [] s₁ H := ⟨rfl, hM, fun b o e => Mi e, Nat.le_of_eq (K7 _ _), trivial, fun b hb => absurd (show b ∈ ([] : List Addr) from hb) (by simp), hok, .of_eq hg⟩
  refine codeAny_mono ((F _ hKb (nsK hns) bmK).run callerA [] s₁ H ⟨[.ref a], []⟩ [.ref a] [.ref a] _ _ hr e0 (hbind s₁ (.ref a)) (.cons rfl .nil) (hsp H hO hS hHP)) fun r s' h => ?_
  cases r with
  | error e => exact (hCX H e s' h).elim
  | ok fl =>
    cases fl with
    | next => exact False.elim h
    | brk => exact False.elim h
    | cont => exact False.elim h
    | ret u =>
      obtain ⟨v, H', os, bare, un, hok', r', q⟩ := h
      have q' : v = .bl true := q
      subst q'
      obtain rfl : u = Value.bool true := r'
      obtain ⟨more, hP'⟩ := un.tbls Pt _ hHP
      have gP : s'.heap.get? Pt = some (SW (#[] ++ more)) := hok' Pt _ hP'
      have kp : ∀ b o, b ≠ Pt → s₁.heap.get? b = some o → s'.heap.get? b = some o := fun b o n e => by
       cases q : H b with
       | none => exact un.keep b o e q (by intro z; exact absurd (show b ∈ ([] : List Addr) from z) (by simp)) (by simp)
       | some u =>
         rcases hO b n with z | ⟨ob, xs, z⟩
         ·rw [q] at z; cases z
         ·have z2 := un.frzs b ob _ z
          obtain ⟨e1, _⟩ := hok b _ z
          obtain ⟨e2, _⟩ := hok' b _ z2
          rw [e] at e1; cases e1
          exact e2
      obtain ⟨oc, cvs, _, _, _, _, _, _, _, g1, g2, g3, g4, _⟩ := SX KX hcd
      refine ⟨rfl, ⟨fun b o e => ?_, fun b o e => ?_⟩, os, bare⟩
      ·by_cases n : b = Pt
       ·subst n
        rw [hPt] at e; cases e
        exact .inr (.inl ⟨⟨c, oc, cvs, g1, g2, g3, g4⟩, rfl, #[], more, rfl, gP⟩)
       ·exact .inl (kp b o n e)
      ·by_cases n : b = Pt
       ·subst n; exact ⟨_, gP⟩
       ·exact ⟨o, kp b o n e⟩
 cases hk : K.lookup a with
 | some o =>
   have e := KX a o hk
   rw [ha] at e
   cases e
   refine core (fun b => if b = Pt then some (.tbl #[]) else none) (fun b n => .inl (if_neg n)) (if_pos rfl) (.inr ⟨_, vs.toArray, _, hk, rfl, rfl, rfl, by rw [Rx, lenV]; exact hl, by simpa using rv⟩) (fun b u z => ?_) (fun b z => ?_) fun z => absurd (if_neg aP) z
   ·by_cases n : b = Pt
    ·subst n
     have z' := (if_pos rfl).symm.trans z
     cases z'
     exact hPt
    ·have z' := (if_neg n).symm.trans z
     cases z'
   ·by_cases n : b = Pt
    ·exact .inr n
    ·exact absurd (if_neg n) z
 | none =>
   refine core (fun b => if b = a then some (.frz { cls := .type "list", data := .seq vs.toArray } (.lst (ns.map V.int))) else if b = Pt then some (.tbl #[]) else none) (fun b n => ?_) (by show (if Pt = a then _ else if Pt = Pt then some (HO.tbl #[]) else none) = _; rw [if_neg (Ne.symm aP), if_pos rfl]) (.inl (.inr ⟨{ cls := .type "list", data := .seq vs.toArray }, if_pos rfl⟩)) (fun b u z => ?_) (fun b z => ?_) fun _ => hk
   ·by_cases hb : b = a
    ·exact .inr ⟨_, _, if_pos hb⟩
    ·exact .inl (by show (if b = a then _ else if b = Pt then _ else none) = none; rw [if_neg hb, if_neg n])
   ·by_cases hb : b = a
    ·have z' := (if_pos hb).symm.trans z
     cases z'
     subst hb
     exact ⟨ha, by rw [Rp]; exact hl, vs, _, rv, ha⟩
    ·by_cases n : b = Pt
     ·subst n
      have z' : some (HO.tbl #[]) = some u := by rw [← z]; show _ = (if b = a then _ else if b = b then some (HO.tbl #[]) else none); rw [if_neg hb, if_pos rfl]
      cases z'
      exact hPt
     ·have z' : (none : Option HO) = some u := by rw [← z]; show _ = (if b = a then _ else if b = Pt then some (HO.tbl #[]) else none); rw [if_neg hb, if_neg n]
      cases z'
   ·by_cases hb : b = a
    ·exact .inl hb
    ·by_cases n : b = Pt
     ·exact .inr n
     ·exact absurd (by show (if b = a then _ else if b = Pt then _ else none) = none; rw [if_neg hb, if_neg n]) z
theorem Kj {l : SZ} {n k : Nat} {q : Program} {loose : List Str} {XP : (Str → Option Value) → Heap → Prop} {YP : World → Heap → Prop} {d : DefRec} {K : Params → QO} {CX : World → CXT} {sp : World → Sp} {x : Str} {Pt : Addr}
 (hI : importsNone q = true) (hn : l.most = some n) (hn2 : n ≤ sizeLine) (hdf : d.params.defaults = []) (hr : BT k callerA)
 (hY : ∀ (w : World) (h : Heap), YP w h → (K w.params).In h ∧ h.get? Pt = some (SW #[]) ∧ (K w.params).lookup Pt = none)
 (F : ∀ (w : World) (mg : Str → Option Value) (fa : Addr) (h : Heap), (K w.params).In h → h.Ns mainGlobals mg → mg d.name = some (.ref fa) →
  ∃ (fd : FuncData) (c : Addr), SV (K w.params) c Pt = true ∧ (∀ (s : Shared) (u : Value), BindsTo s fd ⟨[u], []⟩ [(x, u)]) ∧
    ∀ base : Heap, (K w.params).In base → base.Ns mainGlobals mg → Bm mg base → AE l.prog w (K w.params) mg base (CX w) k fa fd [x] (sp w))
 (hsp : ∀ (w : World) (H : Hp) (a : Addr) (ns : List Int), ns.length ≤ n → LI Pt H → SqL (K w.params) H a (ns.map V.int) → H Pt = some (.tbl #[]) → sp w [.ref a] H (fun v _ => v = .bl true) fun _ _ _ => False)
 (hCX : ∀ (w : World) (H : Hp) (s : Shared) (e : Value) (s' : Shared), CX w [] H s (fun _ _ _ => False) e s' → False) :
 PySem.W.WalkO q loose XP YP l.row.toRowW d [] (fun f vs => PySem.call f vs) := by
 refine Att.attach_call hn hdf fun w s₀ s₁ mg mb fa o pm cd doc a vs ns G Y ho hd hcd hmg hobj hints hlen hg => ?_
 obtain ⟨KX, hPt, hPK⟩ := hY w _ Y
 obtain ⟨fd, c, hc, hb, hF⟩ := F w mg fa _ KX G.T.g hmg
 exact K1 KX G.T.g G.T.b G.T.builtins G.T.nolimit (G.T.seer hI) G.T.bmain hg hPt hPK hc hobj hints (QP hlen hn2) hr hF hb (fun H hO hS hP => hsp w H a ns hlen hO hS hP) fun H e s' => hCX w H s₁ e s'
def Ef (K : QO) (f Pt : Addr) : Bool := match K.lookup f with
 | some ⟨_, _, .func fd, _⟩ => (match fd.code with | .ref c => SV K c Pt | _ => false)
 | _ => false
theorem Fun.okL {P : Program} {w : World} {K : QO} {mg : Str → Option Value} {base : Heap} {x qual : Str} {st : Stmt} {f Pt : Addr} {fd : FuncData} {N ps : List Str} {k : Nat} {sp : Sp} (F : Fun K x qual st f fd) (hl : Ef K f Pt = true) (S : Ap N ps (Ae st)) (len : ∀ vs H Q E, sp vs H Q E → vs.length = ps.length)
 (hbody : ∀ (c : Addr) (A : Around) (outer : List Env) (s : Shared) (H : Hp) (vs : List V) (Q : VK) (E : XK), SV K c Pt = true → BT k (A.deeper (envOfC qual (Ae st) s.heap.objs.size f (.ref c))) → sp vs H Q E →
  ∃ t, PSs (J0 CX0 P w K mg base N qual (Ae st) f (.ref c) A outer s H E).nox (Al st) t ∧ t { nx := fun _ H' => Q .non H', rt := Q } (DI N vs) H) : AE P w K mg base CX0 (k + 1) f fd ps sp := by
 obtain ⟨oc, od, kV, doc, pm, an, cdv, ct, osl, rfl, lk, hcd⟩ := F.ex
 refine MP lk hcd S len fun A outer s H vs Q E hr hsp => ?_
 unfold Ef at hl
 rw [lk] at hl
 cases cdv with
 | ref c =>
   obtain ⟨t, h, q⟩ := hbody c A outer s H vs Q E hl hr hsp
   exact ⟨t, h.nox, q⟩
 | _ => cases hl
def Jp (sc scope : Scope) : Bool := scope.names.all fun x => decide (x.2 ≠ .free) || decide (sc.names.lookup x.1 = some .cell)
theorem Md {X : Cx} {params : Arguments} {body : Expr} {scope sc : Scope} {pos : Pos} {c Pt : Addr} (hcd : SV X.K c Pt = true) (hbm : Bm X.mg X.base) (hc : X.env.code = .ref c := by rfl) (hs : X.env.scope = sc := by rfl) (hf : Jp sc scope = true := by decide +kernel)
 (hdef : defaultsOf params X.env = ([], []) := by rfl) : PE X (.Lambda params body scope pos) (O8 X.env X.mg Pt (X.env.qual ++ "<lambda>") params body scope) :=
 Nk hc hcd hbm hdef fun x hx hfr => .inl (by
  unfold Jp at hf
  have h := Sa.mp hf x hx
  rw [Bool.or_eq_true, decide_eq_true_eq, decide_eq_true_eq] at h
  rcases h with h | h
  ·exact absurd hfr h
  ·show X.env.scope.names.lookup x.1 = _
   rw [hs]; exact h)
end L2
namespace L2
open PySem PySem.Spec PyProof.Rows
def spT (ps : List Str) (Pre : List V → Prop) (Ans : List V → V → Hp → Prop) (H0 : Hp) : Sp := fun vs H Q _ => vs.length = ps.length ∧ Pre vs ∧ Af H0 H ∧ ∀ r H', Af H H' → Ans vs r H' → Q r H'
structure Tells (P : Program) (w : World) (K : QO) (mg : Str → Option Value) (base : Heap) (k : Nat) (H : Hp) (f : Addr) (ps : List Str) (Pre : List V → Prop) (Ans : List V → V → Hp → Prop) : Prop where
 ex : ∃ fd, AE P w K mg base CX0 k f fd ps (spT ps Pre Ans H) ∧ C2 K fd ps [] ∧ H f = some (Ex f fd)
inductive Cap (sc scope : Scope) (N : List Str) (σ : St) : List Str → List V → Prop
 | nil : Cap sc scope N σ [] []
 | cons {y : Str} {v : V} {fr : List Str} {ws : List V} (i : Nat) (h1 : scope.names.lookup y = some .free) (h2 : sc.names.lookup y = some .cell) (hN : N[i]? = some y) (hσ : σ[i]? = some (some v)) (t : Cap sc scope N σ fr ws) : Cap sc scope N σ (y :: fr) (v :: ws)
theorem Cap.length {sc scope : Scope} {N : List Str} {σ : St} {fr : List Str} {ws : List V} (h : Cap sc scope N σ fr ws) : fr.length = ws.length := by
 induction h with
 | nil => rfl
 | cons i h1 h2 hN hσ t ih => exact congrArg (· + 1) ih
theorem Cap.get {sc scope : Scope} {N : List Str} {σ : St} {fr : List Str} {ws : List V} (h : Cap sc scope N σ fr ws) : ∀ {j : Nat} {y : Str} {v : V}, fr[j]? = some y → (ws.map some)[j]? = some (some v) → scope.names.lookup y = some .free ∧ sc.names.lookup y = some .cell ∧ ∃ i : Nat, N[i]? = some y ∧ σ[i]? = some (some v) := by
 induction h with
 | nil => intro j y v e; cases e
 | cons i h1 h2 hN hσ t ih =>
   intro j y v e1 e2
   cases j with
   | zero => cases e1; cases e2; exact ⟨h1, h2, i, hN, hσ⟩
   | succ j => exact ih e1 e2
structure MS (scope : Scope) (ps : List Str) : Prop where
 kind : scope.kind = .function
 co : scope.isCoroutine = false
 gen : scope.isGenerator = false
 nocell : (scope.names.all fun x => decide (x.2 ≠ .cell)) = true
 par : (ps.all fun p => decide (scope.names.lookup p = some .local)) = true
theorem KZ {env : Env} {N : List Str} {σ : St} {scope : Scope} {cl : List (Str × Addr)} {os : Addr → Obj} {H2 H' : Hp} {ps fr : List Str} {vs ws : List V} (S : MS scope ps) (C : Ho env cl) (hfree : ∀ x ∈ scope.names, x.2 = .free → ∃ c, (x.1, c) ∈ cl)
 (hci : Kg N σ env.scope cl os) (cap : Cap env.scope scope N σ fr ws) (hl : vs.length = ps.length) (hm : Af (DB (cl.map (·.2)) os H2) H') : Iv H' scope (ps ++ fr) ps cl (vs.map some ++ ws.map some) vs := by
 have mem : ∀ {x : Str} {c : Addr}, (x, c) ∈ cl → c ∈ cl.map (·.2) := fun h => ST (f := (·.2)) h
 have cel : ∀ {x : Str} {c : Addr}, (x, c) ∈ cl → H' c = some (Eh c (os c)) := fun h => hm _ _ (Iz (mem h))
 refine ⟨S.kind, S.co, S.gen, fun x hx => ?_, fun p hp => ?_, fun x y c h1 h2 => C.inj x y c (PySem.mem_of_lookup h1) (PySem.mem_of_lookup h2), fun x hx => ?_, ?_, fun p hp => ?_, fun i x v hN hσ => ?_⟩
 ·exact of_decide_eq_true (Sa.mp S.nocell x hx)
 ·exact of_decide_eq_true (Sa.mp S.par p hp)
 ·obtain ⟨c, hc⟩ := hfree _ (PySem.mem_of_lookup hx) rfl
  exact ⟨c, C.look hc⟩
 ·rw [Ro, Ro, Rp, Rp, hl, cap.length]
 ·obtain ⟨⟨v, hv⟩, _⟩ := hci p.1 p.2 hp
  exact ⟨os p.2, v, cel (x := p.1) hp, hv⟩
 ·by_cases hi : i < ps.length
  ·rw [Rk hi] at hN
   rw [Rk (by rw [Rp, hl]; exact hi), Rl] at hσ
   refine .inl ⟨of_decide_eq_true (Sa.mp S.par x (Rn hN)), i, hN, ?_⟩
   cases e : vs[i]? with
   | none => rw [e] at hσ; cases hσ
   | some u => rw [e] at hσ; cases hσ; rfl
  ·have hi' : ps.length ≤ i := Nat.le_of_not_lt hi
   rw [Ri hi'] at hN
   rw [Ri (by rw [Rp, hl]; exact hi'), Rp, hl] at hσ
   obtain ⟨h1, h2, j, hj, hs⟩ := cap.get hN hσ
   obtain ⟨c, hc⟩ := hfree _ (PySem.mem_of_lookup h1) rfl
   obtain ⟨_, hv⟩ := hci x c hc
   obtain ⟨u, hu, r⟩ := hv j v hj hs h2
   exact .inr ⟨h1, c, os c, u, C.look hc, cel hc, hu, r⟩
theorem lk1 (p : Str) (us : List Value) (h : us.length = [p].length) (j : Nat) (x : Str) (u : Value) (h1 : [p][j]? = some x) (h2 : us[j]? = some u) : ([p].zip us).reverse.lookup x = some u := by
 obtain ⟨a, r, rfl, l1⟩ := Bn h
 cases SQ.mp l1
 cases j with
 | zero => cases h1; cases h2; show (match p == p with | true => some u | false => none) = some u; rw [beq_self_eq_true]
 | succ j => cases h1
theorem K2 {K : QO} {fd : FuncData} {p : Str} (h : ∀ a : Value, bindArgs fd ⟨[a], []⟩ = pure [(p, a)]) : C2 K fd [p] [] := .all fun us l0 => by
 obtain ⟨a1, r1, rfl, l1⟩ := Bn l0
 cases SQ.mp l1
 exact h a1
def Bx (Pt : Addr) (H H' : Hp) : Prop := ∀ b o, b ≠ Pt → H b = some o → H' b = some o
theorem Bx.trans {Pt : Addr} {H H' H'' : Hp} (a : Bx Pt H H') (b : Bx Pt H' H'') : Bx Pt H H'' := fun c o n e => b c o n (a c o n e)
theorem Af.b {Pt : Addr} {H H' : Hp} (a : Af H H') : Bx Pt H H' := fun b o _ e => a b o e
theorem Ck.same {Pt : Addr} {q : Str} {H H' : Hp} (h : Ck Pt q H) (m : Af H H') : Ck Pt q H' := by
 obtain ⟨ps, e, t, c⟩ := h
 refine ⟨ps, m _ _ e, t, fun pos cv z => ?_⟩
 obtain ⟨c', e', z'⟩ := c pos cv z
 exact ⟨c', e', m _ _ z'⟩
section
variable {K : QO} {Pt : Addr} {q : Str} {H H' : Hp}
theorem SqT.but {r : Addr} {xs : List V} (h : SqT K H r xs) (c : Ck Pt q H) (m : Bx Pt H H') : SqT K H' r xs := by
 obtain ⟨ps, e, _⟩ := c
 have ne : ∀ {b : Addr} {o : HO}, H b = some o → (∀ p, o ≠ .tbl p) → b ≠ Pt := fun z n y => by rw [y, e] at z; exact n _ (QF.inj z).symm
 rcases h with (h | ⟨o, h⟩) | h
 ·exact .inl (.inl (m _ _ (ne h fun p z => by cases z) h))
 ·exact .inl (.inr ⟨o, m _ _ (ne h fun p z => by cases z) h⟩)
 ·exact .inr h
theorem AA.but {x : V} {y : Rat} (h : AA K H x y) (c : Ck Pt q H) (m : Bx Pt H H') : AA K H' x y := let ⟨r, e, h⟩ := h; ⟨r, e, h.but c m⟩
theorem Crv.but {r : Addr} {qs : List Rat} (h : Crv K H r qs) (c : Ck Pt q H) (m : Bx Pt H H') : Crv K H' r qs := let ⟨xs, a, b⟩ := h; ⟨xs, a.but c m, Paired.mapP b fun _ _ z => z.but c m⟩
end
end L2
namespace L2
open PySem PySem.Spec PyProof.Rows
theorem Mo {K : QO} {as : List Addr} {b : Addr} (h : as = K.map (·.1)) (n : as.contains b = false) : K.lookup b = none := by
 subst h
 refine List.lookup_eq_none_iff.mpr fun p hp => ?_
 have z : b ∉ K.map (·.1) := fun hm => by rw [List.contains_iff_mem.mpr hm] at n; cases n
 rw [bne_iff_ne]
 exact fun e => z (by rw [e]; exact ST (f := (·.1)) hp)
theorem Ka {K : QO} {f Pt : Addr} (h : Ef K f Pt = true) : ∃ c, SV K c Pt = true := by
 unfold Ef at h
 split at h
 ·split at h
  ·exact ⟨_, h⟩
  ·cases h
 ·cases h
end L2
namespace L2
open PySem PySem.Spec PyProof.Rows
section
variable {P : Program} {w : World} {K : QO} {mg : Str → Option Value} {base : Heap} {N : List Str} {qual : Str} {scope : Scope} {f : Addr} {cd : Value} {cl : List (Str × Addr)} {A : Around} {outer : List Env} {s : Shared} {H : Hp} {E : XK}
end
end L2
namespace L2
open PySem PySem.Spec PyProof.Rows
section
variable {X : Cx}
end
end L2
namespace L2
open PySem PySem.Spec PyProof.Rows
structure OT (P : Program) (w : World) (K : QO) (mg : Str → Option Value) (base : Heap) (k : Nat) (H : Hp) (f C : Addr) : Prop where
 ex : ∃ fd sp, AE P w K mg base (CX1 P w) k f fd [] sp ∧ C2 K fd [] [] ∧ H f = some (Ex f fd) ∧ ∀ (Q : VK) (E : XK), (∀ H', Af H H' → E (.ref C) none H') → sp [] H Q E
end L2
namespace Dt
def skip (i a : Nat) : Nat := if a < i then a else a + 1
def sg (i : Nat) : Int := if i % 2 = 0 then 1 else -1
def sumN (f : Nat → Int) : Nat → Int
 | 0 => 0
 | n + 1 => sumN f n + f n
def det : Nat → (Nat → Nat → Int) → Nat → Int
 | 0, M, j => M 0 j
 | n + 1, M, j => sumN (fun i => sg i * (M i 0 * det n (fun a b => M (skip i a) (b + 1)) j)) (n + 2)
def put (M : Nat → Nat → Int) (p : Nat) (u : Nat → Int) : Nat → Nat → Int := fun a b => if a = p then u b else M a b
def low (i p : Nat) : Nat := if p < i then p else p - 1
def sh (i : Nat) (v : Nat → Int) : Nat → Int := fun b => if b < i then 0 else v (b - i)
def syl (p : Nat) (g f : Nat → Int) : Nat → Nat → Int := fun a => if a < p then sh a g else sh (a - p) f
def sub (m n k : Nat) (f g : Nat → Int) (j : Nat) : Int := det (m - k + (n - k) - 1) (syl (m - k) g f) j
end Dt
namespace Dt
structure Srs (S : Nat → Nat → Int) (m n : Nat) (f g : Nat → Int) (lead held : Int) : Prop where
 le : n ≤ m
 g0 : g 0 ≠ 0
 l0 : lead ≠ 0
 h0 : held ≠ 0
 one : n < m ∨ (lead = 1 ∧ held = 1)
 is : ∀ k, k ≤ n → ∃ s : Int, (s = 1 ∨ s = -1) ∧ ∀ j, lead ^ (n - k) * held ^ (m - k - 1) * S k j = s * sub m n k f g j
section
variable {S : Nat → Nat → Int} {m n : Nat} {f g r : Nat → Int} {e : Nat → Int} {lead held : Int}
end
end Dt
namespace L2
open Dt
def tf (l : List Int) : Nat → Int := fun b => if b < l.length then l.getD (l.length - 1 - b) 0 else 0
structure LR (S : Nat → Nat → Int) (fs gs : List Int) (lead held : Int) : Prop where
 fp : 1 ≤ fs.length
 srs : 1 ≤ gs.length → Srs S (fs.length - 1) (gs.length - 1) (tf fs) (tf gs) lead held
end L2
namespace L2
def J4 (d p : List Rat) : Prop := ∃ q : List Rat, ∀ x, Cv.ev p x = Cv.ev q x * Cv.ev d x
def Com (A B F G : List Rat) : Prop := ∀ d, (J4 d A ∧ J4 d B) ↔ (J4 d F ∧ J4 d G)
abbrev cst (l : List Int) : List Rat := l.map fun t : Int => (t : Rat)
structure Part (A B p : List Rat) : Prop where
 good : Cn p
 mono : p[p.length - 1]? = some 1
 is : ∀ d, (J4 d A ∧ J4 d B) ↔ J4 d p
end L2
namespace L2
open Dt
def MC (l : List Int) : Prop := ∀ t, l[l.length - 1]? = some t → t ≠ 0
def PD (l : List Int) : Prop := ∃ D : Nat → Int, D 0 ≠ 0 ∧ (∀ j, Bd 45100 (D j)) ∧ ∀ j, tf l j * D 0 = D j * tf l 0
structure LRI (S : Nat → Nat → Int) (fs gs fs' gs' : List Int) (lead held : Int) (B d0 : Nat) : Prop where
 lr : LR S fs' gs' lead held
 le : gs'.length ≤ fs'.length
 l8 : fs'.length ≤ 8
 t1 : MC fs'
 t2 : MC gs'
 com : Com (cst fs) (cst gs) (cst fs') (cst gs')
 bf : ∀ t ∈ fs', Bd B t
 bg : ∀ t ∈ gs', Bd B t
 bl : Bd (B + 1) lead
 bh : Bd (B * d0 + 1) held
 d8 : d0 + fs'.length ≤ 8
 bb : B + 1 ≤ 3 ^ (9 - fs'.length) * 3001
 b3 : fs'.length = gs'.length → B ≤ 3000
 pd : PD fs'
section
variable {S : Nat → Nat → Int} {fs gs fs' gs' : List Int} {lead held : Int} {B d0 : Nat}
end
end L2
namespace L2
open Dt
structure LRJ (S : Nat → Nat → Int) (fs gs fs' gs' : List Int) (lead held : Int) (X : Nat) : Prop where
 lr : LR S fs' gs' lead held
 le : gs'.length ≤ fs'.length
 l10 : fs'.length ≤ 10
 t1 : MC fs'
 t2 : MC gs'
 com : Com (cst fs) (cst gs) (cst fs') (cst gs')
 bf : ∀ t ∈ fs', Bd X t
 bg : ∀ t ∈ gs', Bd X t
 bl : Bd X lead
 bh : Bd X held
section
variable {S : Nat → Nat → Int} {fs gs fs' gs' : List Int} {lead held : Int} {X : Nat}
end
end L2
namespace L2
theorem HC : ∀ os : List Rat, (prL os).getD os.length 0 = 1
 | [] => rfl
 | o :: os => by
   have ih := HC os
   show (Be ((prL os).map (· * -o)) (0 :: Be ((prL os).map (· * 1)) (0 :: []))).getD (os.length + 1) 0 = 1
   rw [Cg, BB]
   have e1 : (prL os).getD (os.length + 1) 0 = 0 := by
    rw [Sb, Sr (by rw [CS]; lia)]; rfl
   show _ + (Be ((prL os).map (· * 1)) (0 :: [])).getD os.length 0 = 1
   rw [Cg, BB, e1, ih]
   have e : ([0] : List Rat).getD os.length 0 = 0 := by match os.length with | 0 => rfl | k + 1 => rfl
   rw [e]; grind
end L2
namespace L2
def Cop (A B : List Rat) : Prop := ∃ u v, ∀ x, Cv.ev u x * Cv.ev A x + Cv.ev v x * Cv.ev B x = 1
theorem Mx {D A B : List Rat} (hD : Cv.strip D ≠ []) (h : ∀ x, Cv.ev D x * Cv.ev A x = Cv.ev D x * Cv.ev B x) (x : Rat) : Cv.ev A x = Cv.ev B x := by
 have key : Cv.strip (Be A (B.map (· * (-1)))) = [] := by
  by_cases hE : Cv.strip (Be A (B.map (· * (-1)))) = []
  ·exact hE
  exfalso
  have gM := Lj (BW D) (BW (Be A (B.map (· * (-1))))) hD hE
  have e := Fp gM (.inl rfl : Cn []) fun x => by
   rw [Cs, Cv.ev_strip, Cv.ev_strip, BK, Cv.ev_scale]
   have := h x
   show _ = (0 : Rat)
   grind
  have l := C0 (Cv.strip (Be A (B.map (· * (-1))))) (RZ.mpr hE) (Cv.strip D) (RZ.mpr hD)
  rw [e] at l
  have := RZ.mpr hE
  have := RZ.mpr hD
  simp only [Ss] at l
  lia
 have z : Cv.ev (Cv.strip (Be A (B.map (· * (-1))))) x = 0 := by rw [key]; rfl
 rw [Cv.ev_strip, BK, Cv.ev_scale] at z
 grind
def pw (d : List Rat) : Nat → List Rat
 | 0 => [1]
 | n + 1 => CU (pw d n) d
end L2
namespace L2
structure Kn (f l g : List Rat) : Prop where
 gg : Cn g
 mono : g[g.length - 1]? = some 1
 fe : ∀ x, Cv.ev f x = Cv.ev l x * Cv.ev g x
 un : ∃ u, (∀ x, Cv.ev (dL f) x = Cv.ev g x * Cv.ev u x) ∧ Cop l u
end L2
namespace L2
open PySem PySem.Spec PyProof.Rows
section
variable {X : Cx} {e : Expr} {es : List Expr} {te : TE} {t : TA} {pos : Pos}
@[irreducible] def PEk (X : Cx) (e : Expr) (te : TE) : Prop := PE X e te
@[irreducible] def PAk (X : Cx) (es : List Expr) (t : TA) : Prop := PA X es t
theorem pek (h : PE X e te) : PEk X e te := by unfold PEk; exact h
end
end L2
namespace L2
theorem Ch : ∀ (qs : List Rat) {l : List Rat}, qs.Nodup → l.length ≤ qs.length → (∀ q ∈ qs, Cv.ev l q = 0) → ∀ x, Cv.ev l x = 0
 | [], l, _, hl, _, x => by
   have : l = [] := S5 (Nat.le_zero.mp hl)
   rw [this]; rfl
 | c :: r, l, hn, hl, h, x => by
   rw [Re] at hn
   have h0 := h c (QS ..)
   have e : ∀ x, Cv.ev l x = (x - c) * Cv.ev (quo c l) x := fun x => by rw [KG c x l, h0, Rat.zero_add]
   have hl' : l.length ≤ r.length + 1 := hl
   have ih := Ch r (l := quo c l) hn.2 (by rw [EV]; lia) fun q hq => by
    have hq0 := h q (QT _ hq)
    rw [e q] at hq0
    rcases S6.mp hq0 with z | z
    ·exact absurd (show q = c by grind) fun z => hn.1 (z ▸ hq)
    ·exact z
   rw [e x, ih x, T0]
theorem DD : ∀ (l : List Rat) (a : Nat), (∀ j, a ≤ j → l.getD j 0 = 0) → ∀ x, Cv.ev (l.take a) x = Cv.ev l x
 | [], a, _, x => by rw [List.take_nil]
 | q :: r, 0, h, x => by
   show (0 : Rat) = q + x * Cv.ev r x
   have h0 : q = 0 := h 0 (R3 _)
   have ih := DD r 0 (fun j _ => h (j + 1) (R5 _)) x
   rw [SA] at ih
   have ih : (0 : Rat) = Cv.ev r x := ih
   rw [h0, ← ih, T0, Rat.add_zero]
 | q :: r, a + 1, h, x => by
   show q + x * Cv.ev (r.take a) x = q + x * Cv.ev r x
   rw [DD r a (fun j hj => h (j + 1) (Nat.succ_le_succ hj)) x]
theorem EW {N D : List Rat} {a b k : Nat} (hN : ∀ j, a ≤ j → N.getD j 0 = 0) (hD : ∀ j, b ≤ j → D.getD j 0 = 0) (h : a = 0 ∨ b = 0 ∨ a + b ≤ k + 1) : ∃ l : List Rat, l.length ≤ k ∧ ∀ x, Cv.ev l x = Cv.ev N x * Cv.ev D x := by
 have eN := DD N a hN
 have eD := DD D b hD
 by_cases z : (N.take a).length = 0 ∨ (D.take b).length = 0
 ·refine ⟨[], R5 _, fun x => ?_⟩
  show (0 : Rat) = _
  rcases z with z | z
  ·rw [← eN, S5 z]; show _ = 0 * _; rw [T1]
  ·rw [← eD, S5 z]; show _ = _ * 0; rw [T0]
 ·have h1 : (N.take a).length ≤ a := by rw [Rh]; lia
  have h2 : (D.take b).length ≤ b := by rw [Rh]; lia
  refine ⟨CU (N.take a) (D.take b), ?_, fun x => by rw [Cs, eN, eD]⟩
  rw [C0 _ (by lia) _ (by lia)]
  lia
def CZ (w v r : Int) (N D : List Rat) : Prop := (∀ j : Nat, r < 2 * ((j : Int) + 1 - w) → N.getD j 0 = 0) ∧ (∀ j : Nat, r < 2 * ((j : Int) + 1 - v) + 1 → D.getD j 0 = 0)
def Ct (w v r : Int) (N D : List Rat) : Prop := (∃ j : Nat, 2 * ((j : Int) + 1 - w) = r ∧ N.getD j 0 ≠ 0) ∨ (∃ j : Nat, 2 * ((j : Int) + 1 - v) + 1 = r ∧ D.getD j 0 ≠ 0)
theorem FZ {w v r1 r2 : Int} {N D : List Rat} {n k : Nat} (hN : ∀ j : Nat, r1 < 2 * ((j : Int) + 1 - w) → N.getD j 0 = 0) (hD : ∀ j : Nat, r2 < 2 * ((j : Int) + 1 - v) + 1 → D.getD j 0 = 0) (hw : w + v = n + 1) (hr : r1 + r2 ≤ 2 * (k : Int) - 2 * n + 2) : ∃ l : List Rat, l.length ≤ k ∧ ∀ x, Cv.ev l x = Cv.ev N x * Cv.ev D x := by
 refine EW (a := (r1 / 2 + w).toNat) (b := ((r2 - 1) / 2 + v).toNat) (fun j hj => hN j ?_) (fun j hj => hD j ?_) ?_
 ·lia
 ·lia
 ·lia
theorem Ih {w v r1 r2 : Int} {N1 D1 N2 D2 qs : List Rat} {n : Nat} (h1 : CZ w v r1 N1 D1) (h2 : CZ w v r2 N2 D2) (hw : w + v = n + 1) (hr : r1 + r2 ≤ 2 * (qs.length : Int) - 2 * n + 2) (hn : qs.Nodup) (h : ∀ q ∈ qs, Cv.ev N1 q * Cv.ev D2 q = Cv.ev N2 q * Cv.ev D1 q) (x : Rat) : Cv.ev N1 x * Cv.ev D2 x = Cv.ev N2 x * Cv.ev D1 x := by
 obtain ⟨l1, hl1, e1⟩ := FZ (k := qs.length) h1.1 h2.2 hw hr
 obtain ⟨l2, hl2, e2⟩ := FZ (k := qs.length) h2.1 h1.2 hw (by lia)
 have e : ∀ x, Cv.ev (Be l1 (l2.map (· * (-1)))) x = Cv.ev N1 x * Cv.ev D2 x - Cv.ev N2 x * Cv.ev D1 x := fun x => by
  rw [BK, Cv.ev_scale, e1, e2]; grind
 have := Ch qs (l := Be l1 (l2.map (· * (-1)))) hn (by rw [Bl, Rp]; lia) (fun q hq => by rw [e, h q hq]; grind) x
 rw [e] at this
 grind
theorem Gf {l : List Rat} {a j : Nat} (h : j < a) : (l.take a).getD j 0 = l.getD j 0 := by
 rw [Sb, Sb, T2, if_pos h]
theorem J6 {l : List Rat} {j : Nat} (h : l.getD j 0 ≠ 0) : j < l.length := by
 rcases T3 j l.length with z | z
 ·exact z
 ·exact absurd (by rw [Sb, Sr z]; rfl) h
theorem Jm {N1 D2 N2 D1 : List Rat} {j i a b : Nat} (hj : N1.getD j 0 ≠ 0) (hi : D2.getD i 0 ≠ 0) (h1 : ∀ t, j < t → N1.getD t 0 = 0) (h2 : ∀ t, i < t → D2.getD t 0 = 0) (ha : ∀ t, a ≤ t → N2.getD t 0 = 0) (hb : ∀ t, b ≤ t → D1.getD t 0 = 0) (hab : a = 0 ∨ b = 0 ∨ a + b ≤ j + i + 1) : ¬ ∀ x, Cv.ev N1 x * Cv.ev D2 x = Cv.ev N2 x * Cv.ev D1 x := fun h => by
 obtain ⟨l, hl, el⟩ := EW (k := j + i) ha hb hab
 have lj := J6 hj
 have li := J6 hi
 have n1 : (N1.take (j + 1)).length = j + 1 := by rw [Rh]; lia
 have n2 : (D2.take (i + 1)).length = i + 1 := by rw [Rh]; lia
 have g : ∀ {q : List Rat} {t : Nat}, t < q.length → q[t]? = some (q.getD t 0) := fun {q t} ht => by rw [Sb, Si ht]; rfl
 have m1 := Ed (D2.take (i + 1)) (D2.getD i 0) (by rw [n2, T4, g (by lia), Gf (by lia)]) (N1.take (j + 1)) (N1.getD j 0) (by rw [n1, T4, g (by lia), Gf (by lia)])
 have e := Ik (l := CU (N1.take (j + 1)) (D2.take (i + 1))) (m := l) (fun k => by rw [el, ← h, Cs, DD N1 (j + 1) fun t ht => h1 t (by lia), DD D2 (i + 1) fun t ht => h2 t (by lia)]) (j + i)
 have e2 : l.getD (j + i) 0 = 0 := by rw [Sb, Sr hl]; rfl
 rw [n1, n2, show j + 1 + (i + 1) - 2 = j + i by lia] at m1
 rw [e2, Sb, m1] at e
 rcases S6.mp (show D2.getD i 0 * N1.getD j 0 = 0 from e) with z | z
 ·exact hi z
 ·exact hj z
theorem Lr {w v r1 r2 : Int} {N1 D1 N2 D2 : List Rat} (h1 : CZ w v r1 N1 D1) (h2 : CZ w v r2 N2 D2) (t1 : Ct w v r1 N1 D1) (t2 : Ct w v r2 N2 D2) (hp : (r1 + r2) % 2 = 1) : ¬ ∀ x, Cv.ev N1 x * Cv.ev D2 x = Cv.ev N2 x * Cv.ev D1 x := by
 rcases t1 with ⟨j, ej, hj⟩ | ⟨j, ej, hj⟩
 ·rcases t2 with ⟨i, ei, hi⟩ | ⟨i, ei, hi⟩
  ·lia
  ·exact Jm (a := (r2 / 2 + w).toNat) (b := ((r1 - 1) / 2 + v).toNat) hj hi (fun t ht => h1.1 t (by lia)) (fun t ht => h2.2 t (by lia)) (fun t ht => h2.1 t (by lia)) (fun t ht => h1.2 t (by lia)) (by lia)
 ·rcases t2 with ⟨i, ei, hi⟩ | ⟨i, ei, hi⟩
  ·exact fun h => Jm (a := (r1 / 2 + w).toNat) (b := ((r2 - 1) / 2 + v).toNat) hi hj (fun t ht => h2.1 t (by lia)) (fun t ht => h1.2 t (by lia)) (fun t ht => h1.1 t (by lia)) (fun t ht => h2.2 t (by lia)) (by lia) fun x => (h x).symm
  ·lia
structure D0 (w v : Int) (n : Nat) (ps : List (Rat × Rat)) (r1 r2 : Int) (N1 D1 N2 D2 : List Rat) : Prop where
 le1 : CZ w v r1 N1 D1
 top1 : Ct w v r1 N1 D1
 le2 : CZ w v r2 N2 D2
 top2 : Ct w v r2 N2 D2
 lt : r1 < r2
 sum : r1 + r2 = 2 * (ps.length : Int) - 2 * n + 3
 on1 : ∀ q ∈ ps, Cv.ev N1 q.1 = q.2 * Cv.ev D1 q.1
 on2 : ∀ q ∈ ps, Cv.ev N2 q.1 = q.2 * Cv.ev D2 q.1
section
variable {w v : Int} {n : Nat} {ps : List (Rat × Rat)} {r1 r2 : Int} {N1 D1 N2 D2 : List Rat}
theorem D0.ne (I : D0 w v n ps r1 r2 N1 D1 N2 D2) : ¬ ∀ x, Cv.ev N1 x * Cv.ev D2 x = Cv.ev N2 x * Cv.ev D1 x := Lr I.le1 I.le2 I.top1 I.top2 (by have := I.sum; lia)
theorem D0.some (I : D0 w v n ps r1 r2 N1 D1 N2 D2) (hw : w + v = n + 1) {x y : Rat} (hn : ((ps ++ [(x, y)]).map Prod.fst).Nodup) : ¬ (Cv.ev N1 x = y * Cv.ev D1 x ∧ Cv.ev N2 x = y * Cv.ev D2 x) := fun ⟨h1, h2⟩ => by
 refine I.ne fun t => Ih (qs := (ps ++ [(x, y)]).map Prod.fst) I.le1 I.le2 hw ?_ hn (fun q hq => ?_) t
 ·have := I.sum
  rw [Rp, Ro, RD]
  lia
 ·obtain ⟨p, hp, rfl⟩ := Sv.mp hq
  rcases QV.mp hp with z | z
  ·rw [I.on1 p z, I.on2 p z]; grind
  ·rw [Sh.mp z]
   show Cv.ev N1 x * Cv.ev D2 x = Cv.ev N2 x * Cv.ev D1 x
   rw [h1, h2]; grind
end
theorem Hb : ∀ {l m : List Rat}, (∀ j, l.getD j 0 = m.getD j 0) → ∀ x, Cv.ev l x = Cv.ev m x
 | [], m, h, x => by
   show (0 : Rat) = _
   rw [Cv.ev_none]
   intro q hq
   obtain ⟨j, hj, rfl⟩ := T5 hq
   have := h j
   rw [Sb, Sb, Si hj] at this
   exact this.symm
 | a :: l, [], h, x => by
   show _ = (0 : Rat)
   rw [Cv.ev_none]
   intro q hq
   obtain ⟨j, hj, rfl⟩ := T5 hq
   have := h j
   rw [Sb, Sb, Si hj] at this
   exact this
 | a :: l, b :: m, h, x => by
   show a + x * Cv.ev l x = b + x * Cv.ev m x
   rw [show a = b from h 0, Hb (l := l) (m := m) (fun j => h (j + 1)) x]
def Shf (c d : Rat) (L L' : List Rat) : Prop := ∀ j : Nat, L'.getD j 0 = d * (if j = 0 then 0 else L.getD (j - 1) 0) - c * L.getD j 0
theorem Shf.ev {c d : Rat} {L L' : List Rat} (h : Shf c d L L') (x : Rat) : Cv.ev L' x = (d * x - c) * Cv.ev L x := by
 have e : Cv.ev L' x = Cv.ev (Be ((0 :: L).map (· * d)) (L.map (· * (-c)))) x := Hb (fun j => by
  rw [h j, Cg, BB, BB]
  cases j with
  | zero => show d * (if 0 = 0 then 0 else _) - c * _ = 0 * d + _; rw [if_pos rfl]; grind
  | succ j => show d * (if j + 1 = 0 then 0 else L.getD (j + 1 - 1) 0) - c * _ = L.getD j 0 * d + _; rw [if_neg (by lia), T4]; grind) x
 rw [e, BK, Cv.ev_scale, Cv.ev_scale]
 show (0 + x * Cv.ev L x) * d + _ = _
 grind
def Mix (m a b : Rat) (A B L' : List Rat) : Prop := ∀ j : Nat, m * L'.getD j 0 = a * B.getD j 0 - b * A.getD j 0
theorem Mix.ev {m a b : Rat} {A B L' : List Rat} (h : Mix m a b A B L') (x : Rat) : m * Cv.ev L' x = a * Cv.ev B x - b * Cv.ev A x := by
 have e : Cv.ev (L'.map (· * m)) x = Cv.ev (Be (B.map (· * a)) (A.map (· * (-b)))) x := Hb (fun j => by
  rw [BB, Cg, BB, BB]
  have := h j
  grind) x
 rw [BK, Cv.ev_scale, Cv.ev_scale, Cv.ev_scale] at e
 grind
theorem CZ.shift {w v r : Int} {c d : Rat} {N D N' D' : List Rat} (h : CZ w v r N D) (hN : Shf c d N N') (hD : Shf c d D D') : CZ w v (r + 2) N' D' := by
 refine ⟨fun j hj => ?_, fun j hj => ?_⟩
 ·rw [hN j, h.1 j (by lia)]
  by_cases z : j = 0
  ·rw [if_pos z]; grind
  ·rw [if_neg z, h.1 (j - 1) (by lia)]; grind
 ·rw [hD j, h.2 j (by lia)]
  by_cases z : j = 0
  ·rw [if_pos z]; grind
  ·rw [if_neg z, h.2 (j - 1) (by lia)]; grind
theorem Ct.shift {w v r : Int} {c d : Rat} {N D N' D' : List Rat} (h : Ct w v r N D) (hle : CZ w v r N D) (hd : d ≠ 0) (hN : Shf c d N N') (hD : Shf c d D D') : Ct w v (r + 2) N' D' := by
 have key : ∀ {y : Rat}, y ≠ 0 → d * y - c * 0 ≠ 0 := fun {y} hy e => by
  have : d * y = 0 := by grind
  rcases S6.mp this with z | z
  ·exact hd z
  ·exact hy z
 rcases h with ⟨j, e, hj⟩ | ⟨j, e, hj⟩
 ·refine .inl ⟨j + 1, by lia, ?_⟩
  rw [hN (j + 1), if_neg (by lia), T4, hle.1 (j + 1) (by lia)]
  exact key hj
 ·refine .inr ⟨j + 1, by lia, ?_⟩
  rw [hD (j + 1), if_neg (by lia), T4, hle.2 (j + 1) (by lia)]
  exact key hj
theorem Mix.zero {m a b : Rat} {A B L' : List Rat} (h : Mix m a b A B L') (hm : m ≠ 0) {j : Nat} (hA : A.getD j 0 = 0) (hB : B.getD j 0 = 0) : L'.getD j 0 = 0 := by
 have := h j
 rw [hA, hB] at this
 rcases S6.mp (show m * L'.getD j 0 = 0 by grind) with z | z
 ·exact absurd z hm
 ·exact z
theorem CZ.mix {w v r1 r2 : Int} {m a b : Rat} {N1 D1 N2 D2 N' D' : List Rat} (h1 : CZ w v r1 N1 D1) (h2 : CZ w v r2 N2 D2) (hlt : r1 < r2) (hm : m ≠ 0) (hN : Mix m a b N1 N2 N') (hD : Mix m a b D1 D2 D') : CZ w v r2 N' D' :=
 ⟨fun j hj => hN.zero hm (h1.1 j (by lia)) (h2.1 j hj), fun j hj => hD.zero hm (h1.2 j (by lia)) (h2.2 j hj)⟩
theorem Ct.mix {w v r1 r2 : Int} {m a b : Rat} {N1 D1 N2 D2 N' D' : List Rat} (t2 : Ct w v r2 N2 D2) (h1 : CZ w v r1 N1 D1) (hlt : r1 < r2) (ha : a ≠ 0) (hN : Mix m a b N1 N2 N') (hD : Mix m a b D1 D2 D') : Ct w v r2 N' D' := by
 have key : ∀ {y z : Rat}, y ≠ 0 → m * z = a * y - b * 0 → z ≠ 0 := fun {y z} hy e hz => by
  have : a * y = 0 := by rw [hz] at e; grind
  rcases S6.mp this with q | q
  ·exact ha q
  ·exact hy q
 rcases t2 with ⟨j, e, hj⟩ | ⟨j, e, hj⟩
 ·have := hN j
  rw [h1.1 j (by lia)] at this
  exact .inl ⟨j, e, key hj this⟩
 ·have := hD j
  rw [h1.2 j (by lia)] at this
  exact .inr ⟨j, e, key hj this⟩
structure PUn (w v : Int) (n : Nat) (ps : List (Rat × Rat)) (r1 r2 : Int) (N1 D1 N2 D2 : List Rat) : Prop where
 le1 : CZ w v r1 N1 D1
 top1 : Ct w v r1 N1 D1
 le2 : CZ w v r2 N2 D2
 top2 : Ct w v r2 N2 D2
 sum : r1 + r2 = 2 * (ps.length : Int) - 2 * n + 3
 on1 : ∀ q ∈ ps, Cv.ev N1 q.1 = q.2 * Cv.ev D1 q.1
 on2 : ∀ q ∈ ps, Cv.ev N2 q.1 = q.2 * Cv.ev D2 q.1
section
variable {w v : Int} {n : Nat} {ps : List (Rat × Rat)} {r1 r2 : Int} {N1 D1 N2 D2 N1' D1' N2' D2' : List Rat} {x y : Rat}
theorem PUn.inv (h : PUn w v n ps r1 r2 N1 D1 N2 D2) (hlt : r1 < r2) : D0 w v n ps r1 r2 N1 D1 N2 D2 := ⟨h.le1, h.top1, h.le2, h.top2, hlt, h.sum, h.on1, h.on2⟩
theorem PUn.turn (h : PUn w v n ps r1 r2 N1 D1 N2 D2) (hlt : ¬ r1 < r2) : D0 w v n ps r2 r1 N2 D2 N1 D1 := ⟨h.le2, h.top2, h.le1, h.top1, by have := h.sum; lia, by have := h.sum; lia, h.on2, h.on1⟩
theorem EG {N D : List Rat} (h : ∀ q ∈ ps, Cv.ev N q.1 = q.2 * Cv.ev D q.1) (hx : Cv.ev N x = y * Cv.ev D x) : ∀ q ∈ ps ++ [(x, y)], Cv.ev N q.1 = q.2 * Cv.ev D q.1 := fun q hq => by
 rcases QV.mp hq with z | z
 ·exact h q z
 ·rw [Sh.mp z]; exact hx
theorem Fe {c d : Rat} {N D N' D' : List Rat} (h : ∀ q ∈ ps, Cv.ev N q.1 = q.2 * Cv.ev D q.1) (hN : Shf c d N N') (hD : Shf c d D D') (hx : d * x = c) : ∀ q ∈ ps ++ [(x, y)], Cv.ev N' q.1 = q.2 * Cv.ev D' q.1 := EG (fun q hq => by rw [hN.ev, hD.ev, h q hq]; grind) (by rw [hN.ev, hD.ev, hx]; grind)
theorem D0.stepA {c d : Rat} (I : D0 w v n ps r1 r2 N1 D1 N2 D2) (hd : d ≠ 0) (hx : d * x = c) (h0 : Cv.ev N1 x = y * Cv.ev D1 x) (hN : Shf c d N2 N2') (hD : Shf c d D2 D2') : PUn w v n (ps ++ [(x, y)]) r1 (r2 + 2) N1 D1 N2' D2' :=
 ⟨I.le1, I.top1, I.le2.shift hN hD, I.top2.shift I.le2 hd hN hD, by have := I.sum; rw [Ro, RD]; lia, EG I.on1 h0, Fe I.on2 hN hD hx⟩
theorem D0.stepB {c d : Rat} (I : D0 w v n ps r1 r2 N1 D1 N2 D2) (hd : d ≠ 0) (hx : d * x = c) (h0 : Cv.ev N2 x = y * Cv.ev D2 x) (hN : Shf c d N1 N1') (hD : Shf c d D1 D1') : PUn w v n (ps ++ [(x, y)]) (r1 + 2) r2 N1' D1' N2 D2 :=
 ⟨I.le1.shift hN hD, I.top1.shift I.le1 hd hN hD, I.le2, I.top2, by have := I.sum; rw [Ro, RD]; lia, Fe I.on1 hN hD hx, EG I.on2 h0⟩
theorem D0.stepC {c d m a b s : Rat} (I : D0 w v n ps r1 r2 N1 D1 N2 D2) (hd : d ≠ 0) (hx : d * x = c) (ha : a ≠ 0) (hm : m ≠ 0) (ea : a = s * (Cv.ev N1 x - y * Cv.ev D1 x)) (eb : b = s * (Cv.ev N2 x - y * Cv.ev D2 x)) (hN1 : Shf c d N1 N1') (hD1 : Shf c d D1 D1') (hN2 : Mix m a b N1 N2 N2') (hD2 : Mix m a b D1 D2 D2') : PUn w v n (ps ++ [(x, y)]) (r1 + 2) r2 N1' D1' N2' D2' := by
 refine ⟨I.le1.shift hN1 hD1, I.top1.shift I.le1 hd hN1 hD1, CZ.mix I.le1 I.le2 I.lt hm hN2 hD2, Ct.mix I.top2 I.le1 I.lt ha hN2 hD2, by have := I.sum; rw [Ro, RD]; lia, Fe I.on1 hN1 hD1 hx, ?_⟩
 have can : ∀ {p q : Rat}, m * p = m * q → p = q := fun {p q} h => by
  rcases S6.mp (show m * (p - q) = 0 by grind) with z | z
  ·exact absurd z hm
  ·grind
 refine EG (fun q hq => can ?_) (can ?_)
 ·have e1 := hN2.ev q.1
  have e2 := hD2.ev q.1
  rw [I.on1 q hq, I.on2 q hq] at e1
  rw [e1, show m * (q.2 * Cv.ev D2' q.1) = q.2 * (m * Cv.ev D2' q.1) by grind, e2]
  grind
 ·have e1 := hN2.ev x
  have e2 := hD2.ev x
  rw [e1, show m * (y * Cv.ev D2' x) = y * (m * Cv.ev D2' x) by grind, e2, ea, eb]
  grind
theorem D0.fin (I : D0 w v n ps r1 r2 N1 D1 N2 D2) (hl : ps.length = n) : r1 ≤ 1 := by
 have := I.sum
 have := I.lt
 lia
theorem D0.below (I : D0 w v n ps r1 r2 N1 D1 N2 D2) (hl : ps.length = n) (hwn : w ≤ n) (hn : (ps.map Prod.fst).Nodup) : Cv.strip D1 ≠ [] := fun z => by
 have hr := I.fin hl
 have zD : ∀ x, Cv.ev D1 x = 0 := fun x => by rw [← Cv.ev_strip, z]; rfl
 have eN := DD N1 n fun j hj => I.le1.1 j (by lia)
 have zN : ∀ x, Cv.ev N1 x = 0 := fun x => by
  rw [← eN]
  refine Ch (ps.map Prod.fst) hn (by rw [Rp, Rh]; lia) (fun q hq => ?_) x
  obtain ⟨p, hp, rfl⟩ := Sv.mp hq
  rw [eN, I.on1 p hp, zD, T0]
 exact I.ne fun x => by rw [zD x, zN x, T0, T1]
end
end L2
namespace L2
section
variable {w v : Int} {n : Nat} {ps : List (Rat × Rat)} {r1 r2 : Int} {N1 D1 N2 D2 : List Rat}
end
end L2
namespace L2
open PySem PySem.Spec PyProof.Rows
theorem Ej {α β : Type} {F : α → β → Prop} {l' m' : List β} (h : l'.Perm m') : ∀ {l : List α}, Paired F l l' → ∃ m, m.Perm l ∧ Paired F m m' := by
 induction h with
 | nil => exact fun {l} p => ⟨l, List.Perm.refl _, p⟩
 | cons x _ ih =>
   intro l p
   cases p with
   | @cons a _ as _ h t =>
     obtain ⟨m, hm, pm⟩ := ih t
     exact ⟨a :: m, hm.cons a, .cons h pm⟩
 | swap x y l =>
   intro k p
   cases p with
   | @cons a _ as _ h t =>
     cases t with
     | @cons b _ bs _ h2 t2 => exact ⟨b :: a :: bs, List.Perm.swap .., .cons h2 (.cons h t2)⟩
 | trans _ _ i1 i2 =>
   intro l p
   obtain ⟨m, hm, pm⟩ := i1 p
   obtain ⟨m2, hm2, pm2⟩ := i2 pm
   exact ⟨m2, hm2.trans hm, pm2⟩
section
variable {prog : Program} {w : World} {A : Around} {E : Value → Shared → Prop} {s : Shared} {a kS : Addr} {vs : List Value} {kz : List Int} {keys : Array Value} {e e1 : Nat} {P : PySem.Fin → Shared → Prop}
set_option maxHeartbeats 4000000 in
theorem Hv {st : SortSt} (nk : s.heap.get? kS = some (seqObj "list" keys e)) (na : s.heap.get? a = some (seqObj "list" #[] e1)) (hka : kS ≠ a)
 (hk : IntsAre keys.toList kz) (hlen : kz.length = vs.length) (h64 : vs.length < 64) (hp : (arrOf st).Perm (keys.zip vs.toArray)) (hs : SortedTo (arrOf st) (arrOf st).size) (hfl : failedOf st = none)
 (h : ∀ h' out c, (∀ b o, b ≠ kS → b ≠ a → s.heap.get? b = some o → h'.get? b = some o) → h'.get? a = some (seqObj "list" out c) → KskOut false kz vs out.toList → P (.done (.ret .none)) { s with heap := h' }) :
 wpAny (model prog w) A (ksk_tail a false e1 (.ref kS) st) P E s := by
 have hsz : keys.size = vs.length := by
  have h1 := hk.length
  rw [QZ] at h1
  lia
 have hsz2 : (arrOf st).size = vs.length := by rw [hp.size_eq, Array.size_zip, hsz, Rx, Nat.min_self]
 have hout : ((arrOf st).map (·.2)).size = vs.length := by rw [Array.size_map]; exact hsz2
 have s1 := Heap.SameBut.update s.heap kS (Obj.mapSeq fun _ => (#[] : Array Value))
 have na1 : (s.heap.update kS (Obj.mapSeq fun _ => (#[] : Array Value))).get? a = some (seqObj "list" #[] e1) := (s1.2 a hka.symm).trans na
 have s2 := Heap.SameBut.update (s.heap.update kS (Obj.mapSeq fun _ => (#[] : Array Value))) a (Obj.mapSeq fun _ => (arrOf st).map (·.2))
 obtain ⟨c2, hc2⟩ : ∃ c2, ((s.heap.update kS (Obj.mapSeq fun _ => (#[] : Array Value))).update a (Obj.mapSeq fun _ => (arrOf st).map (·.2))).get? a = some (seqObj "list" ((arrOf st).map (·.2)) c2) := ⟨_, get?_update_seq na1 fun _ => (arrOf st).map (·.2)⟩
 unfold ksk_tail
 try dsimp only
 refine wpAny_bind (listUpdate_at nk rfl ?_ (by rw [hsz, sizeLine_eq]; lia) (R5 _))
 refine wpAny_bind (wpAny_letGo ?_)
 refine wpAny_bind (seqEpoch_at na1 rfl ?_)
 refine wpAny_bind (listUpdate_at na1 rfl ?_ (R5 _) (QP (Nat.le_of_eq hout) (by rw [sizeLine_eq]; lia)))
 rw [hfl]
 simp only [bne_self_eq_false, Bool.false_eq_true, if_false]
 exact wpAny_pure (h _ _ c2 (fun b o h1 h2 q => (s2.2 b h2).trans ((s1.2 b h1).trans q)) hc2 (ksk_out (b := false) hk hp hs))
set_option maxHeartbeats 4000000 in
theorem LX (nk : s.heap.get? kS = some (seqObj "list" keys e)) (na : s.heap.get? a = some (seqObj "list" #[] e1)) (hka : kS ≠ a)
 (hk : IntsAre keys.toList kz) (hlen : kz.length = vs.length) (h64 : vs.length < 64)
 (h : ∀ h' out c, (∀ b o, b ≠ kS → b ≠ a → s.heap.get? b = some o → h'.get? b = some o) → h'.get? a = some (seqObj "list" out c) → KskOut false kz vs out.toList → P (.done (.ret .none)) { s with heap := h' }) :
 wpAny (model prog w) A (ksk_end a false vs.toArray e1 (.ref kS) keys) P E s := by
 have hsz : keys.size = vs.length := by
  have h1 := hk.length
  rw [QZ] at h1
  lia
 have hzs : (keys.zip vs.toArray).size = vs.length := by rw [Array.size_zip, hsz, Rx, Nat.min_self]
 unfold ksk_end
 try dsimp only
 simp only [Bool.false_eq_true, if_false]
 by_cases h2 : vs.toArray.size < 2
 ·rw [if_pos h2, if_pos h2]
  refine wpAny_bind (wpAny_pure ?_)
  rw [StateT.run_pure]
  refine wpAny_bind (wpAny_pure ?_)
  try dsimp only
  refine Hv (st := SortSt.mk' general' (keys.zip vs.toArray) #[] 7 none) nk na hka hk hlen h64 (Array.Perm.refl _) ?_ rfl h
  intro i j hij hj
  have hj2 : j < (keys.zip vs.toArray).size := hj
  rw [hzs] at hj2
  rw [Rx] at h2
  have : i = j := by lia
  subst this
  exact Int.le_refl _
 ·rw [if_neg h2, if_neg h2]
  rw [Rx] at h2
  rw [ksk_kind hk (by rw [hsz]; lia)]
  refine wpAny_bind (wpAny_pure ?_)
  refine wpAny_bind (wpAny_mono (wpS_sortRuns (a₀ := keys.zip vs.toArray) (st := SortSt.mk' oneType' (keys.zip vs.toArray) #[] 7 none)
   (Q := fun _ st' => (arrOf st').Perm (keys.zip vs.toArray) ∧ failedOf st' = none ∧ SortedTo (arrOf st') (keys.zip vs.toArray).size)
   (ksk_intKeys hk) ⟨Array.Perm.refl _, rfl, rfl, rfl⟩ (by rw [hzs]; lia) (by rw [hzs]; exact h64) fun st' a1 a2 a3 => ⟨a1, a2, a3⟩) ?_ fun _ _ e => e)
  rintro ⟨⟨⟩, st'⟩ s' ⟨rfl, hp, hf, hs⟩
  try dsimp only
  exact Hv nk na hka hk hlen h64 hp (by rw [hp.size_eq]; exact hs) hf h
end
section
variable {X : Cx} {pins : List (Addr × Obj)} {σ : St} {H : Hp} {A : Around} {E : Value → Shared → Prop} {a kS : Addr} {vs : List Value} {kz : List Int} {e1 : Nat} {P : PySem.Fin → Shared → Prop} {f : Value}
set_option maxHeartbeats 4000000 in
theorem Ku {s : Shared} (fa : Dl X pins H a) (fk : Dl X pins H kS) (hka : kS ≠ a) (I : Inv X (pins ++ [(a, seqObj "list" #[] e1), (kS, seqObj "list" #[] 0)]) σ H s) (hlen : kz.length = vs.length) (h64 : vs.length < 64)
 (turn : ∀ (i : Nat) (v : Value) (k : Int), vs[i]? = some v → kz[i]? = some k → ∀ (pins' : List (Addr × Obj)) (s' : Shared), Inv X pins' σ H s' → wpAny (model X.prog X.w) A (call f [v]) (fun u s'' => (∃ t, u = .int k t) ∧ Inv X pins' σ H s'') (fun _ _ => False) s')
 (h : ∀ s' out c, Inv X pins σ H s' → s'.heap.get? a = some (seqObj "list" out c) → KskOut false kz vs out.toList → P (.done (.ret .none)) s') :
 wpAny (model X.prog X.w) A (ksk_rest a f false vs.toArray e1 (.ref kS)) P E s := by
 unfold ksk_rest
 refine wpAny_bind (wpAny_rule ?_)
 first
  | rw [List.forIn_toArray]
  | (rw [← SI]; simp only [List.toList_toArray])
  | rw [← SI]
 have unp : ∀ {kA : Array Value} {e : Nat} {s' : Shared}, Inv X (pins ++ [(a, seqObj "list" #[] e1), (kS, seqObj "list" kA e)]) σ H s' → Inv X pins σ H s' ∧ s'.heap.get? a = some (seqObj "list" #[] e1) ∧ s'.heap.get? kS = some (seqObj "list" kA e) := fun {kA e s'} J =>
  ⟨J.pins_of fun p hp => J.pin p (R4 _ (QW _ hp)), (J.pin (a, seqObj "list" #[] e1) (R4 _ (R4 _ (.head _)))).1, (J.pin (kS, seqObj "list" kA e) (R4 _ (R4 _ (.tail _ (.head _))))).1⟩
 refine wpAny_bind (ksk_fold (fun i s' => ∃ kA e, Inv X (pins ++ [(a, seqObj "list" #[] e1), (kS, seqObj "list" kA e)]) σ H s' ∧ IntsAre kA.toList (kz.take i)) vs 0 s ⟨#[], 0, I, by simpa using IntsAre.nil⟩ ?step ?done)
 case step =>
  rintro j x s' hx ⟨kA, e, I', hk⟩
  simp only [SG] at hk ⊢
  have hj : j < vs.length := (QX.mp hx).1
  obtain ⟨k, hkj⟩ : ∃ k, kz[j]? = some k := ⟨_, Si (by lia)⟩
  have hz : kA.size ≤ vs.length := by
   have h1 := hk.length
   rw [QZ, Rh] at h1
   lia
  refine wpAny_bind (wpAny_attempt (wpAny_mono (turn j x k hx hkj _ s' I') (fun v s'' he => ?_) fun _ _ hF => hF.elim))
  obtain ⟨⟨t2, rfl⟩, I2⟩ := he
  obtain ⟨I3, pa, pk⟩ := unp I2
  try dsimp only
  have s1 := Heap.SameBut.update s''.heap kS (Obj.mapSeq (·.push (.int k t2)))
  obtain ⟨c2, hc2⟩ : ∃ c2, (s''.heap.update kS (Obj.mapSeq (·.push (.int k t2)))).get? kS = some (seqObj "list" (kA.push (.int k t2)) c2) := ⟨_, get?_update_seq pk (·.push (.int k t2))⟩
  have ek : kz.take (j + 1) = kz.take j ++ [k] := by rw [S3, hkj]; simp
  have ea : (kA.push (Value.int k t2)).toList = kA.toList ++ [Value.int k t2] := by simp
  refine wpAny_bind (listUpdate_at pk rfl ?_ (by rw [sizeLine_eq]; lia) (QP (Nat.le_of_eq (SO ..)) (by rw [sizeLine_eq]; lia)))
  refine wpAny_pure ⟨rfl, kA.push (.int k t2), c2, ?_, by rw [ea, ek]; exact ksk_snoc hk⟩
  have I4 : Inv X pins σ H { s'' with heap := s''.heap.update kS (Obj.mapSeq (·.push (.int k t2))), toks := s''.toks } := I3.turned (it := kS) (fun b o hb q => (s1.2 b hb).trans q) fk.1 fk.2.1 fk.2.2.2.1 fk.2.2.2.2.1 fk.2.2.2.2.2
  refine I4.pins_of fun p hp => ?_
  rcases QV.mp hp with z | z
  ·exact I4.pin p (R4 _ z)
  ·rcases QU.mp z with rfl | z
   ·exact ⟨(s1.2 a hka.symm).trans pa, fa.1, fa.2.1, fa.2.2.1, fun v z => by cases z⟩
   ·rw [Sh.mp z]
    exact ⟨hc2, fk.1, fk.2.1, fk.2.2.1, fun v z => by cases z⟩
 case done =>
  rintro s' ⟨kA, e, I', hk⟩
  have hk' : IntsAre kA.toList kz := by
   have e3 : kz.take (0 + vs.length) = kz := Sy (by lia)
   rw [e3] at hk
   exact hk
  obtain ⟨I3, pa, pk⟩ := unp I'
  try dsimp only
  refine wpAny_bind (listItems_at pk rfl ?_)
  refine LX pk pa hka hk' hlen h64 fun h' out c keep hget ko => h _ out c ?_ hget ko
  exact I3.turnedL (t' := s'.toks) (ch := [kS, a]) (fun b o hb q => keep b o (fun z => hb (by rw [z]; simp)) (fun z => hb (by rw [z]; simp)) q) fun b hb => by
   rcases QU.mp hb with rfl | hb
   ·exact fk
   ·rw [Sh.mp hb]; exact fa
end
theorem IJ {xs : List V} {us : List Value} (r : Az xs us) : ∀ kz : List Int, Paired (fun (p : Int × V) (q : Int × Value) => p.1 = q.1 ∧ AC p.2 q.2) (kz.zip xs) (kz.zip us) := by
 induction r with
 | nil => intro kz; rw [List.zip_nil_right, List.zip_nil_right]; exact .nil
 | cons h _ ih =>
   intro kz
   cases kz with
   | nil => exact .nil
   | cons k kz => exact .cons ⟨rfl, h⟩ (ih kz)
theorem IL {zs : List (Int × V)} {ps : List (Int × Value)} (h : Paired (fun (p : Int × V) (q : Int × Value) => p.1 = q.1 ∧ AC p.2 q.2) zs ps) : zs.map Prod.fst = ps.map Prod.fst := by
 induction h with
 | nil => rfl
 | cons h _ ih => rw [RG, RG, ih, h.1]
theorem IK {zs : List (Int × V)} {ps : List (Int × Value)} (h : Paired (fun (p : Int × V) (q : Int × Value) => p.1 = q.1 ∧ AC p.2 q.2) zs ps) : Az (zs.map Prod.snd) (ps.map Prod.snd) := by
 induction h with
 | nil => exact .nil
 | cons h _ ih => exact .cons h.2 ih
theorem Inv.own {X : Cx} {pins : List (Addr × Obj)} {σ : St} {H : Hp} {s : Shared} {D : Addr} {o : HO} (J : Inv X pins σ H s) (fp : Dl X pins H D) (new : Bj X.prog X.w (upd H D o) s.heap D o) : Inv X pins σ (upd H D o) s := by
 have nD : ∀ {b : Addr} {u : HO}, H b = some u → b ≠ D := fun {b u} e z => by rw [z, fp.1] at e; cases e
 refine J.step (g' := s.gens) (d' := s.drawn) (t' := s.toks) (h' := s.heap) (ch := [D]) (fun b hb => ?_) (fun b o _ _ _ e _ => e) (fun b o _ _ _ e _ => ⟨o.slots, e⟩) (fun b o hc e n => by rw [Ak (fun z => hc (by simp [z]))]; exact n)
  (fun b o _ e => ⟨o, e⟩) (fun b xs e => by rw [Ak (nD e)]; exact e) (fun b o u e => by rw [Ak (nD e)]; exact e) (fun b ps e => ⟨#[], by rw [Ak (nD e), e]; simp⟩) (fun m hm => hm) (fun b u e => ?_) J.bare
 ·rw [Sh.mp hb]
  exact ⟨fp.2.2.2.1, fp.2.1, fp.2.2.2.2.1, fp.2.2.2.2.2⟩
 ·by_cases z : b = D
  ·subst z
   rw [Aa] at e
   cases e
   exact new
  ·rw [Ak z] at e
   exact (J.hok b u e).stay (fun _ _ _ q => q) (fun c q => by rw [Ak (nD q)]; exact q) fun c xs q => by rw [Ak (nD q)]; exact q
section
variable {X : Cx} {pins : List (Addr × Obj)} {σ : St} {H : Hp} {E : Value → Shared → Prop} {kz : List Int} {f : Addr} {s : Shared} {l : Addr} {xs : List V} {Q : VK}
set_option maxHeartbeats 4000000 in
theorem ID (I : Inv X pins σ H s) (hl : SqL X.K H l xs) (hlen : kz.length = xs.length) (h64 : xs.length < 64)
 (turn : ∀ (i : Nat) (x : V) (k : Int) (v : Value), xs[i]? = some x → kz[i]? = some k → AC x v → ∀ (pins' : List (Addr × Obj)) (s' : Shared), Inv X pins' σ H s' → wpAny (model X.prog X.w) X.A.in1.in1 (call (.ref f) [v]) (fun u s'' => (∃ t, u = .int k t) ∧ Inv X pins' σ H s'') (fun _ _ => False) s')
 (q : ∀ p ys, H p = none → (∃ zs : List (Int × V), zs.Perm (kz.zip xs) ∧ ys = zs.map Prod.snd ∧ zs.Pairwise fun p q => p.1 ≤ q.1) → Q (.ref p) (upd H p (.lst ys))) :
 wpAny (model X.prog X.w) X.A (call (.builtin "sorted") [.ref l] [(Str.ofString "key", .ref f)]) (EP X pins σ Q) E s := by
 obtain ⟨vs, r, ht, hz⟩ := I.list hl
 have hil : vs.length = xs.length := r.length.symm
 refine call_function_entry_kw kind_sorted plain_sorted entry_sorted (ksk_s1 _ _) ?_
 unfold Builtin.«sorted»
 refine wpAny_bind (m := checkCount "sorted" 1 1 _) (wpAny_pure ?_)
 refine wpAny_bind (collect_list ht.isList ?_ (by rw [sizeLine_eq]; lia))
 refine wpAny_bind (wpAny_newList ?_ (by rw [sizeLine_eq]; lia))
 have hsz : ((s.heap.push (seqObj "list" #[] 0)).update s.heap.objs.size (Obj.mapSeq (· ++ vs.toArray))).objs.size = s.heap.objs.size + 1 := by
  rw [Heap.size_update, size_push']
 have hoL : (((s.heap.push (seqObj "list" #[] 0)).update s.heap.objs.size (Obj.mapSeq (· ++ vs.toArray))).push (seqObj "list" vs.toArray 0)).get? (s.heap.objs.size + 1) = some (seqObj "list" vs.toArray 0) := by
  rw [← hsz]; exact Heap.get?_push_size _ rfl
 have keep : ∀ b o, s.heap.get? b = some o → (((s.heap.push (seqObj "list" #[] 0)).update s.heap.objs.size (Obj.mapSeq (· ++ vs.toArray))).push (seqObj "list" vs.toArray 0)).get? b = some o := fun b o q => by
  have hlt : b < s.heap.objs.size := Heap.lt_size q
  rw [Heap.get?_push_ne _ _ _ (by rw [hsz]; exact QK (Sg hlt)), Heap.get?_update_ne _ _ _ _ (QK hlt), Heap.get?_push_ne _ _ _ (QK hlt)]
  exact q
 show wpAny _ _ _ _ _ { s with heap := ((s.heap.push (seqObj "list" #[] 0)).update s.heap.objs.size (Obj.mapSeq (· ++ vs.toArray))).push (seqObj "list" vs.toArray 0) }
 rw [hsz]
 have I1 : Inv X pins σ H { s with heap := ((s.heap.push (seqObj "list" #[] 0)).update s.heap.objs.size (Obj.mapSeq (· ++ vs.toArray))).push (seqObj "list" vs.toArray 0), toks := s.toks } := I.kept keep
 have hDn : H (s.heap.objs.size + 1) = none := I.hok.fresh (Sf _)
 have fa : Dl X pins H (s.heap.objs.size + 1) := I.fpOk (Sf _) hDn
 refine wpAny_bind (wpAny_holding (wpAny_call_entry_kw slot_list_sort ⟨_, hoL, rfl⟩ entry_list_sort ?body (ksk_l1 _ _)))
 case body =>
  show wpAny (model X.prog X.w) X.A.in1.in1 (Builtin.«list.sort» ⟨[.ref (s.heap.objs.size + 1)], [(Str.ofString "key", .ref f)]⟩) _ _ _
  rw [ksk_t1]
  generalize ((s.heap.push (seqObj "list" #[] 0)).update s.heap.objs.size (Obj.mapSeq (· ++ vs.toArray))).push (seqObj "list" vs.toArray 0) = h2 at hoL I1 ⊢
  have s1 := Heap.SameBut.update h2 (s.heap.objs.size + 1) (Obj.mapSeq fun _ => (#[] : Array Value))
  obtain ⟨e1, ho1⟩ : ∃ e1, (h2.update (s.heap.objs.size + 1) (Obj.mapSeq fun _ => (#[] : Array Value))).get? (s.heap.objs.size + 1) = some (seqObj "list" #[] e1) := ⟨_, get?_update_seq hoL fun _ => #[]⟩
  unfold ksk_tree
  refine wpAny_bind (listItems_at hoL rfl ?_)
  refine wpAny_bind (listUpdate_at hoL rfl ?_ (by rw [Rx, sizeLine_eq]; lia) (R5 _))
  refine wpAny_bind (seqEpoch_at ho1 rfl ?_)
  refine wpAny_bind (wpAny_newTuple ?_ (by show vs.length ≤ _; rw [sizeLine_eq]; lia))
  refine wpAny_bind (wpAny_newList ?_ (R5 _))
  refine wpAny_holding ?_
  have I2 := I1.turned (it := s.heap.objs.size + 1) (t' := s.toks) (h' := h2.update (s.heap.objs.size + 1) (Obj.mapSeq fun _ => (#[] : Array Value))) (fun b o hb q => (s1.2 b hb).trans q) fa.1 fa.2.1 fa.2.2.2.1 fa.2.2.2.2.1 fa.2.2.2.2.2
  have I2 : Inv X pins σ H { s with heap := h2.update (s.heap.objs.size + 1) (Obj.mapSeq fun _ => (#[] : Array Value)), toks := s.toks } := I2
  generalize h2.update (s.heap.objs.size + 1) (Obj.mapSeq fun _ => (#[] : Array Value)) = h3 at ho1 I2 ⊢
  have I3 : Inv X pins σ H { s with heap := h3.push (seqObj "tuple" vs.toArray 0), toks := s.toks } := I2.kept fun b o q => Heap.get?_push_of_some _ q
  have ho3 : (h3.push (seqObj "tuple" vs.toArray 0)).get? (s.heap.objs.size + 1) = some (seqObj "list" #[] e1) := Heap.get?_push_of_some _ ho1
  show wpAny _ _ _ _ _ { s with heap := (h3.push (seqObj "tuple" vs.toArray 0)).push (seqObj "list" #[] 0) }
  generalize h3.push (seqObj "tuple" vs.toArray 0) = h4 at I3 ho3 ⊢
  have hkn : H h4.objs.size = none := I3.hok.fresh (R3 _)
  have fk : Dl X pins H h4.objs.size := I3.fpOk (R3 _) hkn
  have hka : h4.objs.size ≠ s.heap.objs.size + 1 := R0 (Heap.lt_size ho3)
  have I4 : Inv X pins σ H { s with heap := h4.push (seqObj "list" #[] 0), toks := s.toks } := I3.kept fun b o q => Heap.get?_push_of_some _ q
  refine Ku (a := s.heap.objs.size + 1) (kS := h4.objs.size) (e1 := e1) (kz := kz) (vs := vs) fa fk hka (I4.pins_of fun p hp => ?_) (by lia) (by lia) (fun i v k hv hk pins' s' I' => ?_) fun s' out c J hget ko => ⟨_, rfl, ?_⟩
  ·rcases QV.mp hp with z | z
   ·exact I4.pin p (R4 _ z)
   ·rcases QU.mp z with rfl | z
    ·exact ⟨Heap.get?_push_of_some _ ho3, fa.1, fa.2.1, fa.2.2.1, fun v z => by cases z⟩
    ·rw [Sh.mp z]
     exact ⟨Heap.get?_push_size _ rfl, fk.1, fk.2.1, fk.2.2.1, fun v z => by cases z⟩
  ·have hi : i < xs.length := by have := (QX.mp hv).1; lia
   have hx : xs[i]? = some xs[i] := Si hi
   obtain ⟨u, hu, ru⟩ := r.get hx
   rw [hv] at hu
   cases hu
   exact turn i _ k v hx hk ru pins' s' I'
  ·refine wpAny_pure ⟨_, rfl, ?_⟩
   obtain ⟨ps, hperm, hout, hsorted⟩ := ko
   obtain ⟨zs, hz1, hz2⟩ := Ej hperm.symm (IJ r kz)
   have hvy := IK hz2
   rw [← hout] at hvy
   have hyl : (zs.map Prod.snd).length ≤ sizeLine := by
    rw [Rp, hz1.length_eq, T6, sizeLine_eq]; lia
   have hpw : zs.Pairwise fun p q => p.1 ≤ q.1 := by
    have h1 : (zs.map Prod.fst).Pairwise (· ≤ ·) := by
     rw [IL hz2]
     exact T7.mpr (hsorted.imp fun h => by simpa using h)
    exact T7.mp h1
   refine ⟨.ref (s.heap.objs.size + 1), upd H (s.heap.objs.size + 1) (.lst (zs.map Prod.snd)), J.own fa ⟨hyl, out.toList, c, hvy, ?_⟩, rfl, q _ _ hDn ⟨zs, hz1, rfl, hpw⟩⟩
   rw [hget]
end
end L2
namespace L2
open PySem PySem.Spec PyProof.Rows
theorem Nq {cs : List Addr} {H : Hp} : onC cs H (offC cs H) = H := by
 funext b
 by_cases h : b ∈ cs
 ·rw [MM h]
 ·rw [Dh h, BF h]
theorem Mh {cs : List Addr} {os : Addr → Obj} {H : Hp} (hn : ∀ c ∈ cs, H c = none) : offC cs (DB cs os H) = H := by
 funext b
 by_cases h : b ∈ cs
 ·rw [Ea h, hn b h]
 ·rw [BF h, Bt h]
theorem NC {P : Program} {w : World} {K : QO} {mg : Str → Option Value} {base : Heap} {k : Nat} {f c' Pt : Addr} {q : Str} {params : Arguments} {body : Expr} {scope : Scope} {cl : List (Str × Addr)} {pm ctv : Value} {env : Env} {N ps fr : List Str} {σ : St} {os : Addr → Obj} {H1 H2 : Hp} {ws : List V} {Ok : List V → V → Prop}
 (LN : LK H1 H2 Pt q f c' (SU "<lambda>" q params body scope cl pm (.ref c') ctv)) (C : Ho env cl) (hfree : ∀ x ∈ scope.names, x.2 = .free → ∃ c, (x.1, c) ∈ cl) (hcn : ∀ c ∈ cl.map (·.2), H2 c = none) (hci : Kg N σ env.scope cl os)
 (S : MS scope ps) (hlk : ∀ us : List Value, us.length = ps.length → ∀ (j : Nat) (x : Str) (u : Value), ps[j]? = some x → us[j]? = some u → (ps.zip us).reverse.lookup x = some u)
 (cap : Cap env.scope scope N σ fr ws)
 (hbody : ∀ (A : Around) (outer : List Env) (s : Shared) (E : XK) (vs : List V) (r : V) (H' : Hp) (Q : VK), BT k (A.deeper (SS q scope s.heap.objs.size f (.ref c') cl)) → vs.length = ps.length → Ok vs r → Af H2 H' → Q r H' →
  ∃ t, PE (JC CX0 P w K mg base (ps ++ fr) q scope f (.ref c') cl A outer s H' E) body t ∧ t (vs.map some ++ ws.map some) H' Q) :
 AE P w K mg base CX0 (k + 1) f (SU "<lambda>" q params body scope cl pm (.ref c') ctv) ps (fun vs H Q _ => vs.length = ps.length ∧ Af (DB (cl.map (·.2)) os H2) H ∧ ∃ r, Ok vs r ∧ Q r H) := by
 have old : Af H2 (DB (cl.map (·.2)) os H2) := Af.trk hcn
 refine NB (N := ps ++ fr) (fun vs H Q E h => h.1) hlk fun A outer s H vs Q E hr h => ?_
 obtain ⟨hl, hm, r, ho, hq⟩ := h
 have hmo := old.trans hm
 have L := KZ S C hfree hci cap hl hm
 have sOff : Af H2 (offC (cl.map (·.2)) H) := Af.untrk hm hcn
 obtain ⟨t, h1, h2⟩ := hbody A outer s E vs r (offC (cl.map (·.2)) H) (fun v H' => (∀ c ∈ cl.map (·.2), H' c = none) → Q v (onC (cl.map (·.2)) H H')) hr hl ho sOff fun _ => by rw [Nq]; exact hq
 exact ⟨hmo _ _ LN.lam, hmo _ _ LN.cod, _, L, t, h1, h2, fun e s' z => z.elim⟩
abbrev Cx.deep (X : Cx) (A : Around) : Cx := { X with A := A }
theorem Inv.deep {X : Cx} {pins : List (Addr × Obj)} {σ : St} {H : Hp} {s : Shared} {A : Around} (I : Inv X pins σ H s) (h1 : A.handled = X.A.handled) (h2 : A.frames = X.A.frames) : Inv (X.deep A) pins σ H s :=
 ⟨⟨I.ok.mod, I.ok.kind, I.ok.glob, I.ok.blt, I.ok.above, I.ok.inj, I.ok.has, I.ok.cab, fun z => by rw [show (X.deep A).A.handled = A.handled from rfl, h1]; exact I.ok.hd z, by rw [show (X.deep A).A.frames = A.frames from rfl, h2]; exact I.ok.frames, I.ok.stk, I.ok.exf, I.ok.bs, I.ok.bsz, I.ok.noex, I.ok.exfs, I.ok.funs, I.ok.frf⟩, I.os, I.bare, I.base, I.loc, I.cell, I.free, I.freeC, I.pin, I.hok, I.len⟩
theorem Inv.undeep {X : Cx} {pins : List (Addr × Obj)} {σ : St} {H : Hp} {s : Shared} {A : Around} (I : Inv (X.deep A) pins σ H s) (h1 : A.handled = X.A.handled) (h2 : A.frames = X.A.frames) : Inv X pins σ H s :=
 ⟨⟨I.ok.mod, I.ok.kind, I.ok.glob, I.ok.blt, I.ok.above, I.ok.inj, I.ok.has, I.ok.cab, fun z => by rw [← h1]; exact I.ok.hd z, by rw [← h2]; exact I.ok.frames, I.ok.stk, I.ok.exf, I.ok.bs, I.ok.bsz, I.ok.noex, I.ok.exfs, I.ok.funs, I.ok.frf⟩, I.os, I.bare, I.base, I.loc, I.cell, I.free, I.freeC, I.pin, I.hok, I.len⟩
theorem M4 {X : Cx} {pins : List (Addr × Obj)} {σ : St} {H : Hp} {s : Shared} {A : Around} {k : Nat} {f : Addr} {fd : FuncData} {ps : List Str} {us : List Value} {vs : List V} {cl : List (Str × Addr)} {kk : Int} (hA1 : A.handled = X.A.handled) (hA2 : A.frames = X.A.frames) (hr : BT k A) (hb : C2 X.K fd ps []) (hfn : ∀ y, X.fn y = true) (I : Inv X pins σ H s) (r : Az vs us) (C : Ho X.env cl)
 (h : ∀ os, (∀ c ∈ cl.map (·.2), H c = none) → Kg X.N σ X.env.scope cl os → ∃ sp, AE X.prog X.w X.K X.mg X.base CX0 k f fd ps sp ∧ ∀ Q : VK, Q (.int kk) (DB (cl.map (·.2)) os H) → sp vs (DB (cl.map (·.2)) os H) Q (fun _ _ _ => False)) :
 wpAny (model X.prog X.w) A (call (.ref f) us) (fun u s' => (∃ t, u = .int kk t) ∧ Inv X pins σ H s') (fun _ _ => False) s := by
 have F : AE X.prog X.w X.K X.mg X.base CX0 k f fd ps (fun vs H Q E => ∃ sp, AE X.prog X.w X.K X.mg X.base CX0 k f fd ps sp ∧ sp vs H Q E) :=
  ⟨fun vs H Q E ⟨sp, F, h⟩ => F.len vs H Q E h, fun A outer s H args us vs Q E hr he hb hv ⟨sp, F, h⟩ => F.run A outer s H args us vs Q E hr he hb hv h⟩
 have J : Inv ((X.nox).deep A) pins σ H s := (I.wish _).deep hA1 hA2
 refine wpAny_mono (M5 (X := (X.nox).deep A) (CX := CX0) (E := fun _ _ _ => False) (Q := fun v H' => v = .int kk ∧ H' = H) F hr hb hfn (fun e H' s' _ z => z.elim) J r C fun os hn hi => ?_) (fun u s' ⟨v, H', I', rv, ev, eH⟩ => ?_) fun _ _ z => z
 ·obtain ⟨sp, F1, q⟩ := h os hn hi
  exact ⟨sp, F1, q _ ⟨fun c hc => Iz hc, rfl, Mh hn⟩⟩
 ·subst ev
  subst eH
  obtain ⟨t, rfl⟩ := rv
  exact ⟨⟨t, rfl⟩, (I'.undeep hA1 hA2).unwish⟩
theorem Dv {M : Model} {A : Around} {E : Value → Shared → Prop} {s : Shared} {pos : Pos} {id : String} {first : List Value} {args : List (Bool × Sem Value)} {keywords : List (Option Str × Sem Value)} {Q : Value → Shared → Prop} (hplain : (args.any (·.1) || keywords.any (·.1.isNone)) = false)
 (h : wpAny M A (evalArgs (.builtin id) true args keywords) (fun a s₁ => wpAny M A (call (.builtin id) (first ++ a.pos) a.kw) Q E s₁) E s) :
 wpAny M A (callWith pos (.builtin id) first args keywords) Q E s := by
 unfold callWith
 refine wpAny_bind (wpAny_holding (wpAny_mono h (fun a s₁ h₁ => wpAny_bind (wpAny_standAt ?_)) fun _ _ x => x))
 simp only [hplain]
 refine wpAny_bind (wpAny_pure ?_)
 exact wpAny_bind (wpAny_mono h₁ (fun r s₂ hr => wpAny_bind (wpAny_holding (wpAny_point (wpAny_pure hr)))) fun _ _ x => x)
def O4 (env : Env) (N : List Str) (P : Program) (w : World) (K : QO) (mg : Str → Option Value) (base : Heap) (k : Nat) (te tk : TE) : TE := fun σ H Q => te σ H fun x H1 => ∃ l, x = .ref l ∧ tk σ H1 fun y H2 => ∃ (f : Addr) (fd : FuncData) (ps : List Str) (cl : List (Str × Addr)) (xs : List V) (kz : List Int), y = .ref f ∧ SqL K H2 l xs ∧ kz.length = xs.length ∧ xs.length < 64 ∧ C2 K fd ps [] ∧ Ho env cl ∧
 (∀ os, (∀ c ∈ cl.map (·.2), H2 c = none) → Kg N σ env.scope cl os → ∃ sp, AE P w K mg base CX0 k f fd ps sp ∧ ∀ (i : Nat) (x : V) (kk : Int), xs[i]? = some x → kz[i]? = some kk → ∀ Q' : VK, Q' (.int kk) (DB (cl.map (·.2)) os H2) → sp [x] (DB (cl.map (·.2)) os H2) Q' (fun _ _ _ => False)) ∧
 ∀ (p : Addr) (ys : List V), H2 p = none → (∃ zs : List (Int × V), zs.Perm (kz.zip xs) ∧ ys = zs.map Prod.snd ∧ zs.Pairwise fun p q => p.1 ≤ q.1) → Q (.ref p) (upd H2 p (.lst ys))
theorem KM (K : QO) {X : Cx} {e kx : Expr} {te tk : TE} {k m : Nat} {p pos kp : Pos} (hr : BT m X.A) (hfn : ∀ y, X.fn y = true) (hg : Gl X "sorted") (hm : X.mg "sorted" = none) (he : PE X e te) (hk : PE X kx tk) (hkm : k + 2 ≤ m := by decide) (hs : starEach [e] X.env = [(false, eval e X.env)] := by rfl) (e0 : X.K = K := by rfl) :
 PE X (.Call (.Name "sorted" p) [e] [⟨some "key", kx, kp⟩] pos) (O4 X.env X.N X.prog X.w K X.mg X.base k te tk) := by
 subst e0
 intro pins s σ H Q I h
 refine wpAny_Call_Name_kw (Cu I hg hm (show bootBuiltins "sorted" = some (.builtin "sorted") by with_unfolding_all rfl) ?_ (by decide) (by decide))
 rw [hs]
 show wpAny _ _ (callWith pos (.builtin "sorted") [] [(false, eval e X.env)] [(some "key", do let v ← eval kx X.env; standAt pos; pure v)]) _ _ s
 refine Dv rfl (evalArgs_kw rfl ?_)
 refine Calls.spliced_cons (thn (he pins s σ H _ I h) fun u s1 ⟨x, H1, I1, r1, q1⟩ => Calls.spliced_nil ?_)
 obtain ⟨l, rfl, q1⟩ := q1
 cases r1
 show wpAny _ _ (evalAll [do let v ← eval kx X.env; standAt pos; pure v]) _ _ s1
 refine wpAny_evalAll_cons (wpAny_bind (thn (hk pins s1 σ H1 _ I1 q1) fun u s2 ⟨y, H2, I2, r2, q2⟩ => wpAny_bind (wpAny_standAt (wpAny_pure (wpAny_evalAll_nil ?_)))))
 obtain ⟨f, fd, ps, cl, xs, kz, rfl, hl, hlen, h64, hb, C, hF, q⟩ := q2
 cases r2
 show wpAny _ _ (call (.builtin "sorted") [.ref l] [(Str.ofString "key", .ref f)]) _ _ s2
 exact ID I2 hl hlen h64 (fun i x kk v hx hkk rv pins' s' I' => M4 rfl rfl (hr.mono hkm).in1.in1 hb hfn I' (.cons rv .nil) C fun os hn hi => let ⟨sp, F, qq⟩ := hF os hn hi; ⟨sp, F, fun Q' hq => qq i x kk hx hkk Q' hq⟩) q
end L2
namespace L2
open PySem PySem.Spec PyProof.Rows
abbrev DG (h : Heap) (z TI TO a : Addr) (f : Bool) : Prop :=
 h.get? z = some { cls := .type "zip", dict := none, data := .fields #[rawInt a, .bool f, .bool false, .ref TI, .ref TO], slots := #[] }
section
variable {prog : Program} {w : World} {A : Around} {E : Value → Shared → Prop} {s : Shared}
theorem LO {a : Addr} {o : Obj} {Q : Option Obj → Shared → Prop} (ho : s.heap.get? a = some o) (h : Q (some o) s) : wpAny (model prog w) A (loadIfAlive a) Q E s := by
 have h' : Q (s.heap.get? a) s := by rw [ho]; exact h
 exact fun _ _ _ => h'
theorem Kh {z TI TO a : Addr} {f : Bool} {oa : Obj} {Q : Bool → Shared → Prop} (hz : DG s.heap z TI TO a f) (ha : s.heap.get? a = some oa)
 (hQ : ∀ h', DG h' z TI TO a true → Heap.SameBut z s.heap h' → Q false { s with heap := h' }) : wpAny (model prog w) A (Builtin.SmallTypes.ownedTupleIsFree (.ref z)) Q E s := by
 unfold Builtin.SmallTypes.ownedTupleIsFree
 refine wpAny_bind (wpAny_field hz rfl (x := rawInt a) rfl ?_)
 show wpAny _ _ (loadIfAlive ((a : Int).toNat) >>= _) _ _ _
 rw [Rt]
 refine wpAny_bind (LO ha ?_)
 simp only [Option.isNone_some, Bool.false_eq_true, if_false]
 refine wpAny_bind (wpAny_field hz rfl (x := .bool f) rfl ?_)
 cases f with
 | true =>
   rw [if_neg (show ¬ ((Value.bool true != Value.bool true) = true) from Bool.false_ne_true)]
   exact wpAny_pure (hQ _ hz (Heap.SameBut.refl _ _))
 | false =>
   rw [if_pos (show (Value.bool false != Value.bool true) = true from rfl)]
   refine wpAny_bind (wpAny_setField_rec hz (by simp) fun h₃ he₃ hs₃ => ?_)
   exact wpAny_pure (hQ h₃ he₃ hs₃)
theorem Go {z TI TO a i1 i2 l1 l2 : Addr} {f : Bool} {oa : Obj} {k1 k2 : Nat} {xs ys : Array Value} {x y : Value} {Q : Value → Shared → Prop} (D : ZipApart z TI TO i1 i2 l1 l2)
 (hz : DG s.heap z TI TO a f) (ha : s.heap.get? a = some oa) (hTI : IsPair s.heap TI (.ref i1) (.ref i2))
 (h1 : s.heap.IsListIter i1 l1 k1) (h2 : s.heap.IsListIter i2 l2 k2) (hl1 : s.heap.IsList l1 xs) (hl2 : s.heap.IsList l2 ys) (hx : xs[k1]? = some x) (hy : ys[k2]? = some y)
 (hQ : ∀ h', DG h' z TI TO a true → h'.IsListIter i1 l1 (k1 + 1) → h'.IsListIter i2 l2 (k2 + 1) → IsPair h' s.heap.objs.size x y → h'.objs.size = s.heap.objs.size + 1 →
  (∀ c o, c ≠ z → c ≠ i1 → c ≠ i2 → s.heap.get? c = some o → h'.get? c = some o) → Q (.ref s.heap.objs.size) { s with heap := h' }) :
 wpAny (model prog w) A (Builtin.«zip.__next__» ⟨[.ref z], []⟩) (fun fin s' => ∃ v, fin = .done (.ret v) ∧ Q v s') E s := by
 show wpAny _ _ (field (.ref z) 2 >>= _) _ _ _
 refine wpAny_bind (wpAny_field hz rfl (x := .bool false) rfl ?_)
 show wpAny _ _ (field (.ref z) 3 >>= _) _ _ _
 refine wpAny_bind (wpAny_field hz rfl (x := .ref TI) rfl ?_)
 refine wpAny_bind (wpAny_seqItems hTI rfl ?_)
 show wpAny _ _ (Builtin.SmallTypes.ownedTupleIsFree (.ref z) >>= _) _ _ _
 refine wpAny_bind (Kh hz ha fun h₁ hz₁ hs₁ => ?_)
 simp only [Bool.false_eq_true, if_false]
 refine wpAny_bind ?_
 simp only [← SI, S7, List.forIn_nil]
 refine wpAny_bind (wpAny_bind (wpAny_holding ?_))
 show wpAny _ _ (Builtin.SmallTypes.nextOf (.ref i1) >>= _) _ _ _
 refine wpAny_bind (wpAny_nextOf_list_item (h1.extBut hs₁.extBut D.i1z) (hl1.extBut hs₁.extBut D.l1z) hx fun h₂ h1₂ hs₂ => wpAny_pure ?_)
 refine wpAny_pure ?_
 refine wpAny_bind (wpAny_bind (wpAny_holding ?_))
 show wpAny _ _ (Builtin.SmallTypes.nextOf (.ref i2) >>= _) _ _ _
 refine wpAny_bind (wpAny_nextOf_list_item ((h2.extBut hs₁.extBut D.i2z).extBut hs₂.extBut D.i12.symm)
  ((hl2.extBut hs₁.extBut D.l2z).extBut hs₂.extBut D.l2i1) hy fun h₃ h2₃ hs₃ => wpAny_pure ?_)
 refine wpAny_pure (wpAny_pure ?_)
 show wpAny _ _ (newTuple [x, y] >>= _) _ _ _
 refine wpAny_bind (wpAny_newTuple ?_)
 have hsz : h₃.objs.size = s.heap.objs.size := by rw [hs₃.1, hs₂.1, hs₁.1]
 have hz₃ : DG h₃ z TI TO a true := hs₃.extBut _ _ D.i2z.symm (hs₂.extBut _ _ D.i1z.symm hz₁)
 have hk₃ : ∀ c o, c ≠ z → c ≠ i1 → c ≠ i2 → s.heap.get? c = some o → h₃.get? c = some o := fun c o c1 c3 c4 e => hs₃.extBut _ _ c4 (hs₂.extBut _ _ c3 (hs₁.extBut _ _ c1 e))
 have h1₃ : h₃.IsListIter i1 l1 (k1 + 1) := h1₂.extBut hs₃.extBut D.i12
 refine wpAny_pure ⟨_, rfl, ?_⟩
 show Q (.ref h₃.objs.size) _
 have hT : IsPair (h₃.push { cls := .type "tuple", data := .seq #[x, y] }) h₃.objs.size x y := Heap.get?_push_size _ rfl
 rw [hsz] at hT ⊢
 exact hQ _ (Heap.get?_push_of_some _ hz₃) (h1₃.at fun o e => Heap.get?_push_of_some _ e) (h2₃.at fun o e => Heap.get?_push_of_some _ e) hT (by rw [Heap.size_push, hsz]) fun c o c1 c2 c3 e => Heap.get?_push_of_some _ (hk₃ c o c1 c2 c3 e)
theorem Hr {z TI TO a i1 i2 l1 l2 : Addr} {f : Bool} {oa : Obj} {k1 : Nat} {xs : Array Value} {Q : Fin → Shared → Prop} (hh : A.handled = none) (D : ZipApart z TI TO i1 i2 l1 l2)
 (hz : DG s.heap z TI TO a f) (ha : s.heap.get? a = some oa) (hTI : IsPair s.heap TI (.ref i1) (.ref i2))
 (h1 : s.heap.IsListIter i1 l1 k1) (hl1 : s.heap.IsList l1 xs) (hx : xs[k1]? = none)
 (hE : ∀ h' e, (∀ c o, c ≠ z → c ≠ i1 → s.heap.get? c = some o → h'.get? c = some o) → (∃ o, h'.get? e = some o ∧ o.cls = .type "StopIteration") → E (.ref e) { s with heap := h' }) :
 wpAny (model prog w) A (Builtin.«zip.__next__» ⟨[.ref z], []⟩) Q E s := by
 show wpAny _ _ (field (.ref z) 2 >>= _) _ _ _
 refine wpAny_bind (wpAny_field hz rfl (x := .bool false) rfl ?_)
 show wpAny _ _ (field (.ref z) 3 >>= _) _ _ _
 refine wpAny_bind (wpAny_field hz rfl (x := .ref TI) rfl ?_)
 refine wpAny_bind (wpAny_seqItems hTI rfl ?_)
 show wpAny _ _ (Builtin.SmallTypes.ownedTupleIsFree (.ref z) >>= _) _ _ _
 refine wpAny_bind (Kh hz ha fun h₁ hz₁ hs₁ => ?_)
 simp only [Bool.false_eq_true, if_false]
 refine wpAny_bind ?_
 simp only [← SI, S7, List.forIn_nil]
 refine wpAny_bind (wpAny_bind (wpAny_holding ?_))
 show wpAny _ _ (Builtin.SmallTypes.nextOf (.ref i1) >>= _) _ _ _
 refine wpAny_bind (wpAny_nextOf_list_end hh (h1.extBut hs₁.extBut D.i1z) (hl1.extBut hs₁.extBut D.l1z) hx fun h₂ e hs₂ he => ?_)
 exact hE h₂ e (fun c o c1 c3 x => hs₂ _ _ c3 (hs₁.extBut _ _ c1 x)) he
def ZSt (h : Heap) (z TI TO S : Addr) : Prop := (IsZip h z TI TO .none ∧ ∃ a b, IsPair h TO a b) ∨ ∃ a f oa, DG h z TI TO a f ∧ h.get? a = some oa ∧ S < a
theorem MV {z TI TO S i1 i2 l1 l2 : Addr} {k1 k2 : Nat} {xs ys : Array Value} {x y : Value} {Q : Option Value → Shared → Prop} (D : ZipApart z TI TO i1 i2 l1 l2)
 (hz : ZSt s.heap z TI TO S) (hS : S < s.heap.objs.size) (hlt : z < S ∧ TO < S ∧ i1 < S ∧ i2 < S) (hTI : IsPair s.heap TI (.ref i1) (.ref i2))
 (h1 : s.heap.IsListIter i1 l1 k1) (h2 : s.heap.IsListIter i2 l2 k2) (hl1 : s.heap.IsList l1 xs) (hl2 : s.heap.IsList l2 ys) (hx : xs[k1]? = some x) (hy : ys[k2]? = some y)
 (hQ : ∀ h', ZSt h' z TI TO S → h'.IsListIter i1 l1 (k1 + 1) → h'.IsListIter i2 l2 (k2 + 1) → IsPair h' s.heap.objs.size x y → h'.objs.size = s.heap.objs.size + 1 →
  (∀ c o, c ≠ z → c ≠ TO → c ≠ i1 → c ≠ i2 → s.heap.get? c = some o → h'.get? c = some o) → Q (some (.ref s.heap.objs.size)) { s with heap := h' }) :
 wpAny (model prog w) A (pyNext (.ref z)) Q E s := by
 rcases hz with ⟨hz, a, b, hTO⟩ | ⟨a, f, oa, hz, ha, hSa⟩
 ·refine wpAny_pyNext_zip_item D hz hTI hTO h1 h2 hl1 hl2 hx hy fun h' a1 a2 a3 a4 a5 a6 a7 => ?_
  exact hQ h' (.inr ⟨_, false, _, a1, a5, hS⟩) a3 a4 a5 a6 a7
 ·have hT : s.TypeIs (.ref z) "zip" := ⟨_, hz, rfl⟩
  unfold pyNext
  exact wpAny_bind (wpAny_attempt (wpAny_callSpecial?_slot (name := Str.ofString "__next__") hT F.slot_zip_next
   (wpAny_call_entry F.slot_zip_next hT F.entry_zip_next
    (Go D hz ha hTI h1 h2 hl1 hl2 hx hy fun h' a1 a3 a4 a5 a6 a7 => wpAny_pure (hQ h' (.inr ⟨a, true, oa, a1, a7 a oa (R0 (RI hlt.1 hSa)) (R0 (RI hlt.2.2.1 hSa)) (R0 (RI hlt.2.2.2 hSa)) ha, hSa⟩) a3 a4 a5 a6 fun c o c1 _ c3 c4 e => a7 c o c1 c3 c4 e)) (F.args_zip_next_1 _))))
theorem MW {z TI TO S i1 i2 l1 l2 : Addr} {k1 k2 : Nat} {xs ys : Array Value} {Q : Option Value → Shared → Prop} (hh : A.handled = none) (D : ZipApart z TI TO i1 i2 l1 l2)
 (hz : ZSt s.heap z TI TO S) (hTI : IsPair s.heap TI (.ref i1) (.ref i2))
 (h1 : s.heap.IsListIter i1 l1 k1) (h2 : s.heap.IsListIter i2 l2 k2) (hl1 : s.heap.IsList l1 xs) (hl2 : s.heap.IsList l2 ys) (hx : xs[k1]? = none)
 (hQ : ∀ h', (∀ c o, c ≠ z → c ≠ TO → c ≠ i1 → c ≠ i2 → s.heap.get? c = some o → h'.get? c = some o) → Q none { s with heap := h' }) : wpAny (model prog w) A (pyNext (.ref z)) Q E s := by
 rcases hz with ⟨hz, a, b, hTO⟩ | ⟨a, f, oa, hz, ha, hSa⟩
 ·exact wpAny_pyNext_zip_end hh D hz hTI hTO h1 h2 hl1 hl2 (.inl hx) hQ
 ·have hT : s.TypeIs (.ref z) "zip" := ⟨_, hz, rfl⟩
  unfold pyNext
  refine wpAny_bind (wpAny_attempt (wpAny_callSpecial?_slot (name := Str.ofString "__next__") hT F.slot_zip_next
   (wpAny_call_entry F.slot_zip_next hT F.entry_zip_next (Hr hh D hz ha hTI h1 hl1 hx fun h' e hk he => ?_) (F.args_zip_next_1 _))))
  obtain ⟨o, ho, hc⟩ := he
  refine wpAny_bind (wpAny_isInstance (T := "StopIteration") (b := true) ⟨o, ho, hc⟩ isSubtype_stop ?_)
  exact wpAny_pure (hQ _ fun c o c1 _ c3 _ e => hk c o c1 c3 e)
theorem ZSt.keep {h h' : Heap} {z TI TO S : Addr} (x : ZSt h z TI TO S) (hk : ∀ b o, b ≠ S → h.get? b = some o → h'.get? b = some o) (h1 : z ≠ S) (h2 : TO ≠ S) : ZSt h' z TI TO S := by
 rcases x with ⟨hz, a, b, hTO⟩ | ⟨a, f, oa, hz, ha, hSa⟩
 ·exact .inl ⟨hk _ _ h1 hz, a, b, hk _ _ h2 hTO⟩
 ·exact .inr ⟨a, f, oa, hk _ _ h1 hz, hk _ _ (R0 hSa) ha, hSa⟩
structure ZG (xs ys : Array Value) (S : Addr) (h : Heap) (as : List Addr) : Prop where
 rise : as.Pairwise (· < ·)
 above : ∀ a ∈ as, S < a
 pairs : ∀ (j : Nat) (a : Addr), as[j]? = some a → ∃ x y, xs[j]? = some x ∧ ys[j]? = some y ∧ IsPair h a x y
theorem ZG.there {xs ys : Array Value} {S : Addr} {h : Heap} {as : List Addr} (g : ZG xs ys S h as) {a : Addr} (ha : a ∈ as) : a < h.objs.size := by
 obtain ⟨j, hj⟩ := List.mem_iff_getElem?.mp ha
 obtain ⟨_, _, _, _, e⟩ := g.pairs j a hj
 exact Heap.lt_size e
end
section
variable {prog : Program} {w : World} {A : Around} {s : Shared} {R : Result → Shared → Prop} {xs ys : Array Value} {S z TI TO i1 i2 l1 l2 lo : Addr}
structure LE (z TI TO i1 i2 l1 l2 lo S : Addr) : Prop where
 ap : ZipApart z TI TO i1 i2 l1 l2
 z1 : lo ≤ z
 TO1 : lo ≤ TO
 i11 : lo ≤ i1
 i21 : lo ≤ i2
 z2 : z < S
 TI2 : TI < S
 TO2 : TO < S
 i12 : i1 < S
 i22 : i2 < S
 l1 : l1 < S
 l2 : l2 < S
 lS : lo ≤ S
theorem MU (hh : A.handled = none) (D : LE z TI TO i1 i2 l1 l2 lo S) (hxy : xs.size = ys.size) (hn : xs.size ≤ sizeLine) (res : Value) {h₁ : Heap}
 (hR : ∀ h' tk acc c as, (∀ b o, b < lo → h₁.get? b = some o → h'.get? b = some o) → h'.get? S = some { cls := .type "list", dict := none, data := .seq acc c, slots := #[] } → as.length = xs.size → ZG xs ys S h' as →
  acc.toList = as.map Value.ref → R (.ok (.ret res)) { s with heap := h', toks := tk }) :
 ∀ (k i : Nat) (h : Heap) (tk c : Nat) (acc : Array Value) (as : List Addr), xs.size - i = k → i ≤ xs.size → ZSt h z TI TO S → IsPair h TI (.ref i1) (.ref i2) → h.IsListIter i1 l1 i → h.IsListIter i2 l2 i → h.IsList l1 xs → h.IsList l2 ys → (∀ b o, b < lo → h₁.get? b = some o → h.get? b = some o) →
   h.get? S = some { cls := .type "list", dict := none, data := .seq acc c, slots := #[] } → acc.toList = as.map Value.ref → as.length = i → ZG xs ys S h as → S < h.objs.size →
   codeAny (model prog w) A (.builtin "list.extend.loop" ⟨[.ref S, .ref z, res], []⟩) R { s with heap := h, toks := tk } := by
 have below : ∀ b, b < lo → b ≠ z ∧ b ≠ TO ∧ b ≠ i1 ∧ b ≠ i2 ∧ b ≠ S := fun b hb => ⟨QK (QI hb D.z1), QK (QI hb D.TO1), QK (QI hb D.i11), QK (QI hb D.i21), QK (QI hb D.lS)⟩
 have past : ∀ b, S < b → b ≠ z ∧ b ≠ TO ∧ b ≠ i1 ∧ b ≠ i2 := fun b hb => ⟨R0 (RI D.z2 hb), R0 (RI D.TO2 hb), R0 (RI D.i12 hb), R0 (RI D.i22 hb)⟩
 have apart := D.ap
 intro k
 induction k with
 | zero =>
   intro i h tk c acc as hk hi hst hTI h1 h2 hl1 hl2 hkeep hS hacc hal hG hSs
   refine codeAny_builtin PySem.F.entry_extend_loop ?_
   rw [Around.under_plainId PySem.F.plain_extend_loop _]
   show wpAny _ A.in1 (pyNext (.ref z) >>= _) _ _ _
   refine wpAny_bind (MW (s := { s with heap := h, toks := tk }) (A := A.in1) hh apart hst hTI h1 h2 hl1 hl2 (SC (by lia)) fun h' he => ?_)
   refine wpAny_pure (hR h' tk acc c as (fun b o hb e => he b o (below b hb).1 (below b hb).2.1 (below b hb).2.2.1 (below b hb).2.2.2.1 (hkeep b o hb e)) (he S _ (R0 D.z2) (R0 D.TO2) (R0 D.i12) (R0 D.i22) hS) (by lia) ⟨hG.rise, hG.above, fun j a hj => ?_⟩ hacc)
   obtain ⟨x, y, e1, e2, e3⟩ := hG.pairs j a hj
   have p := past a (hG.above a (Rn hj))
   exact ⟨x, y, e1, e2, he a _ p.1 p.2.1 p.2.2.1 p.2.2.2 e3⟩
 | succ k ih =>
   intro i h tk c acc as hk hi hst hTI h1 h2 hl1 hl2 hkeep hS hacc hal hG hSs
   have hlt : i < xs.size := by lia
   have hx : xs[i]? = some xs[i] := SJ hlt
   have hy : ys[i]? = some (ys[i]'(by lia)) := SJ (by lia)
   generalize xs[i] = x at hx
   generalize ys[i]'(by lia) = y at hy
   have hsz : acc.size = i := by rw [← QZ, hacc, Rp, hal]
   refine codeAny_builtin PySem.F.entry_extend_loop ?_
   rw [Around.under_plainId PySem.F.plain_extend_loop _]
   show wpAny _ A.in1 (pyNext (.ref z) >>= _) _ _ _
   refine wpAny_bind (MV (s := { s with heap := h, toks := tk }) (S := S) apart hst hSs ⟨D.z2, D.TO2, D.i12, D.i22⟩ hTI h1 h2 hl1 hl2 hx hy fun h' hst' h1' h2' ht hz hkp => ?_)
   dsimp only at ht hz hkp ⊢
   have hS' := hkp S _ (R0 D.z2) (R0 D.TO2) (R0 D.i12) (R0 D.i22) hS
   have up : ∀ b o, b ≠ S → h'.get? b = some o → (h'.update S (Obj.mapSeq (·.push (Value.ref h.objs.size)))).get? b = some o := fun b o hb e => (Heap.get?_update_other _ _ (Ne.symm hb)).trans e
   show wpAny _ A.in1 (updateSeq S (·.push (Value.ref h.objs.size)) >>= _) _ _ _
   refine wpAny_bind ?_
   refine wpAny_updateSeq hS' rfl (wpAny_pure ⟨plainId_quiet PySem.F.plain_extend_loop _, ih (i + 1) _ tk _ (acc.push (Value.ref h.objs.size)) (as ++ [h.objs.size]) (by lia) hlt (hst'.keep up (QK D.z2) (QK D.TO2))
    (up _ _ (QK D.TI2) (hkp _ _ apart.TIz apart.TITO apart.TIi1 apart.TIi2 hTI)) (h1'.at fun o e => up _ o (QK D.i12) e) (h2'.at fun o e => up _ o (QK D.i22) e)
    (hl1.at fun o e => up _ o (QK D.l1) (hkp _ o apart.l1z apart.l1TO apart.l1i1 apart.l1i2 e)) (hl2.at fun o e => up _ o (QK D.l2) (hkp _ o apart.l2z apart.l2TO apart.l2i1 apart.l2i2 e))
    (fun b o hb e => up b o (below b hb).2.2.2.2 (hkp b o (below b hb).1 (below b hb).2.1 (below b hb).2.2.1 (below b hb).2.2.2.1 (hkeep b o hb e))) (Heap.get?_update_self _ hS' rfl) (by rw [Array.toList_push, hacc, S4]; rfl) (by rw [Ro, hal]; rfl) ⟨?_, ?_, ?_⟩ ?_⟩) (by rw [hsz]; lia) (by show (acc.push (Value.ref h.objs.size)).size ≤ sizeLine + 1; rw [SO, hsz]; lia)
   ·refine List.pairwise_append.mpr ⟨hG.rise, List.pairwise_singleton _ _, fun a ha b hb => ?_⟩
    rw [Sh.mp hb]
    exact hG.there ha
   ·intro a ha
    rcases QV.mp ha with ha | ha
    ·exact hG.above a ha
    ·rw [Sh.mp ha]; exact hSs
   ·intro j b hj
    rcases Nat.lt_trichotomy j as.length with q1 | q1 | q1
    ·rw [Rk q1] at hj
     obtain ⟨x', y', e1, e2, e3⟩ := hG.pairs j b hj
     have hb := hG.above b (Rn hj)
     have p := past b hb
     exact ⟨x', y', e1, e2, up b _ (R0 hb) (hkp b _ p.1 p.2.1 p.2.2.1 p.2.2.2 e3)⟩
    ·subst q1
     have hb : h.objs.size = b := by simpa using hj
     subst hb
     exact ⟨x, y, by rw [hal]; exact hx, by rw [hal]; exact hy, up _ _ (R0 hSs) ht⟩
    ·have hnone : (as ++ [h.objs.size])[j]? = none := Sr (by rw [Ro, RD]; lia)
     rw [hnone] at hj; cases hj
   ·have e : (h'.update S (Obj.mapSeq (·.push (Value.ref h.objs.size)))).get? h.objs.size = _ := up _ _ (R0 hSs) ht
    exact RI hSs (Heap.lt_size e)
theorem Iw : typeLookup (.type "zip") "__len__" = pure none := by rw [typeLookup_type, builtinLookup_eq_fast]; kernel_rfl
theorem Hq : typeLookup (.type "zip") "__length_hint__" = pure none := by rw [typeLookup_type, builtinLookup_eq_fast]; kernel_rfl
structure ZGo (h : Heap) (xs ys : Array Value) (z TI TO i1 i2 l1 l2 : Addr) : Prop where
 zip : IsZip h z TI TO .none
 own : ∃ a b, IsPair h TO a b
 its : IsPair h TI (.ref i1) (.ref i2)
 it1 : h.IsListIter i1 l1 0
 it2 : h.IsListIter i2 l2 0
 ls1 : h.IsList l1 xs
 ls2 : h.IsList l2 ys
theorem ZGo.keep {h h' : Heap} (g : ZGo h xs ys z TI TO i1 i2 l1 l2) (D : LE z TI TO i1 i2 l1 l2 lo S) (hk : ∀ b o, b ≠ S → h.get? b = some o → h'.get? b = some o) : ZGo h' xs ys z TI TO i1 i2 l1 l2 :=
 ⟨hk _ _ (QK D.z2) g.zip, let ⟨a, b, e⟩ := g.own; ⟨a, b, hk _ _ (QK D.TO2) e⟩, hk _ _ (QK D.TI2) g.its, g.it1.at fun o e => hk _ o (QK D.i12) e, g.it2.at fun o e => hk _ o (QK D.i22) e, g.ls1.at fun o e => hk _ o (QK D.l1) e, g.ls2.at fun o e => hk _ o (QK D.l2) e⟩
theorem Ki (hh : A.handled = none) (D : LE z TI TO i1 i2 l1 l2 lo S) (g : ZGo s.heap xs ys z TI TO i1 i2 l1 l2) (hxy : xs.size = ys.size) (hn : xs.size ≤ sizeLine) (res : Value) (c₀ : Nat) (hS : s.heap.get? S = some { cls := .type "list", data := .seq #[] c₀ })
 (hR : ∀ h' tk acc c as, (∀ b o, b < lo → s.heap.get? b = some o → h'.get? b = some o) → h'.get? S = some { cls := .type "list", dict := none, data := .seq acc c, slots := #[] } → as.length = xs.size → ZG xs ys S h' as →
  acc.toList = as.map Value.ref → R (.ok (.ret res)) { s with heap := h', toks := tk }) :
 wpAny (model prog w) A.in1 (Builtin.List.listExtendWith (.ref S) (.ref z) res)
  (fun fin s' => match fin with | .done f => R (.ok f) s' | .again c' => c'.quiet = true ∧ codeAny (model prog w) A c' R s') (fun e s' => R (.error e) s') s := by
 have hT : s.TypeIs (.ref z) "zip" := ⟨_, g.zip, rfl⟩
 have hSz : S ≠ z := R0 D.z2
 unfold Builtin.List.listExtendWith
 refine wpAny_bind (wpAny_typeOf hT ?_)
 have h1 : Builtin.List.listSameRef (.ref S) (.ref z) = false := by simp [Builtin.List.listSameRef, hSz]
 have h2 : (Value.type "zip" == Value.type "list") = false := by decide
 have h3 : (Value.type "zip" == Value.type "tuple") = false := by decide
 simp only [h1, h2, h3, Bool.or_false, Bool.false_eq_true, if_false]
 refine wpAny_bind (wpAny_pyIter_zip g.zip ?_)
 refine wpAny_bind (wpAny_holding ?_)
 unfold Builtin.List.listLengthHint
 refine wpAny_bind (wpAny_specialOf hT Iw ?_)
 show wpAny _ A.in1 (specialOf (Value.ref z) (Str.ofString "__length_hint__") >>= _) _ _ _
 refine wpAny_bind (wpAny_specialOf hT Hq ?_)
 refine wpAny_pure ?_
 show wpAny _ A.in1 (rule "list.extend.makes-room" >>= fun _ => Builtin.List.listTouch (.ref S) >>= fun _ =>
  again (.builtin "list.extend.loop" ⟨[.ref S, .ref z, res], []⟩)) _ _ _
 refine wpAny_bind (wpAny_rule ?_)
 refine wpAny_bind ?_
 show wpAny _ A.in1 (updateSeq S (·.push .none) >>= fun _ => updateSeq S (·.pop)) _ _ _
 refine wpAny_bind (wpAny_updateSeq hS rfl ?_)
 have hS₂ := Heap.get?_update_self (Obj.mapSeq (·.push Value.none)) hS rfl
 refine wpAny_updateSeq (hz := by seq_fits) hS₂ rfl ?_
 have hS₃ := Heap.get?_update_self (Obj.mapSeq (·.pop)) hS₂ rfl
 have oth : ∀ b o, b ≠ S → s.heap.get? b = some o → ((s.heap.update S (Obj.mapSeq (·.push Value.none))).update S (Obj.mapSeq (·.pop))).get? b = some o :=
  fun b o hb e => (Heap.get?_update_other _ _ (Ne.symm hb)).trans ((Heap.get?_update_other _ _ (Ne.symm hb)).trans e)
 have g' := g.keep D oth
 have below : ∀ b, b < lo → b ≠ S := fun b hb => QK (QI hb D.lS)
 refine wpAny_pure ⟨plainId_quiet F.plain_extend_loop _, MU (s := s) hh D hxy hn res (h₁ := (s.heap.update S (Obj.mapSeq (·.push Value.none))).update S (Obj.mapSeq (·.pop))) (fun h' tk acc c as hk hS' hal hG hacc => hR h' tk acc c as (fun b o hb e => hk b o hb (oth b o (below b hb) e)) hS' hal hG hacc) xs.size 0 _ s.toks _ _ [] rfl (R5 _)
  (.inl ⟨g'.zip, g'.own⟩) g'.its g'.it1 g'.it2 g'.ls1 g'.ls2 (fun b o _ e => e) hS₃ rfl rfl ⟨.nil, (fun _ h => nomatch h), fun j a e => by simp at e⟩ (Heap.lt_size hS₃)⟩
end
end L2
namespace L2
open PySem PySem.Spec PyProof.Rows
section
variable {prog : Program} {w : World} {A : Around} {E : Value → Shared → Prop} {s : Shared} {xs ys : Array Value} {z TI TO i1 i2 l1 l2 lo : Addr}
theorem FK {Q : Value → Shared → Prop} (hh : A.handled = none) (D : LE z TI TO i1 i2 l1 l2 lo s.heap.objs.size) (g : ZGo s.heap xs ys z TI TO i1 i2 l1 l2) (hxy : xs.size = ys.size) (hn : xs.size ≤ sizeLine)
 (hQ : ∀ h' tk acc c as, (∀ b o, b < lo → s.heap.get? b = some o → h'.get? b = some o) → h'.get? s.heap.objs.size = some { cls := .type "list", dict := none, data := .seq acc c, slots := #[] } → as.length = xs.size → ZG xs ys s.heap.objs.size h' as →
  acc.toList = as.map Value.ref → Q (.ref s.heap.objs.size) { s with heap := h', toks := tk }) :
 wpAny (model prog w) A (call (.type "list") [.ref z]) Q E s := by
 refine callType_codes (Q₁ := fun obj s₁ => obj = .ref s.heap.objs.size ∧ s₁ = { s with heap := s.heap.push { cls := .type "list", data := .seq #[] } }) F.called_list (F.typeCall_list_1 _) F.entry_list_init
  (code_list_new _ ⟨rfl, rfl⟩) fun obj s₁ h₁ => ?_
 obtain ⟨rfl, rfl⟩ := h₁
 have hS : (s.heap.push { cls := .type "list", data := .seq #[] }).get? s.heap.objs.size = some { cls := .type "list", data := .seq #[] } := Heap.get?_push_size _ rfl
 refine ⟨⟨_, hS, rfl⟩, F.args_list_init_2 _ _, ?_⟩
 show wpAny _ A.in1.in1 (do let old ← Builtin.List.listItems (.ref s.heap.objs.size); Builtin.List.listUpdate (.ref s.heap.objs.size) (fun _ => #[]); letGo old.toList.reverse; Builtin.List.listExtendWith (.ref s.heap.objs.size) (.ref z) .none) _ _ _
 refine wpAny_bind ?_
 unfold Builtin.List.listItems
 refine wpAny_bind (wpAny_seqItems hS rfl (wpAny_pure ?_))
 show wpAny _ A.in1.in1 (updateSeq s.heap.objs.size (fun _ => #[]) >>= fun _ => letGo (#[] : Array Value).toList.reverse >>= fun _ => Builtin.List.listExtendWith (.ref s.heap.objs.size) (.ref z) .none) _ _ _
 refine wpAny_bind (wpAny_updateSeq hS rfl ?_)
 have hS₂ := Heap.get?_update_self (Obj.mapSeq (fun _ => (#[] : Array Value))) hS rfl
 have oth : ∀ b o, b ≠ s.heap.objs.size → s.heap.get? b = some o → ((s.heap.push { cls := .type "list", data := .seq #[] }).update s.heap.objs.size (Obj.mapSeq (fun _ => (#[] : Array Value)))).get? b = some o :=
  fun b o hb e => (Heap.get?_update_other _ _ (Ne.symm hb)).trans (Heap.get?_push_of_some _ e)
 refine wpAny_bind (wpAny_letGo ?_)
 refine Ki (A := A.in1) hh D (g.keep D oth) hxy hn .none _ hS₂ fun h' tk acc c as hk hS' hal hG hacc => ?_
 exact ⟨rfl, hQ h' tk acc c as (fun b o hb e => hk b o hb (oth b o (QK (QI hb D.lS)) e)) hS' hal hG hacc⟩
end
theorem Ds {α β : Type} {F : α → β → Prop} : ∀ {l₁ : List α} {l₂ : List β}, l₁.length = l₂.length → (∀ (j : Nat) a b, l₁[j]? = some a → l₂[j]? = some b → F a b) → Paired F l₁ l₂
 | [], [], _, _ => .nil
 | a :: r, b :: t, hl, h => .cons (h 0 a b rfl rfl) (Ds (Nat.succ.inj hl) fun j x y e1 e2 => h (j + 1) x y (by simpa using e1) (by simpa using e2))
section
variable {X : Cx}
theorem Inv.tracked {pins : List (Addr × Obj)} {σ : St} {H : Hp} {s : Shared} {a : Addr} {o : HO} (I : Inv X pins σ H s) (f : Dl X pins H a) (new : Bj X.prog X.w (upd H a o) s.heap a o) : Inv X pins σ (upd H a o) s := by
 have ne : ∀ b u, H b = some u → b ≠ a := fun b u e z => by rw [z, f.1] at e; cases e
 have ho := HOk.track I.hok f.1 new
 obtain ⟨hp, gg, dd, tk, os⟩ := s
 refine I.step (H' := upd H a o) (h' := hp) (g' := gg) (t' := tk) (d' := dd) (ch := [a]) ?_ ?_ ?_ ?_ ?_ ?_ ?_ ?_ ?_ ho I.bare
 ·intro b hb
  have e : b = a := by simpa using hb
  subst e
  exact ⟨f.2.2.2.1, f.2.1, f.2.2.2.2.1, f.2.2.2.2.2⟩
 ·intro b u _ _ _ e _; exact e
 ·intro b u _ _ _ e _; exact ⟨u.slots, e⟩
 ·intro b u hb _ n
  rw [Ak (fun z => hb (by simp [z]))]; exact n
 ·intro b u _ e; exact ⟨u, e⟩
 ·intro b us e
  rw [Ak (ne b _ e)]; exact e
 ·intro b u v e
  rw [Ak (ne b _ e)]; exact e
 ·intro b ps e
  exact ⟨#[], by rw [Ak (ne b _ e), e]; simp⟩
 ·intro m hm; exact hm
abbrev MB (H : Hp) (v : V) (p : V × V) : Prop := ∃ t, v = .ref t ∧ H t = some (.tup [p.1, p.2])
theorem JL {pins : List (Addr × Obj)} {σ : St} {H0 : Hp} {s0 s : Shared} (I0 : Inv X pins σ H0 s0) : ∀ (as : List Addr) (ps : List (V × V)) (H : Hp), Inv X pins σ H s → (∀ a ∈ as, s0.heap.objs.size ≤ a ∧ H a = none) → as.Nodup →
 Paired (fun a (p : V × V) => ∃ u v, AC p.1 u ∧ AC p.2 v ∧ IsPair s.heap a u v) as ps → ∃ H', Inv X pins σ H' s ∧ Af H H' ∧ (∀ b, b ∉ as → H' b = H b) ∧ Paired (MB H') (as.map V.ref) ps := by
 intro as
 induction as with
 | nil =>
   intro ps H I hn hd hp
   cases hp
   exact ⟨H, I, Af.refl _, fun _ _ => rfl, .nil⟩
 | cons a as ih =>
   intro ps H I hn hd hp
   obtain ⟨p, ps', rfl, ⟨u, v, ru, rv, hp⟩, t⟩ : ∃ p ps', ps = p :: ps' ∧ (∃ u v, AC p.1 u ∧ AC p.2 v ∧ IsPair s.heap a u v) ∧ Paired (fun a (p : V × V) => ∃ u v, AC p.1 u ∧ AC p.2 v ∧ IsPair s.heap a u v) as ps' := by
    cases hp with
    | cons h t => exact ⟨_, _, rfl, h, t⟩
   have ha := hn a QS
   have hd' := Re.mp hd
   have new : Bj X.prog X.w (upd H a (.tup [p.1, p.2])) s.heap a (.tup [p.1, p.2]) := ⟨by show 2 ≤ sizeLine; decide, [u, v], .cons ru (.cons rv .nil), ⟨_, hp, rfl, 0, rfl⟩⟩
   have I1 : Inv X pins σ (upd H a (.tup [p.1, p.2])) s := Inv.tracked I (I0.fpOk ha.1 ha.2) new
   obtain ⟨H', I', s', k', q'⟩ := ih ps' _ I1 (fun b hb => ⟨(hn b (QT _ hb)).1, by rw [Ak (fun z : b = a => hd'.1 (z ▸ hb))]; exact (hn b (QT _ hb)).2⟩) hd'.2 t
   refine ⟨H', I', (Af.new ha.2).trans s', fun b hb => ?_, .cons ⟨a, rfl, s' _ _ Aa⟩ q'⟩
   have hb' : b ≠ a ∧ b ∉ as := by simpa using hb
   rw [k' b hb'.2, Ak hb'.1]
def Oz (s s1 : Shared) (xs ys : Array Value) (l1 l2 : Addr) (u : Value) : Prop :=
 ∃ h', u = .ref (s.heap.objs.size + 4) ∧ s1 = { s with heap := h' } ∧ ZGo h' xs ys (s.heap.objs.size + 4) (s.heap.objs.size + 2) (s.heap.objs.size + 3) s.heap.objs.size (s.heap.objs.size + 1) l1 l2 ∧
   LE (s.heap.objs.size + 4) (s.heap.objs.size + 2) (s.heap.objs.size + 3) s.heap.objs.size (s.heap.objs.size + 1) l1 l2 s.heap.objs.size h'.objs.size ∧ ∀ c o, s.heap.get? c = some o → h'.get? c = some o
theorem MT {P : Program} {w : World} {A : Around} {E : Value → Shared → Prop} {s : Shared} {l1 l2 : Addr} {xs ys : Array Value} {Q : Value → Shared → Prop} (hl1 : s.heap.IsList l1 xs) (hl2 : s.heap.IsList l2 ys) (h : ∀ u s1, Oz s s1 xs ys l1 l2 u → Q u s1) :
 wpAny (model P w) A (call (.type "zip") [.ref l1, .ref l2]) Q E s := by
 have la : l1 < s.heap.objs.size := by obtain ⟨_, e, _⟩ := hl1; exact Heap.lt_size e
 have lb : l2 < s.heap.objs.size := by obtain ⟨_, e, _⟩ := hl2; exact Heap.lt_size e
 refine call_zip_2 hl1 hl2 fun h' hz hTI hTO hi1 hi2 hsz hk => h _ _ ⟨h', rfl, rfl, ⟨hz, ⟨_, _, hTO⟩, hTI, hi1, hi2, hl1.at fun o e => hk _ o e, hl2.at fun o e => hk _ o e⟩, ?_, hk⟩
 rw [hsz]
 have p : ∀ a b : Nat, a ≤ b → s.heap.objs.size + a ≤ s.heap.objs.size + b := fun a b h => Nat.add_le_add_left h _
 exact ⟨zipApart_new la lb, SD _ _, SD _ _, R3 _, SD _ _, p 5 5 (R3 _), p 3 5 (by decide), p 4 5 (by decide), p 1 5 (by decide), p 2 5 (by decide), QI la (SD _ _), QI lb (SD _ _), SD _ _⟩
theorem LM {pins : List (Addr × Obj)} {σ : St} {H : Hp} {s s' : Shared} {xs ys : List V} {its1 its2 : List Value} {S : Addr} {as : List Addr} (I : Inv X pins σ H s) (hk : ∀ b o, s.heap.get? b = some o → s'.heap.get? b = some o) (hos : ∃ h' tk, s' = { s with heap := h', toks := tk }) (hS : s.heap.objs.size ≤ S)
 (r1 : Az xs its1) (r2 : Az ys its2) (hal : as.length = xs.length) (hxy : xs.length = ys.length) (hG : ZG its1.toArray its2.toArray S s'.heap as) : ∃ H', Inv X pins σ H' s' ∧ Af H H' ∧ (∀ b, b ∉ as → H' b = H b) ∧ Paired (MB H') (as.map V.ref) (xs.zip ys) := by
 obtain ⟨h', tk, rfl⟩ := hos
 have I' : Inv X pins σ H { s with heap := h', toks := tk } := I.kept (t' := tk) hk
 refine JL I as (xs.zip ys) H I' (fun a ha => ?_) (hG.rise.imp fun h => QK h) ?_
 ·have hle := QP hS (QQ (hG.above a ha))
  exact ⟨hle, I.hok.fresh hle⟩
 ·refine Ds (by rw [T6]; lia) fun j a p hj hp => ?_
  obtain ⟨x, y, e1, e2, e3⟩ := hG.pairs j a hj
  obtain ⟨hjx, hjy⟩ := T8.mp hp
  obtain ⟨u1, q1, q2⟩ := r1.get hjx
  obtain ⟨u2, q3, q4⟩ := r2.get hjy
  rw [List.getElem?_toArray] at e1 e2
  rw [e1] at q1; cases q1
  rw [e2] at q3; cases q3
  exact ⟨x, y, q2, q4, e3⟩
def tLZ (K : QO) (ta : TA) : TE := fun σ H Q => ta σ H fun vs H1 => ∃ a b xs ys, vs = [.ref a, .ref b] ∧ SqL K H1 a xs ∧ SqL K H1 b ys ∧ xs.length = ys.length ∧
 ∀ l us H', Af H1 H' → H1 l = none → H' l = some (.lst us) → Paired (MB H') us (xs.zip ys) → Q (.ref l) H'
theorem II (K : QO) (hcalm : X.calm = true) {e1 e2 : Expr} {ta : TA} {p p2 pos pos2 : Pos} (hgl : Gl X "list") (hml : X.mg "list" = none) (hg : Gl X "zip") (hm : X.mg "zip" = none) (ha : PA X [e1, e2] ta)
 (hs : starEach [e1, e2] X.env = [(false, eval e1 X.env), (false, eval e2 X.env)] := by rfl) (hs2 : starEach [e2] X.env = [(false, eval e2 X.env)] := by rfl)
 (hs0 : starEach [.Call (.Name "zip" p) [e1, e2] [] pos] X.env = [(false, eval (.Call (.Name "zip" p) [e1, e2] [] pos) X.env)] := by rfl) (e : X.K = K := by rfl) :
 PE X (.Call (.Name "list" p2) [.Call (.Name "zip" p) [e1, e2] [] pos] [] pos2) (tLZ K ta) := by
 subst e
 intro pins s σ H Q I h
 refine Call_ (Cu I hgl hml EI (PyProof.Rows.callWith_type1 ?_ hs0 rfl))
 rw [hs0]
 refine Calls.spliced_cons (Q := _) ?_
 refine Call_ (Cu I hg hm Lw (PyProof.Rows.callWith_type1 (thn (ha pos pins s σ H _ I h) fun us s1 ⟨vs, H1, I1, r1, q1⟩ => ?_) (by rw [hs, hs2]) (by rw [hs2]; rfl)))
 obtain ⟨a, b, xs, ys, e, hq1, hq2, hxy, q⟩ := q1
 subst e
 obtain ⟨u, u', rfl, ra, rb⟩ := MG r1
 cases ra
 cases rb
 obtain ⟨its1, rv1, p1, z1⟩ := I1.list hq1
 obtain ⟨its2, rv2, p2, _⟩ := I1.list hq2
 have n1 := rv1.length
 have n2 := rv2.length
 refine MT p1.isList p2.isList fun u s2 hM => ?_
 obtain ⟨h', rfl, rfl, g, D, hk⟩ := hM
 refine Calls.spliced_nil ?_
 refine FK (s := { s1 with heap := h' }) (I1.ok.hd hcalm) D g (by simp; lia) (by simp; lia) fun h2 tk acc c as hk2 hS hal hG hacc => ?_
 have hkk : ∀ b o, s1.heap.get? b = some o → h2.get? b = some o := fun b o e => hk2 b o (Heap.lt_size e) (hk b o e)
 obtain ⟨H', I', sm, ko, hp⟩ := LM (s' := { s1 with heap := h2, toks := tk }) I1 hkk ⟨h2, tk, rfl⟩ D.lS rv1 rv2 (by rw [hal]; simp; lia) hxy hG
 have hno : H1 h'.objs.size = none := I1.hok.fresh D.lS
 have hna : h'.objs.size ∉ as := fun z => QJ _ (hG.above _ z)
 have hno' : H' h'.objs.size = none := by rw [ko _ hna]; exact hno
 have hvs : Az (as.map V.ref) (as.map Value.ref) := Ds (by simp) fun j v u hv hu => by
  rw [Rl] at hv hu
  cases z : as[j]? with
  | none => rw [z] at hv; cases hv
  | some t => rw [z] at hv hu; cases hv; cases hu; exact rfl
 have new : Bj X.prog X.w (upd H' h'.objs.size (.lst (as.map V.ref))) h2 h'.objs.size (.lst (as.map V.ref)) := ⟨by rw [Rp, hal]; simp; lia, as.map Value.ref, c, hvs, by rw [← hacc]; exact hS⟩
 exact ⟨.ref h'.objs.size, _, Inv.tracked I' (I1.fpOk D.lS hno') new, rfl, q _ _ _ (sm.trans (Af.new hno')) hno Aa (Paired.mapP hp fun v p ⟨t, e, z⟩ => ⟨t, e, by rw [Ak (Aq z hno')]; exact z⟩)⟩
end
end L2
namespace Pf
open PySem L2
def top (i : Nat) : Stmt := PySem.Challenge.pw_onecurve_k47_wrong_ones_found.main.body.getD i (.Pass ⟨0, 0, 0, 0⟩)
theorem IY {a1 : Type} {p : a1 → Prop} {G : Prop} (h : ∃ x1, p x1) (f : ∀ x1, p x1 → G) : G := Exists.elim h f
theorem C4 {a1 a2 : Type} {p : a1 → a2 → Prop} {G : Prop} (h : ∃ x1 x2, p x1 x2) (f : ∀ x1 x2, p x1 x2 → G) : G := Exists.elim h fun x1 h => IY h (f x1)
theorem D4 {a1 a2 a3 : Type} {p : a1 → a2 → a3 → Prop} {G : Prop} (h : ∃ x1 x2 x3, p x1 x2 x3) (f : ∀ x1 x2 x3, p x1 x2 x3 → G) : G := Exists.elim h fun x1 h => C4 h (f x1)
theorem IX {a1 a2 a3 a4 : Type} {p : a1 → a2 → a3 → a4 → Prop} {G : Prop} (h : ∃ x1 x2 x3 x4, p x1 x2 x3 x4) (f : ∀ x1 x2 x3 x4, p x1 x2 x3 x4 → G) : G := Exists.elim h fun x1 h => D4 h (f x1)
theorem OP {a1 a2 a3 a4 a5 : Type} {p : a1 → a2 → a3 → a4 → a5 → Prop} {G : Prop} (h : ∃ x1 x2 x3 x4 x5, p x1 x2 x3 x4 x5) (f : ∀ x1 x2 x3 x4 x5, p x1 x2 x3 x4 x5 → G) : G := Exists.elim h fun x1 h => IX h (f x1)
theorem NQ {a1 a2 a3 a4 a5 a6 : Type} {p : a1 → a2 → a3 → a4 → a5 → a6 → Prop} {G : Prop} (h : ∃ x1 x2 x3 x4 x5 x6, p x1 x2 x3 x4 x5 x6) (f : ∀ x1 x2 x3 x4 x5 x6, p x1 x2 x3 x4 x5 x6 → G) : G := Exists.elim h fun x1 h => OP h (f x1)
theorem OO {a1 a2 a3 a4 a5 a6 a7 : Type} {p : a1 → a2 → a3 → a4 → a5 → a6 → a7 → Prop} {G : Prop} (h : ∃ x1 x2 x3 x4 x5 x6 x7, p x1 x2 x3 x4 x5 x6 x7) (f : ∀ x1 x2 x3 x4 x5 x6 x7, p x1 x2 x3 x4 x5 x6 x7 → G) : G := Exists.elim h fun x1 h => NQ h (f x1)
theorem Ou {a1 a2 a3 a4 a5 a6 a7 a8 : Type} {p : a1 → a2 → a3 → a4 → a5 → a6 → a7 → a8 → Prop} {G : Prop} (h : ∃ x1 x2 x3 x4 x5 x6 x7 x8, p x1 x2 x3 x4 x5 x6 x7 x8) (f : ∀ x1 x2 x3 x4 x5 x6 x7 x8, p x1 x2 x3 x4 x5 x6 x7 x8 → G) : G := Exists.elim h fun x1 h => OO h (f x1)
theorem Mw {a1 a2 a3 a4 a5 a6 a7 a8 a9 : Type} {p : a1 → a2 → a3 → a4 → a5 → a6 → a7 → a8 → a9 → Prop} {G : Prop} (h : ∃ x1 x2 x3 x4 x5 x6 x7 x8 x9, p x1 x2 x3 x4 x5 x6 x7 x8 x9) (f : ∀ x1 x2 x3 x4 x5 x6 x7 x8 x9, p x1 x2 x3 x4 x5 x6 x7 x8 x9 → G) : G := Exists.elim h fun x1 h => Ou h (f x1)
theorem By {A1 A2 G : Prop} (h : A1 ∧ A2) (f : A1 → A2 → G) : G := f h.1 h.2
theorem Cy {A1 A2 A3 G : Prop} (h : A1 ∧ A2 ∧ A3) (f : A1 → A2 → A3 → G) : G := By h.2 (f h.1)
theorem DF {A1 A2 A3 A4 G : Prop} (h : A1 ∧ A2 ∧ A3 ∧ A4) (f : A1 → A2 → A3 → A4 → G) : G := Cy h.2 (f h.1)
theorem D5 {A1 A2 A3 A4 A5 G : Prop} (h : A1 ∧ A2 ∧ A3 ∧ A4 ∧ A5) (f : A1 → A2 → A3 → A4 → A5 → G) : G := DF h.2 (f h.1)
theorem Kd {A1 A2 A3 A4 A5 A6 G : Prop} (h : A1 ∧ A2 ∧ A3 ∧ A4 ∧ A5 ∧ A6) (f : A1 → A2 → A3 → A4 → A5 → A6 → G) : G := D5 h.2 (f h.1)
theorem NW {A1 A2 A3 A4 A5 A6 A7 G : Prop} (h : A1 ∧ A2 ∧ A3 ∧ A4 ∧ A5 ∧ A6 ∧ A7) (f : A1 → A2 → A3 → A4 → A5 → A6 → A7 → G) : G := Kd h.2 (f h.1)
theorem OS {A1 A2 A3 A4 A5 A6 A7 A8 G : Prop} (h : A1 ∧ A2 ∧ A3 ∧ A4 ∧ A5 ∧ A6 ∧ A7 ∧ A8) (f : A1 → A2 → A3 → A4 → A5 → A6 → A7 → A8 → G) : G := NW h.2 (f h.1)
theorem OR {A1 A2 A3 A4 A5 A6 A7 A8 A9 G : Prop} (h : A1 ∧ A2 ∧ A3 ∧ A4 ∧ A5 ∧ A6 ∧ A7 ∧ A8 ∧ A9) (f : A1 → A2 → A3 → A4 → A5 → A6 → A7 → A8 → A9 → G) : G := OS h.2 (f h.1)
theorem LC {A1 A2 A3 A4 A5 A6 A7 A8 A9 A10 G : Prop} (h : A1 ∧ A2 ∧ A3 ∧ A4 ∧ A5 ∧ A6 ∧ A7 ∧ A8 ∧ A9 ∧ A10) (f : A1 → A2 → A3 → A4 → A5 → A6 → A7 → A8 → A9 → A10 → G) : G := OR h.2 (f h.1)
theorem Oy {A1 A2 A3 A4 A5 A6 A7 A8 A9 A10 A11 G : Prop} (h : A1 ∧ A2 ∧ A3 ∧ A4 ∧ A5 ∧ A6 ∧ A7 ∧ A8 ∧ A9 ∧ A10 ∧ A11) (f : A1 → A2 → A3 → A4 → A5 → A6 → A7 → A8 → A9 → A10 → A11 → G) : G := LC h.2 (f h.1)
def BI (B : Int) (q : Rat) : Int := q.num * B.fdiv q.den
theorem FM {B : Int} {q : Rat} (h : (q.den : Int) ∣ B) : ((BI B q : Int) : Rat) = q * (B : Rat) := by
 obtain ⟨k, rfl⟩ := h
 have e : (((q.den : Int) * k).fdiv (q.den : Int)) = k := RL _ (Nm.den_ne q)
 unfold BI
 rw [e, RU, RU, Nm.num_mul q]
 grind
theorem LQ {B : Int} {qs : List Rat} (h : ∀ q ∈ qs, (q.den : Int) ∣ B) (x : Rat) : Cv.ev ((qs.map (BI B)).map fun t : Int => (t : Rat)) x = Cv.ev qs x * (B : Rat) := by
 rw [← Cv.ev_scale, List.map_map]
 congr 1
 exact T9 fun q hq => FM (h q hq)
inductive FS (K : QO) (vs : List V) (H : Hp) (Q : VK) (E_3 : XK) : Prop
 | mk (b : Bool) (r : Addr) (xs : List V) (qs : List Rat) (n : Nat) (h1 : vs = [.ref r]) (h2 : Sq b K H r xs) (h3 : Ao K H xs qs) (h4 : (∀ q ∈ qs, Bd n (q.den : Int))) (h5 : n * (qs.length + 2) ≤ 60000000) (h6 : ∀ B : Int, 0 < B → (∀ q ∈ qs, (q.den : Int) ∣ B) → Bd (n * qs.length + 1) B → Q (.int B) H) : FS K vs H Q E_3
inductive EM (K : QO) (vs : List V) (H : Hp) (Q : VK) (E_3 : XK) : Prop
 | mk (b : Bool) (r : Addr) (xs : List V) (qs : List Rat) (B : Int) (m n : Nat) (h1 : vs = [.ref r, .int B]) (h2 : Sq b K H r xs) (h3 : Ao K H xs qs) (h4 : Bd m B) (h5 : (∀ q ∈ qs, Bd n q.num)) (h6 : m + n ≤ 134217728) (h7 : qs.length ≤ 1000) (h8 : ∀ p, H p = none → Q (.ref p) (upd H p (.lst ((qs.map (BI B)).map V.int)))) : EM K vs H Q E_3
inductive Dq (K : QO) (vs : List V) (H : Hp) (Q : VK) (E_3 : XK) : Prop
 | mk (r : Addr) (xs : List V) (qs : List Rat) (h1 : vs = [.ref r]) (h2 : SqL K H r xs) (h3 : Ao K H xs qs) (h4 : qs.length ≤ 1000) (h5 : ∀ p H', Af H H' → Crv K H' p (Cv.strip qs) → Q (.ref p) H') : Dq K vs H Q E_3
inductive Kw (K : QO) (vs : List V) (H : Hp) (Q : VK) (E_3 : XK) : Prop
 | mk (l rx : Addr) (ts : List Int) (x : Rat) (m n : Nat) (h1 : vs = [.ref l, .ref rx]) (h2 : SqL K H l (ts.map V.int)) (h3 : AA K H (.ref rx) x) (h4 : (∀ t ∈ ts, Bd m t)) (h5 : RB n x) (h6 : m + (n + 1) * (ts.length + 4) ≤ 100000000) (h7 : ∀ (h s : Int) (p : Addr), s = (x.den : Int) ^ ts.length → s ≠ 0 → (h : Rat) = Cv.evI ts x * (s : Rat) → Bd (m + (n + 1) * (ts.length + 2)) h → Bd (n * ts.length + 1) s → H p = none → Q (.ref p) (upd H p (.tup [.int h, .int s]))) : Kw K vs H Q E_3
theorem KW {b d : Int} (hb : 0 < b) (hd : 0 < d) : 0 < b * d.fdiv (RJ b d : Int) ∧ b ∣ b * d.fdiv (RJ b d : Int) ∧ d ∣ b * d.fdiv (RJ b d : Int) := by
 have g0 : (0 : Int) < (RJ b d : Int) := by have := Nm.gcd_pos (a := b) (b := d) (by lia); lia
 obtain ⟨k, hk⟩ : (RJ b d : Int) ∣ d := RP ..
 obtain ⟨j, hj⟩ : (RJ b d : Int) ∣ b := RN ..
 generalize (RJ b d : Int) = g at *
 subst hk
 subst hj
 have e : (g * k).fdiv g = k := RL _ (by lia)
 rw [e]
 have hk0 : 0 < k := by
  rcases Int.lt_trichotomy k 0 with z | z | z
  ·have : g * k < 0 := Int.mul_neg_of_pos_of_neg g0 z
   lia
  ·rw [z, Tc] at hd; lia
  ·exact z
 exact ⟨Int.mul_pos hb hk0, ⟨k, rfl⟩, ⟨j, by grind⟩⟩
inductive Gs (K : QO) (vs : List V) (H : Hp) (Q : VK) (E_3 : XK) : Prop
 | mk (f g : Addr) (fs gs : List Int) (m n : Nat) (h1 : vs = [.ref f, .ref g]) (h2 : SqL K H f (fs.map V.int)) (h3 : SqL K H g (gs.map V.int)) (h4 : 1 ≤ gs.length) (h5 : fs.length ≤ 1000) (h6 : gs.length ≤ 1000) (h7 : (∀ t ∈ fs, Bd m t)) (h8 : (∀ t ∈ gs, Bd n t)) (h9 : m + n ≤ 60000000) (h10 : ∀ (p : Addr) (H' : Hp) (ps : List Int), Af H H' → H p = none → H' p = some (.lst (ps.map V.int)) → ps.length = fs.length + gs.length - 1 → (∀ x, Cv.evI ps x = Cv.evI fs x * Cv.evI gs x) → (∀ t ∈ ps, Bd (m + n + 20) t) → Q (.ref p) H') : Gs K vs H Q E_3
inductive BX (K : QO) (vs : List V) (H : Hp) (Q : VK) (E_3 : XK) : Prop
 | mk (l : Addr) (ts : List Int) (b : Int) (h1 : vs = [.ref l, .int b]) (h2 : SqL K H l (ts.map V.int)) (h3 : b ≠ 0) (h4 : ts.length ≤ 1000) (h5 : ∀ p H', Af H H' → Crv K H' p (Cv.strip (ts.map fun t => RM t b)) → Q (.ref p) H') : BX K vs H Q E_3
inductive EC (K : QO) (n : Nat) (vs : List V) (H : Hp) (Q : VK) (E_3 : XK) : Prop
 | mk (a : Addr) (most : Int) (h1 : vs = [.ref a, .int most]) (h2 : Pen H a) (h3 : 0 ≤ most) (h4 : most ≤ 100) (h5 : ∀ (qs : List Rat) (r : Addr) (H' : Hp), Mv a H H' → Pen H' a → Crv K H' r qs → Cn qs → (qs.length : Int) ≤ most → (∀ q ∈ qs, RB n q) → Q (.ref r) H') : EC K n vs H Q E_3
def BL : List Rat → List Rat → Rat → Rat
 | k :: ks, s :: ss, x => s + (x - k) * BL ks ss x
 | _, _, _ => 0
inductive Dr (K : QO) (vs : List V) (H : Hp) (Q : VK) (E_3 : XK) : Prop
 | mk (rk rst : Addr) (xs ys : List V) (ks ss : List Rat) (n : Nat) (h1 : vs = [.ref rk, .ref rst]) (h2 : SqL K H rk xs) (h3 : Ao K H xs ks) (h4 : SqL K H rst ys) (h5 : Ao K H ys ss) (h6 : ks.length = ss.length) (h7 : ks.length ≤ 12) (h8 : (∀ q ∈ ks, RB n q)) (h9 : (∀ q ∈ ss, RB n q)) (h10 : n ≤ 2048000) (h11 : ∀ p H' cs, Af H H' → Crv K H' p cs → cs.length ≤ ks.length → Cn cs → (∀ q ∈ cs, RB (2 * (n * ks.length) + 21 * ks.length + 2 * n + 30) q) → (∀ x, Cv.ev cs x = BL ks ss x) → Q (.ref p) H') : Dr K vs H Q E_3
theorem Ln (c x : Rat) : Cv.evI [-c.num, (c.den : Int)] x = (x - c) * ((c.den : Int) : Rat) := by
 show ((-c.num : Int) : Rat) + x * (((c.den : Int) : Rat) + x * 0) = _
 rw [Rat.intCast_neg, Nm.num_mul c]
 grind
theorem Jk (p q : Rat) (hq : q ≠ 0) : RM (p.num * q.den) (p.den * q.num) = p / q := by
 have hn : q.num ≠ 0 := fun z => hq (Rat.num_eq_zero.mp z)
 apply Nm.div_eq (RT (Nm.den_ne p) hn)
 rw [RU, RU, Nm.num_mul p, Nm.num_mul q]
 have e : p / q * q = p := RS hq
 have h : p / q * (((p.den : Int) : Rat) * (q * ((q.den : Int) : Rat))) = (p / q * q) * (((p.den : Int) : Rat) * ((q.den : Int) : Rat)) := by grind
 rw [h, e]
 grind
inductive Gv (K : QO) (vs : List V) (H : Hp) (Q : VK) (E_3 : XK) : Prop
 | mk (x y : V) (p q : Rat) (m n : Nat) (h1 : vs = [x, y]) (h2 : AA K H x p) (h3 : AA K H y q) (h4 : q ≠ 0) (h5 : RB m p) (h6 : RB n q) (h7 : m + n ≤ 100000000) (h8 : ∀ r, H r = none → Q (.ref r) (upd H r (nT (p / q)))) : Gv K vs H Q E_3
theorem RB.over {m n : Nat} {p q : Rat} (h1 : RB m p) (h2 : RB n q) (hq : q ≠ 0) : RB (m + n) (p / q) := by
 have hn : q.num ≠ 0 := fun z => hq (Rat.num_eq_zero.mp z)
 rw [← Jk p q hq]
 exact ⟨Bd.num (h1.1.mul h2.2), Bd.den (RT (Nm.den_ne p) hn) (h1.2.mul h2.1)⟩
theorem Ek {α β : Type} {F : α → β → Prop} : ∀ {l₁ : List α} {l₂ : List β} (i : Nat), Paired F l₁ l₂ → Paired F (l₁.drop i) (l₂.drop i)
 | _, _, i, .nil => by rw [List.drop_nil, List.drop_nil]; exact .nil
 | _, _, 0, .cons h t => .cons h t
 | _, _, i + 1, .cons _ t => Ek i t
def BH (ps : List Rat) : List Fv := (QL (ps.length - 1)).map fun k : Nat => (⟨ps.getD 0 0, (k : Int), ps.getD (k + 1) 0⟩ : Fv)
def AL (pss : List (List Rat)) : List Fv := (pss.map BH).flatten
theorem Ba (ps : List Rat) : (BH ps).length = ps.length - 1 := by unfold BH; rw [Rp, SH]
theorem JM (pss : List (List Rat)) (ps : List Rat) : AL (pss ++ [ps]) = AL pss ++ BH ps := by
 unfold AL
 rw [S4, List.flatten_append]
 simp
theorem BP : ∀ pss : List (List Rat), (∀ ps ∈ pss, ps.length ≤ 3) → (AL pss).length ≤ 2 * pss.length
 | [], _ => R3 _
 | p :: r, h => by
   have ih := BP r fun ps hp => h ps (QT _ hp)
   have hp := h p QS
   have e : AL (p :: r) = BH p ++ AL r := rfl
   rw [e, Ro, Ba, S1]
   lia
def P23 (pss : List (List Rat)) : Prop := ∀ ps ∈ pss, ps.length = 2 ∨ ps.length = 3
theorem P23.take {pss : List (List Rat)} (h : P23 pss) (i : Nat) : ∀ ps ∈ pss.take i, ps.length ≤ 3 := fun ps hp => by
 have := h ps (Td hp); lia
theorem Bi {l : List Rat} {i : Nat} (h : i < l.length) : l[i]? = some (l.getD i 0) := by rw [Sb, Si h]; rfl
def cnt (x : Rat) : List Rat → Nat
 | [] => 0
 | y :: r => (if x ≤ y then 1 else 0) + cnt x r
theorem Lu (x : Rat) : ∀ l, cnt x l ≤ l.length
 | [] => R3 _
 | y :: r => by
   have := Lu x r
   show (if x ≤ y then 1 else 0) + cnt x r ≤ r.length + 1
   split <;> lia
theorem KB (x : Rat) : x ≤ x + 1 := by grind
theorem N7 (x : Rat) : ¬ x + 1 ≤ x := by grind
theorem Il (x : Rat) : ∀ l, cnt (x + 1) l ≤ cnt x l
 | [] => R3 _
 | y :: r => by
   have := Il x r
   show (if x + 1 ≤ y then 1 else 0) + cnt (x + 1) r ≤ (if x ≤ y then 1 else 0) + cnt x r
   by_cases h : x + 1 ≤ y
   ·rw [if_pos h, if_pos (Te (KB x) h)]; lia
   ·rw [if_neg h]; lia
theorem J1 {x : Rat} : ∀ {l}, x ∈ l → cnt (x + 1) l < cnt x l
 | y :: r, h => by
   show (if x + 1 ≤ y then 1 else 0) + cnt (x + 1) r < (if x ≤ y then 1 else 0) + cnt x r
   rcases QU.mp h with z | z
   ·subst z
    have := Il x r
    rw [if_neg (N7 x), if_pos Rat.le_refl]; lia
   ·have := J1 z
    by_cases h : x + 1 ≤ y
    ·rw [if_pos h, if_pos (Te (KB x) h)]; lia
    ·rw [if_neg h]; lia
theorem N6 {j : Nat} (h : j ≤ 100) : RB 7 ((j : Nat) : Rat) := ⟨by rw [Rat.num_natCast]; unfold Bd; lia, by rw [Rat.den_natCast]; unfold Bd; decide⟩
inductive Do (K : QO) (n : Nat) (vs : List V) (H : Hp) (Q : VK) (E_3 : XK) : Prop
 | mk (a : Addr) (m : Int) (h1 : vs = [.ref a, .int m]) (h2 : Pen H a) (h3 : 0 ≤ m) (h4 : m ≤ 100) (h5 : ∀ (l : Addr) (H' : Hp) (zs : List V) (qs : List Rat), Mv a H H' → Pen H' a → H l = none → H' l = some (.lst zs) → Ax H' zs qs → (qs.length : Int) = m → qs.Nodup → (∀ q ∈ qs, RB (n + 8) q) → Q (.ref l) H') : Do K n vs H Q E_3
inductive Ey (K : QO) (vs : List V) (H : Hp) (Q : VK) (E_3 : XK) : Prop
 | mk (r : Addr) (xs : List V) (pss : List (List Rat)) (h1 : vs = [.ref r]) (h2 : SqT K H r xs) (h3 : Cm K H xs pss) (h4 : P23 pss) (h5 : pss.length ≤ 100) (h6 : ∀ (p : Addr) (H' : Hp) (ys : List V), Af H H' → H p = none → H' p = some (.lst ys) → Fw K H' ys (AL pss) → Q (.ref p) H') : Ey K vs H Q E_3
inductive D7 (K : QO) (vs : List V) (H : Hp) (Q : VK) (E_3 : XK) : Prop
 | mk (r : Addr) (xs : List V) (pss : List (List Rat)) (h1 : vs = [.ref r]) (h2 : SqT K H r xs) (h3 : Cm K H xs pss) (h4 : P23 pss) (h5 : pss.length ≤ 100) (h6 : ∀ (p : Addr) (H' : Hp) (ys : List V), Af H H' → H p = none → H' p = some (.lst ys) → Ax H' ys ((AL pss).map Fv.x) → Q (.ref p) H') : D7 K vs H Q E_3
def P2 (pss : List (List Rat)) : Prop := ∀ ps ∈ pss, ps.length = 2
theorem P2.p23 {pss : List (List Rat)} (h : P2 pss) : P23 pss := fun ps hp => .inl (h ps hp)
inductive Dm (K : QO) (vs : List V) (H : Hp) (Q : VK) (E_3 : XK) : Prop
 | mk (r : Addr) (xs : List V) (pss : List (List Rat)) (h1 : vs = [.ref r]) (h2 : SqT K H r xs) (h3 : Cm K H xs pss) (h4 : P2 pss) (h5 : pss.length ≤ 100) (h6 : ∀ (d : Addr) (H' : Hp), Af H H' → Q (.ref d) H') : Dm K vs H Q E_3
def CA (pss : List (List Rat)) : List Rat := (pss.map fun ps => Rg (ps.length - 1) (ps.getD 1 0)).flatten
theorem JO (pss : List (List Rat)) (ps : List Rat) : CA (pss ++ [ps]) = CA pss ++ Rg (ps.length - 1) (ps.getD 1 0) := by
 unfold CA
 rw [S4, List.flatten_append]
 simp
theorem Dc : ∀ pss, (CA pss).length = (AL pss).length
 | [] => rfl
 | p :: r => by
   have e : AL (p :: r) = BH p ++ AL r := rfl
   have e2 : CA (p :: r) = Rg (p.length - 1) (p.getD 1 0) ++ CA r := rfl
   rw [e, e2, Ro, Ro, Rq, Ba, Dc r]
inductive Gq (K : QO) (vs : List V) (H : Hp) (Q : VK) (E_3 : XK) : Prop
 | mk (r : Addr) (xs : List V) (pss : List (List Rat)) (h1 : vs = [.ref r]) (h2 : SqT K H r xs) (h3 : Cm K H xs pss) (h4 : P23 pss) (h5 : pss.length ≤ 100) (h6 : ∀ (p : Addr) (H' : Hp) (ys : List V), Af H H' → H p = none → H' p = some (.lst ys) → Ao K H' ys (CA pss) → Q (.ref p) H') : Gq K vs H Q E_3
def kn (pss : List (List Rat)) : List Rat := (AL pss).map Fv.x
theorem Bq (pss : List (List Rat)) : (kn pss).length = (AL pss).length := Rp _
def M0 (pss : List (List Rat)) (x : Rat) : Rat :=
 match pss.find? (fun ps => decide (ps.length = 3) && decide (ps.getD 0 0 = x)) with
 | some ps => ps.getD 2 0
 | none => 0
def CC (A kn : List Rat) (sl : Rat → Rat) (k : Nat) : List Rat :=
 (QL (kn.length - k)).map fun j => if kn.getD (j + k) 0 = kn.getD j 0 then sl (kn.getD j 0) else (A.getD (j + 1) 0 - A.getD j 0) / (kn.getD (j + k) 0 - kn.getD j 0)
theorem CT (A kn : List Rat) (sl : Rat → Rat) (k : Nat) : (CC A kn sl k).length = kn.length - k := by unfold CC; rw [Rp, SH]
theorem Fi {A kn : List Rat} {sl : Rat → Rat} {k j : Nat} (h : j < kn.length - k) : (CC A kn sl k).getD j 0 = if kn.getD (j + k) 0 = kn.getD j 0 then sl (kn.getD j 0) else (A.getD (j + 1) 0 - A.getD j 0) / (kn.getD (j + k) 0 - kn.getD j 0) := by
 unfold CC
 rw [Sb, Rl, SL h]; rfl
theorem Bo {l : List Rat} {i : Nat} (h : i < l.length) : l.getD i 0 ∈ l := Rn (Bi h)
theorem KR {A kn : List Rat} {sl : Rat → Rat} {k m n : Nat} (hA : ∀ q ∈ A, RB m q) (hk : ∀ q ∈ kn, RB n q) (hs : ∀ x, RB (2 * m + 2 * n + 2) (sl x)) (h1 : 1 ≤ k) (hl : A.length + k = kn.length + 1) : ∀ q ∈ CC A kn sl k, RB (2 * m + 2 * n + 2) q := fun q hq => by
 unfold CC at hq
 obtain ⟨j, hj, rfl⟩ := Sv.mp hq
 have hj := QN.mp hj
 split
 ·exact hs _
 ·next hne =>
  have a1 := hA _ (Bo (l := A) (i := j + 1) (by lia))
  have a0 := hA _ (Bo (l := A) (i := j) (by lia))
  have k1 := hk _ (Bo (l := kn) (i := j + k) (by lia))
  have k0 := hk _ (Bo (l := kn) (i := j) (by lia))
  exact (RB.over (a1.minus a0) (k1.minus k0) (fun z => hne (by grind))).mono (by lia)
def tab (pss : List (List Rat)) : Nat → List Rat
 | 0 => CA pss
 | k + 1 => CC (tab pss k) (kn pss) (M0 pss) (k + 1)
theorem CK (pss : List (List Rat)) : ∀ k, k ≤ (AL pss).length → (tab pss k).length = (AL pss).length - k
 | 0, _ => Dc pss
 | k + 1, _ => by rw [tab, CT, Bq]
def bnd (h n : Nat) : Nat → Nat
 | 0 => h
 | k + 1 => 2 * bnd h n k + 2 * n + 2
theorem LA (h n : Nat) : ∀ k, bnd h n k + (2 * n + 2) = 2 ^ k * (h + 2 * n + 2)
 | 0 => by show h + (2 * n + 2) = 1 * _; lia
 | k + 1 => by
   have := LA h n k
   rw [Nat.pow_succ, RF (2 ^ k) 2, Nat.mul_assoc, ← this]
   show 2 * bnd h n k + 2 * n + 2 + _ = _
   lia
theorem Lx {h n k m c : Nat} (hn : h + 2 * n + 2 ≤ c) (hk : k ≤ m) : bnd h n k ≤ 2 ^ m * c := by
 have h1 := LA h n k
 have h2 : 2 ^ k ≤ 2 ^ m := Sk (by decide) hk
 have h3 : 2 ^ k * (h + 2 * n + 2) ≤ 2 ^ m * c := Tf h2 hn
 lia
theorem J2 (h n : Nat) : ∀ k, h ≤ bnd h n k
 | 0 => R3 _
 | k + 1 => by have := J2 h n k; show h ≤ 2 * bnd h n k + 2 * n + 2; lia
theorem Ly (h n k : Nat) : bnd h n k ≤ bnd h n (k + 1) := by show _ ≤ 2 * bnd h n k + 2 * n + 2; lia
theorem Lz (h n : Nat) {j k : Nat} (hjk : j ≤ k) : bnd h n j ≤ bnd h n k := by
 induction hjk with
 | refl => exact R3 _
 | step _ ih => exact QP ih (Ly h n _)
theorem LT {ps : List Rat} : ∀ t ∈ BH ps, t.x = ps.getD 0 0 := fun t ht => by
 unfold BH at ht
 obtain ⟨k, _, rfl⟩ := Sv.mp ht
 rfl
theorem GZ (p : List Rat) (r : List (List Rat)) : kn (p :: r) = Rg (p.length - 1) (p.getD 0 0) ++ kn r := by
 have e : AL (p :: r) = BH p ++ AL r := rfl
 unfold kn
 rw [e, S4]
 congr 1
 refine List.eq_replicate_iff.mpr ⟨by rw [Rp, Ba], fun x hx => ?_⟩
 obtain ⟨t, ht, rfl⟩ := Sv.mp hx
 exact LT t ht
theorem IU : ∀ {pss : List (List Rat)} {x : Rat}, x ∈ kn pss → ∃ ps ∈ pss, ps.getD 0 0 = x
 | p :: r, x, h => by
   rw [GZ] at h
   rcases QV.mp h with z | z
   ·exact ⟨p, QS, (Tg.mp z).2.symm⟩
   ·obtain ⟨ps, h1, h2⟩ := IU z
    exact ⟨ps, QT _ h1, h2⟩
theorem L0 {pss : List (List Rat)} {n : Nat} (hbk : ∀ ps ∈ pss, RB n (ps.getD 0 0)) : ∀ x ∈ kn pss, RB n x := fun x hx => by
 obtain ⟨ps, h1, rfl⟩ := IU hx
 exact hbk ps h1
theorem M6 {pss : List (List Rat)} {n : Nat} (h23 : P23 pss) (hb : ∀ ps ∈ pss, ∀ q ∈ ps, RB n q) : ∀ x ∈ CA pss, RB n x := fun x hx => by
 unfold CA at hx
 obtain ⟨l, hl, hx⟩ := List.mem_flatten.mp hx
 obtain ⟨ps, h1, rfl⟩ := Sv.mp hl
 rw [(Tg.mp hx).2]
 exact hb ps h1 _ (Bo (by have := h23 ps h1; lia))
theorem LZ {pss : List (List Rat)} {n : Nat} (h1 : 1 ≤ n) (hb : ∀ ps ∈ pss, ∀ q ∈ ps, RB n q) (x : Rat) : RB n (M0 pss x) := by
 unfold M0
 split
 ·next ps h =>
  have h2 := List.mem_of_find?_eq_some h
  have h3 := List.find?_some h
  rw [Bool.and_eq_true, decide_eq_true_eq, decide_eq_true_eq] at h3
  exact hb ps h2 _ (Bo (by lia))
 ·exact RB.zero h1
theorem IA {pss : List (List Rat)} {h n : Nat} (h23 : P23 pss) (hn : 1 ≤ h) (hb : ∀ ps ∈ pss, ∀ q ∈ ps, RB h q) (hbk : ∀ ps ∈ pss, RB n (ps.getD 0 0)) : ∀ k, k ≤ (AL pss).length → ∀ q ∈ tab pss k, RB (bnd h n k) q
 | 0, _ => M6 h23 hb
 | k + 1, hk => by
   rw [tab]
   exact KR (IA h23 hn hb hbk k (by lia)) (L0 hbk) (fun x => (LZ hn hb x).mono (QP (J2 h n k) (by lia))) (by lia) (by rw [CK _ _ (by lia), Bq]; lia)
theorem Fm : ∀ {pss : List (List Rat)}, P23 pss → (pss.map fun ps => ps.getD 0 0).Nodup → ∀ {j k : Nat}, 1 ≤ k → j + k < (AL pss).length → (kn pss).getD (j + k) 0 = (kn pss).getD j 0 →
 k = 1 ∧ ∃ ps ∈ pss, ps.length = 3 ∧ ps.getD 0 0 = (kn pss).getD j 0 ∧ ((AL pss).map Fv.n).getD (j + 1) 0 = ps.getD 2 0 ∧ (CA pss).getD (j + 1) 0 = (CA pss).getD j 0
 | p :: r, h23, hnd, j, k, h1, hjk, he => by
   rw [RG, Re] at hnd
   have hout : ∀ i, i < (kn r).length → (kn r).getD i 0 ≠ p.getD 0 0 := fun i hi e => by
    obtain ⟨ps, h1, h2⟩ := IU (Bo hi)
    exact hnd.1 (e ▸ h2 ▸ ST (f := fun ps : List Rat => ps.getD 0 0) h1)
   have et : AL (p :: r) = BH p ++ AL r := rfl
   have er : CA (p :: r) = Rg (p.length - 1) (p.getD 1 0) ++ CA r := rfl
   have ih := @Fm r (fun ps h => h23 ps (QT _ h)) hnd.2
   have hkl := Bq r
   rw [GZ] at he ⊢
   rw [et, Ro, Ba] at hjk
   rcases h23 p QS with hp | hp
   ·have e1 : Rg (p.length - 1) (p.getD 0 0) = [p.getD 0 0] := by rw [hp]; rfl
    have e2 : BH p = [⟨p.getD 0 0, 0, p.getD 1 0⟩] := by unfold BH; rw [hp]; rfl
    have e3 : Rg (p.length - 1) (p.getD 1 0) = [p.getD 1 0] := by rw [hp]; rfl
    rw [e1] at he ⊢
    rw [et, er, e2, e3]
    match j with
    | 0 =>
      obtain ⟨k', rfl⟩ : ∃ k', k = k' + 1 := ⟨k - 1, by lia⟩
      rw [SG] at he
      exact absurd he (hout k' (by lia))
    | j' + 1 =>
      rw [show j' + 1 + k = (j' + k) + 1 by lia] at he
      obtain ⟨z1, ps, z2, z3, z4, z5, z6⟩ := ih (j := j') (k := k) h1 (by lia) he
      exact ⟨z1, ps, QT _ z2, z3, z4, z5, z6⟩
   ·have e1 : Rg (p.length - 1) (p.getD 0 0) = [p.getD 0 0, p.getD 0 0] := by rw [hp]; rfl
    have e2 : BH p = [⟨p.getD 0 0, 0, p.getD 1 0⟩, ⟨p.getD 0 0, 1, p.getD 2 0⟩] := by unfold BH; rw [hp]; rfl
    have e3 : Rg (p.length - 1) (p.getD 1 0) = [p.getD 1 0, p.getD 1 0] := by rw [hp]; rfl
    rw [e1] at he ⊢
    rw [et, er, e2, e3]
    match j with
    | 0 =>
      match k, h1 with
      | 1, _ => exact ⟨rfl, p, QS, hp, rfl, rfl, rfl⟩
      | k' + 2, _ =>
        rw [SG] at he
        exact absurd he (hout k' (by lia))
    | 1 =>
      obtain ⟨k', rfl⟩ : ∃ k', k = k' + 1 := ⟨k - 1, by lia⟩
      rw [show 1 + (k' + 1) = k' + 2 by lia] at he
      exact absurd he (hout k' (by lia))
    | j' + 2 =>
      rw [show j' + 2 + k = (j' + k) + 2 by lia] at he
      obtain ⟨z1, ps, z2, z3, z4, z5, z6⟩ := ih (j := j') (k := k) h1 (by lia) he
      exact ⟨z1, ps, QT _ z2, z3, z4, z5, z6⟩
def FR (K : QO) (H : Hp) (p : Addr) (H' : Hp) (x : V) (rs : List Rat) : Prop := ∃ a zs, x = .ref a ∧ a ≠ p ∧ H a = none ∧ H' a = some (.lst zs) ∧ Ao K H' zs rs
theorem FR.same {K : QO} {H H1 H2 : Hp} {p : Addr} {x : V} {rs : List Rat} (h : FR K H p H1 x rs) (e : Af H1 H2) : FR K H p H2 x rs := let ⟨a, zs, h1, h2, h3, h4, h5⟩ := h; ⟨a, zs, h1, h2, h3, e _ _ h4, Ao.same h5 e⟩
theorem FR.put {K : QO} {H H1 : Hp} {p : Addr} {x : V} {rs : List Rat} {ys : List V} {o : HO} (h : FR K H p H1 x rs) (e : H1 p = some (.lst ys)) : FR K H p (upd H1 p o) x rs := let ⟨a, zs, h1, h2, h3, h4, h5⟩ := h; ⟨a, zs, h1, h2, h3, by rw [Ak h2]; exact h4, Ao.put h5 e⟩
theorem IT {α : Type} (f : Nat → α) (i : Nat) : ((QL (i + 1)).map f)[i]? = some (f i) := by
 rw [Rl, SL (by lia)]; rfl
inductive Ez (K : QO) (vs : List V) (H : Hp) (Q : VK) (E_3 : XK) : Prop
 | mk (r : Addr) (xs : List V) (pss : List (List Rat)) (hh n : Nat) (h1 : vs = [.ref r]) (h2 : SqT K H r xs) (h3 : Cm K H xs pss) (h4 : P2 pss) (h5 : pss.length ≤ 100) (h6 : (pss.map fun ps => ps.getD 0 0).Nodup) (h7 : (AL pss).length ≤ 8) (h8 : (∀ ps ∈ pss, ∀ q ∈ ps, RB hh q)) (h9 : (∀ ps ∈ pss, RB n (ps.getD 0 0))) (h10 : 1 ≤ hh) (h11 : hh + 9 * n + 2 ≤ 8000) (h12 : ∀ (p : Addr) (H' : Hp) (ys : List V), Af H H' → H p = none → H' p = some (.lst ys) → Paired (FR K H p H') ys ((QL (AL pss).length).map (tab pss)) → Q (.ref p) H') : Ez K vs H Q E_3
def BC (pss : List (List Rat)) : List Rat := (QL (AL pss).length).map fun k => (tab pss k).getD 0 0
theorem D6 (pss : List (List Rat)) : (BC pss).length = (AL pss).length := by unfold BC; rw [Rp, SH]
inductive EA (K : QO) (vs : List V) (H : Hp) (Q : VK) (E_3 : XK) : Prop
 | mk (r : Addr) (xs : List V) (pss : List (List Rat)) (hh n : Nat) (h1 : vs = [.ref r]) (h2 : SqT K H r xs) (h3 : Cm K H xs pss) (h4 : P2 pss) (h5 : pss.length ≤ 100) (h6 : (pss.map fun ps => ps.getD 0 0).Nodup) (h7 : (AL pss).length ≤ 8) (h8 : (∀ ps ∈ pss, ∀ q ∈ ps, RB hh q)) (h9 : (∀ ps ∈ pss, RB n (ps.getD 0 0))) (h10 : 1 ≤ hh) (h11 : hh + 9 * n + 2 ≤ 8000) (h12 : ∀ (p : Addr) (H' : Hp) (zs : List V), Af H H' → H p = none → H' p = some (.lst zs) → Ao K H' zs (BC pss) → Q (.ref p) H') : EA K vs H Q E_3
theorem Kt {pss : List (List Rat)} {hh n : Nat} (h23 : P23 pss) (hb : ∀ ps ∈ pss, ∀ q ∈ ps, RB hh q) (hbk : ∀ ps ∈ pss, RB n (ps.getD 0 0)) (h1 : 1 ≤ hh) (h12 : (AL pss).length ≤ 8) : ∀ q ∈ BC pss, RB (bnd hh n 7) q := fun q hq => by
 unfold BC at hq
 obtain ⟨k, hk, rfl⟩ := Sv.mp hq
 have hk := QN.mp hk
 have hl := CK pss k (by lia)
 exact (IA h23 h1 hb hbk k (by lia) _ (Bo (by lia))).mono (Lz hh n (by lia))
inductive Gp (K : QO) (vs : List V) (H : Hp) (Q : VK) (E_3 : XK) : Prop
 | mk (r : Addr) (xs : List V) (pss : List (List Rat)) (hh n : Nat) (h1 : vs = [.ref r]) (h2 : SqT K H r xs) (h3 : Cm K H xs pss) (h4 : P2 pss) (h5 : pss.length ≤ 100) (h6 : (pss.map fun ps => ps.getD 0 0).Nodup) (h7 : (AL pss).length ≤ 8) (h8 : (∀ ps ∈ pss, ∀ q ∈ ps, RB hh q)) (h9 : (∀ ps ∈ pss, RB n (ps.getD 0 0))) (h10 : 1 ≤ hh) (h11 : hh + 9 * n + 2 ≤ 8000) (h12 : ∀ (p : Addr) (H' : Hp) (cs : List Rat), Af H H' → Crv K H' p cs → cs.length ≤ (AL pss).length → Cn cs → (∀ q ∈ cs, RB (26 * bnd hh n 7 + 300) q) → (∀ x, Cv.ev cs x = BL (kn pss) (BC pss) x) → Q (.ref p) H') : Gp K vs H Q E_3
inductive CL (K : QO) (vs : List V) (H : Hp) (Q : VK) (E_3 : XK) : Prop
 | mk (ra rk d : Addr) (as ks : List V) (A kn : List Rat) (sl : Rat → Rat) (k m n : Nat) (h1 : vs = [.ref ra, .ref rk, .ref d, .int (k : Int)]) (h2 : SqL K H ra as) (h3 : Ao K H as A) (h4 : SqL K H rk ks) (h5 : Ax H ks kn) (h6 : (∀ j, j + k < kn.length → kn.getD (j + k) 0 ≠ kn.getD j 0)) (h7 : 1 ≤ k) (h8 : k ≤ kn.length) (h9 : A.length + k = kn.length + 1) (h10 : kn.length ≤ 100) (h11 : (∀ q ∈ A, RB m q)) (h12 : (∀ q ∈ kn, RB n q)) (h13 : m ≤ 2000000) (h14 : n ≤ 1000) (h15 : ∀ (p : Addr) (H' : Hp) (zs : List V), Af H H' → H p = none → H' p = some (.lst zs) → Ao K H' zs (CC A kn sl k) → Q (.ref p) H') : CL K vs H Q E_3
theorem Em (X k s : Rat) : ∀ (ks ss : List Rat), ks.length = ss.length → BL (ks ++ [k]) (ss ++ [s]) X = BL ks ss X + s * L2.prV X ks
 | [], [], _ => by show s + (X - k) * 0 = 0 + s * 1; grind
 | a :: ks, b :: ss, h => by
   have ih := Em X k s ks ss (by simpa using h)
   show b + (X - a) * BL (ks ++ [k]) (ss ++ [s]) X = (b + (X - a) * BL ks ss X) + s * ((X - a) * L2.prV X ks)
   rw [ih]; grind
theorem Fj (T : Nat → Nat → Rat) (x : Nat → Rat) (X : Rat) : ∀ n, BL ((QL n).map x) ((QL n).map fun k => T k 0) X = Cv.ev (L2.nwT T x 0 n) X
 | 0 => rfl
 | n + 1 => by
   rw [Su, S4, S4, L2.Eb, ← Fj T x X n]
   show BL (_ ++ [x n]) (_ ++ [T n 0]) X = _
   rw [Em _ _ _ _ _ (by rw [Rp, Rp])]
   unfold L2.prF
   have e : (QL n).map x = (QL n).map fun i => x (0 + i) := T9 fun i _ => by rw [SG]
   rw [e]
theorem IS (l : List Rat) : l = (QL l.length).map fun i => l.getD i 0 := by
 refine Sc fun i => ?_
 rw [Rl]
 by_cases h : i < l.length
 ·rw [SL h]; exact Bi h
 ·rw [Sr (by lia), Sr (by rw [SH]; lia)]; rfl
def tT (pss : List (List Rat)) (k j : Nat) : Rat := (tab pss k).getD j 0
def xT (pss : List (List Rat)) (j : Nat) : Rat := (kn pss).getD j 0
theorem LS (pss : List (List Rat)) (X : Rat) : BL (kn pss) (BC pss) X = Cv.ev (L2.nwT (tT pss) (xT pss) 0 (AL pss).length) X := by
 rw [← Fj]
 have e := IS (kn pss)
 rw [Bq] at e
 show BL (kn pss) _ X = BL ((QL (AL pss).length).map fun i => (kn pss).getD i 0) _ X
 rw [← e]; rfl
theorem MX {pss : List (List Rat)} (h23 : P23 pss) (hnd : (pss.map fun ps => ps.getD 0 0).Nodup) : L2.LG (tT pss) (xT pss) (AL pss).length := fun k j hj => by
 unfold tT xT
 rw [tab, Fi (by rw [Bq]; lia), show j + (k + 1) = j + k + 1 by lia]
 by_cases he : (kn pss).getD (j + k + 1) 0 = (kn pss).getD j 0
 ·rw [if_pos he, he]
  obtain ⟨hk, ps, _, _, _, _, hr⟩ := Fm h23 hnd (j := j) (k := k + 1) (by lia) (by lia) he
  have hk0 : k = 0 := by lia
  subst hk0
  show _ = (CA pss).getD (j + 1) 0 - (CA pss).getD j 0
  rw [hr]; grind
 ·rw [if_neg he]
  have hd : (kn pss).getD (j + k + 1) 0 - (kn pss).getD j 0 ≠ 0 := fun z => he (by grind)
  exact RS hd
theorem KJ : ∀ {pss : List (List Rat)} {ps : List Rat}, P23 pss → ps ∈ pss → ∃ i, i < (AL pss).length ∧ (kn pss).getD i 0 = ps.getD 0 0 ∧ (CA pss).getD i 0 = ps.getD 1 0 ∧ (ps.length = 3 → i + 1 < (AL pss).length ∧ (kn pss).getD (i + 1) 0 = ps.getD 0 0)
 | p :: r, ps, h23, hm => by
   have et : AL (p :: r) = BH p ++ AL r := rfl
   have er : CA (p :: r) = Rg (p.length - 1) (p.getD 1 0) ++ CA r := rfl
   have hp := h23 p QS
   rw [et, er, GZ, Ro, Ba]
   rcases QU.mp hm with z | z
   ·subst z
    rcases hp with hp | hp
    ·rw [hp]; exact ⟨0, by lia, rfl, rfl, fun z => by lia⟩
    ·rw [hp]; exact ⟨0, by lia, rfl, rfl, fun _ => ⟨by lia, rfl⟩⟩
   ·obtain ⟨i, h1, h2, h3, h4⟩ := KJ (pss := r) (fun q hq => h23 q (QT _ hq)) z
    rcases hp with hp | hp
    ·rw [hp]; exact ⟨i + 1, by lia, h2, h3, fun z => ⟨by have := (h4 z).1; lia, (h4 z).2⟩⟩
    ·rw [hp]; exact ⟨i + 2, by lia, h2, h3, fun z => ⟨by have := (h4 z).1; lia, (h4 z).2⟩⟩
theorem Ko {pss : List (List Rat)} (h2 : P2 pss) (hnd : (pss.map fun ps => ps.getD 0 0).Nodup) {cs : List Rat} (h : ∀ X, Cv.ev cs X = BL (kn pss) (BC pss) X) : ∀ ps ∈ pss, Cv.ev cs (ps.getD 0 0) = ps.getD 1 0 := fun ps hm => by
 have hT := MX h2.p23 hnd
 obtain ⟨i, h1, e2, e3, h4⟩ := KJ h2.p23 hm
 have e := L2.KP hT (AL pss).length 0 i (by lia) h1
 rw [SG] at e
 rw [h, LS, ← e2, ← e3]; exact e
theorem J7 : ∀ {pss : List (List Rat)}, P2 pss → (AL pss).length = pss.length
 | [], _ => rfl
 | p :: r, h => by
   have ih := J7 (pss := r) fun ps hp => h ps (QT _ hp)
   have et : AL (p :: r) = BH p ++ AL r := rfl
   rw [et, Ro, Ba, h p QS, ih, S1]
   lia
theorem IM {pss : List (List Rat)} (h2 : P2 pss) (hnd : (pss.map fun ps => ps.getD 0 0).Nodup) {c d : List Rat} (hc : c.length ≤ (AL pss).length) (hd : d.length ≤ (AL pss).length) (oc : ∀ ps ∈ pss, Cv.ev c (ps.getD 0 0) = ps.getD 1 0) (od : ∀ ps ∈ pss, Cv.ev d (ps.getD 0 0) = ps.getD 1 0) (X : Rat) : Cv.ev c X = Cv.ev d X := by
 rw [J7 h2] at hc hd
 have := L2.Ch (pss.map fun ps => ps.getD 0 0) (l := L2.Be c (d.map (· * -1))) hnd (by rw [L2.Bl, Rp, Rp]; lia) (fun q hq => by
  obtain ⟨ps, hp, rfl⟩ := Sv.mp hq
  rw [L2.BK, Cv.ev_scale, oc ps hp, od ps hp]; grind) X
 rw [L2.BK, Cv.ev_scale] at this
 grind
inductive FT (K : QO) (vs : List V) (H : Hp) (Q : VK) (E_3 : XK) : Prop
 | mk (b : Bool) (r rx : Addr) (xs : List V) (qs : List Rat) (x : Rat) (c n : Nat) (h1 : vs = [.ref r, .ref rx]) (h2 : Sq b K H r xs) (h3 : Ao K H xs qs) (h4 : AA K H (.ref rx) x) (h5 : (∀ q ∈ qs, RB c q)) (h6 : RB n x) (h7 : (c + n * qs.length + 4) * (qs.length + 2) ≤ 90000000) (h8 : ∀ p H', Af H H' → H' p = some (nT (Cv.ev qs x)) → RB ((c + n * qs.length + 4) * (qs.length + 1)) (Cv.ev qs x) → Q (.ref p) H') : FT K vs H Q E_3
def ic (ts : List Int) : List Rat := ts.map fun t : Int => (t : Rat)
theorem AN (ts : List Int) (j : Nat) : (ic ts).getD j 0 = ((ts.getD j 0 : Int) : Rat) := by
 unfold ic
 rw [Sb, Sb, Rl]
 cases ts[j]? with
 | none => rfl
 | some t => rfl
inductive Gx (K : QO) (vs : List V) (H : Hp) (Q : VK) (E_3 : XK) : Prop
 | mk (l rx ry : Addr) (ts : List Int) (x y : Rat) (R m nx ny : Nat) (h1 : vs = [.ref l, .ref rx, .ref ry]) (h2 : SqL K H l (ts.map V.int)) (h3 : ts.length = 2 * R) (h4 : AA K H (.ref rx) x) (h5 : AA K H (.ref ry) y) (h6 : (∀ t ∈ ts, Bd m t)) (h7 : RB nx x) (h8 : RB ny y) (h9 : m + (nx + 1) * (R + 4) + ny ≤ 100000000) (h10 : ∀ (L : Int) (H' : Hp), Af H H' → (L : Rat) = (((y.den : Int) * (x.den : Int) ^ R : Int) : Rat) * (Cv.evI (ts.take R) x - y * Cv.evI (ts.drop R) x) → Bd (m + (nx + 1) * (R + 2) + ny + 1) L → Q (.int L) H') : Gx K vs H Q E_3
def shI (c d : Int) (ts : List Int) : List Int := (QL ts.length).map fun k => d * (if k = 0 then 0 else ts.getD (k - 1) 0) - c * ts.getD k 0
inductive EB (K : QO) (vs : List V) (H : Hp) (Q : VK) (E_3 : XK) : Prop
 | mk (l rx : Addr) (ts : List Int) (x : Rat) (m n : Nat) (h1 : vs = [.ref l, .ref rx]) (h2 : SqL K H l (ts.map V.int)) (h3 : AA K H (.ref rx) x) (h4 : 1 ≤ ts.length) (h5 : ts.length ≤ 100) (h6 : ts.getD (ts.length - 1) 0 = 0) (h7 : (∀ t ∈ ts, Bd m t)) (h8 : RB n x) (h9 : m + n ≤ 100000000) (h10 : ∀ (p : Addr) (H' : Hp), Af H H' → H' p = some (.lst ((shI x.num x.den ts).map V.int)) → (∀ t ∈ shI x.num x.den ts, Bd (m + n + 1) t) → Q (.ref p) H') : EB K vs H Q E_3
inductive J8 (K : QO) (vs : List V) (H : Hp) (Q : VK) (E_3 : XK) : Prop
 | mk (l : Addr) (ts : List Int) (m : Nat) (h1 : vs = [.ref l]) (h2 : SqL K H l (ts.map V.int)) (h3 : (∃ t ∈ ts, t ≠ 0)) (h4 : ts.length ≤ 100) (h5 : (∀ t ∈ ts, Bd m t)) (h6 : ∀ (p : Addr) (H' : Hp) (g : Int) (us : List Int), Af H H' → H' p = some (.lst (us.map V.int)) → g ≠ 0 → us.length = ts.length → (∀ j, g * us.getD j 0 = ts.getD j 0) → (∀ t ∈ us, Bd m t) → Q (.ref p) H') : J8 K vs H Q E_3
theorem Gg {ts : List Int} {j : Nat} (h : j < ts.length) : ts.getD j 0 ∈ ts := by
 rw [Sb, Si h]; exact Sj h
theorem Cr {ts : List Int} {m : Nat} (h : ∀ t ∈ ts, Bd m t) (j : Nat) : Bd m (ts.getD j 0) := by
 rcases T3 j ts.length with z | z
 ·exact h _ (Gg z)
 ·rw [Sb, Sr z]
  show Bd m 0
  unfold Bd
  exact Nat.pow_pos (by decide)
theorem Ny {K : QO} {a b : Addr} {js : List Nat} {xs ys : List V} {te : TE} {σ : St} {H : Hp} {Fin : List V → Hp → Prop} (Pv : Nat → List V → Hp → Prop) (h0 : Pv 0 [] H)
 (hl : ∀ i zs H, i ≤ min xs.length ys.length → Pv i zs H → SqL K H a xs ∧ SqL K H b ys ∧ zs.length = i) (hz : min xs.length ys.length ≤ sizeLine)
 (hs : ∀ i x y T zs H, xs[i]? = some x → ys[i]? = some y → H T = none → Pv i zs H → te (((cS 2 js σ).set 0 (some x)).set 1 (some y)) (upd H T (.tup [x, y])) fun y H4 => Pv (i + 1) (zs ++ [y]) H4) (fin : ∀ zs H', Pv (min xs.length ys.length) zs H' → Fin zs H') :
 ∃ (n' : Nat) (W : Nat → List V → Hp → Prop), W 0 [] H ∧ LcW (Itz K a b xs ys) n' 2 js σ (K8 K 2 (Fq (C9 0) (Fq (C9 1) Mt))) JN te Fin W := by
 refine ⟨min xs.length ys.length, Pv, h0, ⟨?_, ?_, ?_⟩⟩
 ·intro i zs H' hi p
  obtain ⟨h1, h2, h3⟩ := hl i zs H' (QQ hi) p
  exact ⟨⟨h1, h2, hi⟩, by lia⟩
 ·rintro i zs H' x H1 hi p ⟨T, x1, y1, hx, hy, hT, rfl, rfl⟩
  exact ⟨T, _, rfl, SqT.of Aa, rfl, x1, _, rfl, y1, _, rfl, rfl, hs i x1 y1 T zs H' hx hy hT p⟩
 ·intro zs H' p
  obtain ⟨h1, h2, h3⟩ := hl _ zs H' (R3 _) p
  exact ⟨⟨h1, h2, R3 _⟩, by lia, fin zs H' p⟩
def Rpr (K : QO) (H : Hp) (v : V) (r : Int) (ts : List Int) : Prop := ∃ p l, v = .ref p ∧ SqT K H p [.int r, .ref l] ∧ SqL K H l (ts.map V.int)
theorem Rpr.same {K : QO} {H H' : Hp} {v : V} {r : Int} {ts : List Int} (h : Rpr K H v r ts) (e : Af H H') : Rpr K H' v r ts := let ⟨p, l, z, h1, h2⟩ := h; ⟨p, l, z, h1.same e, Af.seq e h2⟩
structure PSt (w v : Int) (n R : Nat) (ps : List (Rat × Rat)) (A S : Nat) (r1 : Int) (ts1 : List Int) (r2 : Int) (ts2 : List Int) : Prop where
 inv : D0 w v n ps r1 r2 (ic (ts1.take R)) (ic (ts1.drop R)) (ic (ts2.take R)) (ic (ts2.drop R))
 l1 : ts1.length = 2 * R
 l2 : ts2.length = 2 * R
 z1 : ∀ j, ps.length + 1 ≤ j → j < R → ts1.getD j 0 = 0 ∧ ts1.getD (R + j) 0 = 0
 z2 : ∀ j, ps.length + 1 ≤ j → j < R → ts2.getD j 0 = 0 ∧ ts2.getD (R + j) 0 = 0
 bd : ∃ a1 a2, (∀ t ∈ ts1, Bd a1 t) ∧ (∀ t ∈ ts2, Bd a2 t) ∧ a1 ≤ A ∧ a2 ≤ A ∧ a1 + a2 ≤ S
inductive Gz (K : QO) (vs : List V) (H : Hp) (Q : VK) (E_3 : XK) : Prop
 | mk (b rx ry : Addr) (v1 v2 : V) (r1 r2 : Int) (ts1 ts2 : List Int) (w v : Int) (n R : Nat) (ps : List (Rat × Rat)) (A S C nx ny : Nat) (x y : Rat) (h1 : vs = [.ref b, .ref rx, .ref ry]) (h2 : SqT K H b [v1, v2]) (h3 : Rpr K H v1 r1 ts1) (h4 : Rpr K H v2 r2 ts2) (h5 : PSt w v n R ps A S r1 ts1 r2 ts2) (h6 : R = n + 1) (h7 : w + v = n + 1) (h8 : AA K H (.ref rx) x) (h9 : AA K H (.ref ry) y) (h10 : RB nx x) (h11 : RB ny y) (h12 : ((ps ++ [(x, y)]).map Prod.fst).Nodup) (h13 : ps.length < n) (h14 : n ≤ 12) (h15 : (nx + 1) * (R + 2) + ny + 2 ≤ C) (h16 : A + 3 * C ≤ 50000000) (h17 : S + 3 * C ≤ 50000000) (h18 : ∀ (b' : Addr) (H' : Hp) (v1' v2' : V) (r1' r2' : Int) (us1 us2 : List Int), Af H H' → SqT K H' b' [v1', v2'] → Rpr K H' v1' r1' us1 → Rpr K H' v2' r2' us2 → PSt w v n R (ps ++ [(x, y)]) (S + C) (A + S + 2 * C) r1' us1 r2' us2 → Q (.ref b') H') : Gz K vs H Q E_3
theorem DM (c d : Int) (ts : List Int) (k : Nat) : (shI c d ts).getD k 0 = if k < ts.length then d * (if k = 0 then 0 else ts.getD (k - 1) 0) - c * ts.getD k 0 else 0 := by
 unfold shI
 rw [Sb, Rl]
 by_cases h : k < ts.length
 ·rw [if_pos h, SL h]; rfl
 ·rw [if_neg h, Sr (by rw [SH]; lia)]; rfl
theorem DC (c d : Int) (ts : List Int) : (shI c d ts).length = ts.length := by unfold shI; rw [Rp, SH]
theorem Bf (ts : List Int) (R j : Nat) : (ts.take R).getD j 0 = if j < R then ts.getD j 0 else 0 := by
 rw [Sb, T2, Sb]
 split <;> rfl
theorem Bg (ts : List Int) (R j : Nat) : (ts.drop R).getD j 0 = ts.getD (R + j) 0 := by
 rw [Sb, Sd, Sb]
theorem CF {ts : List Int} {j : Nat} (h : ts.length ≤ j) : ts.getD j 0 = 0 := by rw [Sb, Sr h]; rfl
theorem EO {c d : Int} {ts : List Int} {R : Nat} (hl : ts.length = 2 * R) (hR : 1 ≤ R) (h1 : ts.getD (R - 1) 0 = 0) : Shf (c : Rat) (d : Rat) (ic (ts.take R)) (ic ((shI c d ts).take R)) := fun j => by
 rw [AN, AN, AN, Bf, Bf, Bf, DM]
 by_cases h : j < R
 ·rw [if_pos h, if_pos (by lia), if_pos h]
  by_cases z : j = 0
  ·rw [if_pos z, if_pos z, RV, RU, RU]; rfl
  ·rw [if_neg z, if_neg z, if_pos (by lia), RV, RU, RU]
 ·rw [if_neg h, if_neg h, if_neg (by lia)]
  by_cases z : j - 1 < R
  ·rw [if_pos z, show j - 1 = R - 1 by lia, h1]
   show (0 : Rat) = (d : Rat) * 0 - (c : Rat) * 0
   grind
  ·rw [if_neg z]
   show (0 : Rat) = (d : Rat) * 0 - (c : Rat) * 0
   grind
theorem EQ {c d : Int} {ts : List Int} {R : Nat} (hl : ts.length = 2 * R) (hR : 1 ≤ R) (h1 : ts.getD (R - 1) 0 = 0) (h2 : ts.getD (R + (R - 1)) 0 = 0) : Shf (c : Rat) (d : Rat) (ic (ts.drop R)) (ic ((shI c d ts).drop R)) := fun j => by
 rw [AN, AN, AN, Bg, Bg, Bg, DM]
 by_cases h : R + j < ts.length
 ·rw [if_pos h, if_neg (by lia)]
  by_cases z : j = 0
  ·subst z
   rw [if_pos rfl, RW, h1, RV, RU, RU]; rfl
  ·rw [if_neg z, show R + j - 1 = R + (j - 1) by lia, RV, RU, RU]
 ·rw [if_neg h, if_neg (by lia), CF (show ts.length ≤ R + j by lia)]
  by_cases z : j - 1 = R - 1
  ·rw [z, h2]
   show (0 : Rat) = (d : Rat) * 0 - (c : Rat) * 0
   grind
  ·rw [CF (show ts.length ≤ R + (j - 1) by lia)]
   show (0 : Rat) = (d : Rat) * 0 - (c : Rat) * 0
   grind
theorem ER {c d : Int} {ts : List Int} {R k : Nat} (z : ∀ j, k + 1 ≤ j → j < R → ts.getD j 0 = 0 ∧ ts.getD (R + j) 0 = 0) : ∀ j, k + 1 + 1 ≤ j → j < R → (shI c d ts).getD j 0 = 0 ∧ (shI c d ts).getD (R + j) 0 = 0 := fun j h1 h2 => by
 have a := z j (by lia) h2
 have b := z (j - 1) (by lia) (by lia)
 constructor
 ·rw [DM]
  by_cases hh : j < ts.length
  ·rw [if_pos hh, if_neg (by lia), a.1, b.1, Tc, Tc]; rfl
  ·rw [if_neg hh]
 ·rw [DM]
  by_cases hh : R + j < ts.length
  ·rw [if_pos hh, if_neg (by lia), a.2, show R + j - 1 = R + (j - 1) by lia, b.2, Tc, Tc]; rfl
  ·rw [if_neg hh]
theorem HU {g a b : Int} {t1 t2 us : List Int} (R : Nat) (h : ∀ j, g * us.getD j 0 = a * t2.getD j 0 - b * t1.getD j 0) : Mix (g : Rat) (a : Rat) (b : Rat) (ic (t1.take R)) (ic (t2.take R)) (ic (us.take R)) := fun j => by
 rw [AN, AN, AN, Bf, Bf, Bf]
 split
 ·rw [← RU, h j, RV, RU, RU]
 ·show (g : Rat) * 0 = (a : Rat) * 0 - (b : Rat) * 0
  grind
theorem HV {g a b : Int} {t1 t2 us : List Int} (R : Nat) (h : ∀ j, g * us.getD j 0 = a * t2.getD j 0 - b * t1.getD j 0) : Mix (g : Rat) (a : Rat) (b : Rat) (ic (t1.drop R)) (ic (t2.drop R)) (ic (us.drop R)) := fun j => by
 rw [AN, AN, AN, Bg, Bg, Bg, ← RU, h (R + j), RV, RU, RU]
theorem HS {g a b : Int} {t1 t2 us : List Int} {j : Nat} (hg : g ≠ 0) (h : ∀ j, g * us.getD j 0 = a * t2.getD j 0 - b * t1.getD j 0) (z1 : t1.getD j 0 = 0) (z2 : t2.getD j 0 = 0) : us.getD j 0 = 0 := by
 have := h j
 rw [z1, z2, Tc, Tc] at this
 rcases Int.mul_eq_zero.mp (show g * us.getD j 0 = 0 from this) with z | z
 ·exact absurd z hg
 ·exact z
theorem DW {L : Int} {s a : Rat} (hs : s ≠ 0) (h : (L : Rat) = s * a) : L = 0 ↔ a = 0 := by
 constructor
 ·intro z
  rw [z] at h
  rcases S6.mp (show s * a = 0 from h.symm) with q | q
  ·exact absurd q hs
  ·exact q
 ·intro z
  rw [z, T0] at h
  exact Rat.intCast_inj.mp (h.trans Th.symm)
theorem LW {a b : Rat} (h : a - b = 0) : a = b := by grind
theorem Ib {L : Int} (h : L ≠ 0) : (L : Rat) ≠ 0 := fun z => h (Rat.intCast_inj.mp (z.trans Th.symm))
def gAS (C : Nat) : Nat → Nat × Nat
 | 0 => (1, 2)
 | k + 1 => ((gAS C k).2 + C, (gAS C k).1 + (gAS C k).2 + 2 * C)
theorem Ha (C : Nat) : ∀ k, (gAS C k).1 ≤ (gAS C k).2
 | 0 => by show 1 ≤ 2; decide
 | k + 1 => by show (gAS C k).2 + C ≤ (gAS C k).1 + (gAS C k).2 + 2 * C; lia
theorem CG (C : Nat) {i : Nat} : ∀ {n}, i ≤ n → (gAS C i).2 ≤ (gAS C n).2
 | 0, h => by rw [Nat.le_zero.mp h]; exact R3 _
 | n + 1, h => by
   rcases T3 i (n + 1) with z | z
   ·have := CG C (i := i) (n := n) (by lia)
    show _ ≤ (gAS C n).1 + (gAS C n).2 + 2 * C
    lia
   ·rw [show i = n + 1 by lia]; exact R3 _
theorem M8 : ∀ k : Nat, (Rg k [V.int 0]).flatten = (Rg k (0 : Int)).map V.int
 | 0 => rfl
 | k + 1 => by rw [Rz, RA, M8 k, Rz]; rfl
theorem Le (ts : List Int) : (ts.map fun t => RM t 1) = ic ts := by
 unfold ic
 refine T9 fun t _ => ?_
 have e := Rat.num_divInt_den ((t : Int) : Rat)
 rw [Ti, Tj] at e
 exact e
def CW (R : Nat) : List Int := 1 :: Rg (2 * R - 1) 0
def Bu (R : Nat) : List Int := Rg R 0 ++ [1] ++ Rg (R - 1) 0
theorem Lk (k j : Nat) : (Rg k (0 : Int)).getD j 0 = 0 := by
 rw [Sb, Rj]
 split <;> rfl
theorem Cj (R j : Nat) : (CW R).getD j 0 = if j = 0 then 1 else 0 := by
 cases j with
 | zero => rfl
 | succ j => rw [if_neg (by lia)]; exact Lk _ j
theorem BY (R j : Nat) : (Bu R).getD j 0 = if j = R then 1 else 0 := by
 unfold Bu
 rw [RC, Sb]
 rcases T3 j R with z | z
 ·rw [Rk (by rw [Rq]; exact z), if_neg (by lia), Rj, if_pos z]; rfl
 ·rw [Ri (by rw [Rq]; exact z), Rq]
  by_cases e : j = R
  ·rw [if_pos e, show j - R = 0 by lia]; rfl
  ·rw [if_neg e]
   obtain ⟨k, hk⟩ : ∃ k, j - R = k + 1 := ⟨j - R - 1, by lia⟩
   rw [hk, List.singleton_append, S2, Rj]
   split <;> rfl
theorem OK {W n : Nat} (hW : 1 ≤ W) (hWn : W ≤ n) : PUn (W : Int) ((n : Int) + 1 - W) n [] (2 * (1 - (W : Int))) (2 * (1 - ((n : Int) + 1 - W)) + 1) (ic ((CW (n + 1)).take (n + 1))) (ic ((CW (n + 1)).drop (n + 1))) (ic ((Bu (n + 1)).take (n + 1))) (ic ((Bu (n + 1)).drop (n + 1))) := by
 refine ⟨⟨fun j hj => ?_, fun j hj => ?_⟩, .inl ⟨0, by lia, ?_⟩, ⟨fun j hj => ?_, fun j hj => ?_⟩, .inr ⟨0, by lia, ?_⟩, by rw [Ss]; lia, (fun _ h => nomatch h), fun _ h => nomatch h⟩
 ·rw [AN, Bf, Cj, if_neg (show ¬ j = 0 by lia)]
  split <;> rfl
 ·rw [AN, Bg, Cj, if_neg (by lia)]; rfl
 ·rw [AN, Bf, Cj, if_pos (by lia), if_pos rfl]; decide
 ·rw [AN, Bf, BY]
  split
  ·rw [if_neg (by lia)]; rfl
  ·rfl
 ·rw [AN, Bg, BY, if_neg (by lia)]; rfl
 ·rw [AN, Bg, BY, if_pos (by lia)]; decide
theorem Ie (R : Nat) : ∀ t ∈ CW R, Bd 1 t := fun t ht => by
 rcases QU.mp ht with z | z
 ·rw [z]; unfold Bd; decide
 ·rw [Tk z]; unfold Bd; decide
theorem FW (R : Nat) : ∀ t ∈ Bu R, Bd 1 t := fun t ht => by
 rcases QV.mp ht with z | z
 ·rcases QV.mp z with z | z
  ·rw [Tk z]; unfold Bd; decide
  ·rw [Sh.mp z]; unfold Bd; decide
 ·rw [Tk z]; unfold Bd; decide
theorem DX (n : Nat) : (CW (n + 1)).length = 2 * (n + 1) := by unfold CW; rw [S1, Rq]; lia
theorem Dw (n : Nat) : (Bu (n + 1)).length = 2 * (n + 1) := by unfold Bu; rw [Ro, Ro, Rq, Rq, RD]; lia
theorem Fr (n : Nat) : ∀ j, 0 + 1 ≤ j → j < n + 1 → (CW (n + 1)).getD j 0 = 0 ∧ (CW (n + 1)).getD (n + 1 + j) 0 = 0 := fun j h _ => ⟨by rw [Cj, if_neg (by lia)], by rw [Cj, if_neg (by lia)]⟩
theorem Ei (n : Nat) : ∀ j, 0 + 1 ≤ j → j < n + 1 → (Bu (n + 1)).getD j 0 = 0 ∧ (Bu (n + 1)).getD (n + 1 + j) 0 = 0 := fun j h _ => ⟨by rw [BY, if_neg (by lia)], by rw [BY, if_neg (by lia)]⟩
inductive Gu (K : QO) (vs : List V) (H : Hp) (Q : VK) (E_3 : XK) : Prop
 | mk (lp lh : Addr) (zs ys : List V) (qs hs : List Rat) (W n nx ny C : Nat) (h1 : vs = [.ref lp, .ref lh, .int (W : Int)]) (h2 : SqL K H lp zs) (h3 : Ao K H zs qs) (h4 : SqL K H lh ys) (h5 : Ao K H ys hs) (h6 : qs.length = n) (h7 : hs.length = n) (h8 : 1 ≤ n) (h9 : n ≤ 12) (h10 : qs.Nodup) (h11 : 1 ≤ W) (h12 : W ≤ n) (h13 : (∀ c ∈ qs, RB nx c)) (h14 : (∀ c ∈ hs, RB ny c)) (h15 : (nx + 1) * (n + 3) + ny + 2 ≤ C) (h16 : (gAS C n).2 + 3 * C ≤ 50000000) (h17 : ∀ (t pN pD : Addr) (H' : Hp) (r1 r2 : Int) (N D N2 D2 : List Rat), Af H H' → SqT K H' t [.ref pN, .ref pD] → Crv K H' pN (Cv.strip N) → Crv K H' pD (Cv.strip D) → (∀ c ∈ N, Bd ((gAS C n).2 + 1) c.num ∧ Bd 1 (c.den : Int)) → (∀ c ∈ D, Bd ((gAS C n).2 + 1) c.num ∧ Bd 1 (c.den : Int)) → D0 (W : Int) ((n : Int) + 1 - W) n (qs.zip hs) r1 r2 N D N2 D2 → Q (.ref t) H') : Gu K vs H Q E_3
theorem Js {ts : List Int} {m k : Nat} (h : ∀ t ∈ ts, Bd m t) (hk : m ≤ k) : ∀ c ∈ ic ts, Bd k c.num ∧ Bd 1 (c.den : Int) := fun c hc => by
 obtain ⟨t, ht, rfl⟩ := Sv.mp hc
 exact ⟨by rw [Ti]; exact (h t ht).mono hk, by rw [Tj]; unfold Bd; decide⟩
def EU : Str := "rising.<locals>.<lambda>"
def Ee (B : Int) (q : Rat) : Int := q.num * B.fdiv (q.den : Int)
theorem Jq {B : Int} {q : Rat} (hd : (q.den : Int) ∣ B) : ((Ee B q : Int) : Rat) = q * (B : Rat) := by
 unfold Ee
 have hp : (0 : Int) ≤ (q.den : Int) := by lia
 rw [Tl _ hp, RU, Nm.num_mul q]
 have e : (q.den : Int) * (B / (q.den : Int)) = B := Int.mul_ediv_cancel' hd
 have e2 : ((q.den : Int) : Rat) * ((B / (q.den : Int) : Int) : Rat) = (B : Rat) := by rw [← RU, e]
 grind
theorem Mp {B : Int} (hB : 0 < B) {p q : Rat} (hp : (p.den : Int) ∣ B) (hq : (q.den : Int) ∣ B) (h : Ee B p ≤ Ee B q) : p ≤ q := by
 have h' : ((Ee B p : Int) : Rat) ≤ ((Ee B q : Int) : Rat) := Rat.intCast_le_intCast.mpr h
 rw [Jq hp, Jq hq] at h'
 have hB' : (0 : Rat) < (B : Rat) := by
  have := Rat.intCast_lt_intCast.mpr hB
  rw [Th] at this
  exact this
 by_cases z : p ≤ q
 ·exact z
 ·exfalso
  have z' : q < p := Rat.not_le.mp z
  have := Rat.mul_lt_mul_of_pos_right z' hB'
  grind
theorem Ky {K : QO} {Pt : Addr} {q : Str} {H H' : Hp} {r : Addr} {xs : List V} (h : SqL K H r xs) (c : Ck Pt q H) (m : Bx Pt H H') : SqL K H' r xs := by
 obtain ⟨ps, e, _⟩ := c
 have ne : ∀ {b : Addr} {o : HO}, H b = some o → (∀ p, o ≠ .tbl p) → b ≠ Pt := fun z n y => by rw [y, e] at z; exact n _ (QF.inj z).symm
 rcases h with (h | ⟨o, h⟩) | h
 ·exact .inl (.inl (m _ _ (ne h fun p z => by cases z) h))
 ·exact .inl (.inr ⟨o, m _ _ (ne h fun p z => by cases z) h⟩)
 ·exact .inr h
theorem HE {α β : Type} {F : α → β → Prop} {l : List α} {l' : List β} (h : Paired F l l') : Paired (fun b a => F a b) l' l := by
 induction h with
 | nil => exact .nil
 | cons h _ ih => exact .cons h ih
theorem Ll {Pt : Addr} {q : Str} {H H' : Hp} {p : Addr} (c : Ck Pt q H') (m : Bx Pt H H') (h : H' p = none) : H p = none := by
 cases e : H p with
 | none => rfl
 | some o =>
   exfalso
   by_cases z : p = Pt
   ·obtain ⟨ps, e2, _⟩ := c
    rw [z, e2] at h; cases h
   ·rw [m p o z e] at h; cases h
theorem KA {K : QO} {H : Hp} {B : Int} {xs : List V} {qs : List Rat} (h : Ao K H xs qs) : Paired (fun (z : Int × V) (c : Rat) => z.1 = Ee B c ∧ AA K H z.2 c) ((qs.map (Ee B)).zip xs) qs := by
 induction h with
 | nil => exact .nil
 | cons h _ ih => exact .cons ⟨rfl, h⟩ ih
theorem JP {K : QO} {H : Hp} {B : Int} {zs : List (Int × V)} {rs : List Rat} (h : Paired (fun (c : Rat) (z : Int × V) => z.1 = Ee B c ∧ AA K H z.2 c) rs zs) : rs.map (Ee B) = zs.map Prod.fst ∧ Ao K H (zs.map Prod.snd) rs := by
 induction h with
 | nil => exact ⟨rfl, .nil⟩
 | cons h _ ih => exact ⟨by rw [RG, RG, ih.1, h.1], .cons h.2 ih.2⟩
inductive Gr (K : QO) (Pt : Addr) (vs : List V) (H : Hp) (Q : VK) (E_3 : XK) : Prop
 | mk (l : Addr) (xs : List V) (qs : List Rat) (n : Nat) (h1 : vs = [.ref l]) (h2 : SqL K H l xs) (h3 : Ao K H xs qs) (h4 : (∀ q ∈ qs, RB n q)) (h5 : n ≤ 1000000) (h6 : qs.length ≤ 20) (h7 : Ck Pt EU H) (h8 : ∀ (p : Addr) (H' : Hp) (ys : List V) (rs : List Rat), Bx Pt H H' → Ck Pt EU H' → H p = none → H' p = some (.lst ys) → Ao K H' ys rs → rs.Perm qs → rs.Pairwise (· ≤ ·) → Q (.ref p) H') : Gr K Pt vs H Q E_3
inductive Dp (K : QO) (vs : List V) (H : Hp) (Q : VK) (E_3 : XK) : Prop
 | mk (r rx : Addr) (qs : List Rat) (x : Rat) (g d m : Nat) (h1 : vs = [.ref r, .ref rx]) (h2 : Crv K H r qs) (h3 : AA K H (.ref rx) x) (h4 : (∀ q ∈ qs, Bd g q.num ∧ Bd d (q.den : Int))) (h5 : RB m x) (h6 : g + d * (qs.length + 2) + (m + 1) * (qs.length + 4) ≤ 50000000) (h7 : qs.length ≤ 1000) (h8 : ∀ p H', Af H H' → H' p = some (nT (Cv.ev qs x)) → RB (g + d * (qs.length + 2) + (m + 1) * (qs.length + 4)) (Cv.ev qs x) → Q (.ref p) H') : Dp K vs H Q E_3
inductive DJ (K : QO) (vs : List V) (H : Hp) (Q : VK) (E_3 : XK) : Prop
 | mk (l : Addr) (ys : List V) (qs : List Rat) (h1 : vs = [.ref l]) (h2 : SqL K H l ys) (h3 : Ax H ys qs) (h4 : qs.Nodup) (h5 : qs.length ≤ 17) (h6 : ∀ H', Af H H' → Q (.bl true) H') : DJ K vs H Q E_3
inductive ED (K : QO) (vs : List V) (H : Hp) (Q : VK) (E_3 : XK) : Prop
 | mk (l : Addr) (few : Int) (ys : List V) (qs : List Rat) (h1 : vs = [.ref l, .int few]) (h2 : SqL K H l ys) (h3 : Ax H ys qs) (h4 : qs.Nodup) (h5 : qs.length ≤ 12) (h6 : few ≤ qs.length) (h7 : ∀ H', Af H H' → Q .non H') : ED K vs H Q E_3
section
variable {X : Cx}
inductive Ja (x : V) (vs : List V) (H : Hp) (Q : VK) : Prop
 | mk (l : _) (xs : _) (i : _) (k : _) (y : _) (h1 : x = .ref l) (h2 : vs = [.int i, y]) (h3 : i = ((k : Nat) : Int)) (h4 : H l = some (.lst xs)) (h5 : k ≤ xs.length) (h6 : xs.length ≤ 1000) (h7 : Q .non (upd H l (.lst (xs.take k ++ y :: xs.drop k)))) : Ja x vs H Q
theorem Ld {i : Int} {k : Nat} (e : i = (k : Int)) (h : k ≤ 1000) : ¬ (!Builtin.List.listFitsIndex i) = true := by
 have e : Builtin.List.listFitsIndex i = true := by
  unfold Builtin.List.listFitsIndex
  rw [decide_eq_true (by lia), decide_eq_true (by lia)]; rfl
 rw [e]; decide
theorem NM (l : List Value) (i : Int) (k : Nat) (hi : i = (k : Int)) (hk : k ≤ l.length) (y : Value) : (fun xs : Array Value => have k := if i < 0 then (i + (xs.size : Int)).toNat else min i.toNat xs.size; (xs.extract 0 k).push y ++ xs.extract k) l.toArray = (l.take k ++ y :: l.drop k).toArray := by
 have e : (if i < 0 then (i + (l.toArray.size : Int)).toNat else min i.toNat l.toArray.size) = k := by
  rw [if_neg (by lia), Rx, hi, Rt, Ru hk]
 show (l.toArray.extract 0 _).push y ++ l.toArray.extract _ = _
 rw [e]
 apply Array.toList_inj.mp
 simp
 exact Sy (by simp)
theorem JX : MtM X "list.insert" Ja := by
 intro pins s σ H x vs v us Q I rx rv h
 obtain ⟨l, xs, i, k, y, rfl, rfl, hi, hH, hk, hz, q⟩ := h
 cases rx
 obtain ⟨u, v', rfl, ru, rv'⟩ := rv.two
 obtain ⟨t, rfl⟩ := ru
 obtain ⟨z, its, n, r, hl, e⟩ := I.lstM hH
 have hk1 : k ≤ 1000 := by lia
 have hsz : its.toArray.size ≤ sizeLine := by rw [Rx, ← hl]; exact z
 have M := AutoSeq1.list_insert_list_int_val_1 l its.toArray n i t v' (Ld hi hk1) hsz
 refine call_meets F.slot_list_insert ⟨_, e, rfl⟩ F.entry_list_insert (F.args_list_insert_3 _ _ _) M ⟨e, ?_⟩
 refine ⟨.non, _, I.lset (its' := its.take k ++ v' :: its.drop k) hH e (NM its i k hi (by lia) v') ((r.take k).append (.cons rv' (r.drop k))) ?_, rfl, q⟩
 have hs : 1000 < sizeLine := AU (R3 _)
 rw [Ro, S1, Rh, Rw]
 lia
end
inductive EN (K : QO) (Pt : Addr) (vs : List V) (H : Hp) (Q : VK) (E_3 : XK) : Prop
 | mk (a : Addr) (ns : List Int) (h1 : vs = [.ref a]) (h2 : SqL K H a (ns.map V.int)) (h3 : ns.length ≤ 63) (h4 : H Pt = some (.tbl #[])) (h5 : ∀ H', Q (.bl true) H') : EN K Pt vs H Q E_3
theorem D3 {Pt p : Addr} {ps : Array Value} {H H' : Hp} (e : H Pt = some (.tbl ps)) (pn : Pen H p) (m : Mv p H H') : H' Pt = some (.tbl ps) := m _ _ (pn.ne e fun _ _ _ z => by cases z) e
theorem NT {Pt : Addr} {q : Str} {H : Hp} (e : H Pt = some (.tbl #[])) : Ck Pt q H := ⟨#[], e, trivial, fun pos cv z => by cases z⟩
theorem JU {Pt : Addr} {q : Str} {H H' : Hp} {xs : List V} {qs : List Rat} (h : Ax H xs qs) (c : Ck Pt q H) (m : Bx Pt H H') : Ax H' xs qs := Paired.mapP h fun _ _ ⟨r, e, z⟩ => ⟨r, e, m _ _ (fun y => by
 obtain ⟨ps, e2, _⟩ := c
 rw [y, e2] at z; cases z) z⟩
theorem GV (k : Int) : nT ((k : Int) : Rat) = .tup [.int k, .int 1] := by
 unfold nT
 rw [Ti, Tj]
 rfl
theorem Jt {a b : Int} (h : ((a : Int) : Rat) = ((b : Int) : Rat)) : a = b := by
 have := congrArg Rat.num h
 rw [Ti, Ti] at this
 exact this
theorem Ig {U qs : List Rat} (gU : Cn U) (hU : U ≠ []) (hn : qs.Nodup) : (qs.filter fun x => decide (Cv.ev U x = 0)).length + 1 ≤ U.length := by
 rcases T3 (qs.filter fun x => decide (Cv.ev U x = 0)).length U.length with z | z
 ·exact z
 ·exfalso
  have := Ch (qs.filter fun x => decide (Cv.ev U x = 0)) (l := U) (hn.filter _) z fun q hq => by simpa using (QM.mp hq).2
  exact hU (Fp gU (.inl rfl) fun x => this x)
theorem DY (f : Rat → Bool) : ∀ qs : List Rat, (qs.filter f).length + (qs.filter fun x => !f x).length = qs.length
 | [] => rfl
 | q :: r => by
   have ih := DY f r
   cases h : f q with
   | true => rw [Tm h, Tn (by rw [h]; decide), S1, S1]; lia
   | false => rw [Tn (by rw [h]; decide), Tm (by rw [h]; rfl), S1, S1]; lia
theorem Mc {Pt p : Addr} {q : Str} {H H' : Hp} (pn : Pen H p) (c : Ck Pt q H) (m : Bx Pt H H') : Pen H' p := by
 obtain ⟨ps, e, _⟩ := c
 obtain ⟨c0, c1, k, z⟩ := pn
 exact ⟨c0, c1, k, m _ _ (fun y => by rw [y, e] at z; cases z) z⟩
theorem Du {Pt l : Addr} {q : Str} {H H' : Hp} {zs : List V} (e : H l = some (.lst zs)) (c : Ck Pt q H) (m : Bx Pt H H') : H' l = some (.lst zs) := by
 obtain ⟨ps, e2, _⟩ := c
 exact m _ _ (fun y => by rw [y, e2] at e; cases e) e
theorem Jx {L : List Rat} {j : Nat} (h : L.length ≤ j) : L.getD j 0 = 0 := by rw [Sb, Sr h]; rfl
theorem IC {l : List Rat} (h : Cn l) : Cv.strip l = l := by
 have e := Cv.take_strip l l.length (fun j q hj e => absurd (QX.mp e).1 (by lia)) (by
  rcases h with h | h
  ·left; rw [h]; rfl
  ·right; exact h)
 rw [To] at e
 exact e.symm
theorem Li (os : List Rat) : Cn (prL os) := by
 right
 refine ⟨1, ?_, by decide⟩
 have hl := CS os
 have := HC os
 rw [Sb, Si (by lia)] at this
 rw [show (prL os).length - 1 = os.length by lia, Si (by lia)]
 exact congrArg some this
theorem IW {l : List Rat} {w : Rat} (hg : Cn l) (hw : w ≠ 0) : Cn (l.map (· * w)) := by
 rcases hg with h | ⟨q, h1, h2⟩
 ·left; rw [h]; rfl
 ·right
  refine ⟨q * w, by rw [Rp, Rl, h1]; rfl, fun z => ?_⟩
  rcases S6.mp z with z | z
  ·exact h2 z
  ·exact hw z
theorem Ks {L : List Rat} {a : Nat} (h : ∀ j, a ≤ j → L.getD j 0 = 0) : (Cv.strip L).length ≤ a := by
 rcases T3 a (Cv.strip L).length with z | z
 ·exfalso
  have hne : Cv.strip L ≠ [] := fun e => by rw [e] at z; cases z
  have hl := Cv.strip_last L hne
  have hc := Ik (l := Cv.strip L) (m := L) (fun k => Cv.ev_strip _ L) ((Cv.strip L).length - 1)
  rw [h _ (by lia), Sb, Si (by lia)] at hc
  exact hl (by rw [Si (by lia)]; exact congrArg some hc)
 ·exact z
inductive DL (K : QO) (vs : List V) (H : Hp) (Q : VK) (E_3 : XK) : Prop
 | mk (lp lh : Addr) (zs ys : List V) (qs : List Rat) (h1 : vs = [.ref lp, .ref lh]) (h2 : SqL K H lp zs) (h3 : Ax H zs qs) (h4 : qs.Nodup) (h5 : 1 ≤ qs.length) (h6 : qs.length ≤ 12) (h7 : SqL K H lh ys) (h8 : ys.length = zs.length) (h9 : ∀ H', Af H H' → Q .non H') : DL K vs H Q E_3
theorem LL {n : Nat} {qs hs : List Rat} (hql : qs.length = n) (hhl : hs.length = n) {i : Nat} (h : i < n) : (qs[i]'(by lia), hs[i]'(by lia)) ∈ qs.zip hs := by
 have : (qs.zip hs)[i]'(by rw [T6]; lia) = (qs[i]'(by lia), hs[i]'(by lia)) := List.getElem_zip ..
 rw [← this]; exact Sj _
theorem Fs (x : Rat) : ∀ rs : List Rat, rs.Pairwise (· ≤ ·) → (∀ y ∈ rs.take (rs.filter fun y => decide (y < x)).length, y < x) ∧ ∀ y ∈ rs.drop (rs.filter fun y => decide (y < x)).length, x ≤ y
 | [], _ => ⟨(fun _ h => nomatch h), (fun _ h => nomatch h)⟩
 | a :: r, h => by
   have hp := List.pairwise_cons.mp h
   by_cases z : a < x
   ·have ih := Fs x r hp.2
    rw [Tm (p := fun y => decide (y < x)) (by exact decide_eq_true z), S1, List.take_succ_cons, List.drop_succ_cons]
    refine ⟨fun y hy => ?_, ih.2⟩
    rcases QU.mp hy with w | w
    ·rw [w]; exact z
    ·exact ih.1 y w
   ·have hx : x ≤ a := Rat.not_lt.mp z
    have e : (a :: r).filter (fun y => decide (y < x)) = [] := by
     rw [List.filter_eq_nil_iff]
     intro y hy w
     have hay : a ≤ y := by
      rcases QU.mp hy with v | v
      ·rw [v]; exact Rat.le_refl
      ·exact hp.1 y v
     exact Rat.not_lt.mpr (Te hx hay) (of_decide_eq_true w)
    rw [e]
    refine ⟨(fun _ h => nomatch h), fun y hy => ?_⟩
    rcases QU.mp hy with v | v
    ·rw [v]; exact hx
    ·exact Te hx (hp.1 y v)
theorem IV {x : Rat} {rs : List Rat} {k : Nat} (h : rs.Pairwise (· ≤ ·)) (hk : k = (rs.filter fun y => decide (y < x)).length) : (rs.take k ++ x :: rs.drop k).Pairwise (· ≤ ·) := by
 subst hk
 obtain ⟨c1, c2⟩ := Fs x rs h
 refine List.pairwise_append.mpr ⟨h.take, List.pairwise_cons.mpr ⟨c2, h.drop⟩, fun a ha b hb => ?_⟩
 have h1 := c1 a ha
 rcases QU.mp hb with z | z
 ·rw [z]; exact Rat.le_of_lt h1
 ·exact Te (Rat.le_of_lt h1) (c2 b z)
theorem Lc {x : Rat} {rs : List Rat} {k : Nat} : (rs.take k ++ x :: rs.drop k).Perm (x :: rs) := by
 have := List.perm_middle (a := x) (l₁ := rs.take k) (l₂ := rs.drop k)
 rwa [List.take_append_drop] at this
theorem M7 {l m : List Rat} (h1 : l.Pairwise (· ≤ ·)) (h2 : m.Pairwise (· ≤ ·)) (h : l.Perm m) : l = m := List.Perm.eq_of_pairwise (fun _ _ _ _ a b => Rat.le_antisymm a b) h1 h2 h
theorem KQ {x y : Rat} : decide ((y - x).num < 0) = decide (y < x) := by
 by_cases z : y < x
 ·rw [decide_eq_true z, decide_eq_true]
  rcases Int.lt_or_le (y - x).num 0 with w | w
  ·exact w
  ·have h := Rat.num_nonneg.mp w
   exfalso
   have h2 := (Rat.lt_iff_sub_pos _ _).mp z
   have : (0 : Rat) < 0 := by
    have e : x - y = -(y - x) := by grind
    grind
   exact absurd this (Rat.lt_irrefl)
 ·rw [decide_eq_false z, decide_eq_false]
  intro w
  have h := Rat.not_lt.mp z
  have : 0 ≤ y - x := by grind
  have := Rat.num_nonneg.mpr this
  lia
theorem Ma {K : QO} {H : Hp} {us zs ys : List V} {qs hs : List Rat} (hp : Paired (MB H) us (zs.zip ys)) (hz : Ax H zs qs) (hy : Ao K H ys hs) : Cm K H us ((qs.zip hs).map fun p => [p.1, p.2]) := by
 have l1 := hp.length
 have l2 := hz.length
 have l3 := hy.length
 refine Ds (by rw [l1, Rp, T6, T6, l2, l3]) fun j v ps hv hps => ?_
 obtain ⟨pr, hpr, tt, rfl, ht⟩ := Paired.get hp hv
 obtain ⟨hz1, hy1⟩ := T8.mp hpr
 obtain ⟨x, hx, rx, er, hrx⟩ := Paired.get hz hz1
 obtain ⟨y, hy2, hny⟩ := Paired.get hy hy1
 rw [Rl, (T8 (z := (x, y))).mpr ⟨hx, hy2⟩] at hps
 cases hps
 exact ⟨tt, _, rx, rfl, SqT.of ht, .cons ⟨rx, er, SqT.of hrx⟩ (.cons hny .nil), by rw [er]; rfl, hrx⟩
theorem Kp : ∀ l : List (Rat × Rat), (AL (l.map fun p => [p.1, p.2])).length = l.length
 | [] => rfl
 | a :: r => by
   have := Kp r
   show ((BH [a.1, a.2]) ++ AL (r.map fun p => [p.1, p.2])).length = r.length + 1
   rw [Ro, this]
   show 1 + r.length = _
   lia
theorem atV {xs : List V} {i : Nat} {x : V} {k : Int} (h : xs[i]? = some x) (e : k = (i : Int)) : atI xs k = some x := by subst e; exact AT h
def bad (c : List Rat) (p : Rat × Rat) : Bool := !decide (Cv.ev c p.1 = p.2)
def AY (qs hs c : List Rat) : List Rat := ((qs.zip hs).filter (bad c)).map Prod.fst
theorem JF (c : List Rat) (v : Rat) : ∀ (qs hs : List Rat) (s : Nat), ((qs.zip (hs.set s v)).filter (bad c)).length ≤ ((qs.zip hs).filter (bad c)).length + 1
 | [], _, _ => R5 _
 | q :: qs, [], s => by rw [List.set_nil]; exact Sf _
 | q :: qs, h :: hs, 0 => by
   show (((q, v) :: qs.zip hs).filter (bad c)).length ≤ (((q, h) :: qs.zip hs).filter (bad c)).length + 1
   rw [Tp, Tp]
   split <;> split <;> (try simp only [S1]) <;> lia
 | q :: qs, h :: hs, s + 1 => by
   have ih := JF c v qs hs s
   show (((q, h) :: qs.zip (hs.set s v)).filter (bad c)).length ≤ (((q, h) :: qs.zip hs).filter (bad c)).length + 1
   rw [Tp, Tp]
   split <;> (try simp only [S1]) <;> lia
theorem Fu (c : List Rat) : ∀ qs : List Rat, (qs.zip (qs.map fun x => Cv.ev c x)).filter (bad c) = []
 | [] => rfl
 | q :: qs => by
   have ih := Fu c qs
   show ((q, Cv.ev c q) :: qs.zip (qs.map fun x => Cv.ev c x)).filter (bad c) = []
   rw [Tn (by unfold bad; rw [decide_eq_true rfl]; decide)]
   exact ih
theorem DU {qs hs c : List Rat} : (AY qs hs c).length = ((qs.zip hs).filter (bad c)).length := by unfold AY; rw [Rp]
theorem JZ {qs hs c : List Rat} (i : Nat) : (AY (qs.take i) (hs.take i) c).length ≤ (AY qs hs c).length := by
 rw [DU, DU]
 have e : (qs.take i).zip (hs.take i) = (qs.zip hs).take i := (List.take_zipWith (f := Prod.mk)).symm
 rw [e]
 exact ((Rm i _).filter _).length_le
theorem Nd {x : Rat} {S : List Rat} (h : x ∈ S) : prV x S = 0 := by
 induction S with
 | nil => cases h
 | cons a r ih =>
   show (x - a) * prV x r = 0
   rcases QU.mp h with z | z
   ·rw [z, Rat.sub_self, T1]
   ·rw [ih z, T0]
theorem La {W e m : Nat} {qs hs c N D N2 D2 : List Rat} {r1 r2 : Int} (hm : m = 2 * e + W) (hql : qs.length = m) (hhl : hs.length = m) (hnd : qs.Nodup) (hW : 1 ≤ W) (gc : Cn c) (lc : c.length ≤ W) (hbad : (AY qs hs c).length ≤ e)
 (I : D0 ((e + W : Nat) : Int) ((m : Int) + 1 - ((e + W : Nat) : Int)) m (qs.zip hs) r1 r2 N D N2 D2) : ∀ x, Cv.ev N x = Cv.ev c x * Cv.ev D x := fun x => by
 have hzl : (qs.zip hs).length = m := by rw [T6]; lia
 have hr1 := I.fin hzl
 have hPl := CS (AY qs hs c)
 have hPn : prL (AY qs hs c) ≠ [] := fun z => by rw [z] at hPl; cases hPl
 obtain ⟨A, hA, eA⟩ : ∃ A : List Rat, A.length ≤ e + W ∧ ∀ x, Cv.ev A x = Cv.ev c x * prV x (AY qs hs c) := by
  by_cases z : c = []
  ·exact ⟨[], R5 _, fun x => by rw [z]; show (0 : Rat) = 0 * _; rw [T1]⟩
  ·have lz := RZ.mpr z
   exact ⟨CU c (prL (AY qs hs c)), by rw [C0 _ (by lia) _ (by lia)]; lia, fun x => by rw [Cs, E6]⟩
 have leA : CZ ((e + W : Nat) : Int) ((m : Int) + 1 - ((e + W : Nat) : Int)) 1 A (prL (AY qs hs c)) := ⟨fun j hj => Jx (by lia), fun j hj => Jx (by lia)⟩
 have key := Ih (qs := qs) I.le1 leA (n := m) (by lia) (by lia) hnd fun x hx => by
  obtain ⟨i, hi, rfl⟩ := T5 hx
  have hm' := LL hql hhl (i := i) (by lia)
  have h1 : Cv.ev N qs[i] = hs[i]'(by lia) * Cv.ev D qs[i] := I.on1 _ hm'
  have h2 : Cv.ev c qs[i] * prV qs[i] (AY qs hs c) = hs[i]'(by lia) * prV qs[i] (AY qs hs c) := by
   by_cases z : Cv.ev c qs[i] = hs[i]'(by lia)
   ·rw [z]
   ·have hmem : qs[i] ∈ AY qs hs c := by
     unfold AY
     exact Sv.mpr ⟨(qs[i], hs[i]'(by lia)), QM.mpr ⟨hm', by unfold bad; rw [decide_eq_false z]; rfl⟩, rfl⟩
    rw [Nd hmem, T0, T0]
  rw [E6, eA, h1, h2]; grind
 have := Mx (D := prL (AY qs hs c)) (A := N) (B := CU c D) (by rw [IC (Li _)]; exact hPn) (fun x => by
  have k := key x
  rw [E6, eA] at k
  rw [E6, Cs]
  grind) x
 rw [Cs] at this
 exact this
inductive Gy (K : QO) (vs : List V) (H : Hp) (Q : VK) (E_3 : XK) : Prop
 | mk (a : Addr) (most : Int) (h1 : vs = [.ref a, .int most]) (h2 : Pen H a) (h3 : 1 ≤ most) (h4 : most ≤ 8) (h5 : ∀ (t l : Addr) (H' : Hp) (zs : List V) (qs : List Rat) (W e : Nat), Mv a H H' → Pen H' a → l ≠ a → H' t = some (.tup [.ref l, .int (W : Int), .int (e : Int)]) → H' l = some (.lst zs) → Ax H' zs qs → 1 ≤ qs.length → qs.length ≤ 8 → qs.Nodup → (∀ q ∈ qs, RB 16 q) → 1 ≤ W → 2 * e + W ≤ qs.length → Q (.ref t) H') : Gy K vs H Q E_3
inductive Dn (K : QO) (vs : List V) (H : Hp) (Q : VK) (E_3 : XK) : Prop
 | mk (a l c : Addr) (k : Nat) (zs : List V) (qs cs : List Rat) (mc nx : Nat) (h1 : vs = [.ref a, .ref l, .ref c, .int (k : Int)]) (h2 : Pen H a) (h3 : l ≠ a) (h4 : H l = some (.lst zs)) (h5 : Ao K H zs qs) (h6 : Crv K H c cs) (h7 : 1 ≤ qs.length) (h8 : qs.length ≤ 12) (h9 : cs.length ≤ 12) (h10 : (∀ q ∈ qs, RB nx q)) (h11 : (∀ q ∈ cs, RB mc q)) (h12 : mc ≤ 100000) (h13 : nx ≤ 100) (h14 : k ≤ 12) (h15 : ∀ (lh : Addr) (H' : Hp) (ys : List V) (hs : List Rat), Mv a H H' → Pen H' a → H lh = none → lh ≠ a → H' lh = some (.lst ys) → Ao K H' ys hs → hs.length = qs.length → ((qs.zip hs).filter (bad cs)).length ≤ k → (∀ y ∈ hs, RB ((mc + nx * cs.length + 4) * (cs.length + 2) + 9 * k) y) → Q (.ref lh) H') : Dn K vs H Q E_3
inductive Gw (K : QO) (vs : List V) (H : Hp) (Q : VK) (E_3 : XK) : Prop
 | mk (l lh c : Addr) (zs ys : List V) (qs hs cs : List Rat) (mc nx : Nat) (h1 : vs = [.ref l, .ref lh, .ref c]) (h2 : SqL K H l zs) (h3 : Ao K H zs qs) (h4 : SqL K H lh ys) (h5 : Ao K H ys hs) (h6 : Crv K H c cs) (h7 : hs.length = qs.length) (h8 : qs.length ≤ 12) (h9 : cs.length ≤ 12) (h10 : (∀ q ∈ qs, RB nx q)) (h11 : (∀ q ∈ cs, RB mc q)) (h12 : mc ≤ 1000000) (h13 : nx ≤ 100) (h14 : ∀ p us rs H', Af H H' → H p = none → H' p = some (.lst us) → Ao K H' us rs → rs.Perm (AY qs hs cs) → rs.Pairwise (· ≤ ·) → Q (.ref p) H') : Gw K vs H Q E_3
inductive DK (K : QO) (Pt : Addr) (vs : List V) (H : Hp) (Q : VK) (E_3 : XK) : Prop
 | mk (lp lh : Addr) (zs ys : List V) (qs hs c : List Rat) (W e n nx ny mc C : Nat) (h1 : vs = [.ref lp, .ref lh, .int (W : Int), .int (e : Int)]) (h2 : SqL K H lp zs) (h3 : Ax H zs qs) (h4 : SqL K H lh ys) (h5 : Ao K H ys hs) (h6 : qs.length = n) (h7 : hs.length = n) (h8 : n ≤ 12) (h9 : qs.Nodup) (h10 : 1 ≤ W) (h11 : W ≤ 8) (h12 : 2 * e + W ≤ n) (h13 : (∀ x ∈ qs, RB nx x)) (h14 : (∀ y ∈ hs, RB ny y)) (h15 : 1 ≤ nx) (h16 : nx ≤ 40) (h17 : nx ≤ ny) (h18 : ny ≤ 7000) (h19 : (nx + 1) * (n + 3) + ny + 2 ≤ C) (h20 : (gAS C n).2 + 3 * C ≤ 2000000) (h21 : Ck Pt EU H) (h22 : Cn c) (h23 : c.length ≤ W) (h24 : (∀ x ∈ c, RB mc x)) (h25 : mc ≤ 100000) (h26 : (AY qs hs c).length ≤ e) (h27 : ∀ (t pc lw : Addr) (H' : Hp) (us : List V) (rs : List Rat), Bx Pt H H' → Ck Pt EU H' → SqT K H' t [.str "one", .ref pc, .ref lw] → Crv K H' pc c → H lw = none → H' lw = some (.lst us) → Ao K H' us rs → rs.Perm (AY qs hs c) → rs.Pairwise (· ≤ ·) → Q (.ref t) H') : DK K Pt vs H Q E_3
theorem Nz {K : QO} {a : Addr} {js : List Nat} {xs : List V} {tc : TT} {te : TE} {σ : St} {H : Hp} {Fin : List V → Hp → Prop} (Pv : Nat → List V → Hp → Prop) (h0 : Pv 0 [] H)
 (hl : ∀ i zs H, i ≤ xs.length → Pv i zs H → SqL K H a xs ∧ zs.length ≤ i) (hz : xs.length ≤ sizeLine)
 (hs : ∀ i v zs H, xs[i]? = some v → Pv i zs H → ∃ t x y, v = .ref t ∧ SqT K H t [x, y] ∧ tc (((cS 2 js σ).set 0 (some x)).set 1 (some y)) H fun b H3 => if b = true then te (((cS 2 js σ).set 0 (some x)).set 1 (some y)) H3 fun y H4 => Pv (i + 1) (zs ++ [y]) H4 else Pv (i + 1) zs H3) (fin : ∀ zs H', Pv xs.length zs H' → Fin zs H') :
 ∃ (n' : Nat) (W : Nat → List V → Hp → Prop), W 0 [] H ∧ LcW (Itl K a) n' 2 js σ (K8 K 2 (Fq (C9 0) (Fq (C9 1) Mt))) tc te Fin W := by
 refine ⟨xs.length, Pv, h0, ⟨?_, ?_, ?_⟩⟩
 ·intro i zs H' hi p
  obtain ⟨h1, h2⟩ := hl i zs H' (QQ hi) p
  exact ⟨⟨xs, xs[i], h1, by simp [hi]⟩, by lia⟩
 ·rintro i zs H' x H1 hi p ⟨rfl, y⟩
  have hx := y xs (hl i zs _ (QQ hi) p).1
  obtain ⟨t, u, v, rfl, hsq, h⟩ := hs i x zs _ hx p
  exact ⟨t, _, rfl, hsq, rfl, _, _, rfl, _, _, rfl, rfl, h⟩
 ·intro zs H' p
  obtain ⟨h1, h2⟩ := hl _ zs H' (R3 _) p
  exact ⟨⟨xs, h1, R3 _⟩, by lia, fin zs H' p⟩
def r13 : Rat := ⟨1, 3, by decide, by decide⟩
theorem Nw : nT r13 = .tup [.int 1, .int 3] := rfl
theorem N5 : RB 8 r13 := ⟨by unfold Bd; decide, by unfold Bd; decide⟩
theorem Gc {qs hs c : List Rat} {i : Nat} {x y : Rat} (hl : hs.length = qs.length) (hx : qs[i]? = some x) (hy : hs[i]? = some y) : AY (qs.take (i + 1)) (hs.take (i + 1)) c = AY (qs.take i) (hs.take i) c ++ if Cv.ev c x = y then [] else [x] := by
 unfold AY
 rw [S3, S3, hx, hy, List.zip_append (by rw [Rh, Rh]; lia), Tq, S4]
 congr 1
 show (([(x, y)] : List (Rat × Rat)).filter (bad c)).map Prod.fst = _
 by_cases z : Cv.ev c x = y
 ·rw [if_pos z, Tn (by unfold bad; rw [decide_eq_true z]; decide)]; rfl
 ·rw [if_neg z, Tm (by unfold bad; rw [decide_eq_false z]; rfl)]; rfl
theorem HY {qs hs c : List Rat} {x : Rat} (h : x ∈ AY qs hs c) : x ∈ qs := by
 unfold AY at h
 obtain ⟨pr, hpr, rfl⟩ := Sv.mp h
 exact (Rf (show (pr.1, pr.2) ∈ qs.zip hs from (QM.mp hpr).1)).1
theorem Dk {n : Nat} {k : Int} (h : Bd n k) (h1 : 1 ≤ n) : RB n ((k : Int) : Rat) := ⟨by rw [Ti]; exact h, by rw [Tj]; exact (show Bd 1 1 by unfold Bd; decide).mono h1⟩
theorem NE (K : QO) : R9 K (.type "list") (.type "list") = some true := by kernel_rfl
structure Cs7 (K : QO) (p l rc : Addr) (zs : List V) (qs cs : List Rat) (G : Hp) : Prop where
 pen : Pen G p
 lp : l ≠ p
 el : G l = some (.lst zs)
 nz : Ax G zs qs
 cc : Crv K G rc cs
theorem Cs7.mv {K : QO} {p l rc : Addr} {zs : List V} {qs cs : List Rat} {G G' : Hp} (h : Cs7 K p l rc zs qs cs G) (m : Mv p G G') (pn : Pen G' p) : Cs7 K p l rc zs qs cs G' := ⟨pn, h.lp, m _ _ h.lp h.el, Ax.mv h.nz h.pen m, h.cc.mv h.pen m⟩
theorem Cs7.same {K : QO} {p l rc : Addr} {zs : List V} {qs cs : List Rat} {G G' : Hp} (h : Cs7 K p l rc zs qs cs G) (s : Af G G') : Cs7 K p l rc zs qs cs G' := ⟨h.pen.sm s, h.lp, s _ _ h.el, Ax.same h.nz s, h.cc.same s⟩
theorem Cs7.but {K : QO} {Pt p l rc : Addr} {zs : List V} {qs cs : List Rat} {G G' : Hp} (h : Cs7 K p l rc zs qs cs G) (c : Ck Pt EU G) (m : Bx Pt G G') : Cs7 K p l rc zs qs cs G' := ⟨Mc h.pen c m, h.lp, Du h.el c m, JU h.nz c m, h.cc.but c m⟩
theorem Ov {K : QO} {H : Hp} {a b a1 b1 l1 l2 : Addr} {w : Str} {us vs : List V} {os ls : List Rat} {Q : VK} {neg : Bool} (hw : PyData.strOk w = true) (h1 : SqT K H a [.str w, .ref a1, .ref l1]) (c1 : Crv K H a1 os) (s1 : SqL K H l1 us) (n1 : Ao K H us ls) (h2 : SqT K H b [.str w, .ref b1, .ref l2]) (d1 : Crv K H b1 os) (s2 : SqL K H l2 vs) (n2 : Ao K H vs ls)
 (h : Q (.bl (if neg then !true else true)) H) : Er K neg (.ref a) (.ref b) H Q := by
 have rd : ∀ {p1 p3 : Addr} {us : List V}, Crv K H p1 os → SqL K H p3 us → Ao K H us ls → ∀ (i : Nat) (x : V) (d : PyData), [V.str w, V.ref p1, V.ref p3][i]? = some x → ([.str w, .tuple (os.map nD), .list (ls.map nD)] : List PyData)[i]? = some d → Rds K H x d := by
  rintro p1 p3 us ⟨xs, s, n⟩ s3 n3 i x d e1 e2
  match i with
  | 0 => simp at e1 e2; subst e1; subst e2; exact .str w
  | 1 => simp at e1 e2; subst e1; subst e2; exact n.rdsT s
  | 2 => simp at e1 e2; subst e1; subst e2; exact n3.rdsL s3
  | i + 3 => simp at e1
 have sh : SeqAt.shaped (.tuple [.str w, .tuple (os.map nD), .list (ls.map nD)]) = true := by
  show ((PyData.strOk w && (PyData.canLayAll0 (os.map nD) && (PyData.canLayAll0 (ls.map nD) && true))) && decide (max 0 (max (PyData.depthAll (os.map nD) + 1) (max (PyData.depthAll (ls.map nD) + 1) 0)) + 1 ≤ 64)) = true
  have h1 := CD os
  have h3 := CD ls
  rw [hw, DS, DS, decide_eq_true (by lia)]; rfl
 refine He ⟨_, _, .tup h1 rfl (rd c1 s1 n1), .tup h2 rfl (rd d1 s2 n2), sh, sh, ?_⟩
 have e : PyData.eqv (.tuple [.str w, .tuple (os.map nD), .list (ls.map nD)]) (.tuple [.str w, .tuple (os.map nD), .list (ls.map nD)]) = true := by
  show (PyData.eqv (.str w) (.str w) && (PyData.eqvAll (os.map nD) (os.map nD) && (PyData.eqvAll (ls.map nD) (ls.map nD) && true))) = true
  rw [DT, DT, decide_eq_true rfl, decide_eq_true rfl]
  show ((w == w) && true) = true
  rw [beq_self_eq_true]; rfl
 rw [e]; exact h
theorem NS {Pt l : Addr} {q : Str} {H : Hp} {xs ys : List V} (c : Ck Pt q H) (e : H l = some (.lst xs)) : Ck Pt q (upd H l (.lst ys)) := by
 obtain ⟨ps, e1, t, c⟩ := c
 refine ⟨ps, by rw [Ak (fun z => by rw [z, e] at e1; cases e1)]; exact e1, t, fun pos cv z => ?_⟩
 obtain ⟨c', e', z'⟩ := c pos cv z
 exact ⟨c', e', by rw [Ak (fun y => by rw [y, e] at z'; cases z')]; exact z'⟩
theorem My {Pt l : Addr} {H H' : Hp} {o : HO} (m : Bx Pt H H') (hn : H l = none) : Bx Pt H (upd H' l o) := fun b u hb e => by
 rw [Ak (fun z => by rw [z, hn] at e; cases e)]
 exact m b u hb e
structure Lp7 (K : QO) (Pt l1 l2 lg lh td lm rc : Addr) (zs ys us : List V) (qs hs rs : List Rat) (G : Hp) : Prop where
 eh : G lh = some (.lst ys)
 ny : Ao K G ys hs
 td : SqT K G td [.str "one", .ref rc, .ref lm]
 em : G lm = some (.lst us)
 nm : Ao K G us rs
 eg : G lg = some (.lst [.ref l1, .ref l2])
 e1 : G l1 = some (.lst zs)
 e2 : G l2 = some (.lst ys)
 ct : Ck Pt EU G
theorem Lp7.but {K : QO} {Pt l1 l2 lg lh td lm rc : Addr} {zs ys us : List V} {qs hs rs : List Rat} {G G' : Hp} (h : Lp7 K Pt l1 l2 lg lh td lm rc zs ys us qs hs rs G) (m : Bx Pt G G') (c : Ck Pt EU G') : Lp7 K Pt l1 l2 lg lh td lm rc zs ys us qs hs rs G' :=
 ⟨Du h.eh h.ct m, Paired.mapP h.ny fun _ _ z => z.but h.ct m, h.td.but h.ct m, Du h.em h.ct m, Paired.mapP h.nm fun _ _ z => z.but h.ct m, Du h.eg h.ct m, Du h.e1 h.ct m, Du h.e2 h.ct m, c⟩
section
variable {P : Program} {w : World} {K : QO} {mg : Str → Option Value} {base : Heap}
theorem Cp : Ap ["_law_script", "_law_k", "_law_cell"] ["_law_script", "_law_k"] (Ae (top 44)) := ⟨rfl, rfl, rfl, by decide +kernel, rfl, by decide +kernel, by decide +kernel⟩
set_option maxHeartbeats 4000000 in
theorem HN {f : Addr} {fd : FuncData} (F : Fun K "_law_pen" "_law_pen" (top 44) f fd) (OW : mg "len" = none) (hT : P.given.tree = none) :
 AE P w K mg base CX0 33 f fd ["_law_script", "_law_k"] (J9 K) := by
 refine F.ok Cp (fun vs H Q E h => ?_) (fun cdv A outer s H vs Q E hr h => ?_)
 ·obtain ⟨_, _, _, rfl, _⟩ := h; rfl
 refine ⟨_, (Ad (K := K) (Ai (i := 2) Cp.nd rfl (Or.inl rfl) (Ah AB (Ah As Ab (pv 1)) Ab))
  (Ad (K := K) (AQ (K := K) (At Fb (pv 1) (Ar (BO K) rfl OW AF (A0 (pv 0) Ac)) (Ay _)) (Ag (Ai (i := 2) Cp.nd rfl (Or.inl rfl) (Aj (ixL K) (pv 0) (pv 1) (fun u v => rfl)))) (Ag (AQ (K := K) (At El (Ar (BO K) rfl OW AF (A0 (pv 0) Ac)) Ab (Ay _)) (Ag (Ai (i := 2) Cp.nd rfl (Or.inl rfl) (Ah AB (Aj (ixL K) (pv 0) (Ah C3 (pv 1) (Ar (BO K) rfl OW AF (A0 (pv 0) Ac))) (fun u v => rfl)) (Ah As Ab (pv 1))))) AI (by rfl) (by rfl))) (by rfl) (by rfl))
  (Ad (K := K) (AQ (K := K) (At Oj (pv 2) (Ah GI Ab Ab) (Ay _)) (Ag (Av (AS (A0 (Ah AK (pv 2) (Ah GI Ab Ab)) (A0 (Ah C3 (pv 2) Ab) (A0 Ab Ac)))))) AI (by rfl) (by rfl))
  (Ag (Av (AS (A0 Ab (A0 (Ah AB (Ah C3 (pv 2) Ab) (Ah As Ab (pv 1))) (A0 Ab Ac)))))) (by rfl)) (by rfl)) (by rfl)), ?_⟩
 obtain ⟨a, ns, k, rfl, hS, h63, h0, h62, q⟩ := h
 have hl : (ns.map V.int).length = ns.length := Rp _
 have P3 : 3 ≤ sizeLine := by decide
 have C1 : J5 10 18 := by unfold J5; decide
 refine ⟨_, rfl, _, _, rfl, rfl, .inl ⟨by decide, by decide⟩, _, _, rfl, rfl, ?_⟩
 refine ⟨_, rfl, _, rfl, a, _, rfl, .inl hS, _, _, rfl, rfl, _, rfl, ?_⟩
 rw [hl]
 have hk1 : k < (ns.length : Int) → ∃ v : Int, atI (ns.map V.int) k = some (.int v) := fun c => JG h0 c
 have hk2 : 0 < (ns.length : Int) → ∃ v : Int, atI (ns.map V.int) (k % (ns.length : Int)) = some (.int v) := fun c => JG (SE _ (by lia)) (SF _ c)
 refine Fn (fun c => ?_) (fun c => ?_)
 ·obtain ⟨v, hv⟩ := (hk1 (of_decide_eq_true c))
  refine ⟨_, rfl, _, rfl, a, _, _, _, rfl, rfl, hS, hv, ?_⟩
  refine ⟨_, rfl, _, _, rfl, rfl, C1, _, _, rfl, rfl, _, rfl, ?_⟩
  refine Fn (fun c => ?_) (fun c => ?_)
  ·exact ⟨_, rfl, _, _, rfl, rfl, C1, _, _, rfl, rfl, _, rfl, _, _, rfl, rfl, (by first | decide | (dsimp only; decide)), P3, fun p hp => q p _ _ hp⟩
  ·exact ⟨_, rfl, _, _, rfl, rfl, (by first | decide | (dsimp only; decide)), _, rfl, _, _, rfl, rfl, .inl ⟨by decide, by decide⟩, _, _, rfl, rfl, P3, fun p hp => q p _ _ hp⟩
 ·refine ⟨_, rfl, a, _, rfl, .inl hS, _, _, rfl, rfl, _, rfl, ?_⟩
  rw [hl]
  refine Fn (fun c => ?_) (fun c => ?_)
  ·obtain ⟨v, hv⟩ := (hk2 (of_decide_eq_true c))
   have c' : 0 < (((ns.map V.int).length : Nat) : Int) := by rw [hl]; exact of_decide_eq_true c
   rw [← hl] at hv
   refine ⟨_, rfl, _, rfl, _, rfl, a, _, rfl, .inl hS, _, _, rfl, rfl, c', a, _, _, _, rfl, rfl, hS, hv, _, rfl, _, _, rfl, rfl, .inl ⟨by decide, by decide⟩, _, _, rfl, rfl, ?_⟩
   refine ⟨_, rfl, _, _, rfl, rfl, C1, _, _, rfl, rfl, _, rfl, ?_⟩
   refine Fn (fun c => ?_) (fun c => ?_)
   ·exact ⟨_, rfl, _, _, rfl, rfl, C1, _, _, rfl, rfl, _, rfl, _, _, rfl, rfl, (by first | decide | (dsimp only; decide)), P3, fun p hp => q p _ _ hp⟩
   ·exact ⟨_, rfl, _, _, rfl, rfl, (by first | decide | (dsimp only; decide)), _, rfl, _, _, rfl, rfl, .inl ⟨by decide, by decide⟩, _, _, rfl, rfl, P3, fun p hp => q p _ _ hp⟩
  ·refine ⟨_, rfl, _, _, rfl, rfl, C1, _, _, rfl, rfl, _, rfl, ?_⟩
   refine Fn (fun c => ?_) (fun c => ?_)
   ·exact ⟨_, rfl, _, _, rfl, rfl, C1, _, _, rfl, rfl, _, rfl, _, _, rfl, rfl, (by first | decide | (dsimp only; decide)), P3, fun p hp => q p _ _ hp⟩
   ·exact ⟨_, rfl, _, _, rfl, rfl, (by first | decide | (dsimp only; decide)), _, rfl, _, _, rfl, rfl, .inl ⟨by decide, by decide⟩, _, _, rfl, rfl, P3, fun p hp => q p _ _ hp⟩
theorem BA : Ap ["_law_top", "_law_bottom", "_law_one", "_law_other"] ["_law_top", "_law_bottom"] (Ae (top 46)) := ⟨rfl, rfl, rfl, by decide +kernel, rfl, by decide +kernel, by decide +kernel⟩
set_option maxHeartbeats 4000000 in
theorem Fh {f : Addr} {fd : FuncData} (F : Fun K "_law_lowest" "_law_lowest" (top 46) f fd) (P5 : mg "abs" = none) (hT : P.given.tree = none) :
 AE P w K mg base CX0 33 f fd ["_law_top", "_law_bottom"] (Cz) := by
 refine F.ok BA (fun vs H Q E h => ?_) (fun cdv A outer s H vs Q E hr h => ?_)
 ·obtain ⟨_, _, rfl, _⟩ := h; rfl
 refine ⟨_, (Ad (K := K) (Ai (i := 2) BA.nd rfl (Or.inl rfl) (Ar DZ rfl P5 Hk (A0 (pv 0) Ac)))
  (Ad (K := K) (Ai (i := 3) BA.nd rfl (Or.inl rfl) (Ar DZ rfl P5 Hk (A0 (pv 1) Ac)))
  (Ad (K := K) (De PassesOwn.never (At El (pv 3) Ab (Ay _)) (Ag (Nb (i := 2) (j := 3) rfl BA.nd rfl rfl (by decide) rfl rfl (A0 (pv 3) (A0 (Ah C3 (pv 2) (pv 3)) Ac)) (by with_unfolding_all rfl))))
  (Ad (K := K) (AQ (K := K) (At Fb (pv 1) Ab (Ay _)) (Ag (Ai (i := 2) BA.nd rfl (Or.inl rfl) (Ah AK Ab (pv 2)))) AI (by rfl) (by rfl))
  (Ag (Av (AJ (A0 (Ah (Bh hr hT) (pv 0) (pv 2)) (A0 (Ah (Bh hr hT) (pv 1) (pv 2)) Ac))))) (by rfl)) (by rfl)) (by rfl)) (by rfl)), ?_⟩
 obtain ⟨a, b, rfl, hb, q⟩ := h
 refine ⟨_, rfl, a, rfl, ?_⟩
 refine ⟨_, rfl, b, rfl, ?_⟩
 refine Hs (L3 H a b fun H a b σ H' => H' = H ∧ ∃ (x y : Int), σ = [some (.int a), some (.int b), some (.int x), some (.int y)] ∧ 0 ≤ x ∧ 0 ≤ y ∧ RJ x y = RJ a b) (fun σ _ => mu 3 σ)
  ⟨rfl, _, _, rfl, ?_, ?_, ?_⟩ ?_ ?_
 ·rw [Nm.abs_if]; exact Tr _
 ·rw [Nm.abs_if]; exact Tr _
 ·rw [Nm.abs_if, Nm.abs_if]; rfl
 ·rintro σ H' hR1
  refine By hR1 fun hq1 hz3 => ?_
  refine C4 hz3 fun x y hz3' => ?_
  clear hz3
  refine DF hz3' fun hq2 hx hy hg => ?_
  clear hz3'
  obtain rfl := hq1
  obtain rfl := hq2
  try clear hR1
  refine ⟨_, rfl, _, _, rfl, rfl, _, rfl, ?_⟩
  by_cases hy0 : y = 0
  ·subst hy0
   refine Ia ?_
   have e : (RJ a b : Int) = x := by rw [← hg, Int.gcd_zero]; lia
   subst e
   refine ⟨_, rfl, _, _, rfl, rfl, _, rfl, ?_⟩
   have hd : Nm.msr a b ≠ 0 := Nm.msr_ne hb
   have fin : ∀ p, H' p = none → Q (.ref p) (upd H' p (.tup [.int (a.fdiv (Nm.msr a b)), .int (b.fdiv (Nm.msr a b))])) := fun p hp => by
    rw [Nm.top_msr hb, Nm.bottom_msr hb]; exact q p hp
   by_cases hb0 : b < 0
   ·have hd' : Nm.msr a b = 0 - (RJ a b : Int) := by unfold Nm.msr; rw [if_pos hb0]; lia
    rw [hd'] at hd fin
    refine Bw (by rw [decide_eq_true hb0] <;> rfl) ⟨_, rfl, _, _, rfl, rfl, ?_⟩
    exact ⟨_, rfl, _, rfl, _, _, rfl, rfl, hd, _, rfl, _, rfl, _, _, rfl, rfl, hd, (by decide : 2 ≤ sizeLine), fin⟩
   ·have hd' : Nm.msr a b = (RJ a b : Int) := by unfold Nm.msr; rw [if_neg hb0]
    rw [hd'] at hd fin
    refine AR (by rw [decide_eq_false hb0] <;> rfl) ?_
    exact ⟨_, rfl, _, rfl, _, _, rfl, rfl, hd, _, rfl, _, rfl, _, _, rfl, rfl, hd, (by decide : 2 ≤ sizeLine), fin⟩
  ·have hyp : 0 < y := by lia
   refine Bw (by rw [decide_eq_true hyp] <;> rfl) ?_
   refine ⟨_, rfl, _, rfl, _, rfl, _, _, rfl, rfl, hyp, _, _, rfl, ⟨rfl, y, x % y, rfl, hy, SE _ hy0, ?_⟩, ?_⟩
   ·rw [Nm.gcd_turn]; exact hg
   ·show (x % y).toNat < y.toNat
    have := SF x hyp
    lia
 ·rintro σ H' Q1 Q2 hm hR2
  obtain ⟨v, e, i, j, e1, e2, k, ek, q1⟩ := hR2
  try clear hR2
  exact ⟨v, e, i, j, e1, e2, k, ek, hm _ _ q1⟩
theorem Cc : Ap ["_law_pen_here", "_law_many", "_law_drawn", "_law_number_here"] ["_law_pen_here", "_law_many"] (Ae (top 45)) := ⟨rfl, rfl, rfl, by decide +kernel, rfl, by decide +kernel, by decide +kernel⟩
set_option maxHeartbeats 4000000 in
theorem GU {f : Addr} {fd : FuncData} (F : Fun K "_law_draw" "_law_draw" (top 45) f fd) (hT : P.given.tree = none) :
 AE P w K mg base CX0 33 f fd ["_law_pen_here", "_law_many"] (D8) := by
 refine F.ok Cc (fun vs H Q E h => ?_) (fun cdv A outer s H vs Q E hr h => ?_)
 ·obtain ⟨_, _, rfl, _⟩ := h; rfl
 refine ⟨_, (Ad (K := K) (E5 (Ah AB (Aj (ixL K) (pv 0) Ab (fun u v => rfl)) Ab) (EZ (pv 0) Ab D9))
  (Ad (K := K) (AQ (K := K) (At El (Aj (ixL K) (pv 0) Ab (fun u v => rfl)) Ab (Ay _)) (Ad (K := K) (Ai (i := 2) Cc.nd rfl (Or.inl rfl) (Ah C3 (Aj (ixL K) (pv 0) Ab (fun u v => rfl)) (pv 1)))
  (Ad (K := K) (E5 (Ah (Bh hr hT) (Aj (ixL K) (pv 0) Ab (fun u v => rfl)) (pv 1)) (EZ (pv 0) Ab D9))
  (Ag (Av (pv 2))) (by rfl)) (by rfl)) AI (by rfl) (by rfl))
  (Ad (K := K) (Ai (i := 3) Cc.nd rfl (Or.inl rfl) (Ah C3 (Ah As (Ah AB (Ah AB (Aj (ixL K) (pv 0) Ab (fun u v => rfl)) (Ah As Ab (Aj (ixL K) (pv 0) Ab (fun u v => rfl)))) Ab) Ab) Ab))
  (Ad (K := K) (Ai (i := 3) Cc.nd rfl (Or.inl rfl) (Ah C3 (Ah As (pv 3) (Ah AB (Ah AB (Ah C3 (pv 3) Ab) (Aj (ixL K) (pv 0) Ab (fun u v => rfl))) Ab)) Ab))
  (Ag (Av (Ah C3 (Ah (Bh hr hT) (Ah C3 (Ah As (pv 3) (Ah AB (Ah C3 (pv 3) Ab) Ab)) Ab) Ab) (pv 1)))) (by rfl)) (by rfl)) (by rfl)) (by rfl)), ?_⟩
 obtain ⟨a, m, rfl, ⟨c0, c1, c2, hp⟩, h1, h2, q0⟩ := h
 have q : ∀ d c0' c2' : Int, 0 ≤ d → d < m → Q (.int d) (upd H a (.lst [.int c0', .int c1, .int c2'])) := fun d _ _ h3 h4 => q0 d _ h3 h4 .put .put
 have hm : m ≠ 0 := by lia
 have q' : ∀ (o : HO) (d c0' c2' : Int), 0 ≤ d → d < m → Q (.int d) (upd (upd H a o) a (.lst [.int c0', .int c1, .int c2'])) := fun o d c0' c2' h3 h4 => by rw [LP]; exact q d c0' c2' h3 h4
 refine ⟨_, rfl, a, _, _, _, rfl, rfl, SqL.of hp, rfl, _, _, rfl, rfl, _, rfl, a, _, _, _, rfl, rfl, hp, rfl, ?_⟩
 refine ⟨_, rfl, a, _, _, _, rfl, rfl, SqL.of Aa, rfl, _, _, rfl, rfl, _, rfl, ?_⟩
 refine Fn (fun c => ?_) (fun c => ?_)
 ·refine ⟨_, rfl, a, _, _, _, rfl, rfl, SqL.of Aa, rfl, _, rfl, _, _, rfl, rfl, (by lia : 0 < m), ?_⟩
  refine ⟨_, rfl, a, _, _, _, rfl, rfl, SqL.of Aa, rfl, _, rfl, _, _, rfl, rfl, hm, _, rfl, a, _, _, _, rfl, rfl, Aa, rfl, ?_⟩
  refine ⟨_, rfl, ?_⟩
  exact q' _ _ _ _ (SE _ (by lia)) (SF _ (by lia))
 ·have cl : ∀ z : Int, 0 < z → (0 : Int) < z := fun _ h => h
  refine ⟨_, rfl, a, _, _, _, rfl, rfl, SqL.of Aa, rfl, _, rfl, a, _, _, _, rfl, rfl, SqL.of Aa, rfl, _, _, rfl, rfl, .inl ⟨by decide, by decide⟩, _, _, rfl, rfl, _, _, rfl, rfl, _, _, rfl, rfl, .inr (.inl ⟨by decide, by decide⟩), _, _, rfl, rfl, (by first | decide | (dsimp only; decide)), ?_⟩
  have n1 := SE ((c1 + 40503 * (c2 + 1) + 1) * 48271) (show (2147483647 : Int) ≠ 0 by decide)
  have n2 := SF ((c1 + 40503 * (c2 + 1) + 1) * 48271) (show (0 : Int) < 2147483647 by decide)
  generalize hN : (c1 + 40503 * (c2 + 1) + 1) * 48271 % 2147483647 = N at n1 n2
  refine ⟨_, rfl, _, rfl, _, _, rfl, rfl, (by first | decide | (dsimp only; decide)), _, rfl, a, _, _, _, rfl, rfl, SqL.of Aa, rfl, _, _, rfl, rfl, _, _, rfl, rfl, _, _, rfl, rfl, .inl ?_, _, _, rfl, rfl, (by first | decide | (dsimp only; decide)), ?_⟩
  ·(try rw [hN]); lia
  try rw [hN]
  have n3 := SE (N * (N % 65521 + (c2 + 1) + 3)) (show (2147483629 : Int) ≠ 0 by decide)
  have n4 := SF (N * (N % 65521 + (c2 + 1) + 3)) (show (0 : Int) < 2147483629 by decide)
  generalize N * (N % 65521 + (c2 + 1) + 3) % 2147483629 = M at n3 n4
  refine ⟨_, rfl, _, rfl, _, _, rfl, rfl, (by first | decide | (dsimp only; decide)), _, _, rfl, rfl, _, _, rfl, rfl, .inl ⟨by lia, by lia⟩, _, _, rfl, rfl, (by first | decide | (dsimp only; decide)), _, _, rfl, rfl, (by first | decide | (dsimp only; decide)), _, rfl, _, _, rfl, rfl, (by lia : 0 < m), ?_⟩
  exact q _ _ _ (SE _ (by lia)) (SF _ (by lia))
theorem ET : Ap ["_law_pen_here"] ["_law_pen_here"] (Ae (top 50)) := ⟨rfl, rfl, rfl, by decide +kernel, rfl, by decide +kernel, by decide +kernel⟩
set_option maxHeartbeats 4000000 in
theorem Fg {f : Addr} {fd : FuncData} (F : Fun K "_law_number" "_law_number" (top 50) f fd) (P6 : Fd P w K mg base 33 "_law_lowest" ["_law_top", "_law_bottom"] (Cz)) (OY : Fd P w K mg base 33 "_law_draw" ["_law_pen_here", "_law_many"] (D8)) (hT : P.given.tree = none) :
 AE P w K mg base CX0 34 f fd ["_law_pen_here"] (FP 8) := by
 refine F.ok ET (fun vs H Q E h => ?_) (fun cdv A outer s H vs Q E hr h => ?_)
 ·obtain ⟨_, rfl, _⟩ := h; rfl
 refine ⟨_, (Ad (K := K) (AQ (K := K) (At El (Am OY hr rfl (A0 (pv 0) (A0 Ab Ac))) Ab (Ay _)) (Ag (Av (Am P6 hr rfl (A0 (Ah AK (Am OY hr rfl (A0 (pv 0) (A0 Ab Ac))) Ab) (A0 (Ah AB Ab (Am OY hr rfl (A0 (pv 0) (A0 (Aj (ixL K) (AS (A0 Ab (A0 Ab Ac))) (Am OY hr rfl (A0 (pv 0) (A0 Ab Ac))) (fun u v => rfl)) Ac)))) Ac))))) AI (by rfl) (by rfl))
  (Ag (Av (Am P6 hr rfl (A0 (Ah AK (Am OY hr rfl (A0 (pv 0) (A0 Ab Ac))) Ab) (A0 (Ah AB Ab (Am OY hr rfl (A0 (pv 0) (A0 Ab Ac)))) Ac))))) (by rfl)), ?_⟩
 obtain ⟨a, rfl, pn, q⟩ := h
 have b8 : ∀ x : Int, -200 < x → x < 200 → Bd 8 x := fun x h1 h2 => by unfold Bd; lia
 refine ⟨_, rfl, a, 6, rfl, pn, by decide, by decide, fun w H1 w0 w1 o1 p1 => ⟨_, _, rfl, rfl, _, rfl, ?_⟩⟩
 refine Fn (fun c => ?_) (fun c => ?_)
 ·refine ⟨_, rfl, a, 19, rfl, p1, by decide, by decide, fun d H2 d0 d1 o2 p2 => ⟨_, _, rfl, rfl, ?_⟩⟩
  refine ⟨_, rfl, (by decide : 2 ≤ sizeLine), fun l hl => ?_⟩
  refine ⟨_, rfl, a, 2, rfl, p2.same hl, by decide, by decide, fun e H3 e0 e1 o3 p3 => ?_⟩
  obtain ⟨v, hv, hm⟩ := (Mz (xs := [1, 4]) (i := e) e0 e1)
  have hv1 : 1 ≤ v ∧ v ≤ 4 := by simp at hm; lia
  have hl3 : H3 l = some (.lst [.int 1, .int 4]) := by
   refine D4 p2 fun x0 x1 x2 ex => ?_
   rw [o3 l (Aq ex hl).symm]; exact Aa
  refine ⟨l, _, _, _, rfl, rfl, SqL.of hl3, hv, a, v, rfl, p3, by lia, by lia, fun g H4 g0 g1 o4 p4 => ⟨_, _, rfl, rfl, _, _, rfl, by lia, fun r hr => ?_⟩⟩
  exact q _ r _ (o1.mv.trans (o2.mv.trans ((Mv.new hl).trans (o3.mv.trans (o4.mv.trans (Mv.new hr)))))) (p4.same hr) Aa (Bd.num (b8 _ (by lia) (by lia))) (Bd.den (by lia) (b8 _ (by lia) (by lia)))
 ·refine ⟨_, rfl, a, 199, rfl, p1, by decide, by decide, fun d H2 d0 d1 o2 p2 => ⟨_, _, rfl, rfl, ?_⟩⟩
  refine ⟨_, rfl, a, 9, rfl, p2, by decide, by decide, fun e H3 e0 e1 o3 p3 => ⟨_, _, rfl, rfl, _, _, rfl, by lia, fun r hr => ?_⟩⟩
  exact q _ r _ (o1.mv.trans (o2.mv.trans (o3.mv.trans (Mv.new hr)))) (p3.same hr) Aa (Bd.num (b8 _ (by lia) (by lia))) (Bd.den (by lia) (b8 _ (by lia) (by lia)))
theorem GC : Ap ["_law_a", "_law_b"] ["_law_a", "_law_b"] (Ae (top 47)) := ⟨rfl, rfl, rfl, by decide +kernel, rfl, by decide +kernel, by decide +kernel⟩
set_option maxHeartbeats 4000000 in
theorem GS {f : Addr} {fd : FuncData} (F : Fun K "_law_plus" "_law_plus" (top 47) f fd) (P6 : Fd P w K mg base 33 "_law_lowest" ["_law_top", "_law_bottom"] (Cz)) (hT : P.given.tree = none) :
 AE P w K mg base CX0 34 f fd ["_law_a", "_law_b"] (C5 K (· + ·)) := by
 refine F.ok GC (fun vs H Q E h => ?_) (fun cdv A outer s H vs Q E hr h => ?_)
 ·obtain ⟨_, _, _, _, _, _, rfl, _⟩ := h; rfl
 refine ⟨_, (Ag (Av (Am P6 hr rfl (A0 (Ah AB (Ah As (Aj (ixT K) (pv 0) Ab (fun u v => rfl)) (Aj (ixT K) (pv 1) Ab (fun u v => rfl))) (Ah As (Aj (ixT K) (pv 1) Ab (fun u v => rfl)) (Aj (ixT K) (pv 0) Ab (fun u v => rfl)))) (A0 (Ah As (Aj (ixT K) (pv 0) Ab (fun u v => rfl)) (Aj (ixT K) (pv 1) Ab (fun u v => rfl))) Ac))))), ?_⟩
 obtain ⟨x, y, p, q, m, n, rfl, ⟨r, rfl, hr⟩, ⟨u, rfl, hu⟩, hp, hq, hmn, k⟩ := h
 refine ⟨_, rfl, r, _, _, _, rfl, rfl, hr, rfl, _, rfl, u, _, _, _, rfl, rfl, hu, rfl, _, _, rfl, rfl, Bp.bd hp.1 hq.2, _, rfl, u, _, _, _, rfl, rfl, hu, rfl, _, rfl, r, _, _, _, rfl, rfl, hr, rfl, _, _, rfl, rfl, Bp.bd hq.1 hp.2, _, _, rfl, rfl, ?_⟩
 refine ⟨_, rfl, r, _, _, _, rfl, rfl, hr, rfl, _, rfl, u, _, _, _, rfl, rfl, hu, rfl, _, _, rfl, rfl, Bp.bd hp.2 hq.2, ?_⟩
 refine ⟨_, _, rfl, RT (Nm.den_ne p) (Nm.den_ne q), fun z hz => ?_⟩
 have e := k z hz
 try dsimp only at e
 rw [← Nm.plus_eq] at e
 exact e
theorem Bz : Ap ["_law_pen_here", "_law_many", "_law_found", "_law_k", "_law_x"] ["_law_pen_here", "_law_many"] (Ae (top 53)) := ⟨rfl, rfl, rfl, by decide +kernel, rfl, by decide +kernel, by decide +kernel⟩
set_option maxHeartbeats 4000000 in
theorem Ff {f : Addr} {fd : FuncData} (F : Fun K "_law_places" "_law_places" (top 53) f fd) (P9 : Fd P w K mg base 34 "_law_number" ["_law_pen_here"] (FP 8)) (Pa : Fd P w K mg base 34 "_law_plus" ["_law_a", "_law_b"] (C5 K (· + ·))) (OX : mg "range" = none) (hT : P.given.tree = none) :
 AE P w K mg base CX0 35 f fd ["_law_pen_here", "_law_many"] (Do K 8) := by
 refine F.ok Bz (fun vs H Q E h => ?_) (fun cdv A outer s H vs Q E hr h => ?_)
 ·obtain ⟨_, _, rfl, _⟩ := h; rfl
 refine ⟨_, (Ad (K := K) (Ai (i := 2) Bz.nd rfl (Or.inl rfl) (AS Ac))
  (Ad (K := K) (AX (K := K) PassesOwn.never rfl (AV rfl OX (A0 (pv 1) Ac)) (Au (i := 3) Bz.nd rfl (Or.inl rfl)) (Ad (K := K) (Ai (i := 4) Bz.nd rfl (Or.inl rfl) (Am P9 hr rfl (A0 (pv 0) Ac)))
  (Ad (K := K) (De PassesOwn.never (At (inD K hr) (pv 4) (pv 2) (by with_unfolding_all rfl)) (Ag (Ai (i := 4) Bz.nd rfl (Or.inl rfl) (Am Pa hr rfl (A0 (pv 4) (A0 (AJ (A0 Ab (A0 Ab Ac))) Ac))))))
  (Ag (BQ (Dg K PySem.F.plainAttrs_list PySem.F.slot_list_append PySem.F.type_list_append Cf (pv 2) (A0 (pv 4) Ac)))) (by rfl)) (by rfl)) (by rfl))
  (Ag (Av (pv 2))) (by rfl)) (by rfl)), ?_⟩
 obtain ⟨a, m, rfl, pn, h0, h100, q⟩ := h
 have P0 : 0 ≤ sizeLine := by decide
 have P2 : 2 ≤ sizeLine := by decide
 refine ⟨P0, fun l hl => ?_⟩
 have la : l ≠ a := pn.ne' hl
 obtain ⟨M, hM⟩ : ∃ M : Nat, (M : Int) = m := ⟨m.toNat, by lia⟩
 subst hM
 refine ⟨_, rfl, (M : Int), rfl, by lia, by lia, ?_⟩
 rw [Rt]
 refine BG (n := M) (L4 a H M l fun a H M l i σ H' => Mv a H H' ∧ Pen H' a ∧ ∃ zs qs z3 z4, σ = [some (.ref a), some (.int (M : Int)), some (.ref l), z3, z4] ∧ H' l = some (.lst zs) ∧ Ax H' zs qs ∧ qs.length = i ∧ qs.Nodup ∧ ∀ q ∈ qs, RB (8 + 8) q) ⟨Mv.new hl, pn.same hl, [], [], none, none, rfl, Aa, .nil, rfl, List.nodup_nil, (fun _ h => nomatch h)⟩ ?_ ?_
 ·rintro i σ H' hi hR1
  refine Cy hR1 fun mv pn' hz7 => ?_
  refine IX hz7 fun zs qs z3 z4 hz7' => ?_
  clear hz7
  refine Kd hz7' fun hq6 el hz hql hnd hb => ?_
  clear hz7'
  obtain rfl := hq6
  try clear hR1
  refine ⟨_, rfl, a, rfl, pn', fun x0 r H3 m3 p3 hr bn bd => ?_⟩
  have el3 := m3 _ _ la el
  have hz3 := Ax.mv hz pn' m3
  have hzl := hz.length
  refine ⟨fun μ σ H4 => Af H3 H4 ∧ ∃ (r : Addr) (x : Rat) (j : Nat), σ = [some (.ref a), some (.int (M : Int)), some (.ref l), some (.int (0 + (i : Int))), some (.ref r)] ∧ H4 r = some (nT x) ∧ x = x0 + (j : Rat) ∧ μ = cnt x qs ∧ j + cnt x qs ≤ qs.length,
   ⟨_, Af.refl _, r, x0, 0, rfl, hr, (by have z : ((0 : Nat) : Rat) = 0 := rfl; rw [z]; grind), rfl, by have := Lu x0 qs; lia⟩, ?_⟩
  rintro μ σ H4 hR2
  refine By hR2 fun s4 hz10 => ?_
  refine D4 hz10 fun r' x j hz10' => ?_
  clear hz10
  refine D5 hz10' fun hq8 hr' hx hq9 hj => ?_
  clear hz10'
  obtain rfl := hq8
  obtain rfl := hq9
  try clear hR2
  have hxb : RB (8 + 8) x := by
   rw [hx]
   exact (RB.plus ⟨bn, bd⟩ (N6 (j := j) (by lia))).mono (by lia)
  refine ⟨_, rfl, _, rfl, ?_⟩
  refine inN (AA.of hr') (SqL.of (s4 _ _ el3)) (Ax.same hz3 s4).nums ?_
  refine ⟨_, rfl, ?_⟩
  by_cases hin : x ∈ qs
  ·refine Bw (by rw [decide_eq_true hin] <;> rfl) ⟨_, fun _ _ h => h, ?_⟩
   refine ⟨_, rfl, P2, fun t ht => ⟨_, _, _, _, 8 + 8, 1, rfl, AA.of ((Af.new ht) _ _ hr'), AA.of (Aa (o := nT 1)), hxb, RB.one (by decide), by lia, fun u hu => ?_⟩⟩
   refine ⟨_, J1 hin, (s4.trans (Af.new ht)).trans (Af.new hu), u, x + 1, j + 1, rfl, Aa, ?_, rfl, by have := J1 hin; lia⟩
   rw [hx, Rat.natCast_add]
   have z : ((1 : Nat) : Rat) = 1 := rfl
   rw [z]; grind
  ·refine AR (by rw [decide_eq_false hin] <;> rfl) ?_
   have el4 := s4 _ _ el3
   refine ⟨_, rfl, .inl ⟨rfl, _, SqL.of el4⟩, _, rfl, l, zs, .ref r', rfl, rfl, el4, QI (show zs.length < 300 by lia) (by decide), ?_⟩
   refine ⟨Mv.put' ((mv.trans m3).trans s4.mv) hl, (p3.sm s4).put' la, zs ++ [.ref r'], qs ++ [x], _, _, rfl, Aa, Paired.snoc (Ax.put (Ax.same hz3 s4) el4) (E2.put ⟨_, rfl, hr'⟩ el4), by simp [hql], ?_, fun c hc => ?_⟩
   ·rw [List.nodup_append]
    exact ⟨hnd, by simp, fun b hb c hc => by rw [Sh.mp hc]; exact fun z => hin (z ▸ hb)⟩
   ·rcases QV.mp hc with z | z
    ·exact hb c z
    ·rw [Sh.mp z]; exact hxb
 ·rintro σ H' hR3
  refine Cy hR3 fun mv pn' hz12 => ?_
  refine IX hz12 fun zs qs z3 z4 hz12' => ?_
  clear hz12
  refine Kd hz12' fun hq11 el hz hql hnd hb => ?_
  clear hz12'
  obtain rfl := hq11
  try clear hR3
  exact ⟨_, rfl, q l H' zs qs mv pn' hl el hz (by rw [hql]) hnd hb⟩
theorem Cb : Ap ["_law_pen_here", "_law_most", "_law_places_here", "_law_width", "_law_room"] ["_law_pen_here", "_law_most"] (Ae (top 54)) := ⟨rfl, rfl, rfl, by decide +kernel, rfl, by decide +kernel, by decide +kernel⟩
set_option maxHeartbeats 4000000 in
theorem GT {f : Addr} {fd : FuncData} (F : Fun K "_law_held" "_law_held" (top 54) f fd) (PM : Fd P w K mg base 35 "_law_places" ["_law_pen_here", "_law_many"] (Do K 8)) (OY : Fd P w K mg base 33 "_law_draw" ["_law_pen_here", "_law_many"] (D8)) (OW : mg "len" = none) (hT : P.given.tree = none) :
 AE P w K mg base CX0 36 f fd ["_law_pen_here", "_law_most"] (Gy K) := by
 refine F.ok Cb (fun vs H Q E h => ?_) (fun cdv A outer s H vs Q E hr h => ?_)
 ·obtain ⟨_, _, rfl, _⟩ := h; rfl
 refine ⟨_, (Ad (K := K) (Ai (i := 2) Cb.nd rfl (Or.inl rfl) (Am PM hr rfl (A0 (pv 0) (A0 (Ah AB Ab (Am OY hr rfl (A0 (pv 0) (A0 (pv 1) Ac)))) Ac))))
  (Ad (K := K) (Ai (i := 3) Cb.nd rfl (Or.inl rfl) (Ah AB Ab (Am OY hr rfl (A0 (pv 0) (A0 (Ar (BO K) rfl OW AF (A0 (pv 2) Ac)) Ac)))))
  (Ad (K := K) (Ai (i := 4) Cb.nd rfl (Or.inl rfl) (Ah (Bh hr hT) (Ah AK (Ar (BO K) rfl OW AF (A0 (pv 2) Ac)) (pv 3)) Ab))
  (Ag (Av (AJ (A0 (pv 2) (A0 (pv 3) (A0 (Am OY hr rfl (A0 (pv 0) (A0 (Ah AB (pv 4) Ab) Ac))) Ac)))))) (by rfl)) (by rfl)) (by rfl)), ?_⟩
 obtain ⟨a, most, rfl, pn, hm1, hm8, q⟩ := h
 have P3 : 3 ≤ sizeLine := by decide
 refine ⟨_, rfl, _, rfl, _, rfl, a, most, rfl, pn, by lia, by lia, fun d H1 d0 d1 o1 p1 => ⟨_, _, rfl, rfl, a, _, rfl, p1, by lia, by lia, fun l H2 zs qs m2 p2 hl el hz hql hnd hb => ?_⟩⟩
 have lp : l ≠ a := p1.ne' hl
 have hzl := hz.length
 refine ⟨_, rfl, _, rfl, l, zs, rfl, .inl (SqL.of el), a, _, rfl, p2, by lia, by lia, fun w H3 w0 w1 o3 p3 => ⟨_, _, rfl, rfl, ?_⟩⟩
 have m3 := AW.mv o3
 obtain ⟨W, hW, hW1, hWn⟩ : ∃ W : Nat, 1 + w = (W : Int) ∧ 1 ≤ W ∧ W ≤ qs.length := ⟨(1 + w).toNat, by lia, by lia, by lia⟩
 rw [hW]
 have el := m3 _ _ lp el
 have hz := Ax.mv hz p2 m3
 refine ⟨_, rfl, l, zs, rfl, .inl (SqL.of el), _, rfl, _, _, rfl, rfl, _, _, rfl, rfl, by decide, ?_⟩
 obtain ⟨R, hR, hRn⟩ : ∃ R : Nat, ((zs.length : Nat) : Int) - (W : Int) = 2 * (R : Int) + (((zs.length : Nat) : Int) - (W : Int)) % 2 ∧ 2 * R + W ≤ qs.length := ⟨((((zs.length : Nat) : Int) - (W : Int)) / 2).toNat, by lia, by lia⟩
 have hF : (((zs.length : Nat) : Int) - (W : Int)).fdiv 2 = (R : Int) := by
  rw [Tl _ (by decide)]; lia
 rw [hF]
 refine ⟨_, rfl, _, rfl, _, rfl, _, rfl, _, _, rfl, rfl, a, _, rfl, p3, by lia, by lia, fun e H4 e0 e1 o4 p4 => ⟨P3, fun t ht => ?_⟩⟩
 have m4 := AW.mv o4
 obtain ⟨E, rfl⟩ : ∃ E : Nat, e = (E : Int) := ⟨e.toNat, by lia⟩
 have n5 := Af.new (o := .tup [.ref l, .int (W : Int), .int (E : Int)]) ht
 exact q t l _ zs qs W E ((((AW.mv o1).trans m2).trans (m3.trans m4)).trans n5.mv) (p4.sm n5) lp Aa (n5 _ _ (m4 _ _ lp el)) (Ax.same (Ax.mv hz p3 m4) n5) (by lia) (by lia) hnd hb hW1 (by lia)
theorem Dx : Ap ["_law_pen_here", "_law_most", "_law_some"] ["_law_pen_here", "_law_most"] (Ae (top 52)) := ⟨rfl, rfl, rfl, by decide +kernel, rfl, by decide +kernel, by decide +kernel⟩
set_option maxHeartbeats 4000000 in
theorem FH {f : Addr} {fd : FuncData} (F : Fun K "_law_curve" "_law_curve" (top 52) f fd) (P9 : Fd P w K mg base 34 "_law_number" ["_law_pen_here"] (FP 8)) (OY : Fd P w K mg base 33 "_law_draw" ["_law_pen_here", "_law_many"] (D8)) (OZ : mg "tuple" = none) (OX : mg "range" = none) (hT : P.given.tree = none) :
 AE P w K mg base CX0 35 f fd ["_law_pen_here", "_law_most"] (EC K 8) := by
 refine F.ok Dx (fun vs H Q E h => ?_) (fun cdv A outer s H vs Q E hr h => ?_)
 ·obtain ⟨_, _, rfl, _⟩ := h; rfl
 refine ⟨_, (Ad (K := K) (HB (i := 2) rfl Dx.nd rfl rfl (N := ["_law_k", "_law_pen_here"]) (nt := 1) (js := [0]) (AZ.look (NX := ["_law_pen_here", "_law_most", "_law_some"]) (sc := Ae (top 52)) rfl rfl (by decide +kernel)) (AV rfl OX (A0 (Am OY hr rfl (A0 (pv 0) (A0 (Ah AB (pv 1) Ab) Ac))) Ac)) (fun u1 u2 u3 u4 u5 => (Au (i := 0) (show List.Nodup (["_law_k", "_law_pen_here"] : List Str) from by decide +kernel) rfl (Or.inl rfl))) (AH (by decide)) (fun u1 u2 u3 u4 u5 => BE) (fun u1 u2 u3 u4 u5 => (Am P9 hr rfl (A0 (pv 1) Ac))) rfl)
  (Ad (K := K) (De PassesOwn.never (PW.pt (GD (At (neD K hr.units) (pv 2) (AS Ac) (Ay _)) (EE (At (eqD K hr.units) (Aj (ixL K) (pv 2) (HD EJ Ab) (fun u v => rfl)) (AJ (A0 Ab (A0 Ab Ac))) (Ay _))))) (Ag (BQ (Mf K PySem.F.plainAttrs_list PySem.F.slot_list_pop PySem.F.type_list_pop Nx (pv 2)))))
  (Ag (Av (BN (EK K) rfl OZ CH (A0 (pv 2) Ac)))) (by rfl)) (by rfl)), ?_⟩
 obtain ⟨a, most, rfl, pn, h0, h1, q⟩ := h
 have P0 : 0 ≤ sizeLine := by decide
 have P2 : 2 ≤ sizeLine := by decide
 refine C7 ⟨_, rfl, _, rfl, _, _, rfl, rfl, a, most + 1, rfl, pn, by lia, by lia, fun n H1 n0 n1 o1 p1 => ⟨n, rfl, by lia, by lia, ?_⟩⟩
 have hN : (n.toNat : Int) ≤ most := by lia
 generalize n.toNat = N at hN
 refine GY (L3 a H K fun a H K i zs H' => Mv a H H' ∧ Pen H' a ∧ zs.length = i ∧ ∃ qs, Ao K H' zs qs ∧ ∀ q ∈ qs, RB 8 q) ⟨o1.mv, p1, rfl, [], .nil, (fun _ h => nomatch h)⟩ (fun i zs H' _ h => h.2.2.1) (QQ (AU (by lia))) ?_ ?_
 ·rintro i zs H' hi hR1
  obtain ⟨mv, pn', hz, qs, hq, hb⟩ := hR1
  try clear hR1
  refine ⟨_, rfl, a, rfl, pn', fun x r H3 m3 p3 hr bn bd => ⟨mv.trans m3, p3, by simp [hz], qs ++ [x], Paired.snoc (Ao.mv hq pn' m3) (AA.of hr), fun c hc => ?_⟩⟩
  rcases QV.mp hc with z | z
  ·exact hb c z
  ·have e : c = x := by simpa using z
   subst e; exact ⟨bn, bd⟩
 rintro zs Hz hR2 l hl
 obtain ⟨mvz, pnz, hzl, qs, hqz, hb⟩ := hR2
 try clear hR2
 have hql : qs.length = N := by rw [← hqz.length]; exact hzl
 have la : l ≠ a := by
  refine D4 pnz fun x0 x1 x2 ex => ?_
  exact (Aq ex hl).symm
 have hHl : H l = none := by
  cases z : H l with
  | none => rfl
  | some u => rw [mvz l u la z] at hl; cases hl
 refine MF (L8 a H K zs qs most l N fun a H K zs qs most l N σ H' => Mv a H H' ∧ Pen H' a ∧ Ao K H' zs qs ∧ σ = [some (.ref a), some (.int most), some (.ref l)] ∧ ∃ v, v ≤ N ∧ H' l = some (.lst (zs.take v)) ∧ ∀ j q, v ≤ j → qs[j]? = some q → q = 0)
  (fun _ H' => match H' l with | some (.lst xs) => xs.length | _ => 0) ⟨Mv.put' mvz hHl, pnz.same hl, Ao.same hqz (Af.new hl), rfl, N, R3 _, by rw [Sy (by lia)]; exact Aa, fun j c hj e => absurd (QX.mp e).1 (by lia)⟩ ?_
 rintro σ Hc hR3
 obtain ⟨mv, pn', hq, rfl, v, hv, el, hall⟩ := hR3
 try clear hR3
 refine ⟨_, rfl, P0, fun e he => ?_⟩
 have sE : Af Hc (upd Hc e (.lst [])) := Af.new he
 refine eqL (ps := qs.take v) (qs := []) (SqL.of (sE _ _ el)) (Paired.take v (Ao.same hq sE)) (SqL.of Aa) .nil ?_
 refine ⟨_, rfl, ?_⟩
 have fin : (v = 0 ∨ ∃ q, qs[v - 1]? = some q ∧ q ≠ 0) → qs.take v = Cv.strip qs := fun hc => Cv.take_strip qs v hall hc
 by_cases hv0 : v = 0
 ·have e0 : qs.take v = [] := by rw [hv0]; rfl
  refine AR (by rw [decide_eq_true e0] <;> rfl) (Ia ?_)
  refine ⟨_, rfl, l, _, rfl, .inl ⟨SqL.of (sE _ _ el), fun r hr => ?_⟩⟩
  have sZ := sE.trans (Af.new (o := .tup (zs.take v)) hr)
  refine q (qs.take v) r _ (mv.trans sZ.mv) (pn'.sm sZ) ⟨zs.take v, SqT.of Aa, Paired.take v (Ao.same hq sZ)⟩ ?_ ?_ fun c hc => hb c (Td hc)
  ·rw [fin (.inl hv0)]; exact BW _
  ·rw [Rh]; lia

 have hvi : v - 1 < qs.length := by lia
 have hqv : qs[v - 1]? = some qs[v - 1] := Si hvi
 have hne : qs.take v ≠ [] := fun z => by
  have := congrArg List.length z
  rw [Rh, Ru (by lia)] at this
  exact hv0 this
 refine Bw (by rw [decide_eq_false hne] <;> rfl) ?_
 obtain ⟨x, hx, hxn⟩ := (Paired.get' hq hqv)
 have hlast : (zs.take v)[(zs.take v).length - 1]? = some x := by
  rw [Rh, Ru (by lia), T2, if_pos (by lia)]
  exact hx
 refine ⟨_, rfl, _, rfl, l, _, _, x, rfl, rfl, SqL.of (sE _ _ el), Ip hlast, P2, fun t0 ht0 => ?_⟩
 have sF := sE.trans (Af.new (o := .tup [.int 0, .int 1]) ht0)
 refine eqN (q := 0) (hxn.same sF) (AA.of (Aa (o := nT 0))) ?_
 refine ⟨_, rfl, ?_⟩
 by_cases hq0 : qs[v - 1] = 0
 ·refine Bw (by rw [decide_eq_true hq0] <;> rfl) (ME ?_)
  have elF := sF _ _ el
  refine ⟨_, rfl, .inl ⟨rfl, _, SqL.of elF⟩, l, _, x, rfl, rfl, elF, hlast, ?_⟩
  refine ⟨⟨Mv.put' (mv.trans sF.mv) hHl, ?_, Ao.put (Ao.same hq sF) elF, rfl, v - 1, by lia, ?_, fun j c hj e => ?_⟩, ?_⟩
  ·refine D4 (pn'.sm sF) fun x0 x1 x2 ex => ?_
   exact ⟨x0, x1, x2, by rw [Ak (Ne.symm la)]; exact ex⟩
  ·rw [Aa, List.dropLast_eq_take, Rh, Ru (by lia), List.take_take, Ru (by lia)]
  ·by_cases hjv : v ≤ j
   ·exact hall j c hjv e
   ·have : j = v - 1 := by lia
    subst this
    rw [hqv] at e
    cases e
    exact hq0
  ·show (match upd _ l _ l with | some (.lst xs) => xs.length | _ => 0) < (match Hc l with | some (.lst xs) => xs.length | _ => 0)
   rw [Aa, el]
   show (zs.take v).dropLast.length < (zs.take v).length
   have e1 : (zs.take v).length = v := by rw [Rh, Ru (by lia)]
   rw [List.length_dropLast, e1]
   exact Nat.sub_lt (RK hv0) Nat.zero_lt_one
 ·refine AR (by rw [decide_eq_false hq0] <;> rfl) ?_
  refine ⟨_, rfl, l, _, rfl, .inl ⟨SqL.of (sF _ _ el), fun r hr => ?_⟩⟩
  have sZ := sF.trans (Af.new (o := .tup (zs.take v)) hr)
  refine q (qs.take v) r _ (mv.trans sZ.mv) (pn'.sm sZ) ⟨zs.take v, SqT.of Aa, Paired.take v (Ao.same hq sZ)⟩ ?_ ?_ fun c hc => hb c (Td hc)
  ·rw [fin (.inr ⟨_, hqv, hq0⟩)]; exact BW _
  ·rw [Rh]; lia
theorem FB : Ap ["_law_a", "_law_b"] ["_law_a", "_law_b"] (Ae (top 49)) := ⟨rfl, rfl, rfl, by decide +kernel, rfl, by decide +kernel, by decide +kernel⟩
set_option maxHeartbeats 4000000 in
theorem FF {f : Addr} {fd : FuncData} (F : Fun K "_law_times" "_law_times" (top 49) f fd) (P6 : Fd P w K mg base 33 "_law_lowest" ["_law_top", "_law_bottom"] (Cz)) (hT : P.given.tree = none) :
 AE P w K mg base CX0 34 f fd ["_law_a", "_law_b"] (C5 K (· * ·)) := by
 refine F.ok FB (fun vs H Q E h => ?_) (fun cdv A outer s H vs Q E hr h => ?_)
 ·obtain ⟨_, _, _, _, _, _, rfl, _⟩ := h; rfl
 refine ⟨_, (Ag (Av (Am P6 hr rfl (A0 (Ah As (Aj (ixT K) (pv 0) Ab (fun u v => rfl)) (Aj (ixT K) (pv 1) Ab (fun u v => rfl))) (A0 (Ah As (Aj (ixT K) (pv 0) Ab (fun u v => rfl)) (Aj (ixT K) (pv 1) Ab (fun u v => rfl))) Ac))))), ?_⟩
 obtain ⟨x, y, p, q, m, n, rfl, ⟨r, rfl, hr⟩, ⟨u, rfl, hu⟩, hp, hq, hmn, k⟩ := h
 refine ⟨_, rfl, r, _, _, _, rfl, rfl, hr, rfl, _, rfl, u, _, _, _, rfl, rfl, hu, rfl, _, _, rfl, rfl, Bp.bd hp.1 hq.1, ?_⟩
 refine ⟨_, rfl, r, _, _, _, rfl, rfl, hr, rfl, _, rfl, u, _, _, _, rfl, rfl, hu, rfl, _, _, rfl, rfl, Bp.bd hp.2 hq.2, ?_⟩
 refine ⟨_, _, rfl, RT (Nm.den_ne p) (Nm.den_ne q), fun z hz => ?_⟩
 have e := k z hz
 try dsimp only at e
 rw [← Nm.times_eq] at e
 exact e
theorem BV : Ap ["_law_curve_here", "_law_x", "_law_found", "_law_power", "_law_number_here"] ["_law_curve_here", "_law_x"] (Ae (top 51)) := ⟨rfl, rfl, rfl, by decide +kernel, rfl, by decide +kernel, by decide +kernel⟩
set_option maxHeartbeats 4000000 in
theorem IP {f : Addr} {fd : FuncData} (F : Fun K "_law_at" "_law_at" (top 51) f fd) (Pa : Fd P w K mg base 34 "_law_plus" ["_law_a", "_law_b"] (C5 K (· + ·))) (Pg : Fd P w K mg base 34 "_law_times" ["_law_a", "_law_b"] (C5 K (· * ·))) (hT : P.given.tree = none) :
 AE P w K mg base CX0 35 f fd ["_law_curve_here", "_law_x"] (FT K) := by
 refine F.ok BV (fun vs H Q E h => ?_) (fun cdv A outer s H vs Q E hr h => ?_)
 ·obtain ⟨_, _, _, _, _, _, _, _, rfl, _⟩ := h; rfl
 refine ⟨_, (Ad (K := K) (Ai (i := 2) BV.nd rfl (Or.inl rfl) (AJ (A0 Ab (A0 Ab Ac))))
  (Ad (K := K) (Ai (i := 3) BV.nd rfl (Or.inl rfl) (AJ (A0 Ab (A0 Ab Ac))))
  (Ad (K := K) (AX (K := K) PassesOwn.never rfl (piS K (pv 0)) (Au (i := 4) BV.nd rfl (Or.inl rfl)) (Ad (K := K) (Ai (i := 2) BV.nd rfl (Or.inl rfl) (Am Pa hr rfl (A0 (pv 2) (A0 (Am Pg hr rfl (A0 (pv 4) (A0 (pv 3) Ac))) Ac))))
  (Ag (Ai (i := 3) BV.nd rfl (Or.inl rfl) (Am Pg hr rfl (A0 (pv 3) (A0 (pv 1) Ac))))) (by rfl)) (by rfl))
  (Ag (Av (pv 2))) (by rfl)) (by rfl)) (by rfl)), ?_⟩
 obtain ⟨b, r, rx, xs, qs, x, c0, n, rfl, hS, hn, hx, hB, hbx, hz, q⟩ := h
 have hl := hn.length
 generalize hM : c0 + n * qs.length + 4 = M at hz q
 have hle : M * 2 ≤ 90000000 := QP (Ts _ (by lia)) hz
 have hz' : (qs.length + 2) * M ≤ 90000000 := by rw [RF]; exact hz
 refine ⟨(by decide : 2 ≤ sizeLine), fun f hf => ?_⟩
 refine ⟨(by decide : 2 ≤ sizeLine), fun g hg => ?_⟩
 have s0 : Af H (upd (upd H f (.tup [.int 0, .int 1])) g (.tup [.int 1, .int 1])) := (Af.new hf).trans (Af.new hg)
 refine Jw (b := b) (a := r) (xs := xs) rfl (L7 H r rx qs x M n fun H r rx qs x M n i σ H' => Af H H' ∧ ∃ (f g : Addr) (z : Option V), σ = [some (.ref r), some (.ref rx), some (.ref f), some (.ref g), z] ∧ H' f = some (nT (Cv.ev (qs.take i) x)) ∧ H' g = some (nT (x ^ i)) ∧ RB ((i + 1) * M) (Cv.ev (qs.take i) x) ∧ RB (n * i + 1) (x ^ i))
  ⟨s0, f, g, none, rfl, (Af.new hg) _ _ Aa, ?_, RB.zero (by lia), ?_⟩ (fun i σ H' _ p => Sq.same hS p.1) ?_ ?_
 ·rw [RX]; exact Aa
 ·rw [RX]; exact RB.one (by lia)
 ·rintro i v σ H' hv hR1
  refine By hR1 fun sm hz20 => ?_
  refine D4 hz20 fun f' g' z hz20' => ?_
  clear hz20
  refine D5 hz20' fun hq19 ef eg bf bg => ?_
  clear hz20'
  obtain rfl := hq19
  try clear hR1
  obtain ⟨c, hc, hcn⟩ := (Paired.get hn hv)
  have hi : i < qs.length := (QX.mp hc).1
  have hcm : c ∈ qs := Rn hc
  have hni : n * i ≤ n * qs.length := Ts n (by lia)
  have hni1 : n * (i + 1) = n * i + n := by rw [Tt, Tu]
  have hni2 : n * (i + 1) ≤ n * qs.length := Ts n (by lia)
  have him : (i + 1 + 1) * M ≤ (qs.length + 2) * M := Nat.mul_le_mul_right _ (by lia)
  have him2 : (i + 1 + 1) * M = (i + 1) * M + M := by rw [Sl, Sm]
  have bt : RB (c0 + (n * i + 1)) (c * x ^ i) := (hB c hcm).times bg
  refine ⟨_, rfl, _, rfl, _, rfl, _, _, _, _, c0, n * i + 1, rfl, hcn.same sm, AA.of eg, hB c hcm, bg, by lia, fun t ht => ?_⟩
  have s1 : Af H' (upd H' t (nT (c * x ^ i))) := Af.new ht
  refine ⟨_, _, _, _, (i + 1) * M, c0 + (n * i + 1), rfl, AA.of (s1 _ _ ef), AA.of Aa, bf, bt, by lia, fun u hu => ?_⟩
  have s2 := s1.trans (Af.new (o := nT (Cv.ev (qs.take i) x + c * x ^ i)) hu)
  refine ⟨_, rfl, _, rfl, _, _, _, _, n * i + 1, n, rfl, AA.of (s2 _ _ eg), (hx.same sm).same s2, bg, hbx, by lia, fun v' hv' => ?_⟩
  have s3 := s2.trans (Af.new (o := nT (x ^ i * x)) hv')
  have e1 : Cv.ev (qs.take (i + 1)) x = Cv.ev (qs.take i) x + c * x ^ i := by
   rw [S3, hc]
   show Cv.ev (qs.take i ++ [c]) x = _
   rw [Cv.ev_snoc, Rh, Ru (by lia)]
  refine ⟨sm.trans s3, u, v', _, rfl, ?_, ?_, ?_, ?_⟩
  ·rw [e1]; exact (Af.new hv') _ _ Aa
  ·rw [RY]; exact Aa
  ·rw [e1, him2]; exact (bf.plus bt).mono (by lia)
  ·rw [RY, hni1]; exact (bg.times hbx).mono (by lia)
 ·rintro σ H' hR2
  refine By hR2 fun sm hz22 => ?_
  refine D4 hz22 fun f' g' z hz22' => ?_
  clear hz22
  refine D5 hz22' fun hq21 ef eg bf bg => ?_
  clear hz22'
  obtain rfl := hq21
  try clear hR2
  rw [hl, To] at ef bf
  exact ⟨_, rfl, q _ _ sm ef (by rw [RF]; exact bf)⟩
theorem AO : Ap ["_law_pen_here", "_law_places_here", "_law_curve_here", "_law_many", "_law_heights", "_law_spots", "_law_k", "_law_spot", "_law_by"] ["_law_pen_here", "_law_places_here", "_law_curve_here", "_law_many"] (Ae (top 55)) := ⟨rfl, rfl, rfl, by decide +kernel, rfl, by decide +kernel, by decide +kernel⟩
set_option maxHeartbeats 4000000 in
theorem Ev {f : Addr} {fd : FuncData} (F : Fun K "_law_planted" "_law_planted" (top 55) f fd) (Pb : Fd P w K mg base 35 "_law_at" ["_law_curve_here", "_law_x"] (FT K)) (OY : Fd P w K mg base 33 "_law_draw" ["_law_pen_here", "_law_many"] (D8)) (P9 : Fd P w K mg base 34 "_law_number" ["_law_pen_here"] (FP 8)) (Pa : Fd P w K mg base 34 "_law_plus" ["_law_a", "_law_b"] (C5 K (· + ·))) (OX : mg "range" = none) (OW : mg "len" = none) (hT : P.given.tree = none) :
 AE P w K mg base CX0 36 f fd ["_law_pen_here", "_law_places_here", "_law_curve_here", "_law_many"] (Dn K) := by
 refine F.ok AO (fun vs H Q E h => ?_) (fun cdv A outer s H vs Q E hr h => ?_)
 ·obtain ⟨_, _, _, _, _, _, _, _, _, rfl, _⟩ := h; rfl
 refine ⟨_, (Ad (K := K) (HB (i := 4) rfl AO.nd rfl rfl (N := ["_law_x", "_law_curve_here"]) (nt := 1) (js := [2]) (AZ.look (NX := ["_law_pen_here", "_law_places_here", "_law_curve_here", "_law_many", "_law_heights", "_law_spots", "_law_k", "_law_spot", "_law_by"]) (sc := Ae (top 55)) rfl rfl (by decide +kernel)) (piL K (pv 1)) (fun u1 u2 u3 u4 u5 => (Au (i := 0) (show List.Nodup (["_law_x", "_law_curve_here"] : List Str) from by decide +kernel) rfl (Or.inl rfl))) (AH (by decide)) (fun u1 u2 u3 u4 u5 => BE) (fun u1 u2 u3 u4 u5 => (Am Pb hr rfl (A0 (pv 1) (A0 (pv 0) Ac)))) rfl)
  (Ad (K := K) (Ai (i := 5) AO.nd rfl (Or.inl rfl) (AS Ac))
  (Ad (K := K) (AX (K := K) PassesOwn.never rfl (AV rfl OX (A0 (pv 3) Ac)) (Au (i := 6) AO.nd rfl (Or.inl rfl)) (Ad (K := K) (Ai (i := 7) AO.nd rfl (Or.inl rfl) (Am OY hr rfl (A0 (pv 0) (A0 (Ar (BO K) rfl OW AF (A0 (pv 1) Ac)) Ac))))
  (Ag (AQ (K := K) (At (Nt K) (pv 7) (pv 5) (by with_unfolding_all rfl)) (Ad (K := K) (BQ (Dg K PySem.F.plainAttrs_list PySem.F.slot_list_append PySem.F.type_list_append Cf (pv 5) (A0 (pv 7) Ac)))
  (Ad (K := K) (Ai (i := 8) AO.nd rfl (Or.inl rfl) (Am P9 hr rfl (A0 (pv 0) Ac)))
  (Ad (K := K) (AQ (K := K) (At (eqD K hr.units) (pv 8) (AJ (A0 Ab (A0 Ab Ac))) (Ay _)) (Ag (Ai (i := 8) AO.nd rfl (Or.inl rfl) (AJ (A0 Ab (A0 Ab Ac))))) AI (by rfl) (by rfl))
  (Ag (E5 (Am Pa hr rfl (A0 (Aj (ixL K) (pv 4) (pv 7) (fun u v => rfl)) (A0 (pv 8) Ac))) (EZ (pv 4) (pv 7) D9))) (by rfl)) (by rfl)) (by rfl)) AI (by rfl) (by rfl))) (by rfl)) (by rfl))
  (Ag (Av (pv 4))) (by rfl)) (by rfl)) (by rfl)), ?_⟩
 obtain ⟨a, l, c, k, zs, qs, cs, mc, nx, rfl, pn, la, el, hz, hc, hq1, hq12, hc12, bq, bc, hmc, hnx, hk, q⟩ := h
 have P0 : 0 ≤ sizeLine := by decide
 have P2 : 2 ≤ sizeLine := by decide
 have hzl := hz.length
 obtain ⟨xc, hxc, hcn⟩ := (id hc)
 obtain ⟨B, hB⟩ : ∃ B, B = (mc + nx * cs.length + 4) * (cs.length + 2) := ⟨_, rfl⟩
 have hnc : nx * cs.length ≤ 100 * 12 := Tf hnx hc12
 have hB2 : B ≤ 101204 * 14 := by rw [hB]; exact Tf (by lia) (by lia)
 rw [← hB] at q
 refine C7 ⟨_, rfl, l, rfl, ⟨_, SqL.of el⟩, ?_⟩
 refine Fl (xs := zs) (L5 H K qs cs B fun H K qs cs B i us G => Af H G ∧ us.length = i ∧ Ao K G us ((qs.take i).map fun x => Cv.ev cs x) ∧ ∀ y ∈ (qs.take i).map (fun x => Cv.ev cs x), RB B y) ⟨Af.refl _, rfl, .nil, (fun _ h => nomatch h)⟩ (fun i us G _ h => ⟨SqL.of (h.1 _ _ el), h.2.1⟩) (QQ (AU (by lia))) ?_ ?_
 ·rintro i v us G hv hR1
  refine DF hR1 fun sg hul hun hub => ?_
  try clear hR1
  obtain ⟨x, hx, hvx⟩ := (Paired.get hz hv)
  obtain ⟨rx, rfl, _⟩ := (id hvx)
  refine ⟨_, rfl, _, rfl, false, c, rx, xc, cs, x, mc, nx, rfl, hxc.same sg, Ao.same hcn sg, hvx.same sg, bc, bq x (Rn hx), by lia, fun p1 G1 s1 e1 b1 => ?_⟩
  refine ⟨sg.trans s1, by simp [hul], ?_, ?_⟩
  ·rw [S3, hx, S4]
   exact Paired.snoc (Ao.same hun s1) (AA.of e1)
  ·intro y hy
   rw [S3, hx, S4] at hy
   rcases QV.mp hy with z | z
   ·exact hub y z
   ·rw [Sh.mp z, hB]
    exact b1.mono (Ts _ (by lia))
 rintro ys G hR2 lh hlh
 refine DF hR2 fun sg hyl hys hyb => ?_
 try clear hR2
 rw [hzl, To] at hys hyb
 have n1 := Af.new (o := .lst ys) hlh
 have hHlh : H lh = none := by
  cases z : H lh with
  | none => rfl
  | some o => rw [sg _ _ z] at hlh; cases hlh
 refine ⟨P0, fun sp hsp => ?_⟩
 have n2 := Af.new (o := .lst []) hsp
 have hne : lh ≠ sp := fun z => by rw [← z, Aa] at hsp; cases hsp
 have pn2 : Pen (upd (upd G lh (.lst ys)) sp (.lst [])) a := ((pn.sm sg).sm n1).sm n2
 have elh := n2 _ _ (Aa (H := G) (a := lh) (o := .lst ys))
 have esp := Aa (H := upd G lh (.lst ys)) (a := sp) (o := .lst [])
 have hys2 := Ao.same (Ao.same hys n1) n2
 have m2 : Mv a H (upd (upd G lh (.lst ys)) sp (.lst [])) := ((sg.trans n1).trans n2).mv
 have lha : lh ≠ a := (pn.sm sg).ne' hlh
 have spa : sp ≠ a := ((pn.sm sg).sm n1).ne' hsp
 have hll : lh ≠ l := fun z => by rw [z, el] at hHlh; cases hHlh
 have hlsp : l ≠ sp := fun z => by rw [← z, n1 _ _ (sg _ _ el)] at hsp; cases hsp
 have hHsp : H sp = none := by
  cases z : H sp with
  | none => rfl
  | some o => rw [n1 _ _ (sg _ _ z)] at hsp; cases hsp
 generalize upd (upd G lh (.lst ys)) sp (.lst []) = G2 at pn2 elh esp hys2 m2 ⊢
 refine ⟨_, rfl, _, rfl, by lia, by lia, ?_⟩
 rw [Rt]
 refine BG (n := k) (L11 a l c k lh sp H K qs cs B fun a l c k lh sp H K qs cs B i σ G => ∃ (us : List V) (ts : List Int) (hs : List Rat) (z6 z7 z8 : Option V), σ = [some (.ref a), some (.ref l), some (.ref c), some (.int (k : Int)), some (.ref lh), some (.ref sp), z6, z7, z8] ∧ Mv a H G ∧ Pen G a ∧ G lh = some (.lst us) ∧ G sp = some (.lst (ts.map V.int)) ∧ ts.length ≤ i ∧ Ao K G us hs ∧ hs.length = qs.length ∧ ((qs.zip hs).filter (bad cs)).length ≤ i ∧ ∀ y ∈ hs, RB (B + 9 * i) y)
  ⟨ys, [], qs.map fun x => Cv.ev cs x, none, none, none, rfl, m2, pn2, elh, esp, R3 _, hys2, by rw [Rp], by rw [Fu]; exact R3 _, fun y hy => (hyb y hy).mono (by lia)⟩ ?_ ?_
 ·rintro i σ G hi hR3
  refine NQ hR3 fun us ts hs z6 z7 z8 hz26' => ?_
  refine LC hz26' fun hq25 mg pg eg es htl hun hhl hbad hb => ?_
  clear hz26'
  obtain rfl := hq25
  try clear hR3
  have elg := mg _ _ la el
  have hul := hun.length
  refine ⟨_, rfl, _, rfl, l, zs, rfl, .inl (SqL.of elg), a, _, rfl, pg, by lia, by lia, fun s G1 s0 s1 o1 p1 => ?_⟩
  obtain ⟨S, rfl⟩ : ∃ S : Nat, s = (S : Int) := ⟨s.toNat, by lia⟩
  have m1 := AW.mv o1
  have eg := m1 _ _ lha eg
  have es := m1 _ _ spa es
  have hun := Ao.mv hun pg m1
  have mg := mg.trans m1
  clear o1 m1
  refine ⟨_, rfl, _, rfl, sp, ts.map V.int, rfl, .inl (SqL.of es), rfl, by rw [List.all_map]; exact Sa.mpr fun x _ => rfl, _, rfl, ?_⟩
  refine Fn (fun _ => ?_) (fun _ => ?_)
  ·refine ⟨_, rfl, .inl ⟨rfl, _, SqL.of es⟩, _, rfl, sp, _, _, rfl, rfl, es, QI (show _ < 300 by rw [Rp]; lia) (by decide), ?_⟩
   have eS := Aa (H := G1) (a := sp) (o := .lst (ts.map V.int ++ [.int (S : Int)]))
   have mS : Mv a H (upd G1 sp (.lst (ts.map V.int ++ [.int (S : Int)]))) := fun b u hb e => by
    have hbs : b ≠ sp := fun z => by rw [z, hHsp] at e; cases e
    rw [Ak hbs]; exact mg b u hb e
   have pS : Pen (upd G1 sp (.lst (ts.map V.int ++ [.int (S : Int)]))) a := by
    refine D4 p1 fun x0 x1 x2 e => ?_
    exact ⟨x0, x1, x2, by rw [Ak spa.symm]; exact e⟩
   have eg2 : (upd G1 sp (.lst (ts.map V.int ++ [.int (S : Int)]))) lh = some (.lst us) := by rw [Ak hne]; exact eg
   have hun2 := Ao.put (o := .lst (ts.map V.int ++ [.int (S : Int)])) hun es
   generalize upd G1 sp (.lst (ts.map V.int ++ [.int (S : Int)])) = G2 at eS mS pS eg2 hun2 ⊢
   clear es eg hun mg p1 pg
   refine ⟨_, rfl, a, rfl, pS, fun b rb G3 m3 p3 hrb bbn bbd => ?_⟩
   have eg := m3 _ _ lha eg2
   have es := m3 _ _ spa eS
   have hun := Ao.mv hun2 pS m3
   have mg := mS.trans m3
   clear eS mS eg2 hun2 pS m3
   try dsimp only
   refine FV (L9 a l c k lh sp i S G3 fun a l c k lh sp i S G3 σ' G => ∃ (rb : Addr) (b : Rat), σ' = [some (.ref a), some (.ref l), some (.ref c), some (.int (k : Int)), some (.ref lh), some (.ref sp), some (.int (0 + (i : Int))), some (.int (S : Int)), some (.ref rb)] ∧ Af G3 G ∧ G rb = some (nT b) ∧ RB 8 b) (fun nx hnx => ?_) ?_
   ·refine ⟨_, rfl, P2, fun u1 g1 => ?_⟩
    have w1 := Af.new (o := .tup [.int 0, .int 1]) g1
    refine eqN (AA.of (w1 _ _ hrb)) (AA.of (Aa (o := nT 0))) ?_
    refine ⟨_, rfl, ?_⟩
    refine Fn (fun _ => ?_) (fun _ => ?_)
    ·refine ⟨P2, fun u2 g2 => ?_⟩
     exact hnx _ _ ⟨u2, r13, rfl, w1.trans (Af.new g2), by rw [Nw]; exact Aa, N5⟩
    ·exact hnx _ _ ⟨rb, b, rfl, w1, w1 _ _ hrb, bbn, bbd⟩
   rintro σ' G4 hR4
   refine C4 hR4 fun rb b hz29' => ?_
   refine DF hz29' fun hq28 s4 erb bb => ?_
   clear hz29'
   obtain rfl := hq28
   try clear hR4
   have eg := s4 _ _ eg
   have es := s4 _ _ es
   have hun := Ao.same hun s4
   have mg := mg.trans s4.mv
   have p4 := p3.sm s4
   clear s4 p3 hrb
   have hSl : S < hs.length := by lia
   obtain ⟨vy, hvy, nvy⟩ := (Paired.get' hun (Si hSl))
   have bS := hb _ (Sj hSl)
   refine ⟨_, rfl, _, rfl, lh, us, _, _, rfl, rfl, SqL.of eg, AT hvy, _, rfl, _, _, hs[S], b, B + 9 * i, 8, rfl, nvy, AA.of erb, bS, bb, by lia, fun p5 h5 => ?_⟩
   have n5 := Af.new (o := nT (hs[S] + b)) h5
   refine ⟨_, rfl, _, rfl, lh, us, _, S, rfl, rfl, n5 _ _ eg, by unfold ixN; rw [if_pos (by lia), if_pos (by lia), Rt], ?_⟩
   have eg5 := n5 _ _ eg
   have hun5 := Ao.same hun n5
   have e5 := Aa (H := G4) (a := p5) (o := nT (hs[S] + b))
   refine ⟨us.set S (.ref p5), ts ++ [(S : Int)], hs.set S (hs[S] + b), _, _, _, rfl, ?_, ?_, Aa, ?_, by rw [Ro, RD]; lia, ?_, by rw [Ry]; exact hhl, ?_, ?_⟩
   ·intro x u hx e
    have hxl : x ≠ lh := fun z => by rw [z, hHlh] at e; cases e
    rw [Ak hxl]
    exact n5 _ _ (mg x u hx e)
   ·refine D4 (p4.sm n5) fun x0 x1 x2 e => ?_
    exact ⟨x0, x1, x2, by rw [Ak lha.symm]; exact e⟩
   ·rw [Ak hne.symm, S4]; exact n5 _ _ es
   ·exact Paired.set (AA.put (AA.of e5) eg5) S (Ao.put hun5 eg5)
   ·have := JF cs (hs[S] + b) qs hs S
    lia
   ·intro y hy
    rcases Tv hy with z | z
    ·exact (hb y z).mono (by lia)
    ·rw [z]; exact (RB.plus bS bb).mono (by lia)
  ·exact ⟨us, ts, hs, _, _, _, rfl, mg, p1, eg, es, by lia, hun, hhl, by lia, fun y hy => (hb y hy).mono (by lia)⟩
 ·rintro σ G hR5
  refine NQ hR5 fun us ts hs z6 z7 z8 hz32' => ?_
  refine LC hz32' fun hq31 mg pg eg es htl hun hhl hbad hb => ?_
  clear hz32'
  obtain rfl := hq31
  try clear hR5
  exact ⟨_, rfl, q lh G us hs mg pg hHlh lha eg hun hhl hbad hb⟩
theorem FC : Ap ["_law_a", "_law_b"] ["_law_a", "_law_b"] (Ae (top 48)) := ⟨rfl, rfl, rfl, by decide +kernel, rfl, by decide +kernel, by decide +kernel⟩
set_option maxHeartbeats 4000000 in
theorem FG {f : Addr} {fd : FuncData} (F : Fun K "_law_minus" "_law_minus" (top 48) f fd) (P6 : Fd P w K mg base 33 "_law_lowest" ["_law_top", "_law_bottom"] (Cz)) (hT : P.given.tree = none) :
 AE P w K mg base CX0 34 f fd ["_law_a", "_law_b"] (C5 K (· - ·)) := by
 refine F.ok FC (fun vs H Q E h => ?_) (fun cdv A outer s H vs Q E hr h => ?_)
 ·obtain ⟨_, _, _, _, _, _, rfl, _⟩ := h; rfl
 refine ⟨_, (Ag (Av (Am P6 hr rfl (A0 (Ah AK (Ah As (Aj (ixT K) (pv 0) Ab (fun u v => rfl)) (Aj (ixT K) (pv 1) Ab (fun u v => rfl))) (Ah As (Aj (ixT K) (pv 1) Ab (fun u v => rfl)) (Aj (ixT K) (pv 0) Ab (fun u v => rfl)))) (A0 (Ah As (Aj (ixT K) (pv 0) Ab (fun u v => rfl)) (Aj (ixT K) (pv 1) Ab (fun u v => rfl))) Ac))))), ?_⟩
 obtain ⟨x, y, p, q, m, n, rfl, ⟨r, rfl, hr⟩, ⟨u, rfl, hu⟩, hp, hq, hmn, k⟩ := h
 refine ⟨_, rfl, r, _, _, _, rfl, rfl, hr, rfl, _, rfl, u, _, _, _, rfl, rfl, hu, rfl, _, _, rfl, rfl, Bp.bd hp.1 hq.2, _, rfl, u, _, _, _, rfl, rfl, hu, rfl, _, rfl, r, _, _, _, rfl, rfl, hr, rfl, _, _, rfl, rfl, Bp.bd hq.1 hp.2, _, _, rfl, rfl, ?_⟩
 refine ⟨_, rfl, r, _, _, _, rfl, rfl, hr, rfl, _, rfl, u, _, _, _, rfl, rfl, hu, rfl, _, _, rfl, rfl, Bp.bd hp.2 hq.2, ?_⟩
 refine ⟨_, _, rfl, RT (Nm.den_ne p) (Nm.den_ne q), fun z hz => ?_⟩
 have e := k z hz
 try dsimp only at e
 rw [← Nm.minus_eq] at e
 exact e
theorem BJ : Ap ["_law_places_here", "_law_heights", "_law_curve_here", "_law_found", "_law_k", "_law_at_here"] ["_law_places_here", "_law_heights", "_law_curve_here"] (Ae (top 56)) := ⟨rfl, rfl, rfl, by decide +kernel, rfl, by decide +kernel, by decide +kernel⟩
set_option maxHeartbeats 4000000 in
theorem Ew {f : Addr} {fd : FuncData} (F : Fun K "_law_missing" "_law_missing" (top 56) f fd) (Pb : Fd P w K mg base 35 "_law_at" ["_law_curve_here", "_law_x"] (FT K)) (PN : Fd P w K mg base 34 "_law_minus" ["_law_a", "_law_b"] (C5 K (· - ·))) (OX : mg "range" = none) (OW : mg "len" = none) (hT : P.given.tree = none) :
 AE P w K mg base CX0 36 f fd ["_law_places_here", "_law_heights", "_law_curve_here"] (Gw K) := by
 refine F.ok BJ (fun vs H Q E h => ?_) (fun cdv A outer s H vs Q E hr h => ?_)
 ·obtain ⟨_, _, _, _, _, _, _, _, _, _, rfl, _⟩ := h; rfl
 refine ⟨_, (Ad (K := K) (Ai (i := 3) BJ.nd rfl (Or.inl rfl) (AS Ac))
  (Ad (K := K) (AX (K := K) PassesOwn.never rfl (AV rfl OX (A0 (Ar (BO K) rfl OW AF (A0 (pv 0) Ac)) Ac)) (Au (i := 4) BJ.nd rfl (Or.inr rfl)) (Ag (AQ (K := K) (At (neD K hr.units) (Am Pb hr rfl (A0 (pv 2) (A0 (Aj (ixL K) (pv 0) (pv 4) (fun u v => rfl)) Ac))) (Aj (ixL K) (pv 1) (pv 4) (fun u v => rfl)) (Ay _)) (Ad (K := K) (Ai (i := 5) BJ.nd rfl (Or.inl rfl) (Ar (BO K) rfl OW AF (A0 (Df rfl (N := ["_law_x", "_law_places_here", "_law_k"]) (nt := 1) (js := [0, 4]) (AZ.look (NX := ["_law_places_here", "_law_heights", "_law_curve_here", "_law_found", "_law_k", "_law_at_here"]) (sc := Ae (top 56)) rfl rfl (by decide +kernel)) (piL K (pv 3)) (fun u1 u2 u3 u4 u5 => (Au (i := 0) (show List.Nodup (["_law_x", "_law_places_here", "_law_k"] : List Str) from by decide +kernel) rfl (Or.inl rfl))) (AH (by decide)) (fun u1 u2 u3 u4 u5 => GE (At Fb (Aj (ixT K) (Am PN hr rfl (A0 (pv 0) (A0 (Aj (ixL K) (pv 1) (pv 2) (fun u v => rfl)) Ac))) Ab (fun u v => rfl)) Ab (Ay _))) (fun u1 u2 u3 u4 u5 => (pv 0))) Ac)))
  (Ag (BQ (Dg K PySem.F.plainAttrs_list PySem.F.slot_list_insert PySem.F.type_list_insert JX (pv 3) (A0 (pv 5) (A0 (Aj (ixL K) (pv 0) (pv 4) (fun u v => rfl)) Ac))))) (by rfl)) AI (by rfl) (by rfl))) (by rfl))
  (Ag (Av (pv 3))) (by rfl)) (by rfl)), ?_⟩
 obtain ⟨l, lh, c, zs, ys, qs, hs, cs, mc, nx, rfl, hl, hz, hh, hy, hc, hlen, h12, hc12, bq, bc, hmc, hnx, q⟩ := h
 have P0 : 0 ≤ sizeLine := by decide
 have hzl := hz.length
 have hyl := hy.length
 obtain ⟨xc, hxc, hcn⟩ := (id hc)
 have hnc : nx * cs.length ≤ 100 * 12 := Tf hnx hc12
 have hB2 : (mc + nx * cs.length + 4) * (cs.length + 2) ≤ 1001204 * 14 := Tf (by lia) (by lia)
 refine ⟨P0, fun f hf => ?_⟩
 have s0 : Af H (upd H f (.lst [])) := Af.new hf
 refine ⟨_, rfl, l, zs, rfl, .inl (Af.seq s0 hl), _, rfl, by lia, by lia, ?_⟩
 rw [Rt, hzl]
 refine BG (n := qs.length) (L9 H l lh c f K qs hs cs fun H l lh c f K qs hs cs i σ G => Af H G ∧ ∃ us rs z4 z5, σ = [some (.ref l), some (.ref lh), some (.ref c), some (.ref f), z4, z5] ∧ G f = some (.lst us) ∧ Ao K G us rs ∧ rs.Perm (AY (qs.take i) (hs.take i) cs) ∧ rs.Pairwise (· ≤ ·)) ⟨s0, [], [], none, none, rfl, Aa, .nil, .nil, .nil⟩ ?_ ?_
 ·rintro i σ G hi hR1
  refine By hR1 fun sg hz34 => ?_
  refine IX hz34 fun us rs z4 z5 hz34' => ?_
  clear hz34
  refine D5 hz34' fun hq33 ef hus hperm hpw => ?_
  clear hz34'
  obtain rfl := hq33
  try clear hR1
  have hqi : qs[i]? = some qs[i] := Si hi
  have hhi : hs[i]? = some (hs[i]'(by lia)) := Si (by lia)
  generalize hx : qs[i] = x at hqi
  generalize hs[i]'(by lia) = y at hhi
  obtain ⟨vp, hvp, nvp⟩ := (Paired.get' hz hqi)
  obtain ⟨vh, hvh, nvh⟩ := (Paired.get' hy hhi)
  obtain ⟨pa, rfl, _⟩ := (id nvp)
  have bx := bq x (Rn hqi)
  have hul := hus.length
  have hmb : ∀ z ∈ rs, RB nx z := fun z hz' => bq z (Td (HY (hperm.mem_iff.mp hz')))
  have hrl : rs.length ≤ 12 := by
   rw [hperm.length_eq, DU]
   refine QP (List.length_filter_le ..) ?_
   rw [T6, Rh]; lia
  refine ⟨_, rfl, _, rfl, _, rfl, l, zs, _, _, rfl, rfl, Af.seq sg hl, atV hvp (by lia), false, c, pa, xc, cs, x, mc, nx, rfl, hxc.same sg, Ao.same hcn sg, nvp.same sg, bc, bx, by lia, fun p1 G1 s1 e1 _ => ?_⟩
  have sg1 := sg.trans s1
  refine ⟨_, rfl, _, rfl, lh, ys, _, _, rfl, rfl, Af.seq sg1 hh, atV hvh (by lia), ?_⟩
  refine eqN (AA.of e1) (nvh.same sg1) ?_
  refine ⟨_, rfl, ?_⟩
  have ms := Gc (c := cs) hlen hqi hhi
  by_cases he : Cv.ev cs x = y
  ·refine AR (by rw [decide_eq_true he]; rfl) ⟨sg1, us, rs, _, _, rfl, s1 _ _ ef, Ao.same hus s1, ?_, hpw⟩
   rw [ms, if_pos he, Rc]; exact hperm
  refine Bw (by rw [decide_eq_false he]; rfl) ?_
  have ef1 := s1 _ _ ef
  refine C7 ⟨_, rfl, f, rfl, ⟨_, SqL.of ef1⟩, ?_⟩
  refine Jo (xs := us) (L3 G1 rs x fun G1 rs x j ws W => Af G1 W ∧ ws.length = ((rs.take j).filter fun y => decide (y < x)).length ∧ ws.length ≤ j) ⟨Af.refl _, rfl, R3 _⟩ (fun j ws W _ h => ⟨SqL.of (h.1 _ _ ef1), h.2.2⟩) (QQ (AU (by lia))) ?_ ?_
  ·rintro j u ws W hu ⟨sw, hwl, hwj⟩
   obtain ⟨r, hr, hrn⟩ := (Paired.get hus hu)
   have sgw := sg1.trans sw
   refine ⟨_, rfl, _, rfl, _, rfl, l, zs, _, _, rfl, rfl, Af.seq sgw hl, atV hvp (by lia), _, _, r, x, nx, nx, rfl, hrn.same (s1.trans sw), nvp.same sgw, hmb r (Rn hr), bx, by lia, fun p2 hp2 => ?_⟩
   have n2 := Af.new (o := nT (r - x)) hp2
   have et : ((rs.take (j + 1)).filter fun y => decide (y < x)).length = ((rs.take j).filter fun y => decide (y < x)).length + ([r].filter fun y => decide (y < x)).length := by rw [S3, hr, Tq, Ro]; rfl
   refine ⟨p2, _, _, _, rfl, rfl, SqT.of (Aa (o := nT (r - x))), rfl, _, _, rfl, rfl, _, rfl, ?_⟩
   have hd := KQ (x := x) (y := r)
   by_cases z : r < x
   ·refine Bw (by rw [hd, decide_eq_true z]) ⟨_, rfl, sw.trans n2, ?_, by rw [Ro, RD]; lia⟩
    rw [et, Tm (p := fun y => decide (y < x)) (by exact decide_eq_true z), Ro, RD, hwl]; rfl
   ·refine AR (by rw [hd, decide_eq_false z]) ⟨sw.trans n2, ?_, by lia⟩
    rw [et, Tn (p := fun y => decide (y < x)) (by simpa using z), hwl]; rfl
  rintro ws W ⟨sw, hwl, hwj⟩ lu hlu
  rw [hul, To] at hwl
  have n1 := Af.new (o := .lst ws) hlu
  have sw1 := s1.trans (sw.trans n1)
  refine ⟨lu, ws, rfl, .inl (SqL.of Aa), ?_⟩
  generalize upd W lu (.lst ws) = W1 at sw1 ⊢
  have ef2 := sw1 _ _ ef
  have sg2 := sg.trans sw1
  refine ⟨_, rfl, .inl ⟨rfl, _, SqL.of ef2⟩, _, rfl, _, rfl, _, rfl, l, zs, _, _, rfl, rfl, Af.seq sg2 hl, atV hvp (by lia), f, us, _, ws.length, .ref pa, rfl, rfl, rfl, ef2, by lia, by lia, ?_⟩
  have nz := Ao.put (o := .lst (us.take ws.length ++ V.ref pa :: us.drop ws.length)) (Ao.same hus sw1) ef2
  refine ⟨sg2.put hf, _, rs.take ws.length ++ x :: rs.drop ws.length, _, _, rfl, Aa, Paired.append (Paired.take _ nz) (.cons (AA.put (nvp.same sg2) ef2) (Ek _ nz)), ?_, IV hpw hwl⟩
  refine Lc.trans ?_
  rw [ms, if_neg he]
  exact (List.Perm.cons x hperm).trans (List.perm_append_comm (l₁ := [x]))
 rintro σ G hR2
 refine By hR2 fun sg hz36 => ?_
 refine IX hz36 fun us rs z4 z5 hz36' => ?_
 clear hz36
 refine D5 hz36' fun hq35 ef hus hperm hpw => ?_
 clear hz36'
 obtain rfl := hq35
 try clear hR2
 rw [To, ← hlen, To] at hperm
 exact ⟨_, rfl, q f us rs G sg hf ef hus hperm hpw⟩
theorem FA : Ap ["places"] ["places"] (Ae (top 21)) := ⟨rfl, rfl, rfl, by decide +kernel, rfl, by decide +kernel, by decide +kernel⟩
set_option maxHeartbeats 4000000 in
theorem FE {f : Addr} {fd : FuncData} (F : Fun K "are_unlike" "are_unlike" (top 21) f fd) (OW : mg "len" = none) (b_set : mg "set" = none) (hT : P.given.tree = none) :
 AE P w K mg base CX0 33 f fd ["places"] (DJ K) := by
 refine F.ok FA (fun vs H Q E h => ?_) (fun cdv A outer s H vs Q E hr h => ?_)
 ·obtain ⟨_, _, _, rfl, _⟩ := h; rfl
 refine ⟨_, (Ag (Av (Ji Fc (Ar Kc rfl OW AF (A0 (BN (OJ K rfl hr.units) rfl b_set NU (A0 (pv 0) Ac)) Ac)) (Ar (BO K) rfl OW AF (A0 (pv 0) Ac)) (Ay _)))), ?_⟩
 obtain ⟨l, ys, qs, rfl, hS, hn, hnd, h17, q⟩ := h
 have hl := hn.length
 refine ⟨_, rfl, l, ys, qs, rfl, hS, hn, hnd, h17, fun p hp => ⟨p, qs.length, rfl, Aa, by lia, ?_⟩⟩
 have s1 : Af H (upd H p (LH p qs.length)) := Af.new hp
 refine ⟨_, rfl, l, ys, rfl, .inl (Af.seq s1 hS), rfl, ?_⟩
 have e : (V.int ((qs.length : Nat) : Int) = V.int ((ys.length : Nat) : Int)) := by rw [hl]
 rw [decide_eq_true e]
 exact q _ s1
theorem Ep : Ap ["places", "fewest"] ["places", "fewest"] (Ae (top 22)) := ⟨rfl, rfl, rfl, by decide +kernel, rfl, by decide +kernel, by decide +kernel⟩
set_option maxHeartbeats 4000000 in
theorem Eu {f : Addr} {fd : FuncData} (F : Fun K "check_places" "check_places" (top 22) f fd) (PP : Fd P w K mg base 33 "are_unlike" ["places"] (DJ K)) (OW : mg "len" = none) {t_MOST_TOLD : Tok} (c_MOST_TOLD : mg "MOST_TOLD" = some (.int 12 t_MOST_TOLD)) (hT : P.given.tree = none) :
 AE P w K mg base CX0 34 f fd ["places", "fewest"] (ED K) := by
 refine F.ok Ep (fun vs H Q E h => ?_) (fun cdv A outer s H vs Q E hr h => ?_)
 ·obtain ⟨_, _, _, _, rfl, _⟩ := h; rfl
 refine ⟨_, (Ad (K := K) (AQ (K := K) (PW.pt (KI (At Fb (Ar (BO K) rfl OW AF (A0 (pv 0) Ac)) (pv 1) (Ay _)) (KH (At El (Ar (BO K) rfl OW AF (A0 (pv 0) Ac)) (GH (v := .int 12) rfl c_MOST_TOLD ⟨_, rfl⟩) (Ay _))))) (Ag Ci) AI (by rfl) (by rfl))
  (Ag (AQ (K := K) (IF (IE (Am PP hr rfl (A0 (pv 0) Ac)))) (Ag Ci) AI (by rfl) (by rfl))) (by rfl)), ?_⟩
 obtain ⟨l, few, ys, qs, rfl, hS, hn, hnd, h12, hf, q⟩ := h
 have hl := hn.length
 refine ⟨_, rfl, l, ys, rfl, .inl hS, _, rfl, _, _, rfl, rfl, _, rfl, ?_⟩
 refine AR (by rw [decide_eq_false (show ¬ ((ys.length : Int) < few) by lia)] <;> rfl) ?_
 refine ⟨_, rfl, l, ys, rfl, .inl hS, _, _, rfl, rfl, _, rfl, ?_⟩
 refine AR (by rw [decide_eq_false (show ¬ ((12 : Int) < (ys.length : Int)) by lia)] <;> rfl) ?_
 exact ⟨_, rfl, l, ys, qs, rfl, hS, hn, hnd, by lia, fun H' s => ⟨_, rfl, Ia (q H' s)⟩⟩
theorem E4 : Ap ["places", "heights"] ["places", "heights"] (Ae (top 26)) := ⟨rfl, rfl, rfl, by decide +kernel, rfl, by decide +kernel, by decide +kernel⟩
set_option maxHeartbeats 4000000 in
theorem E9 {f : Addr} {fd : FuncData} (F : Fun K "check_heights" "check_heights" (top 26) f fd) (PQ : Fd P w K mg base 34 "check_places" ["places", "fewest"] (ED K)) (OW : mg "len" = none) (hT : P.given.tree = none) :
 AE P w K mg base CX0 35 f fd ["places", "heights"] (DL K) := by
 refine F.ok E4 (fun vs H Q E h => ?_) (fun cdv A outer s H vs Q E hr h => ?_)
 ·obtain ⟨_, _, _, _, _, rfl, _⟩ := h; rfl
 refine ⟨_, (Ad (K := K) (BQ (Am PQ hr rfl (A0 (pv 0) (A0 Ab Ac))))
  (Ag (AQ (K := K) (At Gb (Ar (BO K) rfl OW AF (A0 (pv 1) Ac)) (Ar (BO K) rfl OW AF (A0 (pv 0) Ac)) (Ay _)) (Ag Ci) AI (by rfl) (by rfl))) (by rfl)), ?_⟩
 obtain ⟨lp, lh, zs, ys, qs, rfl, hS, hN, hnd, h1, h12, hH, hl, q⟩ := h
 refine ⟨_, rfl, lp, 1, zs, qs, rfl, hS, hN, hnd, h12, by lia, fun H1 s1 => ?_⟩
 exact ⟨_, rfl, lh, ys, rfl, .inl (Af.seq s1 hH), _, rfl, lp, zs, rfl, .inl (Af.seq s1 hS), rfl, _, rfl, AR (by rw [hl, decide_eq_true rfl]; rfl) (q H1 s1)⟩
theorem B0 : Ap ["tops", "x", "height", "scale", "top"] ["tops", "x"] (Ae (top 16)) := ⟨rfl, rfl, rfl, by decide +kernel, rfl, by decide +kernel, by decide +kernel⟩
set_option maxHeartbeats 4000000 in
theorem Es {f : Addr} {fd : FuncData} (F : Fun K "whole_height" "whole_height" (top 16) f fd) (Pm : mg "reversed" = none) (hT : P.given.tree = none) :
 AE P w K mg base CX0 33 f fd ["tops", "x"] (Kw K) := by
 refine F.ok B0 (fun vs H Q E h => ?_) (fun cdv A outer s H vs Q E hr h => ?_)
 ·obtain ⟨_, _, _, _, _, _, rfl, _⟩ := h; rfl
 refine ⟨_, (Ad (K := K) (Ai (i := 2) B0.nd rfl (Or.inl rfl) Ab)
  (Ad (K := K) (Ai (i := 3) B0.nd rfl (Or.inl rfl) Ab)
  (Ad (K := K) (AX (K := K) PassesOwn.never rfl (Og K rfl Pm (pv 0)) (Au (i := 4) B0.nd rfl (Or.inl rfl)) (Ad (K := K) (Ai (i := 2) B0.nd rfl (Or.inl rfl) (Ah AB (Ah As (pv 2) (Aj (ixT K) (pv 1) Ab (fun u v => rfl))) (Ah As (pv 4) (pv 3))))
  (Ag (Ai (i := 3) B0.nd rfl (Or.inl rfl) (Ah As (pv 3) (Aj (ixT K) (pv 1) Ab (fun u v => rfl))))) (by rfl)) (by rfl))
  (Ag (Av (AJ (A0 (Ah As (pv 2) (Aj (ixT K) (pv 1) Ab (fun u v => rfl))) (A0 (pv 3) Ac))))) (by rfl)) (by rfl)) (by rfl)), ?_⟩
 obtain ⟨l, rx, ts, x, m, n, rfl, hS, ⟨_, erx, hx⟩, hB, hbx, hz, q⟩ := h
 cases erx
 have tl : (ts.map V.int).length = ts.length := Rp _
 have hz2 : m + n * ts.length + 4 * n + ts.length + 4 ≤ 100000000 := by
  have e : (n + 1) * (ts.length + 4) = n * ts.length + 4 * n + ts.length + 4 := by rw [Sl, Tt]; lia
  lia
 have P2 : 2 ≤ sizeLine := by decide
 refine ⟨_, rfl, _, rfl, l, _, rfl, hS, ?_⟩
 refine Mu (L7 H l rx x ts m n fun H l rx x ts m n i σ H' => H' = H ∧ ∃ (h s : Int) (z : Option V), σ = [some (.ref l), some (.ref rx), some (.int h), some (.int s), z] ∧ s = (x.den : Int) ^ i ∧ s ≠ 0 ∧
  (h : Rat) * ((x.den : Int) : Rat) = Cv.evI (ts.drop (ts.length - i)) x * (s : Rat) ∧ Bd (m + n * i + i + 2) h ∧ Bd (n * i + 1) s)
  ⟨rfl, 0, 1, none, rfl, rfl, by decide, ?_, ?_, ?_⟩ (fun i σ H' _ p => by rw [p.1]; exact hS) ?_ ?_
 ·rw [Sx, SB (R3 _)]
  show ((0 : Int) : Rat) * _ = 0 * _
  rw [Th]; grind
 ·exact (show Bd 1 0 by unfold Bd; decide).mono (by lia)
 ·exact (show Bd 1 1 by unfold Bd; decide).mono (by lia)
 ·rintro i v σ H' hi hv hR1
  refine By hR1 fun hq37 hz39 => ?_
  refine D4 hz39 fun h s z hz39' => ?_
  clear hz39
  refine Kd hz39' fun hq38 es hs0 he hbh hbs => ?_
  clear hz39'
  obtain rfl := hq37
  obtain rfl := hq38
  try clear hR1
  rw [tl] at hi hv
  have hj : ts.length - 1 - i < ts.length := by lia
  have htq : ts[ts.length - 1 - i]? = some ts[ts.length - 1 - i] := Si hj
  have htm : ts[ts.length - 1 - i] ∈ ts := Sj hj
  rw [Rl, htq] at hv
  cases hv
  generalize ts[ts.length - 1 - i] = t at htq htm
  have bt := hB _ htm
  have hni : n * i ≤ n * ts.length := Ts n (by lia)
  have hni1 : n * (i + 1) = n * i + n := by rw [Tt, Tu]
  refine ⟨_, rfl, _, rfl, rx, _, _, _, rfl, rfl, hx, rfl, _, _, rfl, rfl, Bp.bd hbh hbx.1 (by lia), _, rfl, _, rfl, _, _, rfl, rfl, Bp.bd bt hbs (by lia), _, _, rfl, rfl, ?_⟩
  refine ⟨_, rfl, _, rfl, rx, _, _, _, rfl, rfl, hx, rfl, _, _, rfl, rfl, Bp.bd hbs hbx.2 (by lia), ⟨rfl, _, _, _, rfl, ?_, RT hs0 (Nm.den_ne x), ?_, ?_, ?_⟩⟩
  ·rw [es, Int.pow_succ]
  ·rw [Hf rfl hi htq, Cv.evI_cons, Rat.intCast_add, RU, RU, RU, Nm.num_mul x]
   grind
  ·have b1 := hbh.mul hbx.1
   have b2 := bt.mul hbs
   exact (Bd.add (b1.mono (n := m + n * i + i + 2 + n) (by lia)) (b2.mono (by lia))).mono (by lia)
  ·exact (hbs.mul hbx.2).mono (by lia)
 ·rintro σ H' hR2
  refine By hR2 fun hq40 hz42 => ?_
  refine D4 hz42 fun h s z hz42' => ?_
  clear hz42
  refine Kd hz42' fun hq41 es hs0 he hbh hbs => ?_
  clear hz42'
  obtain rfl := hq40
  obtain rfl := hq41
  try clear hR2
  rw [tl] at es he hbh hbs
  rw [Sz, Sw] at he
  refine ⟨_, rfl, _, rfl, rx, _, _, _, rfl, rfl, hx, rfl, _, _, rfl, rfl, Bp.bd hbh hbx.2 (by lia), _, rfl, P2, fun p hp => ?_⟩
  exact q _ _ p es hs0 (by rw [RU]; exact he) ((hbh.mul hbx.2).mono (by rw [Sl, Tt]; lia)) hbs hp
theorem ES : Ap ["pair", "x", "y", "room"] ["pair", "x", "y"] (Ae (top 28)) := ⟨rfl, rfl, rfl, by decide +kernel, rfl, by decide +kernel, by decide +kernel⟩
set_option maxHeartbeats 4000000 in
theorem IO {f : Addr} {fd : FuncData} (F : Fun K "lack_at" "lack_at" (top 28) f fd) (Ph : Fd P w K mg base 33 "whole_height" ["tops", "x"] (Kw K)) (OW : mg "len" = none) (hT : P.given.tree = none) :
 AE P w K mg base CX0 34 f fd ["pair", "x", "y"] (Gx K) := by
 refine F.ok ES (fun vs H Q E h => ?_) (fun cdv A outer s H vs Q E hr h => ?_)
 ·obtain ⟨_, _, _, _, _, _, _, _, _, _, rfl, _⟩ := h; rfl
 refine ⟨_, (Ad (K := K) (Ai (i := 3) ES.nd rfl (Or.inl rfl) (Ah (Bh hr hT) (Ar (BO K) rfl OW AF (A0 (pv 0) Ac)) Ab))
  (Ag (Av (Ah AK (Ah As (Aj (ixT K) (pv 2) Ab (fun u v => rfl)) (Aj (ixT K) (Am Ph hr rfl (A0 (BS (slL K) (pv 0) Ce (Cd (pv 3))) (A0 (pv 1) Ac))) Ab (fun u v => rfl))) (Ah As (Aj (ixT K) (pv 2) Ab (fun u v => rfl)) (Aj (ixT K) (Am Ph hr rfl (A0 (BS (slL K) (pv 0) (Cd (pv 3)) Ce) (A0 (pv 1) Ac))) Ab (fun u v => rfl)))))) (by rfl)), ?_⟩
 obtain ⟨l, rx, ry, ts, x, y, R, m, nx, ny, rfl, hS, hl, hx, ⟨_, ery, hy⟩, hB, bx, by_, hz, q⟩ := h
 cases ery
 have hz1 : (nx + 1) * (R + 4) = (nx + 1) * (R + 2) + (nx + 1) * 2 := by rw [← Tt]
 generalize hP : (nx + 1) * (R + 2) = P at *
 refine ⟨_, rfl, l, _, rfl, .inl hS, _, _, rfl, rfl, by decide, ?_⟩
 have eR : (((ts.map V.int).length : Nat) : Int).fdiv 2 = (R : Int) := by
  rw [Rp, hl, Tl _ (by decide)]; lia
 rw [eR]
 have ht1 : (ts.take R).length = R := by rw [Rh]; lia
 have ht2 : (ts.drop R).length = R := by rw [Rw]; lia
 refine ⟨_, rfl, ry, _, _, _, rfl, rfl, hy, rfl, _, rfl, _, rfl, _, rfl, l, _, rfl, hS, fun p1 h1 => ?_⟩
 have c1 : Cw (ts.map V.int) none (some (R : Int)) = (ts.take R).map V.int := by rw [DE, Tw]
 rw [c1]
 have n1 := Af.new (o := .lst ((ts.take R).map V.int)) h1
 have e1 : (upd H p1 (.lst ((ts.take R).map V.int))) p1 = some (.lst ((ts.take R).map V.int)) := Aa
 generalize upd H p1 (.lst ((ts.take R).map V.int)) = H1 at n1 e1 ⊢
 refine ⟨_, rfl, p1, rx, ts.take R, x, m, nx, rfl, SqL.of e1, hx.same n1, fun t ht => hB t (Td ht), bx, by rw [ht1]; lia, fun hN s p2 es hs0 ehN bN bs hp2 => ?_⟩
 rw [ht1] at es bN bs
 have n2 := Af.new (o := .tup [.int hN, .int s]) hp2
 refine ⟨p2, _, _, _, rfl, rfl, SqT.of Aa, rfl, _, _, rfl, rfl, Bp.bd by_.2 bN (by lia), ?_⟩
 have s2 := n1.trans n2
 generalize upd H1 p2 (.tup [.int hN, .int s]) = H2 at s2 ⊢
 refine ⟨_, rfl, ry, _, _, _, rfl, rfl, hy.same s2, rfl, _, rfl, _, rfl, _, rfl, l, _, rfl, Af.seq s2 hS, fun p3 h3 => ?_⟩
 have c2 : Cw (ts.map V.int) (some (R : Int)) none = (ts.drop R).map V.int := by rw [Ft, List.map_drop]
 rw [c2]
 have n3 := s2.trans (Af.new (o := .lst ((ts.drop R).map V.int)) h3)
 have e3 : (upd H2 p3 (.lst ((ts.drop R).map V.int))) p3 = some (.lst ((ts.drop R).map V.int)) := Aa
 generalize upd H2 p3 (.lst ((ts.drop R).map V.int)) = H3 at n3 e3 ⊢
 refine ⟨_, rfl, p3, rx, ts.drop R, x, m, nx, rfl, SqL.of e3, hx.same n3, fun t ht => hB t (Tx ht), bx, by rw [ht2]; lia, fun hD s' p4 es' hs0' ehD bD bs' hp4 => ?_⟩
 rw [ht2] at es' bD bs'
 have n4 := Af.new (o := .tup [.int hD, .int s']) hp4
 refine ⟨p4, _, _, _, rfl, rfl, SqT.of Aa, rfl, _, _, rfl, rfl, Bp.bd by_.1 bD (by lia), _, _, rfl, rfl, ?_⟩
 refine q _ _ (n3.trans n4) ?_ ?_
 ·rw [RV, RU, RU, ehN, ehD, es', ← es, RU, Nm.num_mul y]
  grind
 ·exact Bd.sub (n := m + P + ny) ((by_.2.mul bN).mono (by lia)) ((by_.1.mul bD).mono (by lia))
theorem DN : Ap ["pair", "x"] ["pair", "x"] (Ae (top 29)) := ⟨rfl, rfl, rfl, by decide +kernel, rfl, by decide +kernel, by decide +kernel⟩
set_option maxHeartbeats 4000000 in
theorem DQ {f : Addr} {fd : FuncData} (F : Fun K "with_nought_at" "with_nought_at" (top 29) f fd) (OX : mg "range" = none) (OW : mg "len" = none) (hT : P.given.tree = none) :
 AE P w K mg base CX0 33 f fd ["pair", "x"] (EB K) := by
 refine F.ok DN (fun vs H Q E h => ?_) (fun cdv A outer s H vs Q E hr h => ?_)
 ·obtain ⟨_, _, _, _, _, _, rfl, _⟩ := h; rfl
 refine ⟨_, (Ag (Av (Df rfl (N := ["k", "pair", "x"]) (nt := 1) (js := [0, 1]) (AZ.look (NX := ["pair", "x"]) (sc := Ae (top 29)) rfl rfl (by decide +kernel)) (AV rfl OX (A0 (Ar (BO K) rfl OW AF (A0 (pv 0) Ac)) Ac)) (fun u1 u2 u3 u4 u5 => (Au (i := 0) (show List.Nodup (["k", "pair", "x"] : List Str) from by decide +kernel) rfl (Or.inl rfl))) (AH (by decide)) (fun u1 u2 u3 u4 u5 => BE) (fun u1 u2 u3 u4 u5 => (Ah AK (Ah As (Aj (ixT K) (pv 2) Ab (fun u v => rfl)) (Aj (ixL K) (pv 1) (Ah AK (pv 0) Ab) (fun u v => rfl))) (Ah As (Aj (ixT K) (pv 2) Ab (fun u v => rfl)) (Aj (ixL K) (pv 1) (pv 0) (fun u v => rfl)))))))), ?_⟩
 obtain ⟨l, rx, ts, x, m, n, rfl, hS, ⟨_, erx, hx⟩, h1, h100, hlast, hB, bx, hz, q⟩ := h
 cases erx
 have tl : (ts.map V.int).length = ts.length := Rp _
 refine C7 ⟨_, rfl, l, _, rfl, .inl hS, _, rfl, by rw [tl]; lia, by rw [tl]; lia, ?_⟩
 rw [Rt, tl]
 refine GY (L3 H x ts fun H x ts i zs G => G = H ∧ zs = ((QL i).map fun k => (x.den : Int) * (if k = 0 then 0 else ts.getD (k - 1) 0) - x.num * ts.getD k 0).map V.int) ⟨rfl, rfl⟩ (fun i zs G _ h => by rw [h.2, Rp, Rp, SH]) (QQ (AU (by lia))) ?_ ?_
 ·rintro i zs G hi ⟨rfl, rfl⟩
  have at_i : atI (ts.map V.int) (0 + (i : Int)) = some (.int (ts.getD i 0)) := by
   rw [Int.zero_add]
   refine AT ?_
   rw [Rl, Si hi, Sb, Si hi]; rfl
  have at_p : atI (ts.map V.int) (0 + (i : Int) - 1) = some (.int (if i = 0 then 0 else ts.getD (i - 1) 0)) := by
   by_cases z : i = 0
   ·subst z
    rw [if_pos rfl]
    have : atI (ts.map V.int) (-1) = some (.int 0) := Ip (by
     rw [tl, Rl, Si (by lia)]
     rw [Sb, Si (by lia)] at hlast
     exact congrArg (fun t => some (V.int t)) hlast)
    exact this
   ·rw [if_neg z, show (0 : Int) + (i : Int) - 1 = ((i - 1 : Nat) : Int) by lia]
    refine AT ?_
    rw [Rl, Si (by lia), Sb, Si (by lia)]; rfl
  have bp : Bd m (if i = 0 then 0 else ts.getD (i - 1) 0) := by
   split
   ·exact (show Bd 0 0 by unfold Bd; decide).mono (by lia)
   ·exact Cr hB _
  refine ⟨_, rfl, rx, _, _, _, rfl, rfl, hx, rfl, _, rfl, _, rfl, _, _, rfl, rfl, l, _, _, _, rfl, rfl, hS, at_p, _, _, rfl, rfl, Bp.bd bx.2 bp (by lia), ?_⟩
  refine ⟨_, rfl, rx, _, _, _, rfl, rfl, hx, rfl, _, rfl, _, rfl, l, _, _, _, rfl, rfl, hS, at_i, _, _, rfl, rfl, Bp.bd bx.1 (Cr hB i) (by lia), _, _, rfl, rfl, rfl, ?_⟩
  rw [Su, S4, S4]
  rfl
 rintro zs G ⟨hG, rfl⟩ p hp
 obtain rfl : H = G := hG.symm
 refine q p _ (Af.new hp) Aa fun t ht => ?_
 unfold shI at ht
 obtain ⟨k, _, rfl⟩ := (Sv.mp ht)
 have bp : Bd m (if k = 0 then 0 else ts.getD (k - 1) 0) := by
  split
  ·exact (show Bd 0 0 by unfold Bd; decide).mono (by lia)
  ·exact Cr hB _
 exact Bd.sub (n := m + n) ((bx.2.mul bp).mono (by lia)) ((bx.1.mul (Cr hB k)).mono (by lia))
theorem AM : Ap ["one", "other", "great", "small", "rest"] ["one", "other"] (Ae (top 6)) := ⟨rfl, rfl, rfl, by decide +kernel, rfl, by decide +kernel, by decide +kernel⟩
set_option maxHeartbeats 4000000 in
theorem DR {f : Addr} {fd : FuncData} (F : Fun K "common_measure" "common_measure" (top 6) f fd) (P5 : mg "abs" = none) (hT : P.given.tree = none) :
 AE P w K mg base CX0 33 f fd ["one", "other"] (FQ) := by
 refine F.ok AM (fun vs H Q E h => ?_) (fun cdv A outer s H vs Q E hr h => ?_)
 ·obtain ⟨_, _, rfl, _⟩ := h; rfl
 refine ⟨_, (Ad (K := K) (Ai (i := 2) AM.nd rfl (Or.inl rfl) (Ar DZ rfl P5 Hk (A0 (pv 0) Ac)))
  (Ad (K := K) (Ai (i := 3) AM.nd rfl (Or.inl rfl) (Ar DZ rfl P5 Hk (A0 (pv 1) Ac)))
  (Ad (K := K) (De PassesOwn.never (At Gb (pv 3) Ab (Ay _)) (Ad (K := K) (Ai (i := 4) AM.nd rfl (Or.inl rfl) (Ah C3 (pv 2) (pv 3)))
  (Ad (K := K) (Ai (i := 2) AM.nd rfl (Or.inl rfl) (pv 3))
  (Ag (Ai (i := 3) AM.nd rfl (Or.inl rfl) (pv 4))) (by rfl)) (by rfl)))
  (Ag (Av (pv 2))) (by rfl)) (by rfl)) (by rfl)), ?_⟩
 obtain ⟨a, b, rfl, q⟩ := h
 refine ⟨_, rfl, a, rfl, ?_⟩
 refine ⟨_, rfl, b, rfl, ?_⟩
 refine Hs (L3 H a b fun H a b σ H' => H' = H ∧ ∃ (x y : Int) (r : Option V), σ = [some (.int a), some (.int b), some (.int x), some (.int y), r] ∧ 0 ≤ x ∧ 0 ≤ y ∧ RJ x y = RJ a b) (fun σ _ => mu 3 σ)
  ⟨rfl, _, _, none, rfl, ?_, ?_, ?_⟩ ?_ ?_
 ·rw [Nm.abs_if]; exact Tr _
 ·rw [Nm.abs_if]; exact Tr _
 ·rw [Nm.abs_if, Nm.abs_if]; rfl
 ·rintro σ H' hR1
  refine By hR1 fun hq43 hz45 => ?_
  refine D4 hz45 fun x y r hz45' => ?_
  clear hz45
  refine DF hz45' fun hq44 hx hy hg => ?_
  clear hz45'
  obtain rfl := hq43
  obtain rfl := hq44
  try clear hR1
  refine ⟨_, rfl, rfl, _, rfl, ?_⟩
  by_cases hy0 : y = 0
  ·subst hy0
   refine AR (by rw [decide_eq_true rfl] <;> rfl) ⟨_, rfl, ?_⟩
   have e : (RJ a b : Int) = x := by rw [← hg, Int.gcd_zero]; lia
   rw [e] at q
   exact q
  ·refine Bw (by rw [decide_eq_false (fun z => hy0 (V.int.inj z))] <;> rfl) ?_
   have hyp : 0 < y := by lia
   refine ⟨_, rfl, _, rfl, _, _, rfl, rfl, hyp, ?_⟩
   refine ⟨_, rfl, _, rfl, ⟨rfl, y, x % y, _, rfl, hy, SE _ hy0, ?_⟩, ?_⟩
   ·rw [Nm.gcd_turn]; exact hg
   ·show (x % y).toNat < y.toNat
    have := SF x hyp
    lia
 ·rintro σ H' Q1 Q2 hm hR2
  obtain ⟨v, e, s1, k, ek, q1⟩ := hR2
  try clear hR2
  exact ⟨v, e, s1, k, ek, hm _ _ q1⟩
theorem Bv : Ap ["tops", "measure", "top"] ["tops"] (Ae (top 30)) := ⟨rfl, rfl, rfl, by decide +kernel, rfl, by decide +kernel, by decide +kernel⟩
set_option maxHeartbeats 4000000 in
theorem DP {f : Addr} {fd : FuncData} (F : Fun K "without_common" "without_common" (top 30) f fd) (Pc : Fd P w K mg base 33 "common_measure" ["one", "other"] (FQ)) (hT : P.given.tree = none) :
 AE P w K mg base CX0 34 f fd ["tops"] (J8 K) := by
 refine F.ok Bv (fun vs H Q E h => ?_) (fun cdv A outer s H vs Q E hr h => ?_)
 ·obtain ⟨_, _, _, rfl, _⟩ := h; rfl
 refine ⟨_, (Ad (K := K) (Ai (i := 1) Bv.nd rfl (Or.inr rfl) Ab)
  (Ad (K := K) (AX (K := K) PassesOwn.never rfl (piL K (pv 0)) (Au (i := 2) Bv.nd rfl (Or.inl rfl)) (Ag (Ai (i := 1) Bv.nd rfl (Or.inr rfl) (Am Pc hr rfl (A0 (pv 1) (A0 (pv 2) Ac))))) (by rfl))
  (Ag (Av (Df rfl (N := ["top", "measure"]) (nt := 1) (js := [1]) (AZ.look (NX := ["tops", "measure", "top"]) (sc := Ae (top 30)) rfl rfl (by decide +kernel)) (piL K (pv 0)) (fun u1 u2 u3 u4 u5 => (Au (i := 0) (show List.Nodup (["top", "measure"] : List Str) from by decide +kernel) rfl (Or.inl rfl))) (AH (by decide)) (fun u1 u2 u3 u4 u5 => BE) (fun u1 u2 u3 u4 u5 => (Ah (Bh hr hT) (pv 0) (pv 1)))))) (by rfl)) (by rfl)), ?_⟩
 obtain ⟨l, ts, m, rfl, hS, hne, h100, hB, q⟩ := h
 have tl : (ts.map V.int).length = ts.length := Rp _
 refine ⟨_, rfl, l, rfl, ⟨_, hS⟩, Id (xs := ts.map V.int) (L3 H l ts fun H l ts i σ G => G = H ∧ ∃ (g : Int) (z : Option V), σ = [some (.ref l), some (.int g), z] ∧ 0 ≤ g ∧ (∀ t ∈ ts.take i, g ∣ t) ∧ (g = 0 → ∀ t ∈ ts.take i, t = 0)) ⟨rfl, 0, none, rfl, by decide, (fun _ h => nomatch h), fun _ _ h => nomatch h⟩ (fun i σ G _ h => by rw [h.1]; exact hS) ?_ ?_⟩
 ·rintro i v σ G hv hR1
  refine By hR1 fun hq47 hz49 => ?_
  refine C4 hz49 fun g z hz49' => ?_
  clear hz49
  refine DF hz49' fun hq48 g0 hg hg0 => ?_
  clear hz49'
  obtain rfl := hq47
  obtain rfl := hq48
  try clear hR1
  rw [Rl] at hv
  cases ht : ts[i]? with
  | none => rw [ht] at hv; cases hv
  | some t =>
    rw [ht] at hv
    cases hv
    refine ⟨_, rfl, _, rfl, g, t, rfl, rfl, _, _, rfl, by lia, fun u hu => ?_, fun z u hu => ?_⟩
    ·rw [S3, ht] at hu
     rcases QV.mp hu with w | w
     ·exact Int.dvd_trans (RN ..) (hg u w)
     ·rw [show u = t from Sh.mp w]; exact RP ..
    ·have z' : RJ g t = 0 := by lia
     rw [Int.gcd_eq_zero_iff] at z'
     rw [S3, ht] at hu
     rcases QV.mp hu with w | w
     ·exact hg0 z'.1 u w
     ·rw [show u = t from Sh.mp w]; exact z'.2
 rintro σ G hR2
 refine By hR2 fun hG hz51 => ?_
 refine C4 hz51 fun g z hz51' => ?_
 clear hz51
 refine DF hz51' fun hq50 g0 hg hg0 => ?_
 clear hz51'
 obtain rfl := hq50
 try clear hR2
 obtain rfl : H = G := hG.symm
 rw [tl, To] at hg hg0
 have gne : g ≠ 0 := fun z => by
  obtain ⟨t, ht, hn⟩ := hne
  exact hn (hg0 z t ht)
 refine C7 ⟨_, rfl, l, rfl, ⟨_, hS⟩, ?_⟩
 refine Fl (xs := ts.map V.int) (fun i zs G => G = H ∧ zs = ((ts.take i).map fun t => t.fdiv g).map V.int) ⟨rfl, rfl⟩ (fun i zs G hi h => ⟨by rw [h.1]; exact hS, by rw [h.2, Rp, Rp, Rh]; lia⟩) (QQ (AU (by lia))) ?_ ?_
 ·rintro i v zs G hv ⟨rfl, rfl⟩
  rw [Rl] at hv
  cases ht : ts[i]? with
  | none => rw [ht] at hv; cases hv
  | some t =>
    rw [ht] at hv
    cases hv
    refine ⟨_, rfl, _, rfl, _, _, rfl, rfl, gne, rfl, ?_⟩
    rw [S3, ht, S4, S4]
    rfl
 rintro zs G ⟨hG, rfl⟩ p hp
 obtain rfl : H = G := hG.symm
 rw [tl, To]
 refine q p _ g _ (Af.new hp) Aa gne (by rw [Rp]) (fun j => ?_) fun t ht => ?_
 ·rw [Sb, Sb, Rl]
  cases ht : ts[j]? with
  | none => exact Tc _
  | some t =>
    show g * t.fdiv g = t
    rw [Tl _ g0]
    exact Int.mul_ediv_cancel' (hg t (Rn ht))
 ·obtain ⟨u, hu, rfl⟩ := (Sv.mp ht)
  rw [Tl _ g0]
  have b := hB u hu
  unfold Bd at b ⊢
  exact RH (Int.natAbs_ediv_le_natAbs ..) b
theorem Bb : Ap ["both", "x", "y", "low", "high", "lack", "other"] ["both", "x", "y"] (Ae (top 31)) := ⟨rfl, rfl, rfl, by decide +kernel, rfl, by decide +kernel, by decide +kernel⟩
set_option maxHeartbeats 4000000 in
theorem GR {f : Addr} {fd : FuncData} (F : Fun K "both_with" "both_with" (top 31) f fd) (Px : Fd P w K mg base 34 "lack_at" ["pair", "x", "y"] (Gx K)) (Py : Fd P w K mg base 33 "with_nought_at" ["pair", "x"] (EB K)) (PR : Fd P w K mg base 34 "without_common" ["tops"] (J8 K)) (P4 : mg "zip" = none) (hT : P.given.tree = none) :
 AE P w K mg base CX0 35 f fd ["both", "x", "y"] (Gz K) := by
 refine F.ok Bb (fun vs H Q E h => ?_) (fun cdv A outer s H vs Q E hr h => ?_)
 ·obtain ⟨_, _, _, _, _, _, _, _, _, _, _, _, _, _, _, _, _, _, _, _, _, rfl, _⟩ := h; rfl
 refine ⟨_, (Ad (K := K) (Ai (i := 3) Bb.nd rfl (Or.inl rfl) (Aj (ixT K) (pv 0) Ab (fun u v => rfl)))
  (Ad (K := K) (Ai (i := 4) Bb.nd rfl (Or.inl rfl) (Aj (ixT K) (pv 0) Ab (fun u v => rfl)))
  (Ad (K := K) (Ai (i := 5) Bb.nd rfl (Or.inr rfl) (Am Px hr rfl (A0 (Aj (ixT K) (pv 3) Ab (fun u v => rfl)) (A0 (pv 1) (A0 (pv 2) Ac)))))
  (Ad (K := K) (Ai (i := 6) Bb.nd rfl (Or.inr rfl) (Am Px hr rfl (A0 (Aj (ixT K) (pv 4) Ab (fun u v => rfl)) (A0 (pv 1) (A0 (pv 2) Ac)))))
  (Ad (K := K) (AQ (K := K) (PW.pt (GD (At Fc (pv 5) Ab (Ay _)) (EE (At Gb (pv 6) Ab (Ay _))))) (Ag (Ai (i := 4) Bb.nd rfl (Or.inl rfl) (AJ (A0 (Ah AB (Aj (ixT K) (pv 4) Ab (fun u v => rfl)) Ab) (A0 (Am Py hr rfl (A0 (Aj (ixT K) (pv 4) Ab (fun u v => rfl)) (A0 (pv 1) Ac))) Ac))))) AI (by rfl) (by rfl))
  (Ad (K := K) (AQ (K := K) (PW.pt (GD (At Gb (pv 5) Ab (Ay _)) (EE (At Gb (pv 6) Ab (Ay _))))) (Ag (Ai (i := 4) Bb.nd rfl (Or.inl rfl) (AJ (A0 (Aj (ixT K) (pv 4) Ab (fun u v => rfl)) (A0 (Am PR hr rfl (A0 (Df rfl (N := ["a", "b", "lack", "other"]) (nt := 2) (js := [5, 6]) (AZ.look (NX := ["both", "x", "y", "low", "high", "lack", "other"]) (sc := Ae (top 31)) rfl rfl (by decide +kernel)) (MK K rfl P4 (A0 (Aj (ixT K) (pv 3) Ab (fun u v => rfl)) (A0 (Aj (ixT K) (pv 4) Ab (fun u v => rfl)) Ac))) (fun u1 u2 u3 u4 u5 => (pgT K (n := 2) rfl (BR (Au (i := 0) (show List.Nodup (["a", "b", "lack", "other"] : List Str) from by decide +kernel) rfl (Or.inl rfl)) (BR (Au (i := 1) (show List.Nodup (["a", "b", "lack", "other"] : List Str) from by decide +kernel) rfl (Or.inl rfl)) EF)))) (FO (Co (by decide) (Co (by decide) EL))) (fun u1 u2 u3 u4 u5 => BE) (fun u1 u2 u3 u4 u5 => (Ah AK (Ah As (pv 2) (pv 1)) (Ah As (pv 3) (pv 0))))) Ac)) Ac))))) AI (by rfl) (by rfl))
  (Ad (K := K) (AQ (K := K) (At Gb (pv 5) Ab (Ay _)) (Ag (Ai (i := 3) Bb.nd rfl (Or.inl rfl) (AJ (A0 (Ah AB (Aj (ixT K) (pv 3) Ab (fun u v => rfl)) Ab) (A0 (Am Py hr rfl (A0 (Aj (ixT K) (pv 3) Ab (fun u v => rfl)) (A0 (pv 1) Ac))) Ac))))) AI (by rfl) (by rfl))
  (Ag (Av (F0 (At Fb (Aj (ixT K) (pv 3) Ab (fun u v => rfl)) (Aj (ixT K) (pv 4) Ab (fun u v => rfl)) (Ay _)) (AJ (A0 (pv 3) (A0 (pv 4) Ac))) (AJ (A0 (pv 4) (A0 (pv 3) Ac)))))) (by rfl)) (by rfl)) (by rfl)) (by rfl)) (by rfl)) (by rfl)) (by rfl)), ?_⟩
 obtain ⟨b, rx, ry, v1, v2, r1, r2, ts1, ts2, w, v, n, R, ps, A, S, C, nx, ny, x, y, rfl, hb, ⟨p1, l1, rfl, hp1, hl1⟩, ⟨p2, l2, rfl, hp2, hl2⟩, I, eR, hw, hx, hy, bx, by_, hnd, hk, hn12, hC, hA, hSz, q⟩ := h
 have P2 : 2 ≤ sizeLine := by decide
 refine C4 I.bd fun a1 a2 hz52' => ?_
 refine D5 hz52' fun ba1 ba2 hA1 hA2 hAS => ?_
 clear hz52'
 have hz1 : (nx + 1) * (R + 4) = (nx + 1) * (R + 2) + (nx + 1) * 2 := by rw [← Tt]
 have hz2 : (nx + 1) * 2 ≤ (nx + 1) * (R + 2) := Ts _ (by lia)
 obtain ⟨c0, hc0⟩ : ∃ c0, c0 = (nx + 1) * (R + 2) + ny := ⟨_, rfl⟩
 have hcC : c0 + 2 ≤ C := by lia
 have hnx : nx + 1 ≤ C := by lia
 have hR1 : 1 ≤ R := by lia
 have z1a : ts1.getD (R - 1) 0 = 0 := (I.z1 (R - 1) (by lia) (by lia)).1
 have z1b : ts1.getD (R + (R - 1)) 0 = 0 := (I.z1 (R - 1) (by lia) (by lia)).2
 have z2a : ts2.getD (R - 1) 0 = 0 := (I.z2 (R - 1) (by lia) (by lia)).1
 have z2b : ts2.getD (R + (R - 1)) 0 = 0 := (I.z2 (R - 1) (by lia) (by lia)).2
 have last1 : ts1.getD (ts1.length - 1) 0 = 0 := by rw [I.l1, show 2 * R - 1 = R + (R - 1) by lia]; exact z1b
 have last2 : ts2.getD (ts2.length - 1) 0 = 0 := by rw [I.l2, show 2 * R - 1 = R + (R - 1) by lia]; exact z2b
 have den0 : (((x.den : Int)) : Rat) ≠ 0 := Ib (Nm.den_ne x)
 have denx : (((x.den : Int)) : Rat) * x = ((x.num : Int) : Rat) := by rw [Nm.num_mul x]; grind
 have hs : (((y.den : Int) * (x.den : Int) ^ R : Int) : Rat) ≠ 0 := Ib (RT (Nm.den_ne y) (Int.pow_ne_zero (Nm.den_ne x)))
 refine ⟨_, rfl, b, _, _, _, rfl, rfl, hb, rfl, _, rfl, b, _, _, _, rfl, rfl, hb, rfl, ?_⟩
 refine ⟨_, rfl, p1, _, _, _, rfl, rfl, hp1, rfl, _, rfl, _, rfl, l1, rx, ry, ts1, x, y, R, a1, nx, ny, rfl, hl1, I.l1, hx, hy, ba1, bx, by_, by lia, fun L1 H1 s1 eL1 bL1 => ?_⟩
 refine ⟨_, rfl, p2, _, _, _, rfl, rfl, hp2.same s1, rfl, _, rfl, _, rfl, l2, rx, ry, ts2, x, y, R, a2, nx, ny, rfl, Af.seq s1 hl2, I.l2, hx.same s1, hy.same s1, ba2, bx, by_, by lia, fun L2 H2 s2 eL2 bL2 => ?_⟩
 have s2 := s1.trans s2
 have bL1 : Bd (a1 + (c0 + 1)) L1 := bL1.mono (by lia)
 have bL2 : Bd (a2 + (c0 + 1)) L2 := bL2.mono (by lia)
 have eL1 : (L1 : Rat) = (((y.den : Int) * (x.den : Int) ^ R : Int) : Rat) * (Cv.ev (ic (ts1.take R)) x - y * Cv.ev (ic (ts1.drop R)) x) := eL1
 have eL2 : (L2 : Rat) = (((y.den : Int) * (x.den : Int) ^ R : Int) : Rat) * (Cv.ev (ic (ts2.take R)) x - y * Cv.ev (ic (ts2.drop R)) x) := eL2
 clear hz1 hz2 s1 hC hc0 hb
 by_cases h1 : L1 = 0
 ·by_cases h2 : L2 = 0
  ·exact absurd ⟨LW ((DW hs eL1).mp h1), LW ((DW hs eL2).mp h2)⟩ (I.inv.some hw hnd)
  ·-- lack = 0, other ≠ 0
   have hN1 : Cv.ev (ic (ts1.take R)) x = y * Cv.ev (ic (ts1.drop R)) x := by have := (DW hs eL1).mp h1; exact LW this
   refine ⟨_, rfl, rfl, _, rfl, Bw (decide_eq_true (by rw [h1])) ⟨_, rfl, rfl, _, rfl, Bw (by rw [decide_eq_false fun z => h2 (V.int.inj z)]; rfl) ?_⟩⟩
   refine ⟨_, rfl, p2, _, _, _, rfl, rfl, hp2.same s2, rfl, _, _, rfl, rfl, _, rfl, p2, _, _, _, rfl, rfl, hp2.same s2, rfl, _, rfl, ?_⟩
   refine ⟨l2, rx, ts2, x, a2, nx, rfl, Af.seq s2 hl2, hx.same s2, by rw [I.l2]; lia, by rw [I.l2]; lia, last2, ba2, bx, by lia, fun l9 G9 s9 e9 b9 => ⟨P2, fun p9 hp9 => ?_⟩⟩
   have s9 := s2.trans s9
   have n9 := Af.new (o := .tup [.int (r2 + 2), .ref l9]) hp9
   have ep9 : (upd G9 p9 (.tup [.int (r2 + 2), .ref l9])) p9 = some (.tup [.int (r2 + 2), .ref l9]) := Aa
   have e9 := n9 _ _ e9
   have s9 := s9.trans n9
   generalize upd G9 p9 (.tup [.int (r2 + 2), .ref l9]) = G at ep9 e9 s9 ⊢
   clear n9 hp9
   refine ⟨_, rfl, rfl, _, rfl, AR (by rw [decide_eq_true (by rw [h1])]; rfl) (Ia ?_)⟩
   refine ⟨_, rfl, rfl, _, rfl, AR (by rw [decide_eq_true (by rw [h1])]; rfl) ?_⟩
   have un := I.inv.stepA (y := y) den0 denx hN1 (EO I.l2 hR1 z2a) (EQ I.l2 hR1 z2a z2b)
   have len1 := I.l1
   have len2 := (DC x.num x.den ts2).trans I.l2
   have zer1 : ∀ j, (ps ++ [(x, y)]).length + 1 ≤ j → j < R → ts1.getD j 0 = 0 ∧ ts1.getD (R + j) 0 = 0 := fun j h => I.z1 j (by rw [Ro] at h; lia)
   have zer2 : ∀ j, (ps ++ [(x, y)]).length + 1 ≤ j → j < R → (shI x.num x.den ts2).getD j 0 = 0 ∧ (shI x.num x.den ts2).getD (R + j) 0 = 0 := by rw [Ro]; exact ER (c := x.num) (d := x.den) I.z2
   have bda := ba1
   have bdb := b9
   refine ⟨_, rfl, p1, _, _, _, rfl, rfl, hp1.same s9, rfl, _, rfl, p9, _, _, _, rfl, rfl, SqT.of ep9, rfl, _, _, rfl, rfl, _, rfl, ?_⟩
   by_cases hlt : r1 < r2 + 2
   ·refine Bw (decide_eq_true hlt) ⟨_, rfl, _, rfl, P2, fun t9 ht9 => ?_⟩
    have n9 := Af.new (o := .tup [.ref p1, .ref p9]) ht9
    exact q t9 _ _ _ _ _ _ _ (s9.trans n9) (SqT.of Aa) ⟨p1, _, rfl, (hp1.same s9).same n9, Af.seq n9 (Af.seq s9 hl1)⟩ ⟨p9, _, rfl, (SqT.of ep9).same n9, Af.seq n9 (SqL.of e9)⟩ ⟨un.inv hlt, len1, len2, zer1, zer2, _, _, bda, bdb, by lia, by lia, by lia⟩
   ·refine AR (decide_eq_false hlt) ⟨_, rfl, _, rfl, P2, fun t9 ht9 => ?_⟩
    have n9 := Af.new (o := .tup [.ref p9, .ref p1]) ht9
    exact q t9 _ _ _ _ _ _ _ (s9.trans n9) (SqT.of Aa) ⟨p9, _, rfl, (SqT.of ep9).same n9, Af.seq n9 (SqL.of e9)⟩ ⟨p1, _, rfl, (hp1.same s9).same n9, Af.seq n9 (Af.seq s9 hl1)⟩ ⟨un.turn hlt, len2, len1, zer2, zer1, _, _, bdb, bda, by lia, by lia, by lia⟩
 ·by_cases h2 : L2 = 0
  ·-- lack ≠ 0, other = 0
   have hN2 : Cv.ev (ic (ts2.take R)) x = y * Cv.ev (ic (ts2.drop R)) x := by have := (DW hs eL2).mp h2; exact LW this
   refine ⟨_, rfl, rfl, _, rfl, AR (decide_eq_false fun z => h1 (V.int.inj z)) (Ia ?_)⟩
   refine ⟨_, rfl, rfl, _, rfl, Bw (by rw [decide_eq_false fun z => h1 (V.int.inj z)]; rfl) ⟨_, rfl, rfl, _, rfl, AR (by rw [decide_eq_true (by rw [h2])]; rfl) ?_⟩⟩
   refine ⟨_, rfl, rfl, _, rfl, Bw (by rw [decide_eq_false fun z => h1 (V.int.inj z)]; rfl) ?_⟩
   refine ⟨_, rfl, p1, _, _, _, rfl, rfl, hp1.same s2, rfl, _, _, rfl, rfl, _, rfl, p1, _, _, _, rfl, rfl, hp1.same s2, rfl, _, rfl, ?_⟩
   refine ⟨l1, rx, ts1, x, a1, nx, rfl, Af.seq s2 hl1, hx.same s2, by rw [I.l1]; lia, by rw [I.l1]; lia, last1, ba1, bx, by lia, fun l9 G9 s9 e9 b9 => ⟨P2, fun p9 hp9 => ?_⟩⟩
   have s9 := s2.trans s9
   have n9 := Af.new (o := .tup [.int (r1 + 2), .ref l9]) hp9
   have ep9 : (upd G9 p9 (.tup [.int (r1 + 2), .ref l9])) p9 = some (.tup [.int (r1 + 2), .ref l9]) := Aa
   have e9 := n9 _ _ e9
   have s9 := s9.trans n9
   generalize upd G9 p9 (.tup [.int (r1 + 2), .ref l9]) = G at ep9 e9 s9 ⊢
   clear n9 hp9
   have un := I.inv.stepB (y := y) den0 denx hN2 (EO I.l1 hR1 z1a) (EQ I.l1 hR1 z1a z1b)
   have len1 := (DC x.num x.den ts1).trans I.l1
   have len2 := I.l2
   have zer2 : ∀ j, (ps ++ [(x, y)]).length + 1 ≤ j → j < R → ts2.getD j 0 = 0 ∧ ts2.getD (R + j) 0 = 0 := fun j h => I.z2 j (by rw [Ro] at h; lia)
   have zer1 : ∀ j, (ps ++ [(x, y)]).length + 1 ≤ j → j < R → (shI x.num x.den ts1).getD j 0 = 0 ∧ (shI x.num x.den ts1).getD (R + j) 0 = 0 := by rw [Ro]; exact ER (c := x.num) (d := x.den) I.z1
   have bda := b9
   have bdb := ba2
   refine ⟨_, rfl, p9, _, _, _, rfl, rfl, SqT.of ep9, rfl, _, rfl, p2, _, _, _, rfl, rfl, hp2.same s9, rfl, _, _, rfl, rfl, _, rfl, ?_⟩
   by_cases hlt : r1 + 2 < r2
   ·refine Bw (decide_eq_true hlt) ⟨_, rfl, _, rfl, P2, fun t9 ht9 => ?_⟩
    have n9 := Af.new (o := .tup [.ref p9, .ref p2]) ht9
    exact q t9 _ _ _ _ _ _ _ (s9.trans n9) (SqT.of Aa) ⟨p9, _, rfl, (SqT.of ep9).same n9, Af.seq n9 (SqL.of e9)⟩ ⟨p2, _, rfl, (hp2.same s9).same n9, Af.seq n9 (Af.seq s9 hl2)⟩ ⟨un.inv hlt, len1, len2, zer1, zer2, _, _, bda, bdb, by lia, by lia, by lia⟩
   ·refine AR (decide_eq_false hlt) ⟨_, rfl, _, rfl, P2, fun t9 ht9 => ?_⟩
    have n9 := Af.new (o := .tup [.ref p2, .ref p9]) ht9
    exact q t9 _ _ _ _ _ _ _ (s9.trans n9) (SqT.of Aa) ⟨p2, _, rfl, (hp2.same s9).same n9, Af.seq n9 (Af.seq s9 hl2)⟩ ⟨p9, _, rfl, (SqT.of ep9).same n9, Af.seq n9 (SqL.of e9)⟩ ⟨un.turn hlt, len2, len1, zer2, zer1, _, _, bdb, bda, by lia, by lia, by lia⟩
  ·-- both
   refine ⟨_, rfl, rfl, _, rfl, AR (decide_eq_false fun z => h1 (V.int.inj z)) (Ia ?_)⟩
   refine ⟨_, rfl, rfl, _, rfl, Bw (by rw [decide_eq_false fun z => h1 (V.int.inj z)]; rfl) ⟨_, rfl, rfl, _, rfl, Bw (by rw [decide_eq_false fun z => h2 (V.int.inj z)]; rfl) ?_⟩⟩
   refine ⟨_, rfl, p2, _, _, _, rfl, rfl, hp2.same s2, rfl, ?_⟩
   refine C7 ⟨_, rfl, p1, _, _, _, rfl, rfl, hp1.same s2, rfl, _, rfl, p2, _, _, _, rfl, rfl, hp2.same s2, rfl, l1, l2, ts1.map V.int, ts2.map V.int, rfl, Af.seq s2 hl1, Af.seq s2 hl2, ?_⟩
   have tl1 : (ts1.map V.int).length = 2 * R := by rw [Rp]; exact I.l1
   have tl2 : (ts2.map V.int).length = 2 * R := by rw [Rp]; exact I.l2
   have hmin : min (ts1.map V.int).length (ts2.map V.int).length = 2 * R := by lia
   refine Ny (xs := ts1.map V.int) (ys := ts2.map V.int) (L5 H2 L1 ts2 L2 ts1 fun H2 L1 ts2 L2 ts1 i zs G => Af H2 G ∧ zs = ((QL i).map fun k => L1 * ts2.getD k 0 - L2 * ts1.getD k 0).map V.int) ⟨Af.refl _, rfl⟩ (fun i zs G _ h => ⟨Af.seq (s2.trans h.1) hl1, Af.seq (s2.trans h.1) hl2, by rw [h.2, Rp, Rp, SH]⟩) (QQ (AU (by lia))) ?_ ?_
   ·rintro i u1 u2 T zs G hu1 hu2 hT ⟨sg, rfl⟩
    have hi : i < 2 * R := by have := (QX.mp hu1).1; lia
    have g1 : ts1[i]? = some (ts1.getD i 0) := by rw [Sb, Si (by have := I.l1; lia)]; rfl
    have g2 : ts2[i]? = some (ts2.getD i 0) := by rw [Sb, Si (by have := I.l2; lia)]; rfl
    rw [Rl, g1] at hu1
    rw [Rl, g2] at hu2
    cases hu1
    cases hu2
    refine ⟨_, rfl, _, rfl, _, _, rfl, rfl, Bp.bd bL1 (Cr ba2 i) (by lia), _, rfl, _, rfl, _, _, rfl, rfl, Bp.bd bL2 (Cr ba1 i) (by lia), _, _, rfl, rfl, sg.trans (Af.new hT), ?_⟩
    rw [Su, S4, S4]
    rfl
   rintro zs G ⟨sg, rfl⟩ m9 hm9
   rw [hmin]
   generalize hms : ((QL (2 * R)).map fun k => L1 * ts2.getD k 0 - L2 * ts1.getD k 0) = ms
   have msl : ms.length = 2 * R := by rw [← hms, Rp, SH]
   have msg : ∀ j, ms.getD j 0 = L1 * ts2.getD j 0 - L2 * ts1.getD j 0 := fun j => by
    rcases T3 j (2 * R) with z | z
    ·rw [← hms, Sb, Rl, SL z]; rfl
    ·rw [CF (by lia), CF (by have := I.l2; lia), CF (by have := I.l1; lia), Tc, Tc]; rfl
   have bms : ∀ t ∈ ms, Bd (a1 + a2 + (c0 + 2)) t := fun t ht => by
    rw [← hms] at ht
    obtain ⟨k, _, rfl⟩ := (Sv.mp ht)
    exact Bd.sub (n := a1 + a2 + (c0 + 1)) ((bL1.mul (Cr ba2 k)).mono (by lia)) ((bL2.mul (Cr ba1 k)).mono (by lia))
   have hne : ∃ t ∈ ms, t ≠ 0 := by
    have top := Ct.mix (m := 1) (a := (L1 : Rat)) (b := (L2 : Rat)) I.inv.top2 I.inv.le1 I.inv.lt (Ib h1) (N' := ic (ms.take R)) (D' := ic (ms.drop R)) (HU (g := 1) R fun j => by rw [RO, msg]) (HV (g := 1) R fun j => by rw [RO, msg])
    have key : ∀ j, ((ms.getD j 0 : Int) : Rat) ≠ 0 → ∃ t ∈ ms, t ≠ 0 := fun j hj => by
     have h0 : ms.getD j 0 ≠ 0 := fun z => hj (by rw [z]; exact Th)
     rcases T3 j ms.length with z | z
     ·exact ⟨_, Gg z, h0⟩
     ·exact absurd (CF z) h0
    rcases top with ⟨j, _, hj⟩ | ⟨j, _, hj⟩
    ·rw [AN, Bf] at hj
     split at hj
     ·exact key j hj
     ·exact absurd Th hj
    ·rw [AN, Bg] at hj
     exact key _ hj
   refine ⟨m9, ms, a1 + a2 + (c0 + 2), rfl, SqL.of Aa, hne, by rw [msl]; lia, bms, fun l8 G8 g us s8 e8 g0 usl husg bus => ⟨P2, fun p8 hp8 => ?_⟩⟩
   have s8 := ((s2.trans sg).trans (Af.new (o := .lst (ms.map V.int)) hm9)).trans s8
   have n8 := Af.new (o := .tup [.int r2, .ref l8]) hp8
   have ep8 : (upd G8 p8 (.tup [.int r2, .ref l8])) p8 = some (.tup [.int r2, .ref l8]) := Aa
   have e8 := n8 _ _ e8
   have s8 := s8.trans n8
   generalize upd G8 p8 (.tup [.int r2, .ref l8]) = G7 at ep8 e8 s8 ⊢
   have husg : ∀ j, g * us.getD j 0 = L1 * ts2.getD j 0 - L2 * ts1.getD j 0 := fun j => by rw [husg j, msg j]
   have usl : us.length = 2 * R := usl.trans msl
   clear n8 hp8 hne bms msg hms msl sg hm9
   refine ⟨_, rfl, rfl, _, rfl, Bw (by rw [decide_eq_false fun z => h1 (V.int.inj z)]; rfl) ?_⟩
   refine ⟨_, rfl, p1, _, _, _, rfl, rfl, hp1.same s8, rfl, _, _, rfl, rfl, _, rfl, p1, _, _, _, rfl, rfl, hp1.same s8, rfl, _, rfl, ?_⟩
   refine ⟨l1, rx, ts1, x, a1, nx, rfl, Af.seq s8 hl1, hx.same s8, by rw [I.l1]; lia, by rw [I.l1]; lia, last1, ba1, bx, by lia, fun l9 G9 s9 e9 b9 => ⟨P2, fun p9 hp9 => ?_⟩⟩
   have s9G := s9.trans (Af.new (o := .tup [.int (r1 + 2), .ref l9]) hp9)
   have s9 := s8.trans s9
   have n9 := Af.new (o := .tup [.int (r1 + 2), .ref l9]) hp9
   have ep9 : (upd G9 p9 (.tup [.int (r1 + 2), .ref l9])) p9 = some (.tup [.int (r1 + 2), .ref l9]) := Aa
   have e9 := n9 _ _ e9
   have s9 := s9.trans n9
   generalize upd G9 p9 (.tup [.int (r1 + 2), .ref l9]) = G at ep9 e9 s9 s9G ⊢
   clear n9 hp9
   have un := I.inv.stepC (y := y) (s := (((y.den : Int) * (x.den : Int) ^ R : Int) : Rat)) den0 denx (Ib h1) (Ib g0) eL1 eL2 (EO I.l1 hR1 z1a) (EQ I.l1 hR1 z1a z1b) (HU R husg) (HV R husg)
   have len1 := (DC x.num x.den ts1).trans I.l1
   have len2 := usl
   have zer1 : ∀ j, (ps ++ [(x, y)]).length + 1 ≤ j → j < R → (shI x.num x.den ts1).getD j 0 = 0 ∧ (shI x.num x.den ts1).getD (R + j) 0 = 0 := by rw [Ro]; exact ER (c := x.num) (d := x.den) I.z1
   have zer2 : ∀ j, (ps ++ [(x, y)]).length + 1 ≤ j → j < R → us.getD j 0 = 0 ∧ us.getD (R + j) 0 = 0 := fun j h hj => by
    rw [Ro] at h
    have q1 := I.z1 j (by lia) hj
    have q2 := I.z2 j (by lia) hj
    exact ⟨HS g0 husg q1.1 q2.1, HS g0 husg q1.2 q2.2⟩
   have bda := b9
   have bdb := bus
   have sG : Af G7 G := s9G
   refine ⟨_, rfl, p9, _, _, _, rfl, rfl, SqT.of ep9, rfl, _, rfl, p8, _, _, _, rfl, rfl, (SqT.of (K := K) ep8).same sG, rfl, _, _, rfl, rfl, _, rfl, ?_⟩
   by_cases hlt : r1 + 2 < r2
   ·refine Bw (decide_eq_true hlt) ⟨_, rfl, _, rfl, P2, fun t9 ht9 => ?_⟩
    have n9 := Af.new (o := .tup [.ref p9, .ref p8]) ht9
    exact q t9 _ _ _ _ _ _ _ (s9.trans n9) (SqT.of Aa) ⟨p9, _, rfl, (SqT.of ep9).same n9, Af.seq n9 (SqL.of e9)⟩ ⟨p8, _, rfl, ((SqT.of (K := K) ep8).same sG).same n9, Af.seq n9 (Af.seq sG (SqL.of (K := K) e8))⟩ ⟨un.inv hlt, len1, len2, zer1, zer2, _, _, bda, bdb, by lia, by lia, by lia⟩
   ·refine AR (decide_eq_false hlt) ⟨_, rfl, _, rfl, P2, fun t9 ht9 => ?_⟩
    have n9 := Af.new (o := .tup [.ref p8, .ref p9]) ht9
    exact q t9 _ _ _ _ _ _ _ (s9.trans n9) (SqT.of Aa) ⟨p8, _, rfl, ((SqT.of (K := K) ep8).same sG).same n9, Af.seq n9 (Af.seq sG (SqL.of (K := K) e8))⟩ ⟨p9, _, rfl, (SqT.of ep9).same n9, Af.seq n9 (SqL.of e9)⟩ ⟨un.turn hlt, len2, len1, zer2, zer1, _, _, bdb, bda, by lia, by lia, by lia⟩
theorem Db : Ap ["numbers", "width"] ["numbers"] (Ae (top 12)) := ⟨rfl, rfl, rfl, by decide +kernel, rfl, by decide +kernel, by decide +kernel⟩
set_option maxHeartbeats 4000000 in
theorem HL {f : Addr} {fd : FuncData} (F : Fun K "curve_of" "curve_of" (top 12) f fd) (OW : mg "len" = none) (OZ : mg "tuple" = none) {a_NOUGHT : Addr} (c_NOUGHT : mg "NOUGHT" = some (.ref a_NOUGHT)) (n_NOUGHT : ∀ H : Hp, AA K H (.ref a_NOUGHT) (0)) (hT : P.given.tree = none) :
 AE P w K mg base CX0 33 f fd ["numbers"] (Dq K) := by
 refine F.ok Db (fun vs H Q E h => ?_) (fun cdv A outer s H vs Q E hr h => ?_)
 ·obtain ⟨_, _, _, rfl, _⟩ := h; rfl
 refine ⟨_, (Ad (K := K) (Ai (i := 1) Db.nd rfl (Or.inl rfl) (Ar (BO K) rfl OW AF (A0 (pv 0) Ac)))
  (Ad (K := K) (De PassesOwn.never (PW.pt (GD (At El (pv 1) Ab (Ay _)) (EE (At (eqD K hr.units) (Aj (ixL K) (pv 0) (Ah AK (pv 1) Ab) (fun u v => rfl)) (GH (v := .ref a_NOUGHT) rfl c_NOUGHT rfl) (Ay _))))) (Ag (Ai (i := 1) Db.nd rfl (Or.inl rfl) (Ah AK (pv 1) Ab))))
  (Ag (Av (BN (EK K) rfl OZ CH (A0 (BS (slL K) (pv 0) Ce (Cd (pv 1))) Ac)))) (by rfl)) (by rfl)), ?_⟩
 obtain ⟨r, xs, qs, rfl, hS, hn, hz, q⟩ := h
 have hl := hn.length
 refine ⟨_, rfl, r, xs, rfl, .inl hS, ?_⟩
 refine MF (L3 H r qs fun H r qs σ H' => H' = H ∧ ∃ (v : Nat), σ = [some (.ref r), some (.int (v : Int))] ∧ v ≤ qs.length ∧ ∀ j q, v ≤ j → qs[j]? = some q → q = 0) (fun σ _ => mu 1 σ) ⟨rfl, qs.length, by rw [← hl]; rfl, R3 _, fun j q hj e => absurd (QX.mp e).1 (by lia)⟩ ?_
 rintro σ H' hR1
 refine By hR1 fun hq53 hz55 => ?_
 refine IY hz55 fun v hz55' => ?_
 clear hz55
 refine Cy hz55' fun hq54 hv hall => ?_
 clear hz55'
 obtain rfl := hq53
 obtain rfl := hq54
 try clear hR1
 have fin : (v = 0 ∨ ∃ q, qs[v - 1]? = some q ∧ q ≠ 0) → ∀ p, H' p = none → ∀ p', upd H' p (.lst (Cw xs none (some (v : Int)))) p' = none → Q (.ref p') (upd (upd H' p (.lst (Cw xs none (some (v : Int))))) p' (.tup (Cw xs none (some (v : Int))))) := fun hc p hp p' hp' => by
  have e : Cw xs none (some (v : Int)) = xs.take v := by
   unfold Cw
   have e1 : HT.sIx xs.length 0 none = 0 := rfl
   have e2 : HT.sIx xs.length xs.length (some (v : Int)) = min v xs.length := HT.sIx_nat _ _ v
   rw [e1, e2, Sw, Sx]
   apply Sc
   intro i
   rw [T2, T2]
   split <;> split <;> first | rfl | lia | (rename_i h1 h2; exact (Sr (by lia)).symm) | (rename_i h1 h2; exact Sr (by lia))
  have sm : Af H' (upd (upd H' p (.lst (Cw xs none (some (v : Int))))) p' (.tup (Cw xs none (some (v : Int))))) := (Af.new hp).trans (Af.new hp')
  refine q p' _ sm ⟨xs.take v, SqT.of (by rw [e]; exact Aa), ?_⟩
  rw [← Cv.take_strip qs v hall hc]
  exact Paired.take v (Ao.same hn sm)
 refine ⟨_, rfl, _, _, rfl, rfl, _, rfl, ?_⟩
 by_cases hv0 : v = 0
 ·subst hv0
  refine Ia (Ia ?_)
  exact ⟨_, rfl, _, rfl, _, rfl, r, xs, rfl, hS, fun p hp => ⟨p, _, rfl, .inl ⟨SqL.of Aa, fun p' hp' => fin (.inl rfl) p hp p' hp'⟩⟩⟩
 ·refine Bw (by rw [decide_eq_true (show (0 : Int) < (v : Int) by lia)] <;> rfl) ?_
  have hvi : v - 1 < qs.length := by lia
  have hq : qs[v - 1]? = some qs[v - 1] := Si hvi
  obtain ⟨x, hx, hxn⟩ := (Paired.get' hn hq)
  have hat : atI xs ((v : Int) - 1) = some x := by
   rw [show (v : Int) - 1 = ((v - 1 : Nat) : Int) by lia]
   exact AT hx
  refine ⟨_, rfl, _, rfl, _, _, rfl, rfl, r, xs, _, x, rfl, rfl, hS, hat, ?_⟩
  refine eqN hxn (n_NOUGHT _) ?_
  refine ⟨_, rfl, ?_⟩
  by_cases hq0 : qs[v - 1] = 0
  ·refine Bw (by rw [decide_eq_true hq0] <;> rfl) (ME ?_)
   refine ⟨_, rfl, _, _, rfl, rfl, ⟨rfl, v - 1, ?_, by lia, fun j q' hj e => ?_⟩, ?_⟩
   ·show [some (V.ref r), some (V.int ((v : Int) - 1))] = [some (V.ref r), some (V.int ((v - 1 : Nat) : Int))]
    rw [show (v : Int) - 1 = ((v - 1 : Nat) : Int) by lia]
   ·by_cases hjv : v ≤ j
    ·exact hall j q' hjv e
    ·have : j = v - 1 := by lia
     subst this
     rw [hq] at e
     cases e
     exact hq0
   ·show ((v : Int) - 1).toNat < (v : Int).toNat
    lia
  ·refine AR (by rw [decide_eq_false hq0] <;> rfl) ?_
   exact ⟨_, rfl, _, rfl, _, rfl, r, xs, rfl, hS, fun p hp => ⟨p, _, rfl, .inl ⟨SqL.of Aa, fun p' hp' => fin (.inr ⟨_, hq, hq0⟩) p hp p' hp'⟩⟩⟩
theorem CO : Ap ["top", "bottom", "measure"] ["top", "bottom"] (Ae (top 7)) := ⟨rfl, rfl, rfl, by decide +kernel, rfl, by decide +kernel, by decide +kernel⟩
set_option maxHeartbeats 4000000 in
theorem GN {f : Addr} {fd : FuncData} (F : Fun K "number_of" "number_of" (top 7) f fd) (Pc : Fd P w K mg base 33 "common_measure" ["one", "other"] (FQ)) (hT : P.given.tree = none) :
 AE P w K mg base CX0 34 f fd ["top", "bottom"] (Cz) := by
 refine F.ok CO (fun vs H Q E h => ?_) (fun cdv A outer s H vs Q E hr h => ?_)
 ·obtain ⟨_, _, rfl, _⟩ := h; rfl
 refine ⟨_, (Ad (K := K) (AQ (K := K) (At Fc (pv 1) Ab (Ay _)) (Ag Ci) AI (by rfl) (by rfl))
  (Ad (K := K) (Ai (i := 2) CO.nd rfl (Or.inl rfl) (Am Pc hr rfl (A0 (pv 0) (A0 (pv 1) Ac))))
  (Ad (K := K) (AQ (K := K) (At Fb (pv 1) Ab (Ay _)) (Ag (Ai (i := 2) CO.nd rfl (Or.inl rfl) (HD EJ (pv 2)))) AI (by rfl) (by rfl))
  (Ag (Av (AJ (A0 (Ah (Bh hr hT) (pv 0) (pv 2)) (A0 (Ah (Bh hr hT) (pv 1) (pv 2)) Ac))))) (by rfl)) (by rfl)) (by rfl)), ?_⟩
 obtain ⟨a, b, rfl, hb, q⟩ := h
 refine ⟨_, rfl, rfl, _, rfl, ?_⟩
 refine AR (by rw [decide_eq_false (fun z => hb (V.int.inj z))] <;> rfl) ?_
 refine ⟨_, rfl, _, rfl, a, b, rfl, ?_⟩
 refine ⟨_, rfl, _, _, rfl, rfl, _, rfl, ?_⟩
 have hd : Nm.msr a b ≠ 0 := Nm.msr_ne hb
 have fin : ∀ p, H p = none → Q (.ref p) (upd H p (.tup [.int (a.fdiv (Nm.msr a b)), .int (b.fdiv (Nm.msr a b))])) := fun p hp => by
  rw [Nm.top_msr hb, Nm.bottom_msr hb]; exact q p hp
 by_cases hb0 : b < 0
 ·have hd' : Nm.msr a b = -(RJ a b : Int) := by unfold Nm.msr; rw [if_pos hb0]
  rw [hd'] at hd fin
  refine Bw (by rw [decide_eq_true hb0] <;> rfl) ⟨_, rfl, _, rfl, ?_⟩
  exact ⟨_, rfl, _, rfl, _, _, rfl, rfl, hd, _, rfl, _, rfl, _, _, rfl, rfl, hd, (by decide : 2 ≤ sizeLine), fin⟩
 ·have hd' : Nm.msr a b = (RJ a b : Int) := by unfold Nm.msr; rw [if_neg hb0]
  rw [hd'] at hd fin
  refine AR (by rw [decide_eq_false hb0] <;> rfl) ?_
  exact ⟨_, rfl, _, rfl, _, _, rfl, rfl, hd, _, rfl, _, rfl, _, _, rfl, rfl, hd, (by decide : 2 ≤ sizeLine), fin⟩
theorem Fz : Ap ["tops", "bottom"] ["tops", "bottom"] (Ae (top 15)) := ⟨rfl, rfl, rfl, by decide +kernel, rfl, by decide +kernel, by decide +kernel⟩
set_option maxHeartbeats 4000000 in
theorem FD {f : Addr} {fd : FuncData} (F : Fun K "curve_over" "curve_over" (top 15) f fd) (PU : Fd P w K mg base 33 "curve_of" ["numbers"] (Dq K)) (P8 : Fd P w K mg base 34 "number_of" ["top", "bottom"] (Cz)) (hT : P.given.tree = none) :
 AE P w K mg base CX0 35 f fd ["tops", "bottom"] (BX K) := by
 refine F.ok Fz (fun vs H Q E h => ?_) (fun cdv A outer s H vs Q E hr h => ?_)
 ·obtain ⟨_, _, _, rfl, _⟩ := h; rfl
 refine ⟨_, (Ag (Av (Am PU hr rfl (A0 (Df rfl (N := ["top", "bottom"]) (nt := 1) (js := [1]) (AZ.look (NX := ["tops", "bottom"]) (sc := Ae (top 15)) rfl rfl (by decide +kernel)) (piS K (pv 0)) (fun u1 u2 u3 u4 u5 => (Au (i := 0) (show List.Nodup (["top", "bottom"] : List Str) from by decide +kernel) rfl (Or.inl rfl))) (AH (by decide)) (fun u1 u2 u3 u4 u5 => BE) (fun u1 u2 u3 u4 u5 => (Am P8 hr rfl (A0 (pv 0) (A0 (pv 1) Ac))))) Ac)))), ?_⟩
 obtain ⟨l, ts, b, rfl, hS, hb, hz, q⟩ := h
 have ll : (ts.map V.int).length = ts.length := Rp _
 refine KY (b := true) (a := l) (xs := ts.map V.int) rfl (L4 H K ts b fun H K ts b i zs H' => Af H H' ∧ zs.length = i ∧ Ao K H' zs ((ts.take i).map fun t => RM t b)) ⟨Af.refl _, rfl, .nil⟩ (fun i zs H' _ p => ⟨Af.seq p.1 hS, p.2.1⟩) (by rw [ll]; exact QQ (AU hz)) ?_ ?_
 ·rintro i x zs H' hx ⟨sm, hl, hn⟩
  rw [Rl] at hx
  cases et : ts[i]? with
  | none => rw [et] at hx; cases hx
  | some t =>
    rw [et] at hx
    cases hx
    refine ⟨_, rfl, _, rfl, t, b, rfl, hb, fun p hp => ⟨sm.trans (Af.new hp), by simp [hl], ?_⟩⟩
    rw [S3, et, S4]
    exact Paired.snoc (Ao.same hn (Af.new hp)) (AA.of Aa)
 ·rintro zs H' ⟨sm, hl, hn⟩ p hp
  rw [ll, To] at hn
  refine ⟨p, zs, _, rfl, SqL.of Aa, Ao.same hn (Af.new hp), by rw [Rp]; exact hz, fun r H2 s2 c => q r H2 ((sm.trans (Af.new hp)).trans s2) c⟩
theorem AD : Ap ["places", "heights", "width", "room", "first", "second", "both", "x", "y", "tops"] ["places", "heights", "width"] (Ae (top 32)) := ⟨rfl, rfl, rfl, by decide +kernel, rfl, by decide +kernel, by decide +kernel⟩
set_option maxHeartbeats 4000000 in
theorem Et {f : Addr} {fd : FuncData} (F : Fun K "pair_through" "pair_through" (top 32) f fd) (PV : Fd P w K mg base 35 "both_with" ["both", "x", "y"] (Gz K)) (Pi : Fd P w K mg base 35 "curve_over" ["tops", "bottom"] (BX K)) (P4 : mg "zip" = none) (OW : mg "len" = none) (hT : P.given.tree = none) :
 AE P w K mg base CX0 36 f fd ["places", "heights", "width"] (Gu K) := by
 refine F.ok AD (fun vs H Q E h => ?_) (fun cdv A outer s H vs Q E hr h => ?_)
 ·obtain ⟨_, _, _, _, _, _, _, _, _, _, _, rfl, _⟩ := h; rfl
 refine ⟨_, (Ad (K := K) (Ai (i := 3) AD.nd rfl (Or.inl rfl) (Ah AB (Ar (BO K) rfl OW AF (A0 (pv 0) Ac)) Ab))
  (Ad (K := K) (Ai (i := 4) AD.nd rfl (Or.inl rfl) (AJ (A0 (Ah As Ab (Ah AK Ab (pv 2))) (A0 (Ah GK (AS (A0 Ab Ac)) (Ah Fa (AS (A0 Ab Ac)) (Ah AK (Ah As Ab (pv 3)) Ab))) Ac))))
  (Ad (K := K) (Ai (i := 5) AD.nd rfl (Or.inl rfl) (AJ (A0 (Ah AB (Ah As Ab (Ah AK Ab (Ah AK (pv 3) (pv 2)))) Ab) (A0 (Ah GK (Ah GK (Ah Fa (AS (A0 Ab Ac)) (pv 3)) (AS (A0 Ab Ac))) (Ah Fa (AS (A0 Ab Ac)) (Ah AK (pv 3) Ab))) Ac))))
  (Ad (K := K) (Ai (i := 6) AD.nd rfl (Or.inl rfl) (F0 (At Fb (Aj (ixT K) (pv 4) Ab (fun u v => rfl)) (Aj (ixT K) (pv 5) Ab (fun u v => rfl)) (Ay _)) (AJ (A0 (pv 4) (A0 (pv 5) Ac))) (AJ (A0 (pv 5) (A0 (pv 4) Ac)))))
  (Ad (K := K) (AX (K := K) PassesOwn.never rfl (MK K rfl P4 (A0 (pv 0) (A0 (pv 1) Ac))) (pgT K (n := 2) rfl (BR (Au (i := 7) AD.nd rfl (Or.inl rfl)) (BR (Au (i := 8) AD.nd rfl (Or.inl rfl)) EF))) (Ag (Ai (i := 6) AD.nd rfl (Or.inl rfl) (Am PV hr rfl (A0 (pv 6) (A0 (pv 7) (A0 (pv 8) Ac)))))) (by rfl))
  (Ad (K := K) (Ai (i := 9) AD.nd rfl (Or.inl rfl) (Aj (ixT K) (Aj (ixT K) (pv 6) Ab (fun u v => rfl)) Ab (fun u v => rfl)))
  (Ag (Av (AJ (A0 (Am Pi hr rfl (A0 (BS (slL K) (pv 9) Ce (Cd (pv 3))) (A0 Ab Ac))) (A0 (Am Pi hr rfl (A0 (BS (slL K) (pv 9) (Cd (pv 3)) Ce) (A0 Ab Ac))) Ac))))) (by rfl)) (by rfl)) (by rfl)) (by rfl)) (by rfl)) (by rfl)), ?_⟩
 obtain ⟨lp, lh, zs, ys, qs, hs, W, n, nx, ny, C, rfl, hP, hZ, hH, hY, hql, hhl, hn1, hn12, hnd, hW1, hWn, bq, bh, hC, hG, q⟩ := h
 have P1 : 1 ≤ sizeLine := by decide
 have P2 : 2 ≤ sizeLine := by decide
 have P60 : 60 ≤ sizeLine := by decide
 have hzl := hZ.length
 refine ⟨_, rfl, lp, _, rfl, .inl hP, _, _, rfl, rfl, ?_⟩
 have eR : ((zs.length : Nat) : Int) + 1 = ((n + 1 : Nat) : Int) := by lia
 rw [eR]
 refine ⟨_, rfl, _, _, rfl, rfl, _, _, rfl, rfl, .inl ⟨by decide, by decide⟩, P1, fun o1 ho1 => ⟨P1, fun o2 ho2 => ?_⟩⟩
 have n1 := Af.new (o := .lst [.int 1]) ho1
 have n2 := Af.new (o := .lst [.int 0]) ho2
 refine ⟨_, rfl, _, _, rfl, rfl, .inl ⟨by decide, by decide⟩, _, _, rfl, rfl, o2, _, [.int 0], rfl, rfl, Aa, by lia, by lia, QP (show _ ≤ 60 by show 1 * _ ≤ 60; lia) P60, fun o3 ho3 => ?_⟩
 have e3 : (Rg (2 * ((n + 1 : Nat) : Int) - 1).toNat [V.int 0]).flatten = (Rg (2 * (n + 1) - 1) (0 : Int)).map V.int := by rw [show (2 * ((n + 1 : Nat) : Int) - 1).toNat = 2 * (n + 1) - 1 by lia, M8]
 rw [e3]
 have n3 := Af.new (o := .lst ((Rg (2 * (n + 1) - 1) (0 : Int)).map V.int)) ho3
 refine ⟨o1, o3, [.int 1], _, rfl, rfl, n3 _ _ (n2 _ _ Aa), Aa, QP (show _ ≤ 60 by rw [RD, Rp, Rq]; lia) P60, fun k1 hk1 => ⟨P2, fun f1 hf1 => ?_⟩⟩
 have n4 := Af.new (o := .lst ([V.int 1] ++ (Rg (2 * (n + 1) - 1) (0 : Int)).map V.int)) hk1
 have n5 := Af.new (o := .tup [.int (2 * (1 - (W : Int))), .ref k1]) hf1
 have sF := (((n1.trans n2).trans n3).trans n4).trans n5
 have ek1 := n5 _ _ (Aa (H := upd (upd (upd H o1 (.lst [.int 1])) o2 (.lst [.int 0])) o3 (.lst ((Rg (2 * (n + 1) - 1) (0 : Int)).map V.int))) (a := k1) (o := .lst ([V.int 1] ++ (Rg (2 * (n + 1) - 1) (0 : Int)).map V.int)))
 have ef1 := Aa (H := upd (upd (upd (upd H o1 (.lst [.int 1])) o2 (.lst [.int 0])) o3 (.lst ((Rg (2 * (n + 1) - 1) (0 : Int)).map V.int))) k1 (.lst ([V.int 1] ++ (Rg (2 * (n + 1) - 1) (0 : Int)).map V.int))) (a := f1) (o := .tup [.int (2 * (1 - (W : Int))), .ref k1])
 generalize upd (upd (upd (upd (upd H o1 (.lst [.int 1])) o2 (.lst [.int 0])) o3 (.lst ((Rg (2 * (n + 1) - 1) (0 : Int)).map V.int))) k1 (.lst ([V.int 1] ++ (Rg (2 * (n + 1) - 1) (0 : Int)).map V.int))) f1 (.tup [.int (2 * (1 - (W : Int))), .ref k1]) = HF at sF ek1 ef1 ⊢
 have ek1 : HF k1 = some (.lst ((CW (n + 1)).map V.int)) := ek1
 clear n1 n2 n3 n4 n5 e3 ho1 ho2 ho3 hk1 hf1
 refine ⟨_, rfl, _, rfl, _, _, rfl, rfl, _, _, rfl, rfl, _, _, rfl, rfl, .inl ⟨by decide, by decide⟩, _, _, rfl, rfl, P1, fun o5 ho5 => ?_⟩
 have s8 := Af.new (o := .lst [.int 0]) ho5
 have e5 := Aa (H := HF) (a := o5) (o := .lst [.int 0])
 generalize upd HF o5 (.lst [.int 0]) = A1 at s8 e5 ⊢
 refine ⟨_, rfl, o5, _, [.int 0], rfl, rfl, e5, by lia, by lia, QP (show _ ≤ 60 by show 1 * _ ≤ 60; lia) P60, fun o6 ho6 => ?_⟩
 rw [Rt, M8]
 have s8 := s8.trans (Af.new (o := .lst ((Rg (n + 1) (0 : Int)).map V.int)) ho6)
 have e6 := Aa (H := A1) (a := o6) (o := .lst ((Rg (n + 1) (0 : Int)).map V.int))
 generalize upd A1 o6 (.lst ((Rg (n + 1) (0 : Int)).map V.int)) = A2 at s8 e6 ⊢
 refine ⟨P1, fun o7 ho7 => ?_⟩
 have n3 := Af.new (o := .lst [.int 1]) ho7
 have e7 := Aa (H := A2) (a := o7) (o := .lst [.int 1])
 have e6 := n3 _ _ e6
 have s8 := s8.trans n3
 generalize upd A2 o7 (.lst [.int 1]) = A3 at s8 e6 e7 ⊢
 refine ⟨o6, o7, _, _, rfl, rfl, e6, e7, QP (show _ ≤ 60 by rw [RD, Rp, Rq]; lia) P60, fun o8 ho8 => ?_⟩
 have s8 := s8.trans (Af.new (o := .lst ((Rg (n + 1) (0 : Int)).map V.int ++ [V.int 1])) ho8)
 have e8 := Aa (H := A3) (a := o8) (o := .lst ((Rg (n + 1) (0 : Int)).map V.int ++ [V.int 1]))
 generalize upd A3 o8 (.lst ((Rg (n + 1) (0 : Int)).map V.int ++ [V.int 1])) = A4 at s8 e8 ⊢
 refine ⟨P1, fun o9 ho9 => ?_⟩
 have n5 := Af.new (o := .lst [.int 0]) ho9
 have e9 := Aa (H := A4) (a := o9) (o := .lst [.int 0])
 have e8 := n5 _ _ e8
 have s8 := s8.trans n5
 generalize upd A4 o9 (.lst [.int 0]) = A5 at s8 e8 e9 ⊢
 refine ⟨_, rfl, _, _, rfl, rfl, o9, _, [.int 0], rfl, rfl, e9, by lia, by lia, QP (show _ ≤ 60 by show 1 * _ ≤ 60; lia) P60, fun o10 ho10 => ?_⟩
 have e10 : (Rg (((n + 1 : Nat) : Int) - 1).toNat [V.int 0]).flatten = (Rg (n + 1 - 1) (0 : Int)).map V.int := by rw [show (((n + 1 : Nat) : Int) - 1).toNat = n + 1 - 1 by lia, M8]
 rw [e10]
 have n6 := Af.new (o := .lst ((Rg (n + 1 - 1) (0 : Int)).map V.int)) ho10
 have e8 := n6 _ _ e8
 have ea := Aa (H := A5) (a := o10) (o := .lst ((Rg (n + 1 - 1) (0 : Int)).map V.int))
 have s8 := s8.trans n6
 generalize upd A5 o10 (.lst ((Rg (n + 1 - 1) (0 : Int)).map V.int)) = A6 at s8 e8 ea ⊢
 refine ⟨o8, o10, _, _, rfl, rfl, e8, ea, QP (show _ ≤ 60 by rw [Ro, RD, Rp, Rq, Rp, Rq]; lia) P60, fun k2 hk2 => ?_⟩
 have esec : (Rg (n + 1) (0 : Int)).map V.int ++ [V.int 1] ++ (Rg (n + 1 - 1) (0 : Int)).map V.int = (Bu (n + 1)).map V.int := by unfold Bu; rw [S4, S4]; rfl
 rw [esec]
 have s8 := s8.trans (Af.new (o := .lst ((Bu (n + 1)).map V.int)) hk2)
 have ek2 := Aa (H := A6) (a := k2) (o := .lst ((Bu (n + 1)).map V.int))
 generalize upd A6 k2 (.lst ((Bu (n + 1)).map V.int)) = A7 at s8 ek2 ⊢
 refine ⟨P2, fun f2 hf2 => ?_⟩
 have n8 := Af.new (o := .tup [.int (2 * (1 - (((n + 1 : Nat) : Int) - (W : Int))) + 1), .ref k2]) hf2
 have ef2 := Aa (H := A7) (a := f2) (o := .tup [.int (2 * (1 - (((n + 1 : Nat) : Int) - (W : Int))) + 1), .ref k2])
 have ek2 := n8 _ _ ek2
 have s8 := s8.trans n8
 generalize upd A7 f2 (.tup [.int (2 * (1 - (((n + 1 : Nat) : Int) - (W : Int))) + 1), .ref k2]) = HG at s8 ek2 ef2 ⊢
 have sG := sF.trans s8
 have ef1 := s8 _ _ ef1
 have ek1 := s8 _ _ ek1
 clear n3 n5 n6 n8 esec e10 sF s8
 have er2 : (2 * (1 - (((n + 1 : Nat) : Int) - (W : Int))) + 1) = 2 * (1 - ((n : Int) + 1 - W)) + 1 := by lia
 rw [er2] at ef2
 have un := OK (n := n) hW1 hWn
 refine ⟨_, rfl, f1, _, _, _, rfl, rfl, SqT.of ef1, rfl, _, rfl, f2, _, _, _, rfl, rfl, SqT.of ef2, rfl, _, _, rfl, rfl, _, rfl, ?_⟩
 by_cases hlt : 2 * (1 - (W : Int)) < 2 * (1 - ((n : Int) + 1 - W)) + 1
 ·refine Bw (decide_eq_true hlt) ⟨_, rfl, _, rfl, P2, fun b0 hb0 => ?_⟩
  have nb := Af.new (o := .tup [.ref f1, .ref f2]) hb0
  obtain ⟨va, vb, ra, rb, Ta, Tb, hb0, R1, R2, S0⟩ : ∃ (va vb : V) (ra rb : Int) (Ta Tb : List Int), SqT K (upd HG b0 (.tup [.ref f1, .ref f2])) b0 [va, vb] ∧ Rpr K (upd HG b0 (.tup [.ref f1, .ref f2])) va ra Ta ∧ Rpr K (upd HG b0 (.tup [.ref f1, .ref f2])) vb rb Tb ∧ PSt (W : Int) ((n : Int) + 1 - W) n (n + 1) ((qs.zip hs).take 0) (gAS C 0).1 (gAS C 0).2 ra Ta rb Tb :=
   ⟨_, _, _, _, _, _, SqT.of Aa, ⟨f1, k1, rfl, SqT.of (nb _ _ ef1), SqL.of (nb _ _ ek1)⟩, ⟨f2, k2, rfl, SqT.of (nb _ _ ef2), SqL.of (nb _ _ ek2)⟩, ⟨un.inv hlt, DX n, Dw n, Fr n, Ei n, 1, 1, Ie _, FW _, R3 1, R3 1, R3 2⟩⟩
  have sB := sG.trans nb
  generalize upd HG b0 (.tup [.ref f1, .ref f2]) = H0 at sB hb0 R1 R2 ⊢
  refine ⟨_, rfl, _, rfl, lp, lh, zs, ys, rfl, Af.seq sB hP, Af.seq sB hH, Jv (xs := zs) (ys := ys) (L11 H lp lh W n f1 f2 K qs hs C fun H lp lh W n f1 f2 K qs hs C i σ G => Af H G ∧ ∃ (b : Addr) (va vb : V) (ra rb : Int) (Ta Tb : List Int) (z7 z8 : Option V), σ = [some (.ref lp), some (.ref lh), some (.int (W : Int)), some (.int ((n + 1 : Nat) : Int)), some (.ref f1), some (.ref f2), some (.ref b), z7, z8, none] ∧ SqT K G b [va, vb] ∧ Rpr K G va ra Ta ∧ Rpr K G vb rb Tb ∧ PSt (W : Int) ((n : Int) + 1 - W) n (n + 1) ((qs.zip hs).take i) (gAS C i).1 (gAS C i).2 ra Ta rb Tb) ⟨sB, b0, va, vb, ra, rb, Ta, Tb, none, none, rfl, hb0, R1, R2, S0⟩ (fun i σ G _ h => ⟨Af.seq h.1 hP, Af.seq h.1 hH⟩) ?_ ?_⟩
  ·rintro i x y T σ G hx hy hT hR1
   refine By hR1 fun sg hz57 => ?_
   refine Mw hz57 fun b va vb ra rb Ta Tb z7 z8 hz57' => ?_
   clear hz57
   refine D5 hz57' fun hq56 hb R1 R2 S => ?_
   clear hz57'
   obtain rfl := hq56
   try clear hR1
   obtain ⟨qx, hqx, rx, rfl, hrx⟩ := (Paired.get hZ hx)
   obtain ⟨hv, hhv, ry, rfl, hry⟩ := (Paired.get hY hy)
   have hi : i < n := by have := (QX.mp hqx).1; lia
   have nT := Af.new (o := .tup [.ref rx, .ref ry]) hT
   have sT := sg.trans nT
   refine ⟨T, _, rfl, SqT.of Aa, rfl, _, _, rfl, _, _, rfl, rfl, ?_⟩
   have ezip : (qs.zip hs)[i]? = some (qx, hv) := by rw [T8]; exact ⟨hqx, hhv⟩
   have etake : (qs.zip hs).take (i + 1) = (qs.zip hs).take i ++ [(qx, hv)] := by rw [S3, ezip]; rfl
   have hlen : ((qs.zip hs).take i).length = i := by rw [Rh, T6]; lia
   have hm := CG C (i := i) (n := n) (by lia)
   have hl := Ha C i
   refine ⟨_, rfl, _, rfl, _, rfl, b, rx, ry, va, vb, ra, rb, Ta, Tb, (W : Int), (n : Int) + 1 - W, n, n + 1, (qs.zip hs).take i, (gAS C i).1, (gAS C i).2, C, nx, ny, qx, hv, rfl, hb.same nT, R1.same nT, R2.same nT, S, rfl, by lia, AA.same ⟨rx, rfl, hrx⟩ sT, AA.same ⟨ry, rfl, hry⟩ sT, bq qx (Rn hqx), bh hv (Rn hhv), ?_, by lia, hn12, hC, by lia, by lia, fun b' G' v1' v2' r1' r2' us1 us2 s' hb' R1' R2' S' => ?_⟩
   ·rw [← etake, Tw, Ty (by lia)]
    exact (Rm _ _).nodup hnd
   ·refine ⟨sT.trans s', b', v1', v2', r1', r2', us1, us2, _, _, rfl, hb', R1', R2', ?_⟩
    rw [etake]
    exact S'
  rintro σ G hR2
  refine By hR2 fun sg hz64 => ?_
  refine Mw hz64 fun b va vb ra rb Ta Tb z7 z8 hz64' => ?_
  clear hz64
  refine D5 hz64' fun hq62 hb hq63 R2 S => ?_
  clear hz64'
  obtain rfl := hq62
  refine C4 hq63 fun pa la hz66' => ?_
  refine Cy hz66' fun hq65 hpa hla => ?_
  clear hz66'
  obtain rfl := hq65
  try clear hR2
  have hmin : min zs.length ys.length = n := by rw [hZ.length, hY.length]; lia
  rw [hmin, Sy (by rw [T6]; lia)] at S
  have hR := S.l1
  refine C4 S.bd fun a1 a2 hz67' => ?_
  refine D5 hz67' fun ba1 ba2 hA1 hA2 hAS => ?_
  clear hz67'
  have hgl := Ha C n
  refine ⟨_, rfl, b, _, _, _, rfl, rfl, hb, rfl, pa, _, _, _, rfl, rfl, hpa, rfl, ?_⟩
  refine ⟨_, rfl, _, rfl, _, rfl, la, _, rfl, hla, fun s1 hs1 => ?_⟩
  have c1 : Cw (Ta.map V.int) none (some ((n + 1 : Nat) : Int)) = (Ta.take (n + 1)).map V.int := by rw [DE, Tw]
  rw [c1]
  have n1 := Af.new (o := .lst ((Ta.take (n + 1)).map V.int)) hs1
  refine ⟨s1, Ta.take (n + 1), 1, rfl, SqL.of Aa, by decide, by rw [Rh]; lia, fun pN G1 sN cN => ?_⟩
  have sgN := n1.trans sN
  refine ⟨_, rfl, _, rfl, _, rfl, la, _, rfl, Af.seq sgN hla, fun s2 hs2 => ?_⟩
  have c2 : Cw (Ta.map V.int) (some ((n + 1 : Nat) : Int)) none = (Ta.drop (n + 1)).map V.int := by rw [Ft, List.map_drop]
  rw [c2]
  have n2 := Af.new (o := .lst ((Ta.drop (n + 1)).map V.int)) hs2
  refine ⟨s2, Ta.drop (n + 1), 1, rfl, SqL.of Aa, by decide, by rw [Rw]; lia, fun pD G2 sD cD => ⟨P2, fun t ht => ?_⟩⟩
  have n3 := Af.new (o := .tup [.ref pN, .ref pD]) ht
  rw [Le] at cN cD
  refine q t pN pD _ ra rb _ _ _ _ ((((sg.trans sgN).trans n2).trans sD).trans n3) (SqT.of Aa) (((cN.same n2).same sD).same n3) (cD.same n3) ?_ ?_ S.inv
  ·exact Js (fun t ht => ba1 t (Td ht)) (by lia)
  ·exact Js (fun t ht => ba1 t (Tx ht)) (by lia)
 ·refine AR (decide_eq_false hlt) ⟨_, rfl, _, rfl, P2, fun b0 hb0 => ?_⟩
  have nb := Af.new (o := .tup [.ref f2, .ref f1]) hb0
  obtain ⟨va, vb, ra, rb, Ta, Tb, hb0, R1, R2, S0⟩ : ∃ (va vb : V) (ra rb : Int) (Ta Tb : List Int), SqT K (upd HG b0 (.tup [.ref f2, .ref f1])) b0 [va, vb] ∧ Rpr K (upd HG b0 (.tup [.ref f2, .ref f1])) va ra Ta ∧ Rpr K (upd HG b0 (.tup [.ref f2, .ref f1])) vb rb Tb ∧ PSt (W : Int) ((n : Int) + 1 - W) n (n + 1) ((qs.zip hs).take 0) (gAS C 0).1 (gAS C 0).2 ra Ta rb Tb :=
   ⟨_, _, _, _, _, _, SqT.of Aa, ⟨f2, k2, rfl, SqT.of (nb _ _ ef2), SqL.of (nb _ _ ek2)⟩, ⟨f1, k1, rfl, SqT.of (nb _ _ ef1), SqL.of (nb _ _ ek1)⟩, ⟨un.turn hlt, Dw n, DX n, Ei n, Fr n, 1, 1, FW _, Ie _, R3 1, R3 1, R3 2⟩⟩
  have sB := sG.trans nb
  generalize upd HG b0 (.tup [.ref f2, .ref f1]) = H0 at sB hb0 R1 R2 ⊢
  refine ⟨_, rfl, _, rfl, lp, lh, zs, ys, rfl, Af.seq sB hP, Af.seq sB hH, Jv (xs := zs) (ys := ys) (L11 H lp lh W n f1 f2 K qs hs C fun H lp lh W n f1 f2 K qs hs C i σ G => Af H G ∧ ∃ (b : Addr) (va vb : V) (ra rb : Int) (Ta Tb : List Int) (z7 z8 : Option V), σ = [some (.ref lp), some (.ref lh), some (.int (W : Int)), some (.int ((n + 1 : Nat) : Int)), some (.ref f1), some (.ref f2), some (.ref b), z7, z8, none] ∧ SqT K G b [va, vb] ∧ Rpr K G va ra Ta ∧ Rpr K G vb rb Tb ∧ PSt (W : Int) ((n : Int) + 1 - W) n (n + 1) ((qs.zip hs).take i) (gAS C i).1 (gAS C i).2 ra Ta rb Tb) ⟨sB, b0, va, vb, ra, rb, Ta, Tb, none, none, rfl, hb0, R1, R2, S0⟩ (fun i σ G _ h => ⟨Af.seq h.1 hP, Af.seq h.1 hH⟩) ?_ ?_⟩
  ·rintro i x y T σ G hx hy hT hR3
   refine By hR3 fun sg hz69 => ?_
   refine Mw hz69 fun b va vb ra rb Ta Tb z7 z8 hz69' => ?_
   clear hz69
   refine D5 hz69' fun hq68 hb R1 R2 S => ?_
   clear hz69'
   obtain rfl := hq68
   try clear hR3
   obtain ⟨qx, hqx, rx, rfl, hrx⟩ := (Paired.get hZ hx)
   obtain ⟨hv, hhv, ry, rfl, hry⟩ := (Paired.get hY hy)
   have hi : i < n := by have := (QX.mp hqx).1; lia
   have nT := Af.new (o := .tup [.ref rx, .ref ry]) hT
   have sT := sg.trans nT
   refine ⟨T, _, rfl, SqT.of Aa, rfl, _, _, rfl, _, _, rfl, rfl, ?_⟩
   have ezip : (qs.zip hs)[i]? = some (qx, hv) := by rw [T8]; exact ⟨hqx, hhv⟩
   have etake : (qs.zip hs).take (i + 1) = (qs.zip hs).take i ++ [(qx, hv)] := by rw [S3, ezip]; rfl
   have hlen : ((qs.zip hs).take i).length = i := by rw [Rh, T6]; lia
   have hm := CG C (i := i) (n := n) (by lia)
   have hl := Ha C i
   refine ⟨_, rfl, _, rfl, _, rfl, b, rx, ry, va, vb, ra, rb, Ta, Tb, (W : Int), (n : Int) + 1 - W, n, n + 1, (qs.zip hs).take i, (gAS C i).1, (gAS C i).2, C, nx, ny, qx, hv, rfl, hb.same nT, R1.same nT, R2.same nT, S, rfl, by lia, AA.same ⟨rx, rfl, hrx⟩ sT, AA.same ⟨ry, rfl, hry⟩ sT, bq qx (Rn hqx), bh hv (Rn hhv), ?_, by lia, hn12, hC, by lia, by lia, fun b' G' v1' v2' r1' r2' us1 us2 s' hb' R1' R2' S' => ?_⟩
   ·rw [← etake, Tw, Ty (by lia)]
    exact (Rm _ _).nodup hnd
   ·refine ⟨sT.trans s', b', v1', v2', r1', r2', us1, us2, _, _, rfl, hb', R1', R2', ?_⟩
    rw [etake]
    exact S'
  rintro σ G hR4
  refine By hR4 fun sg hz76 => ?_
  refine Mw hz76 fun b va vb ra rb Ta Tb z7 z8 hz76' => ?_
  clear hz76
  refine D5 hz76' fun hq74 hb hq75 R2 S => ?_
  clear hz76'
  obtain rfl := hq74
  refine C4 hq75 fun pa la hz78' => ?_
  refine Cy hz78' fun hq77 hpa hla => ?_
  clear hz78'
  obtain rfl := hq77
  try clear hR4
  have hmin : min zs.length ys.length = n := by rw [hZ.length, hY.length]; lia
  rw [hmin, Sy (by rw [T6]; lia)] at S
  have hR := S.l1
  refine C4 S.bd fun a1 a2 hz79' => ?_
  refine D5 hz79' fun ba1 ba2 hA1 hA2 hAS => ?_
  clear hz79'
  have hgl := Ha C n
  refine ⟨_, rfl, b, _, _, _, rfl, rfl, hb, rfl, pa, _, _, _, rfl, rfl, hpa, rfl, ?_⟩
  refine ⟨_, rfl, _, rfl, _, rfl, la, _, rfl, hla, fun s1 hs1 => ?_⟩
  have c1 : Cw (Ta.map V.int) none (some ((n + 1 : Nat) : Int)) = (Ta.take (n + 1)).map V.int := by rw [DE, Tw]
  rw [c1]
  have n1 := Af.new (o := .lst ((Ta.take (n + 1)).map V.int)) hs1
  refine ⟨s1, Ta.take (n + 1), 1, rfl, SqL.of Aa, by decide, by rw [Rh]; lia, fun pN G1 sN cN => ?_⟩
  have sgN := n1.trans sN
  refine ⟨_, rfl, _, rfl, _, rfl, la, _, rfl, Af.seq sgN hla, fun s2 hs2 => ?_⟩
  have c2 : Cw (Ta.map V.int) (some ((n + 1 : Nat) : Int)) none = (Ta.drop (n + 1)).map V.int := by rw [Ft, List.map_drop]
  rw [c2]
  have n2 := Af.new (o := .lst ((Ta.drop (n + 1)).map V.int)) hs2
  refine ⟨s2, Ta.drop (n + 1), 1, rfl, SqL.of Aa, by decide, by rw [Rw]; lia, fun pD G2 sD cD => ⟨P2, fun t ht => ?_⟩⟩
  have n3 := Af.new (o := .tup [.ref pN, .ref pD]) ht
  rw [Le] at cN cD
  refine q t pN pD _ ra rb _ _ _ _ ((((sg.trans sgN).trans n2).trans sD).trans n3) (SqT.of Aa) (((cN.same n2).same sD).same n3) (cD.same n3) ?_ ?_ S.inv
  ·exact Js (fun t ht => ba1 t (Td ht)) (by lia)
  ·exact Js (fun t ht => ba1 t (Tx ht)) (by lia)
theorem Ca : Ap ["numbers", "bottom", "number"] ["numbers"] (Ae (top 13)) := ⟨rfl, rfl, rfl, by decide +kernel, rfl, by decide +kernel, by decide +kernel⟩
set_option maxHeartbeats 4000000 in
theorem GQ {f : Addr} {fd : FuncData} (F : Fun K "bottom_of" "bottom_of" (top 13) f fd) (Pc : Fd P w K mg base 33 "common_measure" ["one", "other"] (FQ)) (hT : P.given.tree = none) :
 AE P w K mg base CX0 34 f fd ["numbers"] (FS K) := by
 refine F.ok Ca (fun vs H Q E h => ?_) (fun cdv A outer s H vs Q E hr h => ?_)
 ·obtain ⟨_, _, _, _, _, rfl, _⟩ := h; rfl
 refine ⟨_, (Ad (K := K) (Ai (i := 1) Ca.nd rfl (Or.inl rfl) Ab)
  (Ad (K := K) (AX (K := K) PassesOwn.never rfl (piS K (pv 0)) (Au (i := 2) Ca.nd rfl (Or.inl rfl)) (Ag (Ai (i := 1) Ca.nd rfl (Or.inl rfl) (Ah As (pv 1) (Ah (Bh hr hT) (Aj (ixT K) (pv 2) Ab (fun u v => rfl)) (Am Pc hr rfl (A0 (pv 1) (A0 (Aj (ixT K) (pv 2) Ab (fun u v => rfl)) Ac))))))) (by rfl))
  (Ag (Av (pv 1))) (by rfl)) (by rfl)), ?_⟩
 obtain ⟨b, r, xs, qs, n, rfl, hS, hn, hB, hz, q⟩ := h
 have hl := hn.length
 refine Jw (b := b) (a := r) (xs := xs) rfl (L4 H r qs n fun H r qs n i σ H' => H' = H ∧ ∃ (B : Int) (z : Option V), σ = [some (.ref r), some (.int B), z] ∧ 0 < B ∧ (∀ q ∈ qs.take i, (q.den : Int) ∣ B) ∧ Bd (n * i + 1) B) ⟨rfl, 1, none, rfl, by decide, fun q hq => by simp at hq, by unfold Bd; rw [Nat.mul_zero]; decide⟩ (fun i σ H' _ p => by rw [p.1]; exact hS) ?_ ?_
 ·rintro i x σ H' hx hR1
  refine By hR1 fun hq80 hz82 => ?_
  refine C4 hz82 fun B z hz82' => ?_
  clear hz82
  refine DF hz82' fun hq81 hB0 hdv hbd => ?_
  clear hz82'
  obtain rfl := hq80
  obtain rfl := hq81
  try clear hR1
  obtain ⟨c, hc, r', rfl, hr⟩ := (Paired.get hn hx)
  have hi : i < qs.length := (QX.mp hc).1
  have hcm : c ∈ qs := Rn hc
  have hd0 : 0 < (c.den : Int) := by have := c.den_pos; lia
  obtain ⟨l1, l2, l3⟩ := (KW hB0 hd0)
  have g0 : (RJ B c.den : Int) ≠ 0 := by have := Nm.gcd_pos (a := B) (b := c.den) (by lia); lia
  have bd2 : Bd n (Int.fdiv c.den (RJ B c.den : Int)) := (hB c hcm).fdiv
  have hni : n * i ≤ n * qs.length := Ts n (by lia)
  have hnm : n * (qs.length + 2) = n * qs.length + 2 * n := by rw [Tt]; lia
  refine ⟨_, rfl, _, rfl, r', _, _, _, rfl, rfl, hr, rfl, _, rfl, _, rfl, r', _, _, _, rfl, rfl, hr, rfl, _, _, rfl, _, _, rfl, rfl, g0, _, _, rfl, rfl, Bp.bd hbd bd2 (by lia), ?_⟩
  refine ⟨rfl, _, _, rfl, l1, fun q' hq' => ?_, ?_⟩
  ·rw [S3, hc] at hq'
   rcases QV.mp hq' with z | z
   ·exact Int.dvd_trans (hdv q' z) l2
   ·have : q' = c := by simpa using z
    subst this; exact l3
  ·have := hbd.mul bd2
   rw [Tt, Tu, show n * i + n + 1 = n * i + 1 + n by lia]
   exact this
 ·rintro σ H' hR2
  refine By hR2 fun hq85 hz87 => ?_
  refine C4 hz87 fun B z hz87' => ?_
  clear hz87
  refine DF hz87' fun hq86 hB0 hdv hbd => ?_
  clear hz87'
  obtain rfl := hq85
  obtain rfl := hq86
  try clear hR2
  rw [hl, To] at hdv
  rw [hl] at hbd
  exact ⟨_, rfl, q B hB0 hdv hbd⟩
theorem GB : Ap ["numbers", "bottom"] ["numbers", "bottom"] (Ae (top 14)) := ⟨rfl, rfl, rfl, by decide +kernel, rfl, by decide +kernel, by decide +kernel⟩
set_option maxHeartbeats 4000000 in
theorem GL {f : Addr} {fd : FuncData} (F : Fun K "tops_over" "tops_over" (top 14) f fd) (hT : P.given.tree = none) :
 AE P w K mg base CX0 33 f fd ["numbers", "bottom"] (EM K) := by
 refine F.ok GB (fun vs H Q E h => ?_) (fun cdv A outer s H vs Q E hr h => ?_)
 ·obtain ⟨_, _, _, _, _, _, _, rfl, _⟩ := h; rfl
 refine ⟨_, (Ag (Av (Df rfl (N := ["number", "bottom"]) (nt := 1) (js := [1]) (AZ.look (NX := ["numbers", "bottom"]) (sc := Ae (top 14)) rfl rfl (by decide +kernel)) (piS K (pv 0)) (fun u1 u2 u3 u4 u5 => (Au (i := 0) (show List.Nodup (["number", "bottom"] : List Str) from by decide +kernel) rfl (Or.inl rfl))) (AH (by decide)) (fun u1 u2 u3 u4 u5 => BE) (fun u1 u2 u3 u4 u5 => (Ah As (Aj (ixT K) (pv 0) Ab (fun u v => rfl)) (Ah (Bh hr hT) (pv 1) (Aj (ixT K) (pv 0) Ab (fun u v => rfl)))))))), ?_⟩
 obtain ⟨b, r, xs, qs, B, m, n, rfl, hS, hn, hbB, hbn, hmn, hz, q⟩ := h
 have hl := hn.length
 refine KY (b := b) (a := r) (xs := xs) rfl (fun i zs H' => H' = H ∧ zs = ((qs.take i).map (BI B)).map V.int) ⟨rfl, rfl⟩ (fun i zs H' hi p => ⟨by rw [p.1]; exact hS, by rw [p.2, Rp, Rp, Rh]; lia⟩) (by rw [hl]; exact QQ (AU hz)) ?_ ?_
 ·rintro i x zs H' hx ⟨rfl, rfl⟩
  obtain ⟨c, hc, r', rfl, hr⟩ := (Paired.get hn hx)
  have hcm : c ∈ qs := Rn hc
  have hd0 : (c.den : Int) ≠ 0 := by have := c.den_pos; lia
  refine ⟨_, rfl, r', _, _, _, rfl, rfl, hr, rfl, _, rfl, _, rfl, r', _, _, _, rfl, rfl, hr, rfl, _, _, rfl, rfl, hd0, _, _, rfl, rfl, Bp.bd (hbn c hcm) (hbB.fdiv (y := c.den)) (by lia), rfl, ?_⟩
  rw [S3, hc, S4, S4]
  rfl
 ·rintro zs H' ⟨rfl, rfl⟩ p hp
  rw [hl, To]
  exact q p hp
theorem BD : Ap ["first", "second", "product", "k", "j"] ["first", "second"] (Ae (top 18)) := ⟨rfl, rfl, rfl, by decide +kernel, rfl, by decide +kernel, by decide +kernel⟩
set_option maxHeartbeats 4000000 in
theorem E7 {f : Addr} {fd : FuncData} (F : Fun K "whole_product" "whole_product" (top 18) f fd) (OX : mg "range" = none) (OW : mg "len" = none) (hT : P.given.tree = none) :
 AE P w K mg base CX0 33 f fd ["first", "second"] (Gs K) := by
 refine F.ok BD (fun vs H Q E h => ?_) (fun cdv A outer s H vs Q E hr h => ?_)
 ·obtain ⟨_, _, _, _, _, _, rfl, _⟩ := h; rfl
 refine ⟨_, (Ad (K := K) (Ai (i := 2) BD.nd rfl (Or.inl rfl) (Ah Fa (AS (A0 Ab Ac)) (Ah AK (Ah AB (Ar (BO K) rfl OW AF (A0 (pv 0) Ac)) (Ar (BO K) rfl OW AF (A0 (pv 1) Ac))) Ab)))
  (Ad (K := K) (AX (K := K) PassesOwn.never rfl (AV rfl OX (A0 (Ar (BO K) rfl OW AF (A0 (pv 0) Ac)) Ac)) (Au (i := 3) BD.nd rfl (Or.inl rfl)) (Ag (AX (K := K) PassesOwn.never rfl (AV rfl OX (A0 (Ar (BO K) rfl OW AF (A0 (pv 1) Ac)) Ac)) (Au (i := 4) BD.nd rfl (Or.inl rfl)) (Ag (E5 (Ah AB (Aj (ixL K) (pv 2) (Ah AB (pv 3) (pv 4)) (fun u v => rfl)) (Ah As (Aj (ixL K) (pv 0) (pv 3) (fun u v => rfl)) (Aj (ixL K) (pv 1) (pv 4) (fun u v => rfl)))) (EZ (pv 2) (Ah AB (pv 3) (pv 4)) D9))) (by rfl))) (by rfl))
  (Ag (Av (pv 2))) (by rfl)) (by rfl)), ?_⟩
 obtain ⟨f, g, fs, gs, m, n, rfl, hf, hg, hg1, hf1000, hg1000, hbf, hbg, hmn, q⟩ := h
 have lf : (fs.map V.int).length = fs.length := Rp _
 have lg : (gs.map V.int).length = gs.length := Rp _
 have P1 : 1 ≤ sizeLine := by decide
 have hfg : fs.length * gs.length ≤ 1000 * 1000 := Tf hf1000 hg1000
 refine ⟨P1, fun o ho => ?_⟩
 have hf0 : SqL K (upd H o (.lst [.int 0])) f (fs.map V.int) := Kv hf ho
 have hg0 : SqL K (upd H o (.lst [.int 0])) g (gs.map V.int) := Kv hg ho
 refine ⟨_, rfl, f, _, rfl, .inl hf0, _, rfl, g, _, rfl, .inl hg0, _, _, rfl, rfl, _, _, rfl, rfl, o, _, _, rfl, rfl, Aa, ?_, ?_, ?_, fun p hp => ?_⟩
 ·rw [lf, lg]; lia
 ·rw [lf, lg]; lia
 ·show 1 * (((fs.map V.int).length : Int) + ((gs.map V.int).length : Int) - 1).toNat ≤ sizeLine
  rw [lf, lg, Sm]
  exact QP (JV hf1000 hg1000) (by decide : 2 * 1000 ≤ sizeLine)
 have hpH : H p = none := by
  cases z : H p with
  | none => rfl
  | some u => rw [(Af.new ho) p u z] at hp; cases hp
 have eL : (((fs.map V.int).length : Int) + ((gs.map V.int).length : Int) - 1).toNat = fs.length + gs.length - 1 := by rw [lf, lg]; exact KS hg1
 rw [eL]
 have s0 : Af H (upd (upd H o (.lst [.int 0])) p (.lst (Rg (fs.length + gs.length - 1) [V.int 0]).flatten)) := (Af.new ho).trans (Af.new hp)
 have e0 : (Rg (fs.length + gs.length - 1) [V.int 0]).flatten = (Rg (fs.length + gs.length - 1) (0 : Int)).map V.int := by rw [List.flatten_replicate_singleton, List.map_replicate]
 rw [e0] at s0 ⊢
 refine ⟨_, rfl, f, _, rfl, .inl (Af.seq s0 hf), _, rfl, by rw [lf]; lia, by rw [lf]; lia, ?_⟩
 rw [lf, Rt]
 refine BG (n := fs.length) (L8 H f g p fs gs m n fun H f g p fs gs m n i σ H' => Af H H' ∧ ∃ (ps : List Int) (z3 z4 : Option V), σ = [some (.ref f), some (.ref g), some (.ref p), z3, z4] ∧ H' p = some (.lst (ps.map V.int)) ∧ ps.length = fs.length + gs.length - 1 ∧ (∀ x, Cv.evI ps x = Cv.evI (fs.take i) x * Cv.evI gs x) ∧ ∀ t ∈ ps, Up (i * gs.length) (m + n) t)
  ⟨s0, _, none, none, rfl, Aa, Rq, fun x => ?_, fun t ht => ?_⟩ ?_ ?_
 ·rw [Cv.evI_zeros, SA]
  show (0 : Rat) = 0 * _
  grind
 ·rw [(Tg.mp ht).2]; exact R5 _
 ·rintro i σ H' hi hR1
  refine By hR1 fun sm hz91 => ?_
  refine D4 hz91 fun ps z3 z4 hz91' => ?_
  clear hz91
  refine D5 hz91' fun hq90 ep hpl hev hup => ?_
  clear hz91'
  obtain rfl := hq90
  try clear hR1
  have hfi : fs[i]? = some fs[i] := Si hi
  refine ⟨_, rfl, g, _, rfl, .inl (Af.seq sm hg), _, rfl, by rw [lg]; lia, by rw [lg]; lia, ?_⟩
  rw [lg, Rt]
  refine BG (n := gs.length) (fun j σ H' => Af H H' ∧ ∃ (ps : List Int) (z4 : Option V), σ = [some (.ref f), some (.ref g), some (.ref p), some (.int (0 + (i : Int))), z4] ∧ H' p = some (.lst (ps.map V.int)) ∧ ps.length = fs.length + gs.length - 1 ∧ (∀ x, Cv.evI ps x = Cv.evI (fs.take i) x * Cv.evI gs x + (fs[i] : Rat) * x ^ i * Cv.evI (gs.take j) x) ∧ ∀ t ∈ ps, Up (i * gs.length + j) (m + n) t)
   ⟨sm, ps, z4, rfl, ep, hpl, fun x => ?_, hup⟩ ?_ ?_
  ·rw [hev x, SA]
   show _ = _ + _ * (0 : Rat)
   grind
  ·rintro j σ H2 hj hR2
   refine By hR2 fun sm2 hz93 => ?_
   refine C4 hz93 fun ps2 z4' hz93' => ?_
   clear hz93
   refine D5 hz93' fun hq92 ep2 hpl2 hev2 hup2 => ?_
   clear hz93'
   obtain rfl := hq92
   try clear hR2
   have hgj : gs[j]? = some gs[j] := Si hj
   have hij : i + j < ps2.length := Nv hi hj hpl2
   have hpj : ps2[i + j]? = some ps2[i + j] := Si hij
   have bm : Bp fs[i] gs[j] := Bp.bd (hbf _ (Sj hi)) (hbg _ (Sj hj)) (by lia)
   refine ⟨_, rfl, _, rfl, _, rfl, _, _, rfl, rfl, p, _, _, _, rfl, rfl, SqL.of ep2, E1 hpj (by lia), _, rfl, _, rfl, f, _, _, _, rfl, rfl, Af.seq sm2 hf, E1 hfi (by lia), _, rfl, _, rfl, g, _, _, _, rfl, rfl, Af.seq sm2 hg, E1 hgj (by lia), _, _, rfl, rfl, bm, _, _, rfl, rfl, ?_⟩
   refine ⟨_, rfl, _, rfl, _, rfl, _, _, rfl, rfl, p, _, _, i + j, rfl, rfl, ep2, HZ (by rw [Rp]; exact hij) (by lia), ?_⟩
   refine ⟨sm2.put hpH, ps2.set (i + j) (ps2[i + j] + fs[i] * gs[j]), _, rfl, ?_, by rw [Ry]; exact hpl2, fun x => ?_, fun t ht => ?_⟩
   ·rw [Aa, List.map_set]
   ·rw [Cv.evI_set x ps2 (i + j) _ _ hpj, hev2 x, Cv.evI_take_succ x gs j _ hgj, RU, Nm.pow_add]
    grind
   ·rcases Tv ht with z | z
    ·exact (hup2 t z).mono (by lia)
    ·subst z
     exact (hup2 _ (Sj hij)).add ((hbf _ (Sj hi)).mul (hbg _ (Sj hj)))
  ·rintro σ H2 hR3
   refine By hR3 fun sm2 hz95 => ?_
   refine C4 hz95 fun ps2 z4' hz95' => ?_
   clear hz95
   refine D5 hz95' fun hq94 ep2 hpl2 hev2 hup2 => ?_
   clear hz95'
   obtain rfl := hq94
   try clear hR3
   refine ⟨sm2, ps2, _, _, rfl, ep2, hpl2, fun x => ?_, fun t ht => ?_⟩
   ·rw [hev2 x, To, Cv.evI_take_succ x fs i _ hfi]
    grind
   ·have := hup2 t ht
    rw [Sl, Sm]
    exact this
 ·rintro σ H' hR4
  refine By hR4 fun sm hz97 => ?_
  refine D4 hz97 fun ps z3 z4 hz97' => ?_
  clear hz97
  refine D5 hz97' fun hq96 ep hpl hev hup => ?_
  clear hz97'
  obtain rfl := hq96
  try clear hR4
  refine ⟨_, rfl, q p H' ps sm hpH ep hpl (fun x => ?_) (fun t ht => ?_)⟩
  ·rw [hev x, To]
  ·exact (hup t ht).bd (k := 20) (by lia)
theorem Bk : Ap ["knots", "steps", "bottom", "step_tops", "tops", "scale", "k"] ["knots", "steps"] (Ae (top 39)) := ⟨rfl, rfl, rfl, by decide +kernel, rfl, by decide +kernel, by decide +kernel⟩
set_option maxHeartbeats 4000000 in
theorem HM {f : Addr} {fd : FuncData} (F : Fun K "by_steps" "by_steps" (top 39) f fd) (Pd : Fd P w K mg base 34 "bottom_of" ["numbers"] (FS K)) (Pn : Fd P w K mg base 33 "tops_over" ["numbers", "bottom"] (EM K)) (Pi : Fd P w K mg base 35 "curve_over" ["tops", "bottom"] (BX K)) (PX : Fd P w K mg base 33 "whole_product" ["first", "second"] (Gs K)) (OX : mg "range" = none) (OW : mg "len" = none) (hT : P.given.tree = none) :
 AE P w K mg base CX0 36 f fd ["knots", "steps"] (Dr K) := by
 refine F.ok Bk (fun vs H Q E h => ?_) (fun cdv A outer s H vs Q E hr h => ?_)
 ·obtain ⟨_, _, _, _, _, _, _, rfl, _⟩ := h; rfl
 refine ⟨_, (Ad (K := K) (Ai (i := 2) Bk.nd rfl (Or.inl rfl) (Am Pd hr rfl (A0 (pv 1) Ac)))
  (Ad (K := K) (Ai (i := 3) Bk.nd rfl (Or.inl rfl) (Am Pn hr rfl (A0 (pv 1) (A0 (pv 2) Ac))))
  (Ad (K := K) (Ai (i := 4) Bk.nd rfl (Or.inl rfl) (AS Ac))
  (Ad (K := K) (Ai (i := 5) Bk.nd rfl (Or.inl rfl) Ab)
  (Ad (K := K) (AX (K := K) PassesOwn.never rfl (Mb rfl OX (A0 (Ah AK (Ar (BO K) rfl OW AF (A0 (pv 0) Ac)) Ab) (A0 (HD EJ Ab) (A0 (HD EJ Ab) Ac)))) (Au (i := 6) Bk.nd rfl (Or.inl rfl)) (Ad (K := K) (Ai (i := 4) Bk.nd rfl (Or.inl rfl) (Am PX hr rfl (A0 (pv 4) (A0 (AS (A0 (HD EJ (Aj (ixT K) (Aj (ixL K) (pv 0) (pv 6) (fun u v => rfl)) Ab (fun u v => rfl))) (A0 (Aj (ixT K) (Aj (ixL K) (pv 0) (pv 6) (fun u v => rfl)) Ab (fun u v => rfl)) Ac))) Ac))))
  (Ad (K := K) (Ai (i := 5) Bk.nd rfl (Or.inl rfl) (Ah As (pv 5) (Aj (ixT K) (Aj (ixL K) (pv 0) (pv 6) (fun u v => rfl)) Ab (fun u v => rfl))))
  (Ag (E5 (Ah AB (Aj (ixL K) (pv 4) Ab (fun u v => rfl)) (Ah As (Aj (ixL K) (pv 3) (pv 6) (fun u v => rfl)) (pv 5))) (EZ (pv 4) Ab D9))) (by rfl)) (by rfl)) (by rfl))
  (Ag (Av (Am Pi hr rfl (A0 (pv 4) (A0 (Ah As (pv 2) (pv 5)) Ac))))) (by rfl)) (by rfl)) (by rfl)) (by rfl)) (by rfl)), ?_⟩
 obtain ⟨rk, rst, xs, ys, ks, ss, n, rfl, hk, hnk, hs, hns, hlen, h30, hbk, hbs, hn4, q⟩ := h
 have hlk := hnk.length
 have hls := hns.length
 have P0 : 0 ≤ sizeLine := by decide
 have P2 : 2 ≤ sizeLine := by decide
 have hnq : n * ks.length ≤ 2048000 * 12 := Tf hn4 h30
 have hnq' : n * ss.length = n * ks.length := by rw [hlen]
 refine ⟨_, rfl, true, rst, ys, ss, n, rfl, hs, hns, (fun c hc => (hbs c hc).2), by rw [Tt]; lia, fun B hB0 hdv hbB => ?_⟩
 refine ⟨_, rfl, _, rfl, true, rst, ys, ss, B, n * ss.length + 1, n, rfl, hs, hns, hbB, (fun c hc => (hbs c hc).1), by lia, by lia, fun st h1 => ?_⟩
 refine ⟨P0, fun tp h2 => ?_⟩
 have s2 : Af H (upd (upd H st (.lst ((ss.map (BI B)).map V.int))) tp (.lst [])) := (Af.new h1).trans (Af.new h2)
 have est : (upd (upd H st (.lst ((ss.map (BI B)).map V.int))) tp (.lst [])) st = some (.lst ((ss.map (BI B)).map V.int)) := (Af.new h2) _ _ Aa
 have etp : (upd (upd H st (.lst ((ss.map (BI B)).map V.int))) tp (.lst [])) tp = some (.lst (([] : List Int).map V.int)) := Aa
 generalize upd (upd H st (.lst ((ss.map (BI B)).map V.int))) tp (.lst []) = H2 at s2 est etp ⊢
 refine ⟨_, rfl, rk, xs, rfl, .inl (Af.seq s2 hk), _, _, rfl, rfl, _, rfl, _, rfl, _, _, rfl, ⟨by lia, by lia, by decide, by decide⟩, ?_⟩
 have eT : ((xs.length : Int) - 1 - -1).toNat = ks.length := Ml hlk
 rw [eT]
 refine Lm (n := ks.length) (L8 H2 rk rst B st ks ss n fun H2 rk rst B st ks ss n i σ H' => Af H2 H' ∧ ∃ (tp : Addr) (ts : List Int) (s : Int) (z : Option V), σ = [some (.ref rk), some (.ref rst), some (.int B), some (.ref st), some (.ref tp), some (.int s), z] ∧ H' tp = some (.lst (ts.map V.int)) ∧ ts.length = i ∧ s ≠ 0 ∧
  (∀ x, Cv.evI ts x = BL (ks.drop (ks.length - i)) (ss.drop (ks.length - i)) x * ((B : Rat) * (s : Rat))) ∧ (∀ t ∈ ts, Bd (n * ks.length + n * i + 21 * i + 2 * n + 30) t) ∧ Bd (n * i + 1) s)
  ⟨Af.refl _, tp, [], 1, none, rfl, etp, rfl, by decide, fun x => ?_, (fun _ h => nomatch h), ?_⟩ ?_ ?_
 ·rw [Sx, SB (R3 _)]
  show (0 : Rat) = 0 * _
  grind
 ·exact (show Bd 1 1 by unfold Bd; decide).mono (by lia)
 ·rintro i σ H' hi hR1
  refine By hR1 fun sm hz99 => ?_
  refine IX hz99 fun tp' ts s z hz99' => ?_
  clear hz99
  refine NW hz99' fun hq98 etp' htl hs0 he hbt hbsc => ?_
  clear hz99'
  obtain rfl := hq98
  try clear hR1
  have hj : ks.length - 1 - i < ks.length := Nu hi
  have hj2 : ks.length - 1 - i < ss.length := by lia
  have hkq : ks[ks.length - 1 - i]? = some ks[ks.length - 1 - i] := Si hj
  have hsq : ss[ks.length - 1 - i]? = some ss[ks.length - 1 - i] := Si hj2
  have hcm : ks[ks.length - 1 - i] ∈ ks := Sj hj
  have hsm : ss[ks.length - 1 - i] ∈ ss := Sj hj2
  generalize ks[ks.length - 1 - i] = c at hkq hcm
  generalize ss[ks.length - 1 - i] = d at hsq hsm
  obtain ⟨xk, hxk, rk', rfl, hrk⟩ := (Paired.get' hnk hkq)
  have ei : (xs.length : Int) - 1 - (i : Int) = ((ks.length - 1 - i : Nat) : Int) := KU hlk hi
  have hat : atI xs ((xs.length : Int) - 1 - (i : Int)) = some (.ref rk') := by rw [ei]; exact AT hxk
  have hat2 : atI ((ss.map (BI B)).map V.int) ((xs.length : Int) - 1 - (i : Int)) = some (.int (BI B d)) := E1 (by rw [Rl, hsq]; rfl) ei
  have hni : n * i ≤ n * ks.length := Ts n (by lia)
  have hni1 : n * (i + 1) = n * i + n := by rw [Tt, Tu]
  have bt : Bd (n * ks.length + n + 1) (BI B d) := ((hbs d hsm).1.mul (hbB.fdiv (y := d.den))).mono (by lia)
  have sH := s2.trans sm
  have hrk1 := hrk.same sH
  refine ⟨_, rfl, _, rfl, _, rfl, rk, xs, _, _, rfl, rfl, Af.seq sH hk, hat, rk', _, _, _, rfl, rfl, hrk1, rfl, _, rfl, _, rfl, _, rfl, rk, xs, _, _, rfl, rfl, Af.seq sH hk, hat, rk', _, _, _, rfl, rfl, hrk1, rfl, P2, fun g hg => ?_⟩
  have sg : Af H' (upd H' g (.lst [.int (-c.num), .int (c.den : Int)])) := Af.new hg
  have eg : (upd H' g (.lst [.int (-c.num), .int (c.den : Int)])) g = some (.lst ([-c.num, (c.den : Int)].map V.int)) := Aa
  generalize upd H' g (.lst [.int (-c.num), .int (c.den : Int)]) = Hg at sg eg ⊢
  have blin : ∀ t ∈ [-c.num, (c.den : Int)], Bd n t := fun t ht => by
   rcases QU.mp ht with z | z
   ·subst z; exact (hbk c hcm).1.neg
   ·rw [Sh.mp z]; exact (hbk c hcm).2
  refine ⟨tp', g, ts, [-c.num, (c.den : Int)], n * ks.length + n * i + 21 * i + 2 * n + 30, n, rfl, SqL.of (sg _ _ etp'), SqL.of eg, (show 1 ≤ 2 by decide), by lia, (show 2 ≤ 1000 by decide), hbt, blin, by lia, fun pr H6 ps s6 hpr epr hpl hpe hpb => ?_⟩
  have hpl' : ps.length = i + 1 := by rw [hpl, htl]; rfl
  have hp0 : 0 < ps.length := by rw [hpl']; exact So i
  have h0 : ps[0]? = some ps[0] := Si hp0
  have sg6 := sg.trans s6
  have s06 := sH.trans sg6
  have ms : Bp s (c.den : Int) := Bp.bd hbsc (hbk c hcm).2 (by lia)
  have bs' : Bd (n * (i + 1) + 1) (s * (c.den : Int)) := (hbsc.mul (hbk c hcm).2).mono (by lia)
  refine ⟨_, rfl, _, rfl, _, rfl, rk, xs, _, _, rfl, rfl, Af.seq s06 hk, hat, rk', _, _, _, rfl, rfl, hrk.same s06, rfl, _, _, rfl, rfl, ms, ?_⟩
  refine ⟨_, rfl, pr, _, _, _, rfl, rfl, SqL.of epr, E1 h0 rfl, _, rfl, _, rfl, st, _, _, _, rfl, rfl, SqL.of (sg6 _ _ (sm _ _ est)), hat2, _, rfl, _, _, rfl, rfl, Bp.bd bt bs' (by lia), _, _, rfl, rfl, ?_⟩
  refine ⟨_, rfl, pr, _, _, 0, rfl, rfl, epr, HZ (by rw [Rp]; lia) rfl, ?_⟩
  have sm2 : Af H2 (upd H6 pr (.lst ((ps.map V.int).set 0 (.int (ps[0] + BI B d * (s * (c.den : Int))))))) := fun bb u zz => by
   have z1 := sg _ _ (sm bb u zz)
   rw [Ak (Aq z1 hpr)]
   exact s6 bb u z1
  refine ⟨sm2, pr, ps.set 0 (ps[0] + BI B d * (s * (c.den : Int))), s * (c.den : Int), _, rfl, ?_, by rw [Ry]; exact hpl', RT hs0 (Nm.den_ne c), fun x => ?_, fun t ht => ?_, bs'⟩
  ·rw [Aa, List.map_set]
  ·rw [Cv.evI_set x ps 0 _ _ h0, hpe x, Ln, he x, RX, Hf rfl hi hkq, Hf hlen.symm hi hsq]
   show _ = (d + (x - c) * BL _ _ x) * _
   rw [RU, RU, FM (hdv d hsm)]
   grind
  ·rcases Tv ht with zz | zz
   ·exact (hpb t zz).mono (by lia)
   ·subst zz
    have b1 := (hpb _ (Sj hp0)).mono (n := n * ks.length + n * i + 21 * i + 2 * n + 30 + n + 20) (by lia)
    have b2 := (bt.mul bs').mono (n := n * ks.length + n * i + 21 * i + 2 * n + 30 + n + 20) (by lia)
    exact (Bd.add b1 b2).mono (by lia)
 ·rintro σ H' hR2
  refine By hR2 fun sm hz103 => ?_
  refine IX hz103 fun tp' ts s z hz103' => ?_
  clear hz103
  refine NW hz103' fun hq102 etp' htl hs0 he hbt hbsc => ?_
  clear hz103'
  obtain rfl := hq102
  try clear hR2
  have hb0 : B * s ≠ 0 := RT (by lia) hs0
  refine ⟨_, rfl, _, rfl, _, rfl, _, _, rfl, rfl, Bp.bd hbB hbsc (by lia), tp', ts, B * s, rfl, SqL.of etp', hb0, by lia, fun p H6 s6 c6 => ?_⟩
  refine q p H6 _ ((s2.trans sm).trans s6) c6 (by have := Cv.strip_length (ts.map fun t => RM t (B * s)); rw [Rp] at this; lia) (BW _) (fun c hc => ?_) fun x => ?_
  ·have hc' := Cv.strip_mem _ c hc
   obtain ⟨t, ht, rfl⟩ := (Sv.mp hc')
   exact RB.div (m := 0) ((hbt t ht).mono (by lia)) ((hbB.mul hbsc).mono (by lia)) hb0
  rw [Cv.ev_strip]
  have h7 := Jy hb0 x ts
  rw [he x, Sz, Sw, Sw, ← RU] at h7
  exact M9 (Nm.cast_ne hb0) h7
theorem CM : Ap ["points", "told", "point", "k"] ["points"] (Ae (top 23)) := ⟨rfl, rfl, rfl, by decide +kernel, rfl, by decide +kernel, by decide +kernel⟩
set_option maxHeartbeats 4000000 in
theorem IN {f : Addr} {fd : FuncData} (F : Fun K "told_in" "told_in" (top 23) f fd) (OX : mg "range" = none) (OW : mg "len" = none) (hT : P.given.tree = none) :
 AE P w K mg base CX0 33 f fd ["points"] (Ey K) := by
 refine F.ok CM (fun vs H Q E h => ?_) (fun cdv A outer s H vs Q E hr h => ?_)
 ·obtain ⟨_, _, _, rfl, _⟩ := h; rfl
 refine ⟨_, (Ad (K := K) (Ai (i := 1) CM.nd rfl (Or.inl rfl) (AS Ac))
  (Ad (K := K) (AX (K := K) PassesOwn.never rfl (piT K (pv 0)) (Au (i := 2) CM.nd rfl (Or.inl rfl)) (Ag (AX (K := K) PassesOwn.never rfl (AV rfl OX (A0 (Ah AK (Ar (BO K) rfl OW AF (A0 (pv 2) Ac)) Ab) Ac)) (Au (i := 3) CM.nd rfl (Or.inl rfl)) (Ag (BQ (Dg K PySem.F.plainAttrs_list PySem.F.slot_list_append PySem.F.type_list_append Cf (pv 1) (A0 (AJ (A0 (Aj (ixT K) (pv 2) Ab (fun u v => rfl)) (A0 (pv 3) (A0 (Aj (ixT K) (pv 2) (Ah AB (pv 3) Ab) (fun u v => rfl)) Ac)))) Ac)))) (by rfl))) (by rfl))
  (Ag (Av (pv 1))) (by rfl)) (by rfl)), ?_⟩
 obtain ⟨r, xs, pss, rfl, hS, hp, h23, h100, q⟩ := h
 have P0 : 0 ≤ sizeLine := by decide
 have P3 : 3 ≤ sizeLine := by decide
 have hxl := hp.length
 refine ⟨P0, fun p hp0 => ?_⟩
 refine ⟨_, rfl, r, rfl, ⟨_, SqT.same hS (Af.new hp0)⟩, EH (xs := xs) (L5 H r p K pss fun H r p K pss i σ H' => Af H H' ∧ ∃ ys z2 z3, σ = [some (.ref r), some (.ref p), z2, z3] ∧ H' p = some (.lst ys) ∧ Fw K H' ys (AL (pss.take i))) ⟨Af.new hp0, [], none, none, rfl, Aa, .nil⟩ (fun i σ H' _ h => hS.same h.1) ?_ ?_⟩
 ·rintro i v σ H' hv hR1
  refine By hR1 fun sm hz105 => ?_
  refine D4 hz105 fun ys z2 z3 hz105' => ?_
  clear hz105
  refine Cy hz105' fun hq104 ep hys => ?_
  clear hz105'
  obtain rfl := hq104
  try clear hR1
  obtain ⟨ps, hps, a, zs, pp, rfl, hzs, hzn, hz0, hpp⟩ := (Paired.get hp hv)
  have hpl := h23 ps (Rn hps)
  have hzl := hzn.length
  have hyl : ys.length ≤ 200 := by
   have h1 := BP (pss.take i) (h23.take i)
   rw [Rh] at h1
   rw [hys.length]; lia
  refine ⟨_, rfl, a, zs, rfl, .inr (hzs.same sm), _, _, rfl, rfl, _, rfl, by lia, by lia, ?_⟩
  rw [show (((zs.length : Nat) : Int) - 1).toNat = ps.length - 1 from Dj hzl]
  refine BG (n := ps.length - 1) (L8 H r p a K pss i ps fun H r p a K pss i ps k σ H2 => Af H H2 ∧ ∃ ys2 z3, σ = [some (.ref r), some (.ref p), some (.ref a), z3] ∧ H2 p = some (.lst ys2) ∧ Fw K H2 ys2 (AL (pss.take i) ++ (BH ps).take k)) ⟨sm, ys, z3, rfl, ep, by rw [SA, Rc]; exact hys⟩ ?_ ?_
  ·rintro k σ H2 hk hR2
   refine By hR2 fun sm2 hz109 => ?_
   refine C4 hz109 fun ys2 z3' hz109' => ?_
   clear hz109
   refine Cy hz109' fun hq108 ep2 hys2 => ?_
   clear hz109'
   obtain rfl := hq108
   try clear hR2
   have g0 := Bi (l := ps) (i := 0) (by lia)
   have gk := Bi (l := ps) (i := k + 1) (by lia)
   obtain ⟨xk, hxk, hnk⟩ := (Paired.get' hzn gk)
   have ak : atI zs (0 + (k : Int) + 1) = some xk := by rw [show 0 + (k : Int) + 1 = ((k + 1 : Nat) : Int) by lia]; exact AT hxk
   have hyl2 : ys2.length ≤ 204 := by
    have h1 := hys.length
    have h2 := Ba ps
    rw [hys2.length, Ro, Rh]; exact Mn hyl hk hpl h1
   refine ⟨_, rfl, .inl ⟨rfl, _, SqL.of ep2⟩, _, rfl, a, zs, _, .ref pp, rfl, rfl, hzs.same sm2, AT (j := 0) hz0, _, rfl, _, rfl, _, rfl, _, _, rfl, rfl, a, zs, _, xk, rfl, rfl, hzs.same sm2, ak, P3, fun t ht => ?_⟩
   have s3 : Af H2 (upd H2 t (.tup [.ref pp, .int (0 + (k : Int)), xk])) := Af.new ht
   have tp : t ≠ p := (Aq ep2 ht).symm
   have hp3 : (upd (upd H2 t (.tup [.ref pp, .int (0 + (k : Int)), xk])) p (.lst (ys2 ++ [.ref t]))) pp = some (nT (ps.getD 0 0)) := by
    have z := s3 _ _ (sm2 _ _ hpp)
    rw [Ak (En z (s3 _ _ ep2) (fun z => by cases z))]; exact z
   refine ⟨p, ys2, .ref t, rfl, rfl, s3 _ _ ep2, QI (show ys2.length < 300 by lia) (by decide), (sm2.trans s3).put hp0, ys2 ++ [.ref t], _, rfl, Aa, ?_⟩
   have gt : (BH ps)[k]? = some ⟨ps.getD 0 0, (k : Int), ps.getD (k + 1) 0⟩ := by
    unfold BH
    rw [Rl, SL hk]; rfl
   rw [S3, gt, ← RC]
   refine Paired.snoc (Fw.put (Fw.same hys2 s3) (s3 _ _ ep2)) ⟨t, pp, xk, rfl, SqT.of ?_, hp3, ((hnk.same sm2).same s3).put (s3 _ _ ep2)⟩
   rw [Ak tp, Aa, Int.zero_add]
  ·rintro σ H2 hR3
   refine By hR3 fun sm2 hz111 => ?_
   refine C4 hz111 fun ys2 z3' hz111' => ?_
   clear hz111
   refine Cy hz111' fun hq110 ep2 hys2 => ?_
   clear hz111'
   obtain rfl := hq110
   try clear hR3
   refine ⟨sm2, ys2, _, _, rfl, ep2, ?_⟩
   have e : pss.take (i + 1) = pss.take i ++ [ps] := by rw [S3, hps]; rfl
   rw [e, JM]
   have et : (BH ps).take (ps.length - 1) = BH ps := Sy (by rw [Ba]; exact R3 _)
   rw [et] at hys2
   exact hys2
 ·rintro σ H' hR4
  refine By hR4 fun sm hz113 => ?_
  refine D4 hz113 fun ys z2 z3 hz113' => ?_
  clear hz113
  refine Cy hz113' fun hq112 ep hys => ?_
  clear hz113'
  obtain rfl := hq112
  try clear hR4
  rw [hxl, To] at hys
  exact ⟨_, rfl, q p H' ys sm hp0 ep hys⟩
theorem Hy : Ap ["points"] ["points"] (Ae (top 24)) := ⟨rfl, rfl, rfl, by decide +kernel, rfl, by decide +kernel, by decide +kernel⟩
set_option maxHeartbeats 4000000 in
theorem HK {f : Addr} {fd : FuncData} (F : Fun K "knots_of" "knots_of" (top 24) f fd) (PY : Fd P w K mg base 33 "told_in" ["points"] (Ey K)) (hT : P.given.tree = none) :
 AE P w K mg base CX0 34 f fd ["points"] (D7 K) := by
 refine F.ok Hy (fun vs H Q E h => ?_) (fun cdv A outer s H vs Q E hr h => ?_)
 ·obtain ⟨_, _, _, rfl, _⟩ := h; rfl
 refine ⟨_, (Ag (Av (Df rfl (N := ["told"]) (nt := 1) (js := []) (AZ.look (NX := ["points"]) (sc := Ae (top 24)) rfl rfl (by decide +kernel)) (piL K (Am PY hr rfl (A0 (pv 0) Ac))) (fun u1 u2 u3 u4 u5 => (Au (i := 0) (show List.Nodup (["told"] : List Str) from by decide +kernel) rfl (Or.inl rfl))) (AH (by decide)) (fun u1 u2 u3 u4 u5 => BE) (fun u1 u2 u3 u4 u5 => (Aj (ixT K) (pv 0) Ab (fun u v => rfl)))))), ?_⟩
 obtain ⟨r, xs, pss, rfl, hS, hp, h23, h100, q⟩ := h
 refine C7 ⟨_, rfl, r, xs, pss, rfl, hS, hp, h23, h100, fun w Hw ws sw hw ew htw => ⟨w, rfl, ⟨_, SqL.of ew⟩, ?_⟩⟩
 have hwl : ws.length ≤ 200 := by
  have h1 := BP pss fun ps hp => by have := h23 ps hp; lia
  rw [htw.length]; lia
 refine Fl (xs := ws) (L2 Hw pss fun Hw pss i zs H' => H' = Hw ∧ zs.length = i ∧ Ax Hw zs (((AL pss).take i).map Fv.x)) ⟨rfl, rfl, .nil⟩ (fun i zs H' _ h => ⟨by rw [h.1]; exact SqL.of ew, h.2.1⟩) (QQ (AU (by lia))) ?_ ?_
 ·rintro i v zs H' hv ⟨rfl, hzl, hzn⟩
  obtain ⟨t, ht, a, rx, rn, rfl, ha, hx, _⟩ := (Paired.get htw hv)
  have hx : E2 H' (.ref rx) t.x := ⟨_, rfl, hx⟩
  refine ⟨_, rfl, a, _, _, _, rfl, rfl, ha, rfl, rfl, by simp [hzl], ?_⟩
  rw [S3, ht, S4]
  exact Paired.snoc hzn hx
 rintro zs H' ⟨rfl, hzl, hzn⟩ p hp0
 rw [htw.length, To] at hzn
 exact q p _ zs (sw.trans (Af.new hp0)) (sw.free hp0) Aa (Ax.same hzn (Af.new hp0))
theorem CN : Ap ["points", "slopes", "point"] ["points"] (Ae (top 35)) := ⟨rfl, rfl, rfl, by decide +kernel, rfl, by decide +kernel, by decide +kernel⟩
set_option maxHeartbeats 4000000 in
theorem GM {f : Addr} {fd : FuncData} (F : Fun K "slopes_in" "slopes_in" (top 35) f fd) (OW : mg "len" = none) (hT : P.given.tree = none) :
 AE P w K mg base CX0 33 f fd ["points"] (Dm K) := by
 refine F.ok CN (fun vs H Q E h => ?_) (fun cdv A outer s H vs Q E hr h => ?_)
 ·obtain ⟨_, _, _, rfl, _⟩ := h; rfl
 refine ⟨_, (Ad (K := K) (Ai (i := 1) CN.nd rfl (Or.inl rfl) KN)
  (Ad (K := K) (AX (K := K) PassesOwn.never rfl (piT K (pv 0)) (Au (i := 2) CN.nd rfl (Or.inl rfl)) (Ag (AQ (K := K) (At Fc (Ar (BO K) rfl OW AF (A0 (pv 2) Ac)) Ab (Ay _)) (Ag Ci) AI (by rfl) (by rfl))) (by rfl))
  (Ag (Av (pv 1))) (by rfl)) (by rfl)), ?_⟩
 obtain ⟨r, xs, pss, rfl, hS, hp, h2, h100, q⟩ := h
 refine fun d hd => ?_
 refine ⟨_, rfl, r, rfl, ⟨_, SqT.same hS (Af.new hd)⟩, EH (xs := xs) (fun i σ H' => Af H H' ∧ ∃ z2, σ = [some (.ref r), some (.ref d), z2]) ⟨Af.new hd, none, rfl⟩ (fun i σ H' _ h => hS.same h.1) ?_ ?_⟩
 ·rintro i v σ H' hv ⟨sm, z2, rfl⟩
  obtain ⟨ps, hps, a, us, p, rfl, hus, hun, hu0, hp0⟩ := (Paired.get hp hv)
  have hpl := h2 ps (Rn hps)
  have hul := hun.length
  refine ⟨_, rfl, a, us, rfl, .inr (hus.same sm), rfl, _, rfl, ?_⟩
  exact AR (decide_eq_false (show ¬ V.int (us.length : Int) = V.int 3 from fun z => by have := V.int.inj z; lia)) ⟨sm, _, rfl⟩
 ·rintro σ H' ⟨sm, z2, rfl⟩
  exact ⟨_, rfl, q d H' sm⟩
theorem CQ : Ap ["points", "row", "point"] ["points"] (Ae (top 34)) := ⟨rfl, rfl, rfl, by decide +kernel, rfl, by decide +kernel, by decide +kernel⟩
set_option maxHeartbeats 4000000 in
theorem GP {f : Addr} {fd : FuncData} (F : Fun K "first_row" "first_row" (top 34) f fd) (OW : mg "len" = none) (hT : P.given.tree = none) :
 AE P w K mg base CX0 33 f fd ["points"] (Gq K) := by
 refine F.ok CQ (fun vs H Q E h => ?_) (fun cdv A outer s H vs Q E hr h => ?_)
 ·obtain ⟨_, _, _, rfl, _⟩ := h; rfl
 refine ⟨_, (Ad (K := K) (Ai (i := 1) CQ.nd rfl (Or.inl rfl) (AS Ac))
  (Ad (K := K) (AX (K := K) PassesOwn.never rfl (piT K (pv 0)) (Au (i := 2) CQ.nd rfl (Or.inl rfl)) (Ag (BQ (Dg K PySem.F.plainAttrs_list PySem.F.slot_list_extend PySem.F.type_list_extend JY (pv 1) (A0 (Ah Fa (AS (A0 (Aj (ixT K) (pv 2) Ab (fun u v => rfl)) Ac)) (Ah AK (Ar (BO K) rfl OW AF (A0 (pv 2) Ac)) Ab)) Ac)))) (by rfl))
  (Ag (Av (pv 1))) (by rfl)) (by rfl)), ?_⟩
 obtain ⟨r, xs, pss, rfl, hS, hp, h23, h100, q⟩ := h
 have P0 : 0 ≤ sizeLine := by decide
 have P1 : 1 ≤ sizeLine := by decide
 have hxl := hp.length
 refine ⟨P0, fun p hp0 => ?_⟩
 refine ⟨_, rfl, r, rfl, ⟨_, SqT.same hS (Af.new hp0)⟩, EH (xs := xs) (L5 H r p K pss fun H r p K pss i σ H' => Af H H' ∧ ∃ ys z2, σ = [some (.ref r), some (.ref p), z2] ∧ H' p = some (.lst ys) ∧ Ao K H' ys (CA (pss.take i))) ⟨Af.new hp0, [], none, rfl, Aa, .nil⟩ (fun i σ H' _ h => hS.same h.1) ?_ ?_⟩
 ·rintro i v σ H' hv hR1
  refine By hR1 fun sm hz119 => ?_
  refine C4 hz119 fun ys z2 hz119' => ?_
  clear hz119
  refine Cy hz119' fun hq118 ep hys => ?_
  clear hz119'
  obtain rfl := hq118
  try clear hR1
  obtain ⟨ps, hps, a, us, pp, rfl, hus, hun, hu0, hpp⟩ := (Paired.get hp hv)
  have hpl := h23 ps (Rn hps)
  have hul := hun.length
  have e : pss.take (i + 1) = pss.take i ++ [ps] := by rw [S3, hps]; rfl
  have g1 := Bi (l := ps) (i := 1) (by lia)
  obtain ⟨x1, hx1, hn1⟩ := (Paired.get' hun g1)
  have hyl : ys.length ≤ 200 := by
   have h1 := BP (pss.take i) (h23.take i)
   rw [Rh] at h1
   rw [hys.length, Dc]; lia
  refine ⟨_, rfl, .inl ⟨rfl, _, SqL.of ep⟩, _, rfl, a, us, _, x1, rfl, rfl, hus.same sm, AT (j := 1) hx1, P1, fun l hl => ?_⟩
  have s1 : Af H' (upd H' l (.lst [x1])) := Af.new hl
  refine ⟨_, rfl, a, us, rfl, .inr ((hus.same sm).same s1), _, _, rfl, rfl, l, _, [x1], rfl, rfl, Aa, by lia, by lia, ?_, fun m hm => ?_⟩
  ·have z : (((us.length : Nat) : Int) - 1).toNat ≤ 2 := Mj hul hpl
   exact QP (Tf (R3 _) z) (by show 2 ≤ sizeLine; decide)
  have s2 := s1.trans (Af.new (o := .lst (Rg (((us.length : Nat) : Int) - 1).toNat [x1]).flatten) hm)
  have en : (((us.length : Nat) : Int) - 1).toNat = ps.length - 1 := Dj hul
  have ep2 := s2 _ _ ep
  refine ⟨p, m, ys, _, rfl, rfl, ep2, Aa, ?_, ?_⟩
  ·rw [Jl, en]
   exact QP (show ys.length + (ps.length - 1) * 1 ≤ 300 from Mm hyl hpl) (by decide)
  refine ⟨(sm.trans s2).put hp0, _, _, rfl, Aa, ?_⟩
  rw [e, JO, en]
  have hr : Ao K (upd (upd H' l (.lst [x1])) m (.lst (Rg (((us.length : Nat) : Int) - 1).toNat [x1]).flatten)) (Rg (ps.length - 1) [x1]).flatten (Rg (ps.length - 1) (ps.getD 1 0)) := HA ((hn1.same sm).same s2) _
  rw [en] at hr ep2 s2
  exact Paired.append (Ao.put (Ao.same hys s2) ep2) (Ao.put hr ep2)
 ·rintro σ H' hR2
  refine By hR2 fun sm hz123 => ?_
  refine C4 hz123 fun ys z2 hz123' => ?_
  clear hz123
  refine Cy hz123' fun hq122 ep hys => ?_
  clear hz123'
  obtain rfl := hq122
  try clear hR2
  rw [hxl, To] at hys
  exact ⟨_, rfl, q p H' ys sm hp0 ep hys⟩
theorem M3 : Ap ["a", "b"] ["a", "b"] (Ae (top 9)) := ⟨rfl, rfl, rfl, by decide +kernel, rfl, by decide +kernel, by decide +kernel⟩
set_option maxHeartbeats 4000000 in
theorem Mg {f : Addr} {fd : FuncData} (F : Fun K "over" "over" (top 9) f fd) (P8 : Fd P w K mg base 34 "number_of" ["top", "bottom"] (Cz)) (hT : P.given.tree = none) :
 AE P w K mg base CX0 35 f fd ["a", "b"] (Gv K) := by
 refine F.ok M3 (fun vs H Q E h => ?_) (fun cdv A outer s H vs Q E hr h => ?_)
 ·obtain ⟨_, _, _, _, _, _, rfl, _⟩ := h; rfl
 refine ⟨_, (Ag (Av (Am P8 hr rfl (A0 (Ah As (Aj (ixT K) (pv 0) Ab (fun u v => rfl)) (Aj (ixT K) (pv 1) Ab (fun u v => rfl))) (A0 (Ah As (Aj (ixT K) (pv 0) Ab (fun u v => rfl)) (Aj (ixT K) (pv 1) Ab (fun u v => rfl))) Ac))))), ?_⟩
 obtain ⟨x, y, p, q, m, n, rfl, ⟨r, rfl, hr'⟩, ⟨u, rfl, hu⟩, q0, hp, hq, hmn, k⟩ := h
 have hn : q.num ≠ 0 := fun z => q0 (Rat.num_eq_zero.mp z)
 refine ⟨_, rfl, r, _, _, _, rfl, rfl, hr', rfl, _, rfl, u, _, _, _, rfl, rfl, hu, rfl, _, _, rfl, rfl, Bp.bd hp.1 hq.2, ?_⟩
 refine ⟨_, rfl, r, _, _, _, rfl, rfl, hr', rfl, _, rfl, u, _, _, _, rfl, rfl, hu, rfl, _, _, rfl, rfl, Bp.bd hp.2 hq.1, ?_⟩
 refine ⟨_, _, rfl, RT (Nm.den_ne p) hn, fun z hz => ?_⟩
 have e := k z hz
 rw [← Jk p q q0] at e
 exact e
theorem Kz : Ap ["a", "b"] ["a", "b"] (Ae (top 8)) := ⟨rfl, rfl, rfl, by decide +kernel, rfl, by decide +kernel, by decide +kernel⟩
set_option maxHeartbeats 4000000 in
theorem KO {f : Addr} {fd : FuncData} (F : Fun K "minus" "minus" (top 8) f fd) (P8 : Fd P w K mg base 34 "number_of" ["top", "bottom"] (Cz)) (hT : P.given.tree = none) :
 AE P w K mg base CX0 35 f fd ["a", "b"] (C5 K (· - ·)) := by
 refine F.ok Kz (fun vs H Q E h => ?_) (fun cdv A outer s H vs Q E hr h => ?_)
 ·obtain ⟨_, _, _, _, _, _, rfl, _⟩ := h; rfl
 refine ⟨_, (Ag (Av (Am P8 hr rfl (A0 (Ah AK (Ah As (Aj (ixT K) (pv 0) Ab (fun u v => rfl)) (Aj (ixT K) (pv 1) Ab (fun u v => rfl))) (Ah As (Aj (ixT K) (pv 1) Ab (fun u v => rfl)) (Aj (ixT K) (pv 0) Ab (fun u v => rfl)))) (A0 (Ah As (Aj (ixT K) (pv 0) Ab (fun u v => rfl)) (Aj (ixT K) (pv 1) Ab (fun u v => rfl))) Ac))))), ?_⟩
 obtain ⟨x, y, p, q, m, n, rfl, ⟨r, rfl, hr⟩, ⟨u, rfl, hu⟩, hp, hq, hmn, k⟩ := h
 refine ⟨_, rfl, r, _, _, _, rfl, rfl, hr, rfl, _, rfl, u, _, _, _, rfl, rfl, hu, rfl, _, _, rfl, rfl, Bp.bd hp.1 hq.2, _, rfl, u, _, _, _, rfl, rfl, hu, rfl, _, rfl, r, _, _, _, rfl, rfl, hr, rfl, _, _, rfl, rfl, Bp.bd hq.1 hp.2, _, _, rfl, rfl, ?_⟩
 refine ⟨_, rfl, r, _, _, _, rfl, rfl, hr, rfl, _, rfl, u, _, _, _, rfl, rfl, hu, rfl, _, _, rfl, rfl, Bp.bd hp.2 hq.2, ?_⟩
 refine ⟨_, _, rfl, RT (Nm.den_ne p) (Nm.den_ne q), fun z hz => ?_⟩
 have e := k z hz
 try dsimp only at e
 rw [← Nm.minus_eq] at e
 exact e
theorem Da : Ap ["ahead", "knots", "slopes", "k", "row", "j"] ["ahead", "knots", "slopes", "k"] (Ae (top 36)) := ⟨rfl, rfl, rfl, by decide +kernel, rfl, by decide +kernel, by decide +kernel⟩
set_option maxHeartbeats 4000000 in
theorem HJ {f : Addr} {fd : FuncData} (F : Fun K "next_row" "next_row" (top 36) f fd) (F_over : Fd P w K mg base 35 "over" ["a", "b"] (Gv K)) (Pz : Fd P w K mg base 35 "minus" ["a", "b"] (C5 K (· - ·))) (OX : mg "range" = none) (OW : mg "len" = none) (hT : P.given.tree = none) :
 AE P w K mg base CX0 36 f fd ["ahead", "knots", "slopes", "k"] (CL K) := by
 refine F.ok Da (fun vs H Q E h => ?_) (fun cdv A outer s H vs Q E hr h => ?_)
 ·obtain ⟨_, _, _, _, _, _, _, _, _, _, _, rfl, _⟩ := h; rfl
 refine ⟨_, (Ad (K := K) (Ai (i := 4) Da.nd rfl (Or.inl rfl) (AS Ac))
  (Ad (K := K) (AX (K := K) PassesOwn.never rfl (AV rfl OX (A0 (Ah AK (Ar (BO K) rfl OW AF (A0 (pv 1) Ac)) (pv 3)) Ac)) (Au (i := 5) Da.nd rfl (Or.inl rfl)) (Ag (AQ (K := K) (At (eqD K hr.units) (Aj (ixL K) (pv 1) (Ah AB (pv 5) (pv 3)) (fun u v => rfl)) (Aj (ixL K) (pv 1) (pv 5) (fun u v => rfl)) (Ay _)) (Ag Ci) (Ag (BQ (Dg K PySem.F.plainAttrs_list PySem.F.slot_list_append PySem.F.type_list_append Cf (pv 4) (A0 (Am F_over hr rfl (A0 (Am Pz hr rfl (A0 (Aj (ixL K) (pv 0) (Ah AB (pv 5) Ab) (fun u v => rfl)) (A0 (Aj (ixL K) (pv 0) (pv 5) (fun u v => rfl)) Ac))) (A0 (Am Pz hr rfl (A0 (Aj (ixL K) (pv 1) (Ah AB (pv 5) (pv 3)) (fun u v => rfl)) (A0 (Aj (ixL K) (pv 1) (pv 5) (fun u v => rfl)) Ac))) Ac))) Ac)))) (by rfl) (by rfl))) (by rfl))
  (Ag (Av (pv 4))) (by rfl)) (by rfl)), ?_⟩
 obtain ⟨ra, rk, d, as, ks, A, kn, sl, k, m, n, rfl, hA, hAn, hK, hKn, hsl, h1, hkl, hlen, h100, hbA, hbK, hm, hn, q⟩ := h
 have P0 : 0 ≤ sizeLine := by decide
 have hal := hAn.length
 have hkl' := hKn.length
 refine ⟨P0, fun p hp0 => ?_⟩
 have s0 : Af H (upd H p (.lst [])) := Af.new hp0
 refine ⟨_, rfl, rk, ks, rfl, .inl (Af.seq s0 hK), _, rfl, _, _, rfl, rfl, _, rfl, by lia, by lia, ?_⟩
 rw [show (((ks.length : Nat) : Int) - (k : Int)).toNat = kn.length - k by lia]
 refine BG (n := kn.length - k) (L10 H ra rk d k p K A kn sl fun H ra rk d k p K A kn sl i σ H' => Af H H' ∧ ∃ zs z5, σ = [some (.ref ra), some (.ref rk), some (.ref d), some (.int (k : Int)), some (.ref p), z5] ∧ H' p = some (.lst zs) ∧ zs.length = i ∧ Ao K H' zs ((CC A kn sl k).take i)) ⟨s0, [], none, rfl, Aa, rfl, .nil⟩ ?_ ?_
 ·rintro j σ H' hj hR1
  refine By hR1 fun sm hz125 => ?_
  refine C4 hz125 fun zs z5 hz125' => ?_
  clear hz125
  refine DF hz125' fun hq124 ep hzl hzs => ?_
  clear hz125'
  obtain rfl := hq124
  try clear hR1
  have gk := Bi (l := kn) (i := j + k) (by lia)
  have g0 := Bi (l := kn) (i := j) (by lia)
  have ga := Bi (l := A) (i := j + 1) (by lia)
  have gb := Bi (l := A) (i := j) (by lia)
  obtain ⟨xk, hxk, ak, rfl, hak⟩ := (Paired.get' hKn gk)
  obtain ⟨x0, hx0, a0, rfl, ha0⟩ := (Paired.get' hKn g0)
  obtain ⟨xa, hxa, hna⟩ := (Paired.get' hAn ga)
  obtain ⟨xb, hxb, hnb⟩ := (Paired.get' hAn gb)
  have ek : atI ks (0 + (j : Int) + (k : Int)) = some (.ref ak) := by rw [show 0 + (j : Int) + (k : Int) = ((j + k : Nat) : Int) by lia]; exact AT hxk
  have e0 : atI ks (0 + (j : Int)) = some (.ref a0) := by rw [show 0 + (j : Int) = ((j : Nat) : Int) by lia]; exact AT hx0
  have ea : atI as (0 + (j : Int) + 1) = some xa := by rw [show 0 + (j : Int) + 1 = ((j + 1 : Nat) : Int) by lia]; exact AT hxa
  have eb : atI as (0 + (j : Int)) = some xb := by rw [show 0 + (j : Int) = ((j : Nat) : Int) by lia]; exact AT hxb
  have hK' := Af.seq sm hK
  have hA' := Af.seq sm hA
  have nk : AA K H' (.ref ak) (kn.getD (j + k) 0) := AA.of (sm _ _ hak)
  have n0 : AA K H' (.ref a0) (kn.getD j 0) := AA.of (sm _ _ ha0)
  have hj2 : j < (CC A kn sl k).length := by rw [CT]; exact hj
  have et : (CC A kn sl k).take (j + 1) = (CC A kn sl k).take j ++ [(CC A kn sl k).getD j 0] := by rw [S3, Bi hj2]; rfl
  have zlt : zs.length < sizeLine := QI (show zs.length < 300 by lia) (by decide)
  refine ⟨_, rfl, _, rfl, _, rfl, _, _, rfl, rfl, rk, ks, _, _, rfl, rfl, hK', ek, _, rfl, _, rfl, rk, ks, _, _, rfl, rfl, hK', e0, ?_⟩
  refine eqN nk n0 ?_
  refine ⟨_, rfl, ?_⟩
  by_cases he : kn.getD (j + k) 0 = kn.getD j 0
  ·exact absurd he (hsl j (by lia))
  ·refine AR (by rw [decide_eq_false he] <;> rfl) ?_
   have ba := hbA _ (Bo (l := A) (i := j + 1) (by lia))
   have bb := hbA _ (Bo (l := A) (i := j) (by lia))
   have bk := hbK _ (Bo (l := kn) (i := j + k) (by lia))
   have b0 := hbK _ (Bo (l := kn) (i := j) (by lia))
   refine ⟨_, rfl, .inl ⟨rfl, _, SqL.of ep⟩, _, rfl, _, rfl, _, _, rfl, rfl, ra, as, _, _, rfl, rfl, hA', ea, _, rfl, _, rfl, ra, as, _, _, rfl, rfl, hA', eb, _, _, _, _, m, m, rfl, hna.same sm, hnb.same sm, ba, bb, by lia, fun t ht => ?_⟩
   have s1 : Af H' (upd H' t (nT (A.getD (j + 1) 0 - A.getD j 0))) := Af.new ht
   refine ⟨_, rfl, _, rfl, _, rfl, _, _, rfl, rfl, rk, ks, _, _, rfl, rfl, Af.seq s1 hK', ek, _, rfl, _, rfl, rk, ks, _, _, rfl, rfl, Af.seq s1 hK', e0, _, _, _, _, n, n, rfl, nk.same s1, n0.same s1, bk, b0, by lia, fun u hu => ?_⟩
   have s2 := s1.trans (Af.new (o := nT (kn.getD (j + k) 0 - kn.getD j 0)) hu)
   refine ⟨_, _, _, _, m + m + 1, n + n + 1, rfl, AA.of ((Af.new hu) _ _ Aa), AA.of Aa, (fun z => he (by grind)), ba.minus bb, bk.minus b0, by lia, fun r hr' => ?_⟩
   have s3 := s2.trans (Af.new (o := nT ((A.getD (j + 1) 0 - A.getD j 0) / (kn.getD (j + k) 0 - kn.getD j 0))) hr')
   have ep3 := s3 _ _ ep
   refine ⟨p, zs, .ref r, rfl, rfl, ep3, zlt, (sm.trans s3).put hp0, _, _, rfl, Aa, by simp [hzl], ?_⟩
   rw [et, Fi hj, if_neg he]
   exact Paired.snoc (Ao.put (Ao.same hzs s3) ep3) ((AA.of Aa).put ep3)
 ·rintro σ H' hR2
  refine By hR2 fun sm hz131 => ?_
  refine C4 hz131 fun zs z5 hz131' => ?_
  clear hz131
  refine DF hz131' fun hq130 ep hzl hzs => ?_
  clear hz131'
  obtain rfl := hq130
  try clear hR2
  rw [Sy (by rw [CT]; exact R3 _)] at hzs
  exact ⟨_, rfl, q p H' zs sm hp0 ep hzs⟩
theorem BZ : Ap ["points", "knots", "slopes", "table", "k"] ["points"] (Ae (top 37)) := ⟨rfl, rfl, rfl, by decide +kernel, rfl, by decide +kernel, by decide +kernel⟩
set_option maxHeartbeats 4000000 in
theorem HH {f : Addr} {fd : FuncData} (F : Fun K "table_of" "table_of" (top 37) f fd) (Po : Fd P w K mg base 34 "knots_of" ["points"] (D7 K)) (PZ : Fd P w K mg base 33 "slopes_in" ["points"] (Dm K)) (Q0 : Fd P w K mg base 33 "first_row" ["points"] (Gq K)) (Q3 : Fd P w K mg base 36 "next_row" ["ahead", "knots", "slopes", "k"] (CL K)) (OX : mg "range" = none) (OW : mg "len" = none) (hT : P.given.tree = none) :
 AE P w K mg base CX0 37 f fd ["points"] (Ez K) := by
 refine F.ok BZ (fun vs H Q E h => ?_) (fun cdv A outer s H vs Q E hr h => ?_)
 ·obtain ⟨_, _, _, _, _, rfl, _⟩ := h; rfl
 refine ⟨_, (Ad (K := K) (Ai (i := 1) BZ.nd rfl (Or.inl rfl) (Am Po hr rfl (A0 (pv 0) Ac)))
  (Ad (K := K) (Ai (i := 2) BZ.nd rfl (Or.inl rfl) (Am PZ hr rfl (A0 (pv 0) Ac)))
  (Ad (K := K) (Ai (i := 3) BZ.nd rfl (Or.inl rfl) (AS Ac))
  (Ad (K := K) (AX (K := K) PassesOwn.never rfl (AV rfl OX (A0 (Ar (BO K) rfl OW AF (A0 (pv 1) Ac)) Ac)) (Au (i := 4) BZ.nd rfl (Or.inl rfl)) (Ag (BQ (Dg K PySem.F.plainAttrs_list PySem.F.slot_list_append PySem.F.type_list_append Cf (pv 3) (A0 (F0 (At Fc (pv 4) Ab (Ay _)) (Am Q0 hr rfl (A0 (pv 0) Ac)) (Am Q3 hr rfl (A0 (Aj (ixL K) (pv 3) (Ah AK (pv 4) Ab) (fun u v => rfl)) (A0 (pv 1) (A0 (pv 2) (A0 (pv 4) Ac)))))) Ac)))) (by rfl))
  (Ag (Av (pv 3))) (by rfl)) (by rfl)) (by rfl)) (by rfl)), ?_⟩
 obtain ⟨r, xs, pss, hh, n, rfl, hS, hp, h23, h100, hnd, h12, hb, hbk, hn1, hn40, q⟩ := h
 have P0 : 0 ≤ sizeLine := by decide
 refine ⟨_, rfl, r, xs, pss, rfl, hS, hp, h23.p23, h100, fun w Hw ws sw hw ew hws => ?_⟩
 refine ⟨_, rfl, r, xs, pss, rfl, hS.same sw, Cm.same hp sw, h23, h100, fun d Hd sd => ?_⟩
 refine ⟨P0, fun p hp0 => ?_⟩
 have s0 : Af Hd (upd Hd p (.lst [])) := Af.new hp0
 have sH : Af H Hd := sw.trans sd
 have hpH : H p = none := sH.free hp0
 have hwl : ws.length = (AL pss).length := by rw [hws.length, Rp]
 have ewd := sd _ _ ew
 have hwd : Ax Hd ws (kn pss) := Ax.same hws sd
 refine ⟨_, rfl, w, ws, rfl, .inl (SqL.of (s0 _ _ ewd)), _, rfl, by lia, by lia, ?_⟩
 rw [show ((ws.length : Nat) : Int).toNat = (AL pss).length by lia]
 refine BG (n := (AL pss).length) (L8 Hd r w d p K H pss fun Hd r w d p K H pss i σ H' => Af Hd H' ∧ ∃ ys z, σ = [some (.ref r), some (.ref w), some (.ref d), some (.ref p), z] ∧ H' p = some (.lst ys) ∧ Paired (FR K H p H') ys ((QL i).map (tab pss))) ⟨s0, [], none, rfl, Aa, .nil⟩ ?_ ?_
 ·rintro i σ H' hi hR1
  refine By hR1 fun sm hz133 => ?_
  refine C4 hz133 fun ys z hz133' => ?_
  clear hz133
  refine Cy hz133' fun hq132 ep hys => ?_
  clear hz133'
  obtain rfl := hq132
  try clear hR1
  have hyl : ys.length = i := by rw [hys.length, Rp, SH]
  have sHH := sH.trans sm
  have zlt : ys.length < sizeLine := QI (show ys.length < 300 by lia) (by decide)
  have er : (QL (i + 1)).map (tab pss) = (QL i).map (tab pss) ++ [tab pss i] := by rw [Su, S4]; rfl
  have fin : ∀ (l : Addr) (H3 : Hp) (zs : List V), Af H' H3 → H' l = none → H3 l = some (.lst zs) → Ao K H3 zs (tab pss i) → Af Hd (upd H3 p (.lst (ys ++ [.ref l]))) ∧ ∃ ys' z, [some (V.ref r), some (.ref w), some (.ref d), some (.ref p), some (.int (0 + (i : Int)))] = [some (.ref r), some (.ref w), some (.ref d), some (.ref p), z] ∧ (upd H3 p (.lst (ys ++ [.ref l]))) p = some (.lst ys') ∧ Paired (FR K H p (upd H3 p (.lst (ys ++ [.ref l])))) ys' ((QL (i + 1)).map (tab pss)) := fun l H3 zs s3 hl el hn => by
   have ep3 := s3 _ _ ep
   have lp : l ≠ p := (Aq ep hl).symm
   refine ⟨(sm.trans s3).put hp0, _, _, rfl, Aa, ?_⟩
   rw [er]
   exact Paired.snoc (Paired.mapP hys fun _ _ z => (z.same s3).put ep3) (FR.put ⟨l, zs, rfl, lp, sHH.free hl, el, hn⟩ ep3)
  refine ⟨_, rfl, .inl ⟨rfl, _, SqL.of ep⟩, _, rfl, rfl, _, rfl, ?_⟩
  match i, hi, fin, hys, hyl with
  | 0, hi, fin, hys, hyl =>
    refine OM ?_
    refine ⟨_, rfl, r, xs, pss, rfl, hS.same sHH, Cm.same hp sHH, h23.p23, h100, fun l H3 zs s3 hl el hn => ?_⟩
    exact ⟨p, ys, .ref l, rfl, rfl, s3 _ _ ep, zlt, fin l H3 zs s3 hl el hn⟩
  | i + 1, hi, fin, hys, hyl =>
    refine AR (by rw [decide_eq_false (show ¬ V.int (0 + ((i + 1 : Nat) : Int)) = V.int 0 from fun z => by have := V.int.inj z; lia)] <;> rfl) ?_
    obtain ⟨xv, hxv, a, zs, rfl, hap, haH, ha, hzs⟩ := (Paired.get' hys (IT (tab pss) i))
    have ea : atI ys (0 + ((i + 1 : Nat) : Int) - 1) = some (.ref a) := by rw [show 0 + ((i + 1 : Nat) : Int) - 1 = ((i : Nat) : Int) by lia]; exact AT hxv
    have hbl := Lx (show hh + 2 * n + 2 ≤ 8000 by lia) (show i ≤ 7 by lia)
    refine ⟨_, rfl, _, rfl, _, _, rfl, rfl, p, ys, _, _, rfl, rfl, SqL.of ep, ea, _, rfl, _, rfl, _, rfl, a, w, d, zs, ws, tab pss i, kn pss, M0 pss, i + 1, bnd hh n i, n, by rw [Int.zero_add]; rfl, SqL.of ha, hzs, SqL.of (sm _ _ ewd), Ax.same hwd sm, ?_, by lia, by rw [Bq]; lia, by rw [CK _ _ (by lia), Bq]; lia, by rw [Bq]; lia, IA h23.p23 hn1 hb hbk i (by lia), L0 hbk, by lia, by lia, fun l H3 zs' s3 hl el hn => ?_⟩
    ·intro j hj he
     rw [Bq] at hj
     refine By (Fm h23.p23 hnd (by lia) hj he) fun _ hz136 => ?_
     refine IY hz136 fun ps hz136' => ?_
     clear hz136
     refine Cy hz136' fun h1 h2 _ => ?_
     clear hz136'
     have := h23 ps h1
     lia
    ·exact ⟨p, ys, .ref l, rfl, rfl, s3 _ _ ep, zlt, fin l H3 zs' s3 hl el hn⟩
 ·rintro σ H' hR2
  refine By hR2 fun sm hz138 => ?_
  refine C4 hz138 fun ys z hz138' => ?_
  clear hz138
  refine Cy hz138' fun hq137 ep hys => ?_
  clear hz138'
  obtain rfl := hq137
  try clear hR2
  exact ⟨_, rfl, q p H' ys (sH.trans sm) hpH ep hys⟩
theorem Hx : Ap ["points"] ["points"] (Ae (top 38)) := ⟨rfl, rfl, rfl, by decide +kernel, rfl, by decide +kernel, by decide +kernel⟩
set_option maxHeartbeats 4000000 in
theorem HI {f : Addr} {fd : FuncData} (F : Fun K "steps_of" "steps_of" (top 38) f fd) (Q4 : Fd P w K mg base 37 "table_of" ["points"] (Ez K)) (hT : P.given.tree = none) :
 AE P w K mg base CX0 38 f fd ["points"] (EA K) := by
 refine F.ok Hx (fun vs H Q E h => ?_) (fun cdv A outer s H vs Q E hr h => ?_)
 ·obtain ⟨_, _, _, _, _, rfl, _⟩ := h; rfl
 refine ⟨_, (Ag (Av (Df rfl (N := ["row"]) (nt := 1) (js := []) (AZ.look (NX := ["points"]) (sc := Ae (top 38)) rfl rfl (by decide +kernel)) (piL K (Am Q4 hr rfl (A0 (pv 0) Ac))) (fun u1 u2 u3 u4 u5 => (Au (i := 0) (show List.Nodup (["row"] : List Str) from by decide +kernel) rfl (Or.inl rfl))) (AH (by decide)) (fun u1 u2 u3 u4 u5 => BE) (fun u1 u2 u3 u4 u5 => (Aj (ixL K) (pv 0) Ab (fun u v => rfl)))))), ?_⟩
 obtain ⟨r, xs, pss, hh, n, rfl, hS, hp, h23, h100, hnd, h12, hb, hbk, hn1, hn40, q⟩ := h
 refine C7 ⟨_, rfl, r, xs, pss, hh, n, rfl, hS, hp, h23, h100, hnd, h12, hb, hbk, hn1, hn40, fun w Hw ws sw hw ew hws => ⟨w, rfl, ⟨_, SqL.of ew⟩, ?_⟩⟩
 have hwl : ws.length = (AL pss).length := by rw [hws.length, Rp, SH]
 refine Fl (xs := ws) (L3 Hw K pss fun Hw K pss i zs H' => H' = Hw ∧ zs.length = i ∧ Ao K Hw zs ((BC pss).take i)) ⟨rfl, rfl, .nil⟩ (fun i zs H' _ h => ⟨by rw [h.1]; exact SqL.of ew, h.2.1⟩) (QQ (AU (by lia))) ?_ ?_
 ·rintro i v zs H' hv ⟨rfl, hzl, hzn⟩
  have hi : i < ws.length := (QX.mp hv).1
  obtain ⟨rs, hrs, a, us, rfl, hap, haH, ha, hus⟩ := (Paired.get hws hv)
  have ers : rs = tab pss i := by
   rw [Rl, SL (by lia)] at hrs
   exact (QF.inj hrs).symm
  subst ers
  have hl := CK pss i (by lia)
  obtain ⟨x0, hx0, hn0⟩ := (Paired.get' hus (Bi (l := tab pss i) (i := 0) (by lia)))
  refine ⟨_, rfl, a, us, _, x0, rfl, rfl, SqL.of ha, AT (j := 0) hx0, rfl, by simp [hzl], ?_⟩
  have e : (BC pss).take (i + 1) = (BC pss).take i ++ [(tab pss i).getD 0 0] := by
   rw [S3]
   congr 1
   unfold BC
   rw [Rl, SL (by lia)]; rfl
  rw [e]
  exact Paired.snoc hzn hn0
 rintro zs H' ⟨rfl, hzl, hzn⟩ p hp0
 rw [hwl, ← D6, To] at hzn
 exact q p _ zs (sw.trans (Af.new hp0)) (sw.free hp0) Aa (Ao.same hzn (Af.new hp0))
theorem E3 : Ap ["points"] ["points"] (Ae (top 40)) := ⟨rfl, rfl, rfl, by decide +kernel, rfl, by decide +kernel, by decide +kernel⟩
set_option maxHeartbeats 4000000 in
theorem E8 {f : Addr} {fd : FuncData} (F : Fun K "curve_through" "curve_through" (top 40) f fd) (Q5 : Fd P w K mg base 36 "by_steps" ["knots", "steps"] (Dr K)) (Po : Fd P w K mg base 34 "knots_of" ["points"] (D7 K)) (Q6 : Fd P w K mg base 38 "steps_of" ["points"] (EA K)) (hT : P.given.tree = none) :
 AE P w K mg base CX0 39 f fd ["points"] (Gp K) := by
 refine F.ok E3 (fun vs H Q E h => ?_) (fun cdv A outer s H vs Q E hr h => ?_)
 ·obtain ⟨_, _, _, _, _, rfl, _⟩ := h; rfl
 refine ⟨_, (Ag (Av (Am Q5 hr rfl (A0 (Am Po hr rfl (A0 (pv 0) Ac)) (A0 (Am Q6 hr rfl (A0 (pv 0) Ac)) Ac))))), ?_⟩
 obtain ⟨r, xs, pss, hh, n, rfl, hS, hp, h23, h100, hnd, h12, hb, hbk, hn1, hn40, q⟩ := h
 refine ⟨_, rfl, r, xs, pss, rfl, hS, hp, h23.p23, h100, fun w Hw ws sw hw ew hws => ?_⟩
 refine ⟨_, rfl, r, xs, pss, hh, n, rfl, hS.same sw, Cm.same hp sw, h23, h100, hnd, h12, hb, hbk, hn1, hn40, fun t Ht zs st ht et hzs => ?_⟩
 have hbl := Lx (show hh + 2 * n + 2 ≤ 8000 by lia) (R3 7)
 have hnb : n ≤ bnd hh n 7 := by
  have := J2 hh n 6
  show n ≤ 2 * bnd hh n 6 + 2 * n + 2
  lia
 have hkl := Bq pss
 refine ⟨w, t, ws, zs, kn pss, BC pss, bnd hh n 7, rfl, SqL.of (st _ _ ew), (Ax.same hws st).nums, SqL.of et, hzs, by rw [D6]; exact hkl, by lia, fun c hc => (L0 hbk c hc).mono hnb, Kt h23.p23 hb hbk hn1 h12, by lia, fun p Hp cs sp' hc hcl hg hcb hev => ?_⟩
 have hm : bnd hh n 7 * (kn pss).length ≤ bnd hh n 7 * 12 := Ts _ (by lia)
 exact q p Hp cs ((sw.trans st).trans sp') hc (by lia) hg (fun c hc => (hcb c hc).mono (by lia)) hev
theorem FX : Ap ["places", "bottom"] ["places"] (Ae (top 27)) := ⟨rfl, rfl, rfl, by decide +kernel, rfl, by decide +kernel, by decide +kernel⟩
set_option maxHeartbeats 4000000 in
theorem JR {f : Addr} {fd : FuncData} (F : Fun K "rising" "rising" (top 27) f fd) (Pd : Fd P w K mg base 34 "bottom_of" ["numbers"] (FS K)) (Pp : mg "sorted" = none) (hT : P.given.tree = none) (hbm : Bm mg base) (hl : Ef K f 172 = true) :
 AE P w K mg base CX0 38 f fd ["places"] (Gr K 172) := by
 refine F.okL hl FX (fun vs H Q E h => ?_) (fun cdc A outer s H vs Q E hcd hr h => ?_)
 ·obtain ⟨_, _, _, _, rfl, _⟩ := h; rfl
 refine ⟨_, (Ad (K := K) (Ai (i := 1) FX.nd rfl (Or.inr rfl) (Am Pd hr rfl (A0 (pv 0) Ac)))
  (Ag (Av (KM K (k := 33) hr (fun _ => rfl) rfl Pp (pv 0) (Md (sc := Ae (top 27)) hcd hbm)))) (by rfl)), ?_⟩
 obtain ⟨l, xs, qs, n, rfl, hS, hN, hb, hn6, h20, hct, q⟩ := h
 have hxl := hN.length
 have hn22 : n * (qs.length + 2) ≤ 1000000 * 22 := Tf hn6 (by lia)
 have hn20 : n * qs.length ≤ 1000000 * 20 := Tf hn6 h20
 refine ⟨_, rfl, true, l, xs, qs, n, rfl, hS, hN, fun q hq => (hb q hq).2, by lia, fun B hB hd bB => ?_⟩
 refine ⟨_, rfl, l, rfl, hct, fun f c' cl ctv H2 C hfree LN => ?_⟩
 have hS2 := Ky hS hct LN.old
 refine ⟨f, _, ["place"], cl, xs, qs.map (Ee B), rfl, hS2, by rw [Rp]; lia, by lia, K2 fun a => rfl, C, fun os hcn hci => ⟨_, NC (k := 32) (fr := ["bottom"]) (ws := [.int B]) (Ok := fun vs r => ∃ x q, vs = [x] ∧ q ∈ qs ∧ AA K H2 x q ∧ r = .int (Ee B q)) LN C hfree hcn hci ⟨rfl, rfl, rfl, by decide +kernel, by decide +kernel⟩ (lk1 _) (.cons 1 rfl rfl rfl rfl .nil) (fun A outer s E vs r H' Q hr hvl ho hm hQ => ?_), fun i x kk hx hkk Q' hQ => ?_⟩, fun p ys hp hz => ?_⟩
 ·refine C4 ho fun x c hz144' => ?_
  refine DF hz144' fun hq141 hc hq142 hq143 => ?_
  clear hz144'
  obtain rfl := hq141
  obtain ⟨rx, rfl, hrx⟩ := hq142
  obtain rfl := hq143
  refine ⟨_, (Ah As (Aj (ixT K) (pv 0) Ab (fun u v => rfl)) (Ah (Bh hr hT) (pv 1) (Aj (ixT K) (pv 0) Ab (fun u v => rfl)))), ?_⟩
  have hr' := hrx.same hm
  have hdc : (c.den : Int) ≠ 0 := Nm.den_ne c
  have bq : Bd (n * qs.length + 1) (B.fdiv (c.den : Int)) := by
   rw [Tl _ (by lia)]
   unfold Bd at bB ⊢
   exact RH (Int.natAbs_ediv_le_natAbs ..) bB
  exact ⟨_, rfl, rx, _, _, _, rfl, rfl, hr', rfl, _, rfl, _, rfl, rx, _, _, _, rfl, rfl, hr', rfl, _, _, rfl, rfl, hdc, _, _, rfl, rfl, Bp.bd (hb c hc).1 bq (by lia), hQ⟩
 ·rw [Rl] at hkk
  obtain ⟨c, hc, hcn'⟩ := (Paired.get hN hx)
  rw [hc] at hkk
  cases hkk
  exact ⟨rfl, Af.refl _, _, ⟨x, c, rfl, Rn hc, hcn'.but hct LN.old, rfl⟩, hQ⟩
 ·refine IY hz fun zs hz146' => ?_
  refine Cy hz146' fun hperm hq145 hsort => ?_
  clear hz146'
  obtain rfl := hq145
  have hpz := KA (B := B) (show Ao K H2 xs qs from Paired.mapP hN fun _ _ z => z.but hct LN.old)
  obtain ⟨rs, hrs, hpr⟩ := (Ej hperm.symm (HE hpz))
  obtain ⟨ek, hnum⟩ := (JP hpr)
  have nN := Af.new (o := .lst (zs.map Prod.snd)) hp
  refine q p _ _ rs (Bx.trans LN.old nN.b) (LN.tab.same nN) (Ll LN.tab LN.old hp) Aa (Ao.same hnum nN) hrs ?_
  have h1 : (rs.map (Ee B)).Pairwise (· ≤ ·) := by
   rw [ek]
   exact T7.mpr hsort
  refine List.Pairwise.imp_of_mem (fun {a b} ha hb' h => ?_) (T7.mp h1)
  exact Mp hB (hd a (hrs.mem_iff.mp ha)) (hd b (hrs.mem_iff.mp hb')) h
theorem CP : Ap ["curve", "x", "bottom", "told"] ["curve", "x"] (Ae (top 17)) := ⟨rfl, rfl, rfl, by decide +kernel, rfl, by decide +kernel, by decide +kernel⟩
set_option maxHeartbeats 4000000 in
theorem GO {f : Addr} {fd : FuncData} (F : Fun K "height_at" "height_at" (top 17) f fd) (Pd : Fd P w K mg base 34 "bottom_of" ["numbers"] (FS K)) (Ph : Fd P w K mg base 33 "whole_height" ["tops", "x"] (Kw K)) (P8 : Fd P w K mg base 34 "number_of" ["top", "bottom"] (Cz)) (Pn : Fd P w K mg base 33 "tops_over" ["numbers", "bottom"] (EM K)) (hT : P.given.tree = none) :
 AE P w K mg base CX0 35 f fd ["curve", "x"] (Dp K) := by
 refine F.ok CP (fun vs H Q E h => ?_) (fun cdv A outer s H vs Q E hr h => ?_)
 ·obtain ⟨_, _, _, _, _, _, _, rfl, _⟩ := h; rfl
 refine ⟨_, (Ad (K := K) (Ai (i := 2) CP.nd rfl (Or.inl rfl) (Am Pd hr rfl (A0 (pv 0) Ac)))
  (Ad (K := K) (Ai (i := 3) CP.nd rfl (Or.inl rfl) (Am Ph hr rfl (A0 (Am Pn hr rfl (A0 (pv 0) (A0 (pv 2) Ac))) (A0 (pv 1) Ac))))
  (Ag (Av (Am P8 hr rfl (A0 (Aj (ixT K) (pv 3) Ab (fun u v => rfl)) (A0 (Ah As (pv 2) (Aj (ixT K) (pv 3) Ab (fun u v => rfl))) Ac))))) (by rfl)) (by rfl)), ?_⟩
 obtain ⟨r, rx, qs, x, g, d, m, rfl, ⟨xs, hS, hn⟩, ⟨_, erx, hx⟩, hB, hbx, hz, h1000, q⟩ := h
 cases erx
 have hl := hn.length
 have e1 : d * (qs.length + 2) = d * qs.length + d * 2 := Tt ..
 have e2 : (m + 1) * (qs.length + 4) = m * qs.length + qs.length + (m + 1) * 4 := by rw [Tt, Sl, Sm]
 refine ⟨_, rfl, false, r, xs, qs, d, rfl, hS, hn, (fun q hq => (hB q hq).2), by lia, fun B hB0 hdv hbB => ?_⟩
 refine ⟨_, rfl, _, rfl, false, r, xs, qs, B, d * qs.length + 1, g, rfl, hS, hn, hbB, (fun q hq => (hB q hq).1), by lia, h1000, fun l hl0 => ?_⟩
 have tl : (qs.map (BI B)).length = qs.length := Rp _
 have hx1 : SqT K (upd H l (.lst ((qs.map (BI B)).map V.int))) rx [.int x.num, .int x.den] := SqT.same hx (Af.new hl0)
 have tB : ∀ t ∈ qs.map (BI B), Bd (g + (d * qs.length + 1)) t := fun t ht => by
  obtain ⟨c, hc, rfl⟩ := (Sv.mp ht)
  exact ((hB c hc).1.mul (hbB.fdiv (y := c.den))).mono (by lia)
 refine ⟨_, rfl, l, rx, qs.map (BI B), x, g + (d * qs.length + 1), m, rfl, SqL.of Aa, ⟨rx, rfl, hx1⟩, tB, hbx, by rw [tl]; lia, fun h s p es hs0 he hbh hbs hp => ?_⟩
 rw [tl] at hbs
 have ep : SqT K (upd (upd H l (.lst ((qs.map (BI B)).map V.int))) p (.tup [.int h, .int s])) p [.int h, .int s] := SqT.of Aa
 have hb0 : B * s ≠ 0 := RT (by lia) hs0
 refine ⟨_, rfl, p, _, _, _, rfl, rfl, ep, rfl, _, rfl, _, rfl, p, _, _, _, rfl, rfl, ep, rfl, _, _, rfl, rfl, Bp.bd hbB hbs (by lia), _, _, rfl, hb0, fun u hu => ?_⟩
 have ev := LQ hdv x
 have e : RM h (B * s) = Cv.ev qs x := Nm.div_eq hb0 (by
  have he' : (h : Rat) = Cv.ev ((qs.map (BI B)).map fun t : Int => (t : Rat)) x * (s : Rat) := he
  rw [he', ev, RU]; grind)
 rw [tl] at hbh
 have e3 : (m + 1) * (qs.length + 2) = m * qs.length + qs.length + (m + 1) * 2 := by rw [Tt, Sl, Sm]
 have d1 : 1 ≤ d ∨ qs.length = 0 := by
  cases qs with
  | nil => exact .inr rfl
  | cons c r =>
    left
    have := (hB c (QS ..)).2
    unfold Bd at this
    rcases Nat.eq_zero_or_pos d with z | z
    ·rw [z] at this
     have := c.den_pos
     lia
    ·exact z
 refine q u _ (((Af.new hl0).trans (Af.new hp)).trans (Af.new hu)) ?_ ?_
 ·rw [← e]; exact Aa
 ·rw [← e]
  exact RB.div (m := 0) (hbh.mono (by lia)) ((hbB.mul hbs).mono (by lia)) hb0
theorem BM : Ap ["places", "heights", "width", "most", "many", "pair", "lock", "points", "sure", "curve", "wrong"] ["places", "heights", "width", "most"] (Ae (top 42)) := ⟨rfl, rfl, rfl, by decide +kernel, rfl, by decide +kernel, by decide +kernel⟩
set_option maxHeartbeats 4000000 in
theorem JS {f : Addr} {fd : FuncData} (F : Fun K "judged" "judged" (top 42) f fd) (Q7 : Fd P w K mg base 35 "check_heights" ["places", "heights"] (DL K)) (Q8 : Fd P w K mg base 36 "pair_through" ["places", "heights", "width"] (Gu K)) (Q9 : Fd P w K mg base 39 "curve_through" ["points"] (Gp K)) (F_rising : Fd P w K mg base 38 "rising" ["places"] (Gr K 172)) (PB : Fd P w K mg base 35 "height_at" ["curve", "x"] (Dp K)) (P7 : mg "list" = none) (OW : mg "len" = none) (P4 : mg "zip" = none) (OZ : mg "tuple" = none) {a_NOUGHT : Addr} (c_NOUGHT : mg "NOUGHT" = some (.ref a_NOUGHT)) (n_NOUGHT : ∀ H : Hp, AA K H (.ref a_NOUGHT) (0)) (hT : P.given.tree = none) :
 AE P w K mg base CX0 40 f fd ["places", "heights", "width", "most"] (DK K 172) := by
 refine F.ok BM (fun vs H Q E h => ?_) (fun cdv A outer s H vs Q E hr h => ?_)
 ·obtain ⟨_, _, _, _, _, _, _, _, _, _, _, _, _, _, rfl, _⟩ := h; rfl
 refine ⟨_, (Ad (K := K) (BQ (Am Q7 hr rfl (A0 (pv 0) (A0 (pv 1) Ac))))
  (Ad (K := K) (Ai (i := 4) BM.nd rfl (Or.inl rfl) (Ah AB (Ah As Ab (pv 3)) (pv 2)))
  (Ad (K := K) (AQ (K := K) (At El (pv 4) (Ar (BO K) rfl OW AF (A0 (pv 0) Ac)) (Ay _)) (Ag Ci) AI (by rfl) (by rfl))
  (Ad (K := K) (Ai (i := 5) BM.nd rfl (Or.inl rfl) (Am Q8 hr rfl (A0 (BS (slL K) (pv 0) Ce (Cd (pv 4))) (A0 (BS (slL K) (pv 1) Ce (Cd (pv 4))) (A0 (Ah AB (pv 3) (pv 2)) Ac)))))
  (Ad (K := K) (Ai (i := 6) BM.nd rfl (Or.inr rfl) (Aj (ixT K) (pv 5) Ab (fun u v => rfl)))
  (Ad (K := K) (Ai (i := 7) BM.nd rfl (Or.inl rfl) (II K rfl rfl P7 rfl P4 (A0 (pv 0) (A0 (pv 1) Ac))))
  (Ad (K := K) (HB (i := 8) rfl BM.nd rfl rfl (N := ["point", "lock"]) (nt := 1) (js := [6]) (AZ.look (NX := ["places", "heights", "width", "most", "many", "pair", "lock", "points", "sure", "curve", "wrong"]) (sc := Ae (top 42)) rfl rfl (by decide +kernel)) (piL K (BS (slL K) (pv 7) Ce (Cd (pv 4)))) (fun u1 u2 u3 u4 u5 => (Au (i := 0) (show List.Nodup (["point", "lock"] : List Str) from by decide +kernel) rfl (Or.inl rfl))) (AH (by decide)) (fun u1 u2 u3 u4 u5 => GE (At (neD K hr.units) (Am PB hr rfl (A0 (pv 1) (A0 (Aj (ixT K) (pv 0) Ab (fun u v => rfl)) Ac))) (GH (v := .ref a_NOUGHT) rfl c_NOUGHT rfl) (Ay _))) (fun u1 u2 u3 u4 u5 => (pv 0)) rfl)
  (Ad (K := K) (Ai (i := 9) BM.nd rfl (Or.inr rfl) (Am Q9 hr rfl (A0 (BN (EK K) rfl OZ CH (A0 (BS (slL K) (pv 8) Ce (Cd (pv 2))) Ac)) Ac)))
  (Ad (K := K) (Ai (i := 10) BM.nd rfl (Or.inl rfl) (Am F_rising hr rfl (A0 (Df rfl (N := ["x", "y", "curve"]) (nt := 2) (js := [9]) (AZ.look (NX := ["places", "heights", "width", "most", "many", "pair", "lock", "points", "sure", "curve", "wrong"]) (sc := Ae (top 42)) rfl rfl (by decide +kernel)) (piL K (pv 7)) (fun u1 u2 u3 u4 u5 => (pgT K (n := 2) rfl (BR (Au (i := 0) (show List.Nodup (["x", "y", "curve"] : List Str) from by decide +kernel) rfl (Or.inl rfl)) (BR (Au (i := 1) (show List.Nodup (["x", "y", "curve"] : List Str) from by decide +kernel) rfl (Or.inl rfl)) EF)))) (FO (Co (by decide) (Co (by decide) EL))) (fun u1 u2 u3 u4 u5 => GE (At (neD K hr.units) (Am PB hr rfl (A0 (pv 2) (A0 (pv 0) Ac))) (pv 1) (Ay _))) (fun u1 u2 u3 u4 u5 => (pv 0))) Ac)))
  (Ad (K := K) (AQ (K := K) (At El (Ar (BO K) rfl OW AF (A0 (pv 10) Ac)) (pv 3) (Ay _)) (Ag (Av (AJ (A0 GF (A0 (pv 6) (A0 (Aj (ixT K) (pv 5) Ab (fun u v => rfl)) Ac)))))) AI (by rfl) (by rfl))
  (Ag (Av (AJ (A0 GF (A0 (pv 9) (A0 (pv 10) Ac)))))) (by rfl)) (by rfl)) (by rfl)) (by rfl)) (by rfl)) (by rfl)) (by rfl)) (by rfl)) (by rfl)) (by rfl)), ?_⟩
 obtain ⟨lp, lh, zs, ys, qs, hs, c, W, e, n, nx, ny, mc, C, rfl, hP, hZT, hH, hY, hql, hhl, hn12, hnd, hW1, hW8, hm, bq, bh, hnx1, hnx, hxy, hny, hC, hG, hct, gc, lc, bc, hmc, hbad, q⟩ := h
 have P3 : 3 ≤ sizeLine := by decide
 have hZ : Ao K H zs qs := hZT.nums
 have hzl := hZ.length
 have hyl := hY.length
 refine ⟨_, rfl, _, rfl, lp, lh, zs, ys, qs, rfl, hP, hZT, hnd, by lia, by lia, hH, by lia, fun H1 s1 => ?_⟩
 obtain ⟨m, hm2⟩ : ∃ m, m = 2 * e + W := ⟨_, rfl⟩
 refine ⟨_, rfl, _, _, rfl, rfl, .inl ⟨by decide, by decide⟩, _, rfl, _, _, rfl, rfl, ?_⟩
 rw [show (2 : Int) * (e : Int) + (W : Int) = (m : Int) by lia]
 refine ⟨_, rfl, _, rfl, lp, zs, rfl, .inl (Af.seq s1 hP), _, _, rfl, rfl, _, rfl, AR (decide_eq_false (by lia)) ?_⟩
 refine ⟨_, rfl, _, rfl, _, rfl, lp, zs, rfl, Af.seq s1 hP, fun o1 h1 => ?_⟩
 rw [DE]
 have w1 := Af.new (o := .lst (zs.take m)) h1
 refine ⟨_, rfl, _, rfl, _, rfl, lh, ys, rfl, Af.seq (s1.trans w1) hH, fun o2 h2 => ?_⟩
 rw [DE]
 have w2 := Af.new (o := .lst (ys.take m)) h2
 have s2 := (s1.trans w1).trans w2
 have e1 := w2 _ _ (Aa (H := H1) (a := o1) (o := .lst (zs.take m)))
 have e2 := Aa (H := upd H1 o1 (.lst (zs.take m))) (a := o2) (o := .lst (ys.take m))
 generalize upd (upd H1 o1 (.lst (zs.take m))) o2 (.lst (ys.take m)) = H2 at s2 e1 e2 ⊢
 have hqt : (qs.take m).length = m := by rw [Rh]; lia
 have hht : (hs.take m).length = m := by rw [Rh]; lia
 have hndt : (qs.take m).Nodup := hnd.sublist (Rm _ _)
 have hCm : (nx + 1) * (m + 3) + ny + 2 ≤ C := by
  have := Ts (nx + 1) (show m + 3 ≤ n + 3 by lia)
  lia
 have hGm : (gAS C m).2 + 3 * C ≤ 2000000 := QP (SR (CG C (show m ≤ n by lia)) _) hG
 refine ⟨_, rfl, _, rfl, _, _, rfl, rfl, ?_⟩
 rw [show (e : Int) + (W : Int) = ((e + W : Nat) : Int) by lia]
 refine ⟨o1, o2, _, _, qs.take m, hs.take m, e + W, m, nx, ny, C, rfl, SqL.of e1, Paired.take _ (Ao.same hZ s2), SqL.of e2, Paired.take _ (Ao.same hY s2), hqt, hht, by lia, by lia, hndt, by lia, by lia, fun x hx => bq x (Td hx), fun x hx => bh x (Td hx), hCm, by lia, fun t pN pD H3 r1 r2 N D N2 D2 s3 hT cN cD bN bD I => ?_⟩
 have on := La hm2 hqt hht hndt hW1 gc lc (QP (JZ m) hbad) I
 have hzlt : ((qs.take m).zip (hs.take m)).length = m := by rw [T6]; lia
 have hDne := I.below hzlt (by lia) (by rw [Ty (by lia)]; exact hndt)
 have hr1 := I.fin hzlt
 have hDl : (Cv.strip D).length ≤ e + 1 := Ks fun j hj => I.le1.2 j (by lia)
 have s03 := s2.trans s3
 clear w1 w2 h1 h2 e1 e2 s1 s2 hCm
 refine ⟨_, rfl, t, _, _, _, rfl, rfl, hT, rfl, ?_⟩
 refine ⟨_, rfl, _, rfl, lp, lh, zs, ys, rfl, Af.seq s03 hP, Af.seq s03 hH, by lia, fun lpt us H4 s4 hno elp hp4 => ?_⟩
 have s04 := s03.trans s4
 have hpts : Cm K H4 us ((qs.zip hs).map fun p => [p.1, p.2]) := Ma hp4 (Ax.same hZT s04) (Ao.same hY s04)
 have hul : us.length = n := by rw [hpts.length, Rp, T6]; lia
 have hzn : (qs.zip hs).length = n := by rw [T6]; lia
 have bD' : ∀ c ∈ Cv.strip D, Bd ((gAS C m).2 + 1) c.num ∧ Bd 1 (c.den : Int) := fun c hc => bD c (Cv.strip_mem _ _ hc)
 refine C7 ⟨_, rfl, _, rfl, _, rfl, lpt, us, rfl, SqL.of elp, fun o5 h5 => ?_⟩
 rw [DE]
 have w5 := Af.new (o := .lst (us.take m)) h5
 have e5 := Aa (H := H4) (a := o5) (o := .lst (us.take m))
 have cD5 := (cD.same s4).same w5
 have s05 := s04.trans w5
 have hpts := Cm.same hpts w5
 generalize upd H4 o5 (.lst (us.take m)) = H5 at w5 e5 cD5 s05 hpts ⊢
 refine ⟨o5, rfl, ⟨_, SqL.of e5⟩, ?_⟩
 have hx17 : (nx + 1) * ((Cv.strip D).length + 4) ≤ 41 * 17 := Tf (by lia) (by lia)
 refine Jo (xs := us.take m) (L5 H5 K qs hs D fun H5 K qs hs D i ws G => Af H5 G ∧ ws.length ≤ i ∧ Cm K G ws ((((qs.zip hs).take i).filter fun p => !decide (Cv.ev D p.1 = 0)).map fun p => [p.1, p.2])) ⟨Af.refl _, R3 _, .nil⟩ (fun i ws G _ h => ⟨SqL.of (h.1 _ _ e5), h.2.1⟩) (QQ (AU (by rw [Rh]; lia))) ?_ ?_
 ·rintro i v ws G hv ⟨sg, hwl, hws⟩
  have hi : i < m := by
   have := (QX.mp hv).1
   rw [Rh] at this; lia
  rw [T2, if_pos hi] at hv
  obtain ⟨ps, hps, pt⟩ := (Paired.get hpts hv)
  rw [Rl] at hps
  obtain ⟨⟨x, y⟩, hpr, rfl⟩ : ∃ pr, (qs.zip hs)[i]? = some pr ∧ ps = [pr.1, pr.2] := by
   cases z : (qs.zip hs)[i]? with
   | none => rw [z] at hps; cases hps
   | some pr => rw [z] at hps; cases hps; exact ⟨pr, rfl, rfl⟩
  refine D4 (id pt) fun ta tu px hz148' => ?_
  refine D5 hz148' fun hq147 hta htn hpx epx => ?_
  clear hz148'
  obtain rfl := hq147
  have hxm : x ∈ qs := (Rf (Rn hpr)).1
  refine ⟨_, rfl, _, rfl, ta, tu, _, _, rfl, rfl, hta.same sg, AT (j := 0) hpx, pD, px, Cv.strip D, x, (gAS C m).2 + 1, 1, nx, rfl, cD5.same sg, AA.of (sg _ _ epx), bD', bq x hxm, by lia, by lia, fun p1 G1 s1 e1 _ => ?_⟩
  refine eqN (AA.of e1) (n_NOUGHT _) ?_
  refine ⟨_, rfl, ?_⟩
  rw [Cv.ev_strip]
  have et : (((qs.zip hs).take (i + 1)).filter fun p => !decide (Cv.ev D p.1 = 0)) = (((qs.zip hs).take i).filter fun p => !decide (Cv.ev D p.1 = 0)) ++ ([(x, y)].filter fun p => !decide (Cv.ev D p.1 = 0)) := by rw [S3, hpr, Tq]; rfl
  by_cases h0 : Cv.ev D x = 0
  ·refine AR (by rw [decide_eq_true h0]; rfl) ⟨sg.trans s1, by lia, ?_⟩
   rw [et, Tn (by show ¬ (!decide (Cv.ev D x = 0)) = true; rw [decide_eq_true h0]; decide), List.filter_nil, Rc]
   exact Cm.same hws s1
  ·refine Bw (by rw [decide_eq_false h0]; rfl) ⟨_, rfl, sg.trans s1, by rw [Ro, RD]; lia, ?_⟩
   rw [et, Tm (by show (!decide (Cv.ev D x = 0)) = true; rw [decide_eq_false h0]; rfl), S4]
   exact Paired.snoc (Cm.same hws s1) (pt.same (sg.trans s1))
 rintro ws G ⟨sg, hwl, hws⟩ lsu hlsu
 have hsl : (us.take m).length = m := by rw [Rh]; lia
 rw [hsl] at hws hwl
 have w6 := Af.new (o := .lst ws) hlsu
 have s06 := (s05.trans sg).trans w6
 have s46 := (w5.trans sg).trans w6
 have hws := Cm.same hws w6
 have e6 := Aa (H := G) (a := lsu) (o := .lst ws)
 generalize upd G lsu (.lst ws) = H6 at s06 s46 hws e6 ⊢
 clear w6 sg w5 e5 cD5 s05 hpts hlsu h5
 have ezt : (qs.zip hs).take m = (qs.take m).zip (hs.take m) := List.take_zipWith (f := Prod.mk)
 generalize hL : ((qs.zip hs).take m).filter (fun p => !decide (Cv.ev D p.1 = 0)) = L at hws
 have hLs : List.Sublist L (qs.zip hs) := by rw [← hL]; exact (List.filter_sublist).trans (Rm _ _)
 have hLm : ∀ pr ∈ L, pr ∈ qs.zip hs ∧ Cv.ev c pr.1 = pr.2 := fun pr hpr => by
  refine ⟨hLs.subset hpr, ?_⟩
  rw [← hL, ezt] at hpr
  obtain ⟨h1, h2⟩ := (QM.mp hpr)
  have h0 : Cv.ev D pr.1 ≠ 0 := by simpa using h2
  have o1 := I.on1 pr h1
  rw [on pr.1] at o1
  have : (Cv.ev c pr.1 - pr.2) * Cv.ev D pr.1 = 0 := by grind
  rcases S6.mp this with z | z
  ·grind
  ·exact absurd z h0
 have hLW : W ≤ L.length := by
  have f1 := Ig (BW D) hDne hndt
  have f2 := DY (fun x => decide (Cv.ev (Cv.strip D) x = 0)) (qs.take m)
  have f3 : L.length = ((qs.take m).filter fun x => !decide (Cv.ev (Cv.strip D) x = 0)).length := by
   rw [← hL, ezt]
   have e : ((qs.take m).zip (hs.take m)).map Prod.fst = qs.take m := Ty (by lia)
   rw [← e, List.filter_map, Rp, e]
   congr 2
   funext p
   show (!decide (Cv.ev D p.1 = 0)) = (!decide (Cv.ev (Cv.strip D) p.1 = 0))
   rw [Cv.ev_strip]
  lia
 have h23 : P2 ((L.take W).map fun p => [p.1, p.2]) := fun ps hps => by
  obtain ⟨pr, _, rfl⟩ := (Sv.mp hps)
  rfl
 have hnd' : (((L.take W).map fun p => [p.1, p.2]).map fun ps => ps.getD 0 0).Nodup := by
  rw [List.map_map]
  show ((L.take W).map Prod.fst).Nodup
  have hsub : List.Sublist ((L.take W).map Prod.fst) ((qs.zip hs).map Prod.fst) := ((Rm _ _).trans hLs).map _
  rw [Ty (by lia)] at hsub
  exact hnd.sublist hsub
 have hLt : (L.take W).length = W := by rw [Rh]; lia
 have hbp : ∀ ps ∈ (L.take W).map (fun p => [p.1, p.2]), ∀ z ∈ ps, RB ny z := fun ps hps z hz => by
  obtain ⟨pr, hpr, rfl⟩ := (Sv.mp hps)
  have := Rf (show (pr.1, pr.2) ∈ qs.zip hs from (hLm pr (Td hpr)).1)
  rcases QU.mp hz with y | y
  ·rw [y]; exact (bq _ this.1).mono hxy
  ·rw [Sh.mp y]; exact bh _ this.2
 have hbk : ∀ ps ∈ (L.take W).map (fun p => [p.1, p.2]), RB nx (ps.getD 0 0) := fun ps hps => by
  obtain ⟨pr, hpr, rfl⟩ := (Sv.mp hps)
  exact bq _ (Rf (show (pr.1, pr.2) ∈ qs.zip hs from (hLm pr (Td hpr)).1)).1
 refine ⟨_, rfl, _, rfl, _, rfl, lsu, ws, rfl, SqL.of e6, fun o6 h6 => ?_⟩
 rw [DE]
 have w7 := Af.new (o := .lst (ws.take W)) h6
 refine ⟨o6, ws.take W, rfl, .inl ⟨SqL.of Aa, fun o7 h7 => ?_⟩⟩
 have w8 := Af.new (o := .tup (ws.take W)) h7
 have w78 := w7.trans w8
 have hp8 : Cm K (upd (upd H6 o6 (.lst (ws.take W))) o7 (.tup (ws.take W))) (ws.take W) ((L.take W).map fun p => [p.1, p.2]) := by
  have := Paired.take W (Cm.same hws w78)
  rwa [← Tw] at this
 refine ⟨o7, ws.take W, (L.take W).map fun p => [p.1, p.2], ny, nx, rfl, SqT.of Aa, hp8, h23, by rw [Rp]; lia, hnd', by rw [Kp]; lia, hbp, hbk, by lia, by lia, fun pc H8 cs s8 cC hcl hgc hrb hev => ?_⟩
 have ecs : cs = c := Fp hgc gc fun x => IM h23 hnd' hcl (by rw [Kp, hLt]; exact lc) (Ko h23 hnd' hev) (fun ps hps => by
  obtain ⟨pr, hpr, rfl⟩ := (Sv.mp hps)
  exact (hLm pr (Td hpr)).2) x
 subst ecs
 have s48 := (s46.trans w78).trans s8
 have s08 := (s06.trans w78).trans s8
 have elp := s48 _ _ elp
 clear w7 w8 w78 h6 h7 hp8 hrb hev hcl hgc hbp hbk hnd' h23 hws e6 hLm hLs hL hwl
 refine C7 ⟨_, rfl, lpt, rfl, ⟨_, SqL.of elp⟩, ?_⟩
 have hmc' : mc * (cs.length + 2) ≤ 100000 * 10 := Tf hmc (by lia)
 have hxc : (nx + 1) * (cs.length + 4) ≤ 41 * 12 := Tf (by lia) (by lia)
 refine Nz (xs := us) (fun i vs G => Af H8 G ∧ vs.length ≤ i ∧ Ao K G vs (AY (qs.take i) (hs.take i) cs)) ⟨Af.refl _, R3 _, .nil⟩ (fun i vs G _ h => ⟨SqL.of (h.1 _ _ elp), h.2.1⟩) (QQ (AU (by lia))) ?_ ?_
 ·rintro i v vs G hv ⟨sg, hvl, hvs⟩
  obtain ⟨pr, hpr, tt, rfl, ett⟩ := (Paired.get hp4 hv)
  obtain ⟨hz1, hy1⟩ := (T8.mp hpr)
  obtain ⟨x, hx, hvx⟩ := (Paired.get hZ hz1)
  obtain ⟨y, hy, hvy⟩ := (Paired.get hY hy1)
  obtain ⟨rx, erx, _⟩ := (id hvx)
  have s0g := s08.trans sg
  refine ⟨tt, pr.1, pr.2, rfl, SqT.of (sg _ _ (s48 _ _ ett)), ?_⟩
  rw [erx] at hvx ⊢
  refine ⟨_, rfl, _, rfl, pc, rx, cs, x, mc, mc, nx, rfl, cC.same sg, hvx.same s0g, bc, bq x (Rn hx), by lia, by lia, fun p1 G1 s1 e1 _ => ?_⟩
  refine ⟨_, rfl, ?_⟩
  refine eqN (AA.of e1) ((hvy.same s0g).same s1) ?_
  refine ⟨_, rfl, ?_⟩
  have ms := Gc (c := cs) (by lia) hx hy
  by_cases he : Cv.ev cs x = y
  ·refine AR (by rw [decide_eq_true he]; rfl) ⟨sg.trans s1, by lia, ?_⟩
   rw [ms, if_pos he, Rc]; exact Ao.same hvs s1
  ·refine Bw (by rw [decide_eq_false he]; rfl) ⟨_, rfl, sg.trans s1, by rw [Ro, RD]; lia, ?_⟩
   rw [ms, if_neg he]
   exact Paired.snoc (Ao.same hvs s1) ((hvx.same s0g).same s1)
 rintro vs G ⟨sg, hvl, hvs⟩ lv hlv
 rw [hul, Sy (by lia), Sy (by lia)] at hvs
 have w9 := Af.new (o := .lst vs) hlv
 have s09 := (s08.trans sg).trans w9
 have hmn : (AY qs hs cs).length ≤ 12 := by lia
 refine ⟨lv, vs, AY qs hs cs, nx, rfl, SqL.of Aa, Ao.same hvs w9, fun x hx => bq x (HY hx), by lia, by lia, hct.same s09, fun pr H9 rsV rs m9 ct9 hno9 e9 hn9 hperm hpw => ?_⟩
 have hrl : rsV.length ≤ e := by rw [hn9.length, hperm.length_eq]; exact hbad
 refine ⟨_, rfl, pr, rsV, rfl, .inl (SqL.of e9), _, rfl, _, _, rfl, rfl, _, rfl, AR (decide_eq_false (by lia)) ?_⟩
 refine ⟨_, rfl, _, rfl, P3, fun tf htf => ?_⟩
 have nf := Af.new (o := .tup [.str "one", .ref pc, .ref pr]) htf
 have hno : H pr = none := by
  cases z : H pr with
  | none => rfl
  | some o => rw [s09 _ _ z] at hno9; cases hno9
 exact q tf pc pr _ rsV rs (Bx.trans (Af.b s09) (Bx.trans m9 nf.b)) (ct9.same nf) (SqT.of Aa) ((((cC.same sg).same w9).but (hct.same s09) m9).same nf) hno (nf _ _ e9) (Ao.same hn9 nf) hperm hpw
theorem Br : Ap ["_law_script", "_law_pen_here", "_law_places_here", "_law_width", "_law_most", "_law_curve_here", "_law_far", "_law_heights", "_law_due", "_law_handed", "_law_turn", "_law_found"] ["_law_script"] (Ae (top 57)) := ⟨rfl, rfl, rfl, by decide +kernel, rfl, by decide +kernel, by decide +kernel⟩
set_option maxHeartbeats 4000000 in
theorem Nr {f : Addr} {fd : FuncData} (F : Fun K "law" "law" (top 57) f fd) (Qa : Fd P w K mg base 33 "_law_pen" ["_law_script", "_law_k"] (J9 K)) (Qb : Fd P w K mg base 36 "_law_held" ["_law_pen_here", "_law_most"] (Gy K)) (Qc : Fd P w K mg base 35 "_law_curve" ["_law_pen_here", "_law_most"] (EC K 8)) (Qd : Fd P w K mg base 36 "_law_planted" ["_law_pen_here", "_law_places_here", "_law_curve_here", "_law_many"] (Dn K)) (OY : Fd P w K mg base 33 "_law_draw" ["_law_pen_here", "_law_many"] (D8)) (Qe : Fd P w K mg base 36 "_law_missing" ["_law_places_here", "_law_heights", "_law_curve_here"] (Gw K)) (PC : Fd P w K mg base 40 "judged" ["places", "heights", "width", "most"] (DK K 172)) (Pb : Fd P w K mg base 35 "_law_at" ["_law_curve_here", "_law_x"] (FT K)) (Pg : Fd P w K mg base 34 "_law_times" ["_law_a", "_law_b"] (C5 K (· * ·))) (OX : mg "range" = none) (OZ : mg "tuple" = none) (P7 : mg "list" = none) (Pj : mg "isinstance" = none) (OW : mg "len" = none) (hT : P.given.tree = none) :
 AE P w K mg base CX0 41 f fd ["_law_script"] (EN K 172) := by
 refine F.ok Br (fun vs H Q E h => ?_) (fun cdv A outer s H vs Q E hr h => ?_)
 ·obtain ⟨_, _, rfl, _⟩ := h; rfl
 refine ⟨_, (@Ad _ _ _ _ _ K _ (@Ai _ _ 1 _ _ _ _ Br.nd rfl (Or.inr rfl) (@Am _ _ _ _ _ _ _ _ _ _ _ Qa hr rfl (@A0 _ _ _ _ _ (pv 0) (@A0 _ _ _ _ _ Ab Ac (by rfl)) (by rfl)) (by decide) (by decide) (by rfl) (by rfl)) (by rfl) (by first   | exact .inl rfl   | exact .inr rfl   | assumption)) (@Ad _ _ _ _ _ K _ (@E5 _ _ _ _ _ _ (@Am _ _ _ _ _ _ _ _ _ _ _ Qb hr rfl (@A0 _ _ _ _ _ (pv 1) (@A0 _ _ _ _ _ Ab Ac (by rfl)) (by rfl)) (by decide) (by decide) (by rfl) (by rfl)) (@pgT _ K _ _ _ 3 _ rfl (BR (@Au _ _ 2 _ Br.nd rfl (Or.inl rfl) (by first   | exact .inl rfl   | exact .inr rfl   | assumption)) (BR (@Au _ _ 3 _ Br.nd rfl (Or.inl rfl) (by first   | exact .inl rfl   | exact .inr rfl   | assumption)) (BR (@Au _ _ 4 _ Br.nd rfl (Or.inl rfl) (by first   | exact .inl rfl   | exact .inr rfl   | assumption)) EF))) (by rfl) (by rfl) (by rfl)) (by rfl) (by rfl) (by rfl)) (@Ad _ _ _ _ _ K _ (@Ai _ _ 5 _ _ _ _ Br.nd rfl (Or.inr rfl) (@Am _ _ _ _ _ _ _ _ _ _ _ Qc hr rfl (@A0 _ _ _ _ _ (pv 1) (@A0 _ _ _ _ _ (pv 3) Ac (by rfl)) (by rfl)) (by decide) (by decide) (by rfl) (by rfl)) (by rfl) (by first   | exact .inl rfl   | exact .inr rfl   | assumption)) (@Ad _ _ _ _ _ K _ (@AQ _ _ _ _ _ _ _ _ K _ _ (@At _ _ _ _ _ _ _ _ Fc (@Am _ _ _ _ _ _ _ _ _ _ _ OY hr rfl (@A0 _ _ _ _ _ (pv 1) (@A0 _ _ _ _ _ Ab Ac (by rfl)) (by rfl)) (by decide) (by decide) (by rfl) (by rfl)) Ab (Ay _)) (@Ad _ _ _ _ _ K _ (@HB _ (["_law_k", "_law_pen_here"]) 1 ([1]) _ _ _ _ _ _ _ _ _ _ 2 _ _ _ rfl Br.nd rfl rfl (AZ.look (NX := ["_law_script", "_law_pen_here", "_law_places_here", "_law_width", "_law_most", "_law_curve_here", "_law_far", "_law_heights", "_law_due", "_law_handed", "_law_turn", "_law_found"]) (sc := Ae (top 57)) rfl rfl (by decide +kernel)) (@AV _ _ _ _ _ _ rfl OX (@A0 _ _ _ _ _ (@Ah _ _ _ _ _ _ _ _ AB Ab (@Am _ _ _ _ _ _ _ _ _ _ _ OY hr rfl (@A0 _ _ _ _ _ (pv 1) (@A0 _ _ _ _ _ Ab Ac (by rfl)) (by rfl)) (by decide) (by decide) (by rfl) (by rfl))) Ac (by rfl)) (by rfl)) (fun u1 u2 u3 u4 u5 => (@Au _ _ 0 _ (show List.Nodup (["_law_k", "_law_pen_here"] : List Str) from by decide +kernel) rfl (Or.inl rfl) (by first   | exact .inl rfl   | exact .inr rfl   | assumption))) (AH (by decide)) (fun u1 u2 u3 u4 u5 => BE) (fun u1 u2 u3 u4 u5 => (@AJ _ _ _ _ _ (@A0 _ _ _ _ _ (@Ah _ _ _ _ _ _ _ _ AK (@Ah _ _ _ _ _ _ _ _ AB (@Am _ _ _ _ _ _ _ _ _ _ _ OY hr rfl (@A0 _ _ _ _ _ (pv 1) (@A0 _ _ _ _ _ Ab Ac (by rfl)) (by rfl)) (by decide) (by decide) (by rfl) (by rfl)) (@Ah _ _ _ _ _ _ _ _ As Ab (pv 0))) Ab) (@A0 _ _ _ _ _ Ab Ac (by rfl)) (by rfl)))) rfl (by intro _; rfl)) (@Ad _ _ _ _ _ K _ (@Ai _ _ 3 _ _ _ _ Br.nd rfl (Or.inl rfl) (@Ah _ _ _ _ _ _ _ _ AB Ab (@Am _ _ _ _ _ _ _ _ _ _ _ OY hr rfl (@A0 _ _ _ _ _ (pv 1) (@A0 _ _ _ _ _ Ab Ac (by rfl)) (by rfl)) (by decide) (by decide) (by rfl) (by rfl))) (by rfl) (by first   | exact .inl rfl   | exact .inr rfl   | assumption)) (@Ad _ _ _ _ _ K _ (@Ai _ _ 4 _ _ _ _ Br.nd rfl (Or.inl rfl) (@Am _ _ _ _ _ _ _ _ _ _ _ OY hr rfl (@A0 _ _ _ _ _ (pv 1) (@A0 _ _ _ _ _ (@Ah _ _ _ _ _ _ _ _ AB (@Ah _ _ _ _ _ _ _ _ (Bh hr hT) (@Ah _ _ _ _ _ _ _ _ AK (@Ar _ _ _ _ _ _ _ _ _ (BO K) rfl OW AF (@A0 _ _ _ _ _ (pv 2) Ac (by rfl)) (by decide) (by decide) (by rfl) (by rfl)) (pv 3)) Ab) Ab) Ac (by rfl)) (by rfl)) (by decide) (by decide) (by rfl) (by rfl)) (by rfl) (by first   | exact .inl rfl   | exact .inr rfl   | assumption)) (@Ag _ _ _ (@Ai _ _ 5 _ _ _ _ Br.nd rfl (Or.inr rfl) (@BN _ _ _ _ _ _ _ _ _ (EK K) rfl OZ CH (@A0 _ _ _ _ _ (@Ah _ _ _ _ _ _ _ _ GK (@Df _ (["_law_k", "_law_pen_here"]) 1 ([1]) _ _ _ _ _ _ _ _ _ _ rfl (AZ.look (NX := ["_law_script", "_law_pen_here", "_law_places_here", "_law_width", "_law_most", "_law_curve_here", "_law_far", "_law_heights", "_law_due", "_law_handed", "_law_turn", "_law_found"]) (sc := Ae (top 57)) rfl rfl (by decide +kernel)) (@AV _ _ _ _ _ _ rfl OX (@A0 _ _ _ _ _ (@Ah _ _ _ _ _ _ _ _ AK (pv 3) Ab) Ac (by rfl)) (by rfl)) (fun u1 u2 u3 u4 u5 => (@Au _ _ 0 _ (show List.Nodup (["_law_k", "_law_pen_here"] : List Str) from by decide +kernel) rfl (Or.inl rfl) (by first   | exact .inl rfl   | exact .inr rfl   | assumption))) (AH (by decide)) (fun u1 u2 u3 u4 u5 => BE) (fun u1 u2 u3 u4 u5 => (@AJ _ _ _ _ _ (@A0 _ _ _ _ _ (@Ah _ _ _ _ _ _ _ _ AK (@Am _ _ _ _ _ _ _ _ _ _ _ OY hr rfl (@A0 _ _ _ _ _ (pv 1) (@A0 _ _ _ _ _ Ab Ac (by rfl)) (by rfl)) (by decide) (by decide) (by rfl) (by rfl)) Ab) (@A0 _ _ _ _ _ Ab Ac (by rfl)) (by rfl)))) (by intro _; rfl)) (@AS _ _ _ _ (@A0 _ _ _ _ _ (@AJ _ _ _ _ _ (@A0 _ _ _ _ _ (@Ah _ _ _ _ _ _ _ _ AB Ab (@Am _ _ _ _ _ _ _ _ _ _ _ OY hr rfl (@A0 _ _ _ _ _ (pv 1) (@A0 _ _ _ _ _ Ab Ac (by rfl)) (by rfl)) (by decide) (by decide) (by rfl) (by rfl))) (@A0 _ _ _ _ _ Ab Ac (by rfl)) (by rfl))) Ac (by rfl)))) Ac (by rfl)) (by decide) (by decide) (by rfl) (by rfl)) (by rfl) (by first   | exact .inl rfl   | exact .inr rfl   | assumption))) (by rfl)) (by rfl)) (by rfl)) AI (by rfl) (by rfl)) (@Ad _ _ _ _ _ K _ (@AQ _ _ _ _ _ _ _ _ K _ _ (@At _ _ _ _ _ _ _ _ Fc (@Am _ _ _ _ _ _ _ _ _ _ _ OY hr rfl (@A0 _ _ _ _ _ (pv 1) (@A0 _ _ _ _ _ Ab Ac (by rfl)) (by rfl)) (by decide) (by decide) (by rfl) (by rfl)) Ab (Ay _)) (@Ad _ _ _ _ _ K _ (@Ai _ _ 6 _ _ _ _ Br.nd rfl (Or.inr rfl) (@Ah _ _ _ _ _ _ _ _ AB (@Ah _ _ _ _ _ _ _ _ GI Ab Ab) (@Am _ _ _ _ _ _ _ _ _ _ _ OY hr rfl (@A0 _ _ _ _ _ (pv 1) (@A0 _ _ _ _ _ (@Ah _ _ _ _ _ _ _ _ GI Ab Ab) Ac (by rfl)) (by rfl)) (by decide) (by decide) (by rfl) (by rfl))) (by rfl) (by first   | exact .inl rfl   | exact .inr rfl   | assumption)) (@Ag _ _ _ (@Ai _ _ 5 _ _ _ _ Br.nd rfl (Or.inr rfl) (@BN _ _ _ _ _ _ _ _ _ (EK K) rfl OZ CH (@A0 _ _ _ _ _ (@Df _ (["_law_number_here", "_law_far"]) 1 ([6]) _ _ _ _ _ _ _ _ _ _ rfl (AZ.look (NX := ["_law_script", "_law_pen_here", "_law_places_here", "_law_width", "_law_most", "_law_curve_here", "_law_far", "_law_heights", "_law_due", "_law_handed", "_law_turn", "_law_found"]) (sc := Ae (top 57)) rfl rfl (by decide +kernel)) (@piT _ K _ _ _ (pv 5) (by rfl)) (fun u1 u2 u3 u4 u5 => (@Au _ _ 0 _ (show List.Nodup (["_law_number_here", "_law_far"] : List Str) from by decide +kernel) rfl (Or.inl rfl) (by first   | exact .inl rfl   | exact .inr rfl   | assumption))) (AH (by decide)) (fun u1 u2 u3 u4 u5 => BE) (fun u1 u2 u3 u4 u5 => (@Am _ _ _ _ _ _ _ _ _ _ _ Pg hr rfl (@A0 _ _ _ _ _ (@AJ _ _ _ _ _ (@A0 _ _ _ _ _ (pv 1) (@A0 _ _ _ _ _ Ab Ac (by rfl)) (by rfl))) (@A0 _ _ _ _ _ (pv 0) Ac (by rfl)) (by rfl)) (by decide) (by decide) (by rfl) (by rfl))) (by intro _; rfl)) Ac (by rfl)) (by decide) (by decide) (by rfl) (by rfl)) (by rfl) (by first   | exact .inl rfl   | exact .inr rfl   | assumption))) (by rfl)) AI (by rfl) (by rfl)) (@Ad _ _ _ _ _ K _ (@Ai _ _ 7 _ _ _ _ Br.nd rfl (Or.inl rfl) (@Am _ _ _ _ _ _ _ _ _ _ _ Qd hr rfl (@A0 _ _ _ _ _ (pv 1) (@A0 _ _ _ _ _ (pv 2) (@A0 _ _ _ _ _ (pv 5) (@A0 _ _ _ _ _ (pv 4) Ac (by rfl)) (by rfl)) (by rfl)) (by rfl)) (by decide) (by decide) (by rfl) (by rfl)) (by rfl) (by first   | exact .inl rfl   | exact .inr rfl   | assumption)) (@Ad _ _ _ _ _ K _ (@Ai _ _ 8 _ _ _ _ Br.nd rfl (Or.inl rfl) (@AJ _ _ _ _ _ (@A0 _ _ _ _ _ GF (@A0 _ _ _ _ _ (pv 5) (@A0 _ _ _ _ _ (@Am _ _ _ _ _ _ _ _ _ _ _ Qe hr rfl (@A0 _ _ _ _ _ (pv 2) (@A0 _ _ _ _ _ (pv 7) (@A0 _ _ _ _ _ (pv 5) Ac (by rfl)) (by rfl)) (by rfl)) (by decide) (by decide) (by rfl) (by rfl)) Ac (by rfl)) (by rfl)) (by rfl))) (by rfl) (by first   | exact .inl rfl   | exact .inr rfl   | assumption)) (@Ad _ _ _ _ _ K _ (@Ai _ _ 9 _ _ _ _ Br.nd rfl (Or.inl rfl) (@AS _ _ _ _ (@A0 _ _ _ _ _ (@BN _ _ _ _ _ _ _ _ _ (MN K) rfl P7 EI (@A0 _ _ _ _ _ (pv 2) Ac (by rfl)) (by decide) (by decide) (by rfl) (by rfl)) (@A0 _ _ _ _ _ (@BN _ _ _ _ _ _ _ _ _ (MN K) rfl P7 EI (@A0 _ _ _ _ _ (pv 7) Ac (by rfl)) (by decide) (by decide) (by rfl) (by rfl)) Ac (by rfl)) (by rfl))) (by rfl) (by first   | exact .inl rfl   | exact .inr rfl   | assumption)) (@Ad _ _ _ _ _ K _ (@AX _ _ _ _ _ _ _ _ K _ PassesOwn.never rfl (@AV _ _ _ _ _ _ rfl OX (@A0 _ _ _ _ _ Ab Ac (by rfl)) (by rfl)) (@Au _ _ 10 _ Br.nd rfl (Or.inl rfl) (by first   | exact .inl rfl   | exact .inr rfl   | assumption)) (@Ad _ _ _ _ _ K _ (@Ai _ _ 11 _ _ _ _ Br.nd rfl (Or.inl rfl) (@Am _ _ _ _ _ _ _ _ _ _ _ PC hr rfl (@A0 _ _ _ _ _ (@Aj _ _ _ _ _ _ _ (ixL K) (pv 9) Ab (fun u v => rfl)) (@A0 _ _ _ _ _ (@Aj _ _ _ _ _ _ _ (ixL K) (pv 9) Ab (fun u v => rfl)) (@A0 _ _ _ _ _ (pv 3) (@A0 _ _ _ _ _ (pv 4) Ac (by rfl)) (by rfl)) (by rfl)) (by rfl)) (by decide) (by decide) (by rfl) (by rfl)) (by rfl) (by first   | exact .inl rfl   | exact .inr rfl   | assumption)) (@Ad _ _ _ _ _ K _ (@AQ _ _ _ _ _ _ _ _ K _ _ (@PW.pt _ _ _ (@KI _ _ _ _ _ _ _ (@IF _ _ _ _ (@IE _ _ _ (@Ar _ _ _ _ _ _ _ _ _ (Oo K) rfl Pj DA (@A0 _ _ _ _ _ (pv 11) (@A0 _ _ _ _ _ (@Jj _ _ (.ty "tuple") _ _ rfl OZ CH rfl (by decide) (by decide)) Ac (by rfl)) (by rfl)) (by decide) (by decide) (by rfl) (by rfl)) (by intro _; rfl))) (@KI _ _ _ _ _ _ _ (@At _ _ _ _ _ _ _ _ (neD K hr.units) (pv 11) (pv 8) (Ay _)) (@KH _ _ _ _ (@IF _ _ _ _ (@IE _ _ _ (@Ar _ _ _ _ _ _ _ _ _ (Oo K) rfl Pj DA (@A0 _ _ _ _ _ (@Aj _ _ _ _ _ _ _ (ixT K) (pv 11) Ab (fun u v => rfl)) (@A0 _ _ _ _ _ (@Jj _ _ (.ty "list") _ _ rfl P7 EI rfl (by decide) (by decide)) Ac (by rfl)) (by rfl)) (by decide) (by decide) (by rfl) (by rfl)) (by intro _; rfl))))))) (@Ag _ _ _ (@Av _ _ _ _ ML)) AI (by rfl) (by rfl)) (@Ad _ _ _ _ _ K _ (@AQ _ _ _ _ _ _ _ _ K _ _ (@At _ _ _ _ _ _ _ _ (neD K hr.units) (pv 9) (@AS _ _ _ _ (@A0 _ _ _ _ _ (pv 2) (@A0 _ _ _ _ _ (pv 7) Ac (by rfl)) (by rfl))) (Ay _)) (@Ag _ _ _ (@Av _ _ _ _ ML)) AI (by rfl) (by rfl)) (@Ag _ _ _ (@BQ _ _ _ _ (@Dg _ _ _ _ _ _ _ _ _ _ _ _ K PySem.F.plainAttrs_list PySem.F.slot_list_append PySem.F.type_list_append Cf (@Aj _ _ _ _ _ _ _ (ixT K) (pv 11) Ab (fun u v => rfl)) (@A0 _ _ _ _ _ Nj Ac (by rfl)) (by rfl) (by rfl) (by rfl) (by rfl) (by rfl) (by rfl)) (by rfl))) (by rfl)) (by rfl)) (by rfl)) (by rfl) (by intro _; rfl)) (@Ad _ _ _ _ _ K _ (@HB _ (["_law_x", "_law_curve_here"]) 1 ([5]) _ _ _ _ _ _ _ _ _ _ 7 _ _ _ rfl Br.nd rfl rfl (AZ.look (NX := ["_law_script", "_law_pen_here", "_law_places_here", "_law_width", "_law_most", "_law_curve_here", "_law_far", "_law_heights", "_law_due", "_law_handed", "_law_turn", "_law_found"]) (sc := Ae (top 57)) rfl rfl (by decide +kernel)) (@piL _ K _ _ _ (pv 2) (by rfl)) (fun u1 u2 u3 u4 u5 => (@Au _ _ 0 _ (show List.Nodup (["_law_x", "_law_curve_here"] : List Str) from by decide +kernel) rfl (Or.inl rfl) (by first   | exact .inl rfl   | exact .inr rfl   | assumption))) (AH (by decide)) (fun u1 u2 u3 u4 u5 => BE) (fun u1 u2 u3 u4 u5 => (@Am _ _ _ _ _ _ _ _ _ _ _ Pb hr rfl (@A0 _ _ _ _ _ (pv 1) (@A0 _ _ _ _ _ (pv 0) Ac (by rfl)) (by rfl)) (by decide) (by decide) (by rfl) (by rfl))) rfl (by intro _; rfl)) (@Ag _ _ _ (@Av _ _ _ _ (@Ji _ _ _ _ _ _ _ _ (eqD K hr.units) (@Am _ _ _ _ _ _ _ _ _ _ _ PC hr rfl (@A0 _ _ _ _ _ (pv 2) (@A0 _ _ _ _ _ (pv 7) (@A0 _ _ _ _ _ (pv 3) (@A0 _ _ _ _ _ (pv 4) Ac (by rfl)) (by rfl)) (by rfl)) (by rfl)) (by decide) (by decide) (by rfl) (by rfl)) (@AJ _ _ _ _ _ (@A0 _ _ _ _ _ GF (@A0 _ _ _ _ _ (pv 5) (@A0 _ _ _ _ _ (@AS _ _ _ _ Ac) Ac (by rfl)) (by rfl)) (by rfl))) (Ay _)))) (by rfl)) (by rfl)) (by rfl)) (by rfl)) (by rfl)) (by rfl)) (by rfl)) (by rfl)) (by rfl)) (by rfl)), ?_⟩
 obtain ⟨a0, ns, rfl, hS, h63, hTb, q⟩ := h
 have P0 : 0 ≤ sizeLine := by decide
 have P1 : 1 ≤ sizeLine := by decide
 have P2 : 2 ≤ sizeLine := by decide
 have P3 : 3 ≤ sizeLine := by decide
 have P60 : 60 ≤ sizeLine := by decide
 have C8 : J5 10 8 := by unfold J5; decide
 have C40 : J5 10 40 := by unfold J5; decide
 have ok1 : PyData.strOk "one" = true := by decide +kernel
 refine ⟨_, rfl, a0, ns, 0, rfl, hS, h63, by decide, by decide, fun p c0 c1 hp => ?_⟩
 have pn : Pen (upd H p (.lst [.int c0, .int c1, .int 0])) p := .put
 have tb : (upd H p (.lst [.int c0, .int c1, .int 0])) 172 = some (.tbl #[]) := (Af.new hp) _ _ hTb
 generalize upd H p (.lst [.int c0, .int c1, .int 0]) = H1 at pn tb ⊢
 clear hS hp hTb
 refine ⟨_, rfl, p, 8, rfl, pn, by decide, by decide, fun t l H2 zs qs W e m2 p2 lp et el hz hq1 hq8 hnd hb hW1 hWe => ?_⟩
 have tb := D3 tb pn m2
 refine ⟨t, _, rfl, SqT.of et, rfl, _, _, rfl, _, _, rfl, _, _, rfl, rfl, ?_⟩
 refine ⟨_, rfl, _, rfl, p, _, rfl, p2, by lia, by lia, fun cs rc H3 m3 p3 cc gc lc bc => ?_⟩
 have tb := D3 tb p2 m3
 have st : Cs7 K p l rc zs qs cs H3 := ⟨p3, lp, m3 _ _ lp el, Ax.mv hz p2 m3, cc⟩
 clear pn m2 p2 et el hz m3 p3 cc lp
 try dsimp only
 refine FV (L3 a0 p K fun a0 p K σ' G => ∃ (l rc : Addr) (zs : List V) (qs cs : List Rat) (W e nx : Nat), σ' = [some (.ref a0), some (.ref p), some (.ref l), some (.int (W : Int)), some (.int (e : Int)), some (.ref rc), none, none, none, none, none, none] ∧ Cs7 K p l rc zs qs cs G ∧ G 172 = some (.tbl #[]) ∧ qs.Nodup ∧ (∀ c ∈ qs, RB nx c) ∧ Cn cs ∧ cs.length ≤ W ∧ (∀ c ∈ cs, RB 8 c) ∧ 1 ≤ W ∧ 2 * e + W ≤ qs.length ∧ ((nx = 16 ∧ qs.length ≤ 8) ∨ (nx = 6 ∧ qs.length ≤ 12 ∧ W ≤ 3))) (fun nx hnx => ?_) ?_
 ·refine ⟨_, rfl, p, 3, rfl, st.pen, by decide, by decide, fun d H4 d0 d1 o4 p4 => ?_⟩
  have tb := D3 tb st.pen (AW.mv o4)
  have st := st.mv (AW.mv o4) p4
  refine ⟨rfl, _, rfl, ?_⟩
  refine Fn (fun _ => ?_) (fun _ => ?_)
  ·refine C7 ⟨_, rfl, p, 5, rfl, p4, by decide, by decide, fun f H8 f0 f1 o8 p8 => ⟨_, _, rfl, rfl, ?_⟩⟩
   obtain ⟨N, hN⟩ : ∃ N : Nat, 8 + f = (N : Int) := ⟨(8 + f).toNat, by lia⟩
   rw [hN]
   refine ⟨_, rfl, by lia, by lia, ?_⟩
   have tb := D3 tb p4 (AW.mv o8)
   refine GY (n := N) (L2 p H8 fun p H8 i ys G => Mv p H8 G ∧ Pen G p ∧ ys.length = i ∧ ∃ rs, Ax G ys rs ∧ rs.Nodup ∧ ∀ c ∈ rs, ∃ z : Int, c = (z : Rat) ∧ -18 ≤ z ∧ z < 3 * (i : Int) - 18) ⟨Mv.refl _ _, p8, rfl, [], .nil, List.nodup_nil, (fun _ h => nomatch h)⟩ (fun i ys G _ h => h.2.2.1) (QP (show N ≤ 60 by lia) P60) ?_ ?_
   ·rintro i ys G hi hR1
    obtain ⟨mg, pg, hyl, rs, hrs, hrn, hrz⟩ := hR1
    try clear hR1
    refine ⟨_, rfl, p, 3, rfl, pg, by decide, by decide, fun v G1 v0 v1 og pg1 => ⟨_, rfl, _, _, rfl, rfl, .inl ⟨by decide, by decide⟩, _, _, rfl, rfl, _, _, rfl, rfl, P2, fun t ht => ?_⟩⟩
    have nt := Af.new (o := .tup [.int (v + 3 * (0 + (i : Int)) - 18), .int 1]) ht
    refine ⟨(mg.trans (AW.mv og)).trans nt.mv, pg1.sm nt, by simp [hyl], rs ++ [((v + 3 * (0 + (i : Int)) - 18 : Int) : Rat)], Paired.snoc (Ax.same (Ax.mv hrs pg (AW.mv og)) nt) ⟨t, rfl, by rw [GV]; exact Aa⟩, ?_, fun c hc => ?_⟩
    ·rw [List.nodup_append]
     refine ⟨hrn, List.pairwise_singleton .., fun c hc d hd e => ?_⟩
     refine IY (hrz c hc) fun z hz153' => ?_
     refine Cy hz153' fun hq152 z1 z2 => ?_
     clear hz153'
     obtain rfl := hq152
     rw [Sh.mp hd] at e
     have := Jt e
     lia
    ·rcases QV.mp hc with z | z
     ·refine IY (hrz c z) fun w hz155' => ?_
      refine Cy hz155' fun hq154 w1 w2 => ?_
      clear hz155'
      obtain rfl := hq154
      exact ⟨w, rfl, w1, by lia⟩
     ·rw [Sh.mp z]
      exact ⟨_, rfl, by lia, by lia⟩
   rintro ys G hR2 l2 hl2
   obtain ⟨mg, pg, hyl, rs, hrs, hrn, hrz⟩ := hR2
   try clear hR2
   have n2 := Af.new (o := .lst ys) hl2
   have hrl := hrs.length
   have lp2 : l2 ≠ p := pg.ne' hl2
   have hbz : ∀ c ∈ rs, RB 6 c := fun c hc => by
    refine IY (hrz c hc) fun z hz158' => ?_
    refine Cy hz158' fun hq157 z1 z2 => ?_
    clear hz158'
    obtain rfl := hq157
    exact Dk (by unfold Bd; lia) (by decide)
   have tb := n2 _ _ (D3 tb p8 mg)
   have pg := pg.sm n2
   have hrs := Ax.same hrs n2
   have el2 := Aa (H := G) (a := l2) (o := .lst ys)
   generalize upd G l2 (.lst ys) = G2 at tb pg hrs el2 ⊢
   clear st n2 hl2 mg p4 o4 o8 p8 gc lc bc hnd hb hWe hW1
   refine ⟨_, rfl, p, 3, rfl, pg, by decide, by decide, fun w G3 w0 w1 o3 p3 => ⟨_, _, rfl, rfl, ?_⟩⟩
   obtain ⟨W, hW, hW1, hW3⟩ : ∃ W : Nat, 1 + w = (W : Int) ∧ 1 ≤ W ∧ W ≤ 3 := ⟨(1 + w).toNat, by lia, by lia, by lia⟩
   rw [hW]
   have m3 := AW.mv o3
   have el2 := m3 _ _ lp2 el2
   have hrs := Ax.mv hrs pg m3
   have tb := D3 tb pg m3
   clear o3 m3 pg
   refine ⟨_, rfl, _, rfl, l2, ys, rfl, .inl (SqL.of el2), _, rfl, _, _, rfl, rfl, _, _, rfl, rfl, by decide, ?_⟩
   obtain ⟨R, hR, hRn⟩ : ∃ R : Nat, ((ys.length : Nat) : Int) - (W : Int) = 2 * (R : Int) + (((ys.length : Nat) : Int) - (W : Int)) % 2 ∧ 2 * R + W ≤ rs.length := ⟨((((ys.length : Nat) : Int) - (W : Int)) / 2).toNat, by lia, by lia⟩
   have hF : (((ys.length : Nat) : Int) - (W : Int)).fdiv 2 = (R : Int) := by
    rw [Tl _ (by decide)]; lia
   rw [hF]
   refine ⟨_, _, rfl, rfl, p, _, rfl, p3, by lia, by lia, fun e G4 e0 e1 o4 p4 => ?_⟩
   obtain ⟨E, rfl⟩ : ∃ E : Nat, e = (E : Int) := ⟨e.toNat, by lia⟩
   have m4 := AW.mv o4
   have el2 := m4 _ _ lp2 el2
   have hrs := Ax.mv hrs p3 m4
   have tb := D3 tb p3 m4
   clear o4 m4 p3
   refine C7 ⟨_, rfl, _, _, rfl, rfl, _, rfl, by lia, by lia, ?_⟩
   rw [show ((W : Int) - 1).toNat = W - 1 by lia]
   refine GY (n := W - 1) (L3 p G4 K fun p G4 K i us G => Mv p G4 G ∧ Pen G p ∧ us.length = i ∧ ∃ ks, Ao K G us ks ∧ ∀ c ∈ ks, RB 8 c) ⟨Mv.refl _ _, p4, rfl, [], .nil, (fun _ h => nomatch h)⟩ (fun i us G _ h => h.2.2.1) (QP (show W - 1 ≤ 60 by lia) P60) ?_ ?_
   ·rintro i us G hi hR3
    obtain ⟨mg, pg, hul, ks, hks, hkb⟩ := hR3
    try clear hR3
    refine ⟨_, rfl, p, 7, rfl, pg, by decide, by decide, fun v G1 v0 v1 og pg1 => ⟨_, _, rfl, rfl, P2, fun t ht => ?_⟩⟩
    have nt := Af.new (o := .tup [.int (v - 3), .int 1]) ht
    refine ⟨(mg.trans (AW.mv og)).trans nt.mv, pg1.sm nt, by simp [hul], ks ++ [((v - 3 : Int) : Rat)], Paired.snoc (Ao.same (Ao.mv hks pg (AW.mv og)) nt) (AA.of (by rw [GV]; exact Aa)), fun c hc => ?_⟩
    rcases QV.mp hc with z | z
    ·exact hkb c z
    ·rw [Sh.mp z]
     exact Dk (by unfold Bd; lia) (by decide)
   rintro us G5 hR4 l5 hl5
   obtain ⟨mg, pg, hul, ks, hks, hkb⟩ := hR4
   try clear hR4
   have n5 := Af.new (o := .lst us) hl5
   have lp5 : l5 ≠ p := pg.ne' hl5
   have el2 := n5 _ _ (mg _ _ lp2 el2)
   have hrs := Ax.same (Ax.mv hrs p4 mg) n5
   have tb := n5 _ _ (D3 tb p4 mg)
   have pg := pg.sm n5
   have hks := Ao.same hks n5
   have el5 := Aa (H := G5) (a := l5) (o := .lst us)
   generalize upd G5 l5 (.lst us) = G6 at el2 hrs tb pg hks el5 ⊢
   clear n5 hl5 mg p4
   refine ⟨_, rfl, p, 3, rfl, pg, by decide, by decide, fun u G7 u0 u1 o7 p7 => ⟨_, _, rfl, rfl, P2, fun t1 g1 => ⟨P1, fun t2 g2 => ?_⟩⟩⟩
   have m7 := AW.mv o7
   have w1 := Af.new (o := .tup [.int (1 + u), .int 1]) g1
   have w2 := Af.new (o := .lst [.ref t1]) g2
   have w12 := w1.trans w2
   have hks := Ao.same (Ao.mv hks pg m7) w12
   have el5 := w12 _ _ (m7 _ _ lp5 el5)
   have e1 := w2 _ _ (Aa (H := G7) (a := t1) (o := .tup [.int (1 + u), .int 1]))
   refine ⟨l5, t2, _, _, rfl, rfl, el5, Aa, QP (show _ ≤ 60 by rw [RD]; lia) P60, fun l6 g6 => ?_⟩
   have w3 := Af.new (o := .lst (us ++ [.ref t1])) g6
   refine ⟨l6, _, rfl, .inl ⟨SqL.of Aa, fun rt g7 => ?_⟩⟩
   have w4 := Af.new (o := .tup (us ++ [.ref t1])) g7
   have w34 := w3.trans w4
   have w14 := w12.trans w34
   have hlk := hks.length
   refine hnx _ _ ⟨l2, rt, ys, rs, ks ++ [((1 + u : Int) : Rat)], W, E, 6, rfl, ⟨(p7.sm w12).sm w34, lp2, w14 _ _ (m7 _ _ lp2 el2), Ax.same (Ax.mv hrs pg m7) w14, ⟨_, SqT.of Aa, Paired.snoc (Ao.same hks w34) (AA.of (by rw [GV]; exact w34 _ _ e1))⟩⟩, w14 _ _ (D3 tb pg m7), hrn, hbz, .inr ⟨_, by rw [Ro, RD, T4, Ri (R3 _), Sz]; rfl, fun z => by have : (1 + u : Int) = 0 := Jt z; lia⟩, by rw [Ro, RD]; lia, fun c hc => ?_, hW1, by lia, .inr ⟨rfl, by lia, hW3⟩⟩
   rcases QV.mp hc with z | z
   ·exact hkb c z
   ·rw [Sh.mp z]
    exact Dk (by unfold Bd; lia) (by decide)
  ·exact hnx _ _ ⟨l, rc, zs, qs, cs, W, e, 16, rfl, st, tb, hnd, hb, gc, by lia, bc, hW1, hWe, .inl ⟨rfl, hq8⟩⟩
 clear st tb hq1 hq8 hnd hb hW1 hWe gc lc bc
 rintro σ' G0 hR5
 refine Ou hR5 fun l rc zs qs cs W e nx hz162' => ?_
 refine Oy hz162' fun hq161 st tb hnd hb gc lc bc hW1 hWe hhi => ?_
 clear hz162'
 obtain rfl := hq161
 try clear hR5
 try dsimp only
 refine Kx (s := Kr _ _ _) (L8 a0 p l W e K zs qs fun a0 p l W e K zs qs σ' G => ∃ (rc : Addr) (cs : List Rat) (z6 : Option V), σ' = [some (.ref a0), some (.ref p), some (.ref l), some (.int (W : Int)), some (.int (e : Int)), some (.ref rc), z6, none, none, none, none, none] ∧ Cs7 K p l rc zs qs cs G ∧ G 172 = some (.tbl #[]) ∧ Cn cs ∧ cs.length ≤ W ∧ (∀ c ∈ cs, RB 150 c)) (fun nx hnx => ?_) ?_
 ·refine ⟨_, rfl, p, 5, rfl, st.pen, by decide, by decide, fun d H4 d0 d1 o4 p4 => ?_⟩
  have tb := D3 tb st.pen (AW.mv o4)
  have st := st.mv (AW.mv o4) p4
  refine ⟨rfl, _, rfl, ?_⟩
  refine Fn (fun _ => ?_) (fun _ => ?_)
  ·refine ⟨_, _, rfl, rfl, C40, _, rfl, _, _, rfl, rfl, C8, p, _, rfl, st.pen, by decide, by decide, fun f G1 f0 f1 o1 p1 => ⟨_, _, rfl, rfl, ?_⟩⟩
   change f < 10 ^ 8 at f1
   have tb := D3 tb st.pen (AW.mv o1)
   have st := st.mv (AW.mv o1) p1
   obtain ⟨F, hF, hF0, hFb⟩ : ∃ F : Int, (10 : Int) ^ (40 : Int).toNat + f = F ∧ F ≠ 0 ∧ Bd 134 F := ⟨_, rfl, by show (10 : Int) ^ 40 + f ≠ 0; lia, by show ((10 : Int) ^ 40 + f).natAbs < 2 ^ 134; lia⟩
   rw [hF]
   clear o1 p1 o4 p4
   obtain ⟨xc, hxc, hnc⟩ := (id st.cc)
   have hxl := hnc.length
   refine C7 ⟨_, rfl, rc, rfl, ⟨_, hxc⟩, ?_⟩
   refine NA (xs := xc) (L4 G1 K cs F fun G1 K cs F i us G => Af G1 G ∧ us.length = i ∧ Ao K G us ((cs.take i).map fun x => (F : Rat) * x)) ⟨Af.refl _, rfl, .nil⟩ (fun i us G _ h => ⟨hxc.same h.1, h.2.1⟩) (QP (show xc.length ≤ 60 by lia) P60) ?_ ?_
   ·rintro i v us G hv ⟨sg, hul, hun⟩
    obtain ⟨x, hx, hvx⟩ := (Paired.get hnc hv)
    refine ⟨_, rfl, P2, fun t ht => ?_⟩
    have w1 := Af.new (o := .tup [.int F, .int 1]) ht
    refine ⟨_, rfl, _, _, (F : Rat), x, 134, 8, rfl, AA.of (by rw [GV]; exact Aa), (hvx.same sg).same w1, Dk hFb (by decide), bc x (Rn hx), by decide, fun pr hpr => ?_⟩
    have w2 := Af.new (o := nT ((F : Rat) * x)) hpr
    have w12 := w1.trans w2
    refine ⟨sg.trans w12, by simp [hul], ?_⟩
    rw [S3, hx, S4]
    exact Paired.snoc (Ao.same hun w12) (AA.of Aa)
   rintro us G ⟨sg, hul, hun⟩ lu hlu
   rw [hxl, To] at hun
   have w1 := Af.new (o := .lst us) hlu
   refine ⟨lu, us, rfl, .inl ⟨SqL.of Aa, fun rt hrt => ?_⟩⟩
   have w2 := Af.new (o := .tup us) hrt
   have sgw := (sg.trans w1).trans w2
   have st := st.same sgw
   have em : cs.map (fun x => (F : Rat) * x) = cs.map (· * (F : Rat)) := T9 fun x _ => Rat.mul_comm _ _
   refine hnx _ _ ⟨rt, cs.map fun x => (F : Rat) * x, _, rfl, ⟨st.pen, st.lp, st.el, st.nz, ⟨_, SqT.of Aa, Ao.same hun (w1.trans w2)⟩⟩, sgw _ _ tb, by rw [em]; exact IW gc (Nm.cast_ne hF0), by rw [Rp]; exact lc, fun c hc => ?_⟩
   obtain ⟨x, hx, rfl⟩ := (Sv.mp hc)
   exact ((Dk hFb (by decide)).times (bc x hx)).mono (by decide)
  ·exact hnx _ _ ⟨rc, cs, _, rfl, st, tb, gc, lc, fun c hc => (bc c hc).mono (by decide)⟩
 clear st tb gc lc bc
 rintro σ' G1 hR6
 refine D4 hR6 fun rc cs z6 hz164' => ?_
 refine Kd hz164' fun hq163 st tb gc lc bc => ?_
 clear hz164'
 obtain rfl := hq163
 try clear hR6
 obtain ⟨n, hqn⟩ : ∃ n, qs.length = n := ⟨_, rfl⟩
 have hn12 : 1 ≤ n ∧ n ≤ 12 := by lia
 have hW8 : W ≤ 8 := by lia
 have hcl : cs.length ≤ 8 := by lia
 have hnx : 1 ≤ nx ∧ nx ≤ 16 := by lia
 obtain ⟨ny, C, hny, hxy, hny2, hC, hG⟩ : ∃ ny C : Nat, (150 + nx * cs.length + 4) * (cs.length + 2) + 9 * e ≤ ny ∧ nx ≤ ny ∧ ny ≤ 7000 ∧ (nx + 1) * (n + 3) + ny + 2 ≤ C ∧ (gAS C n).2 + 3 * C ≤ 2000000 := by
  rcases hhi with ⟨rfl, h8⟩ | ⟨rfl, h12, h3⟩
  ·refine ⟨2900, 3100, ?_, by decide, by decide, by lia, QP (SR (CG 3100 (show n ≤ 8 by lia)) _) (by decide)⟩
   have := Tf (show 150 + 16 * cs.length + 4 ≤ 282 by lia) (show cs.length + 2 ≤ 10 by lia)
   lia
  ·refine ⟨920, 1040, ?_, by decide, by decide, by lia, QP (SR (CG 1040 (show n ≤ 12 by lia)) _) (by decide)⟩
   have := Tf (show 150 + 6 * cs.length + 4 ≤ 172 by lia) (show cs.length + 2 ≤ 5 by lia)
   lia
 clear hhi
 refine ⟨_, rfl, _, rfl, _, rfl, _, rfl, p, l, rc, e, zs, qs, cs, 150, nx, rfl, st.pen, st.lp, st.el, st.nz.nums, st.cc, by lia, by lia, by lia, hb, bc, by decide, by lia, by lia, fun lh G2 ys hs m2 p2 hno lhp eh hy hhl hbad bh => ?_⟩
 have tb := D3 tb st.pen m2
 have st := st.mv m2 p2
 have bh : ∀ y ∈ hs, RB ny y := fun y hy => (bh y hy).mono hny
 have hms : (AY qs hs cs).length ≤ e := by rw [DU]; exact hbad
 refine ⟨_, rfl, _, rfl, _, rfl, _, rfl, l, lh, rc, zs, ys, qs, hs, cs, 150, nx, rfl, SqL.of st.el, st.nz.nums, SqL.of eh, hy, st.cc, hhl, by lia, by lia, hb, bc, by decide, by lia, fun lm us rs G3 s3 hnm em hnu hperm hpw => ⟨P3, fun td htd => ?_⟩⟩
 have w4 := Af.new (o := .tup [.str "one", .ref rc, .ref lm]) htd
 have st := (st.same s3).same w4
 have eh := w4 _ _ (s3 _ _ eh)
 have hy := Ao.same (Ao.same hy s3) w4
 have em := w4 _ _ em
 have hnu := Ao.same hnu w4
 have etd := Aa (H := G3) (a := td) (o := .tup [.str "one", .ref rc, .ref lm])
 have tb := w4 _ _ (s3 _ _ tb)
 generalize upd G3 td (.tup [.str "one", .ref rc, .ref lm]) = G4 at st eh hy em hnu etd tb ⊢
 clear w4 s3 htd hnm hno m2 p2
 refine ⟨_, rfl, l, zs, rfl, .inl (SqL.of st.el), fun l1 h1 => ?_⟩
 have w1 := Af.new (o := .lst zs) h1
 refine ⟨_, rfl, lh, ys, rfl, .inl (SqL.of (w1 _ _ eh)), fun l2 h2 => ⟨P2, fun lg hg => ?_⟩⟩
 have w2 := Af.new (o := .lst ys) h2
 have w3 := Af.new (o := .lst [.ref l1, .ref l2]) hg
 have w13 := (w1.trans w2).trans w3
 have st := st.same w13
 have lo : Lp7 K 172 l1 l2 lg lh td lm rc zs ys us qs hs rs (upd (upd (upd G4 l1 (.lst zs)) l2 (.lst ys)) lg (.lst [.ref l1, .ref l2])) := ⟨w13 _ _ eh, Ao.same hy w13, SqT.of (w13 _ _ etd), w13 _ _ em, Ao.same hnu w13, Aa, (w2.trans w3) _ _ Aa, w3 _ _ Aa, NT (w13 _ _ tb)⟩
 generalize upd (upd (upd G4 l1 (.lst zs)) l2 (.lst ys)) lg (.lst [.ref l1, .ref l2]) = G5 at st lo ⊢
 clear w1 w2 w3 w13 h1 h2 hg eh hy em hnu etd tb
 have hhn : hs.length = n := by rw [hhl, hqn]
 refine ⟨_, rfl, by decide, by decide, ?_⟩
 refine BG (n := 2) (L21 a0 p l W e rc z6 lh td lg K zs qs cs l1 l2 lm ys us hs rs fun a0 p l W e rc z6 lh td lg K zs qs cs l1 l2 lm ys us hs rs i σ G => ∃ z10 z11, σ = [some (.ref a0), some (.ref p), some (.ref l), some (.int (W : Int)), some (.int (e : Int)), some (.ref rc), z6, some (.ref lh), some (.ref td), some (.ref lg), z10, z11] ∧ Cs7 K p l rc zs qs cs G ∧ Lp7 K 172 l1 l2 lg lh td lm rc zs ys us qs hs rs G) ⟨none, none, rfl, st, lo⟩ ?_ ?_
 ·rintro i σ G hi hR7
  refine C4 hR7 fun z10 z11 hz166' => ?_
  refine Cy hz166' fun hq165 st lo => ?_
  clear hz166'
  obtain rfl := hq165
  try clear hR7
  refine ⟨_, rfl, lg, _, 0, _, rfl, rfl, SqL.of lo.eg, rfl, _, rfl, lg, _, 1, _, rfl, rfl, SqL.of lo.eg, rfl, _, rfl, _, rfl, l1, l2, zs, ys, qs, hs, cs, W, e, n, nx, ny, 150, C, rfl, SqL.of lo.e1, st.nz, SqL.of lo.e2, lo.ny, hqn, hhn, by lia, hnd, hW1, hW8, by lia, hb, bh, hnx.1, by lia, hxy, hny2, hC, hG, lo.ct, gc, lc, bc, by decide, hms, fun t pc lw G1 vs ts m1 ct1 hT cC hnw ew hvs hp1 hpw1 => ?_⟩
  have ets : ts = rs := M7 hpw1 hpw (hp1.trans hperm.symm)
  subst ets
  have lo1 := lo.but m1 ct1
  have st1 := st.but lo.ct m1
  refine ⟨_, rfl, _, _, _, _, rfl, .tup hT, ND K, true, rfl, AR rfl ?_⟩
  refine ⟨_, rfl, _, rfl, ?_⟩
  refine Ov ok1 hT cC (SqL.of ew) hvs lo1.td st1.cc (SqL.of lo1.em) lo1.nm ?_
  refine ⟨_, rfl, AR rfl ?_⟩
  refine ⟨_, rfl, t, _, _, _, rfl, rfl, hT, rfl, _, _, _, _, rfl, .lst (SqL.of ew), NE K, true, rfl, AR rfl ?_⟩
  refine ⟨_, rfl, _, rfl, _, rfl, P2, fun lx hlx => ?_⟩
  have w1 := Af.new (o := .lst [.ref l, .ref lh]) hlx
  refine OQ (ps := [qs, hs]) (qs := [qs, hs]) (SqL.of (w1 _ _ lo1.eg)) (.cons ⟨l1, zs, rfl, SqL.of (w1 _ _ lo1.e1), (Ax.same st1.nz w1).nums⟩ (.cons ⟨l2, ys, rfl, SqL.of (w1 _ _ lo1.e2), Ao.same lo1.ny w1⟩ .nil)) (SqL.of Aa) (.cons ⟨l, zs, rfl, SqL.of (w1 _ _ st1.el), (Ax.same st1.nz w1).nums⟩ (.cons ⟨lh, ys, rfl, SqL.of (w1 _ _ lo1.eh), Ao.same lo1.ny w1⟩ .nil)) ?_
  refine ⟨_, rfl, AR (by rw [decide_eq_true rfl]; rfl) ?_⟩
  have hvl := hvs.length
  have hrl : vs.length < 300 := by rw [hvl, hp1.length_eq]; lia
  have ew1 := w1 _ _ ew
  refine ⟨_, rfl, t, _, _, _, rfl, rfl, hT.same w1, rfl, .inl ⟨rfl, _, SqL.of ew1⟩, lw, vs, .non, rfl, rfl, ew1, QI hrl (by decide), ?_⟩
  have mB : Bx 172 G (upd (upd G1 lx (.lst [.ref l, .ref lh])) lw (.lst (vs ++ [.non]))) := My (Bx.trans m1 w1.b) hnw
  have ctB := NS (ys := vs ++ [.non]) (ct1.same w1) ew1
  exact ⟨_, _, rfl, st.but lo.ct mB, lo.but mB ctB⟩
 clear st lo
 rintro σ G hR8
 refine C4 hR8 fun z10 z11 hz168' => ?_
 refine Cy hz168' fun hq167 st lo => ?_
 clear hz168'
 obtain rfl := hq167
 try clear hR8
 obtain ⟨xc, hxc, hnc⟩ := (id st.cc)
 have hzl := st.nz.length
 have hA : (150 + nx * cs.length + 4) * (cs.length + 2) ≤ 90000000 := by lia
 refine C7 ⟨_, rfl, l, rfl, ⟨_, SqL.of st.el⟩, ?_⟩
 refine Fl (xs := zs) (L5 G K qs cs ny fun G K qs cs ny i vs F => Af G F ∧ vs.length = i ∧ Ao K F vs ((qs.take i).map fun x => Cv.ev cs x) ∧ ∀ y ∈ (qs.take i).map (fun x => Cv.ev cs x), RB ny y) ⟨Af.refl _, rfl, .nil, (fun _ h => nomatch h)⟩ (fun i vs F _ h => ⟨SqL.of (h.1 _ _ st.el), h.2.1⟩) (QP (show zs.length ≤ 60 by lia) P60) ?_ ?_
 ·rintro i v vs F hv hR9
  refine DF hR9 fun sg hvl hvn hvb => ?_
  try clear hR9
  obtain ⟨x, hx, rx, rfl, hrx⟩ := (Paired.get st.nz hv)
  refine ⟨_, rfl, _, rfl, false, rc, rx, xc, cs, x, 150, nx, rfl, hxc.same sg, Ao.same hnc sg, AA.of (sg _ _ hrx), bc, hb x (Rn hx), hA, fun p1 F1 s1 e1 b1 => ?_⟩
  refine ⟨sg.trans s1, by simp [hvl], ?_, ?_⟩
  ·rw [S3, hx, S4]
   exact Paired.snoc (Ao.same hvn s1) (AA.of e1)
  ·intro y hy
   rw [S3, hx, S4] at hy
   rcases QV.mp hy with z | z
   ·exact hvb y z
   ·rw [Sh.mp z]
    have hk : (150 + nx * cs.length + 4) * (cs.length + 1) ≤ (150 + nx * cs.length + 4) * (cs.length + 2) := Ts _ (by lia)
    exact b1.mono (by lia)
 rintro vs F hR10 lv hlv
 refine DF hR10 fun sg hvl hvn hvb => ?_
 try clear hR10
 rw [hzl, To] at hvn hvb
 have w1 := Af.new (o := .lst vs) hlv
 have s1 := sg.trans w1
 have st := st.same s1
 have hm0 : AY qs (qs.map fun x => Cv.ev cs x) cs = [] := by unfold AY; rw [Fu]; rfl
 refine ⟨_, rfl, _, rfl, _, rfl, _, rfl, l, lv, zs, vs, qs, qs.map fun x => Cv.ev cs x, cs, W, e, n, nx, ny, 150, C, rfl, SqL.of st.el, st.nz, SqL.of Aa, Ao.same hvn w1, hqn, by rw [Rp]; exact hqn, by lia, hnd, hW1, hW8, by lia, hb, hvb, hnx.1, by lia, hxy, hny2, hC, hG, lo.ct.same s1, gc, lc, bc, by decide, by rw [hm0]; exact R5 _, fun t pc lw G1 us1 ts m1 ct1 hT cC hnw ew hvs hp1 hpw1 => ?_⟩
 rw [hm0] at hp1
 have ets := hp1.eq_nil
 subst ets
 have st := st.but (lo.ct.same s1) m1
 refine ⟨_, rfl, P0, fun l9 h9 => ⟨P3, fun t9 g9 => ?_⟩⟩
 have w9 := Af.new (o := .lst []) h9
 have w10 := Af.new (o := .tup [.str "one", .ref rc, .ref l9]) g9
 have w11 := w9.trans w10
 exact Ov ok1 (hT.same w11) (cC.same w11) (SqL.of (w11 _ _ ew)) (Ao.same hvs w11) (SqT.of Aa) (st.cc.same w11) (SqL.of (w10 _ _ Aa)) .nil (q _)
end
set_option maxHeartbeats 4000000 in
theorem NY {l : SZ} {w : World} {K : QO} {h : Heap} {mg : Str → Option Value} {fa f1 f2 f3 f4 f5 f6 f7 f8 f9 f10 f11 f12 f13 f14 f15 f16 f17 f18 f19 f20 f21 f22 f23 f24 f25 f26 f27 f28 f29 f30 f31 f32 f33 f34 f35 f36 f37 f38 f39 f40 f41 f42 f43 f44 : Addr} (hT : l.prog.given.tree = none) (X : K.In h) (G : h.Ns mainGlobals mg) (hfa : mg "law" = some (.ref fa))
 {od1 an1 od2 an2 od3 an3 od4 an4 od5 an5 od6 an6 od7 an7 od8 an8 od9 an9 od10 an10 od11 an11 od12 an12 od13 an13 od14 an14 od15 an15 od16 an16 od17 an17 od18 an18 od19 an19 od20 an20 od21 an21 od22 an22 od23 an23 od24 an24 od25 an25 od26 an26 od27 an27 od28 an28 od29 an29 od30 an30 od31 an31 od32 an32 od33 an33 od34 an34 od35 an35 od36 an36 od37 an37 od38 an38 od39 an39 od40 an40 od41 an41 od42 an42 od43 an43 od44 an44 : Option Addr} {sl1 sl2 sl3 sl4 sl5 sl6 sl7 sl8 sl9 sl10 sl11 sl12 sl13 sl14 sl15 sl16 sl17 sl18 sl19 sl20 sl21 sl22 sl23 sl24 sl25 sl26 sl27 sl28 sl29 sl30 sl31 sl32 sl33 sl34 sl35 sl36 sl37 sl38 sl39 sl40 sl41 sl42 sl43 sl44 : Array (Option Value)} {oc1 kV1 dc1 pm1 cd1 ct1 oc2 kV2 dc2 pm2 cd2 ct2 oc3 kV3 dc3 pm3 cd3 ct3 oc4 kV4 dc4 pm4 cd4 ct4 oc5 kV5 dc5 pm5 cd5 ct5 oc6 kV6 dc6 pm6 cd6 ct6 oc7 kV7 dc7 pm7 cd7 ct7 oc8 kV8 dc8 pm8 cd8 ct8 oc9 kV9 dc9 pm9 cd9 ct9 oc10 kV10 dc10 pm10 cd10 ct10 oc11 kV11 dc11 pm11 cd11 ct11 oc12 kV12 dc12 pm12 cd12 ct12 oc13 kV13 dc13 pm13 cd13 ct13 oc14 kV14 dc14 pm14 cd14 ct14 oc15 kV15 dc15 pm15 cd15 ct15 oc16 kV16 dc16 pm16 cd16 ct16 oc17 kV17 dc17 pm17 cd17 ct17 oc18 kV18 dc18 pm18 cd18 ct18 oc19 kV19 dc19 pm19 cd19 ct19 oc20 kV20 dc20 pm20 cd20 ct20 oc21 kV21 dc21 pm21 cd21 ct21 oc22 kV22 dc22 pm22 cd22 ct22 oc23 kV23 dc23 pm23 cd23 ct23 oc24 kV24 dc24 pm24 cd24 ct24 oc25 kV25 dc25 pm25 cd25 ct25 oc26 kV26 dc26 pm26 cd26 ct26 oc27 kV27 dc27 pm27 cd27 ct27 oc28 kV28 dc28 pm28 cd28 ct28 oc29 kV29 dc29 pm29 cd29 ct29 oc30 kV30 dc30 pm30 cd30 ct30 oc31 kV31 dc31 pm31 cd31 ct31 oc32 kV32 dc32 pm32 cd32 ct32 oc33 kV33 dc33 pm33 cd33 ct33 oc34 kV34 dc34 pm34 cd34 ct34 oc35 kV35 dc35 pm35 cd35 ct35 oc36 kV36 dc36 pm36 cd36 ct36 oc37 kV37 dc37 pm37 cd37 ct37 oc38 kV38 dc38 pm38 cd38 ct38 oc39 kV39 dc39 pm39 cd39 ct39 oc40 kV40 dc40 pm40 cd40 ct40 oc41 kV41 dc41 pm41 cd41 ct41 oc42 kV42 dc42 pm42 cd42 ct42 oc43 kV43 dc43 pm43 cd43 ct43 oc44 kV44 dc44 pm44 cd44 ct44 : Value}
 (a1 : Sn K mainGlobals "_law_pen" = some (some (.ref f1))) (l1 : K.lookup f1 = some ⟨oc1, od1, .func (Rr "_law_pen" "_law_pen" (An (top 44)) (Al (top 44)) (Ae (top 44)) .none kV1 dc1 pm1 an1 cd1 ct1), sl1⟩) (c1 : Rs K cd1 "_law_pen" = true) (k1 : R8 K (.ref f1) = true)
 (a2 : Sn K mainGlobals "_law_lowest" = some (some (.ref f2))) (l2 : K.lookup f2 = some ⟨oc2, od2, .func (Rr "_law_lowest" "_law_lowest" (An (top 46)) (Al (top 46)) (Ae (top 46)) .none kV2 dc2 pm2 an2 cd2 ct2), sl2⟩) (c2 : Rs K cd2 "_law_lowest" = true) (k2 : R8 K (.ref f2) = true)
 (a3 : Sn K mainGlobals "_law_draw" = some (some (.ref f3))) (l3 : K.lookup f3 = some ⟨oc3, od3, .func (Rr "_law_draw" "_law_draw" (An (top 45)) (Al (top 45)) (Ae (top 45)) .none kV3 dc3 pm3 an3 cd3 ct3), sl3⟩) (c3 : Rs K cd3 "_law_draw" = true) (k3 : R8 K (.ref f3) = true)
 (a4 : Sn K mainGlobals "_law_number" = some (some (.ref f4))) (l4 : K.lookup f4 = some ⟨oc4, od4, .func (Rr "_law_number" "_law_number" (An (top 50)) (Al (top 50)) (Ae (top 50)) .none kV4 dc4 pm4 an4 cd4 ct4), sl4⟩) (c4 : Rs K cd4 "_law_number" = true) (k4 : R8 K (.ref f4) = true)
 (a5 : Sn K mainGlobals "_law_plus" = some (some (.ref f5))) (l5 : K.lookup f5 = some ⟨oc5, od5, .func (Rr "_law_plus" "_law_plus" (An (top 47)) (Al (top 47)) (Ae (top 47)) .none kV5 dc5 pm5 an5 cd5 ct5), sl5⟩) (c5 : Rs K cd5 "_law_plus" = true) (k5 : R8 K (.ref f5) = true)
 (a6 : Sn K mainGlobals "_law_places" = some (some (.ref f6))) (l6 : K.lookup f6 = some ⟨oc6, od6, .func (Rr "_law_places" "_law_places" (An (top 53)) (Al (top 53)) (Ae (top 53)) .none kV6 dc6 pm6 an6 cd6 ct6), sl6⟩) (c6 : Rs K cd6 "_law_places" = true) (k6 : R8 K (.ref f6) = true)
 (a7 : Sn K mainGlobals "_law_held" = some (some (.ref f7))) (l7 : K.lookup f7 = some ⟨oc7, od7, .func (Rr "_law_held" "_law_held" (An (top 54)) (Al (top 54)) (Ae (top 54)) .none kV7 dc7 pm7 an7 cd7 ct7), sl7⟩) (c7 : Rs K cd7 "_law_held" = true) (k7 : R8 K (.ref f7) = true)
 (a8 : Sn K mainGlobals "_law_curve" = some (some (.ref f8))) (l8 : K.lookup f8 = some ⟨oc8, od8, .func (Rr "_law_curve" "_law_curve" (An (top 52)) (Al (top 52)) (Ae (top 52)) .none kV8 dc8 pm8 an8 cd8 ct8), sl8⟩) (c8 : Rs K cd8 "_law_curve" = true) (k8 : R8 K (.ref f8) = true)
 (a9 : Sn K mainGlobals "_law_times" = some (some (.ref f9))) (l9 : K.lookup f9 = some ⟨oc9, od9, .func (Rr "_law_times" "_law_times" (An (top 49)) (Al (top 49)) (Ae (top 49)) .none kV9 dc9 pm9 an9 cd9 ct9), sl9⟩) (c9 : Rs K cd9 "_law_times" = true) (k9 : R8 K (.ref f9) = true)
 (a10 : Sn K mainGlobals "_law_at" = some (some (.ref f10))) (l10 : K.lookup f10 = some ⟨oc10, od10, .func (Rr "_law_at" "_law_at" (An (top 51)) (Al (top 51)) (Ae (top 51)) .none kV10 dc10 pm10 an10 cd10 ct10), sl10⟩) (c10 : Rs K cd10 "_law_at" = true) (k10 : R8 K (.ref f10) = true)
 (a11 : Sn K mainGlobals "_law_planted" = some (some (.ref f11))) (l11 : K.lookup f11 = some ⟨oc11, od11, .func (Rr "_law_planted" "_law_planted" (An (top 55)) (Al (top 55)) (Ae (top 55)) .none kV11 dc11 pm11 an11 cd11 ct11), sl11⟩) (c11 : Rs K cd11 "_law_planted" = true) (k11 : R8 K (.ref f11) = true)
 (a12 : Sn K mainGlobals "_law_minus" = some (some (.ref f12))) (l12 : K.lookup f12 = some ⟨oc12, od12, .func (Rr "_law_minus" "_law_minus" (An (top 48)) (Al (top 48)) (Ae (top 48)) .none kV12 dc12 pm12 an12 cd12 ct12), sl12⟩) (c12 : Rs K cd12 "_law_minus" = true) (k12 : R8 K (.ref f12) = true)
 (a13 : Sn K mainGlobals "_law_missing" = some (some (.ref f13))) (l13 : K.lookup f13 = some ⟨oc13, od13, .func (Rr "_law_missing" "_law_missing" (An (top 56)) (Al (top 56)) (Ae (top 56)) .none kV13 dc13 pm13 an13 cd13 ct13), sl13⟩) (c13 : Rs K cd13 "_law_missing" = true) (k13 : R8 K (.ref f13) = true)
 (a14 : Sn K mainGlobals "are_unlike" = some (some (.ref f14))) (l14 : K.lookup f14 = some ⟨oc14, od14, .func (Rr "are_unlike" "are_unlike" (An (top 21)) (Al (top 21)) (Ae (top 21)) .none kV14 dc14 pm14 an14 cd14 ct14), sl14⟩) (c14 : Rs K cd14 "are_unlike" = true) (k14 : R8 K (.ref f14) = true)
 (a15 : Sn K mainGlobals "check_places" = some (some (.ref f15))) (l15 : K.lookup f15 = some ⟨oc15, od15, .func (Rr "check_places" "check_places" (An (top 22)) (Al (top 22)) (Ae (top 22)) .none kV15 dc15 pm15 an15 cd15 ct15), sl15⟩) (c15 : Rs K cd15 "check_places" = true) (k15 : R8 K (.ref f15) = true)
 (a16 : Sn K mainGlobals "check_heights" = some (some (.ref f16))) (l16 : K.lookup f16 = some ⟨oc16, od16, .func (Rr "check_heights" "check_heights" (An (top 26)) (Al (top 26)) (Ae (top 26)) .none kV16 dc16 pm16 an16 cd16 ct16), sl16⟩) (c16 : Rs K cd16 "check_heights" = true) (k16 : R8 K (.ref f16) = true)
 (a17 : Sn K mainGlobals "whole_height" = some (some (.ref f17))) (l17 : K.lookup f17 = some ⟨oc17, od17, .func (Rr "whole_height" "whole_height" (An (top 16)) (Al (top 16)) (Ae (top 16)) .none kV17 dc17 pm17 an17 cd17 ct17), sl17⟩) (c17 : Rs K cd17 "whole_height" = true) (k17 : R8 K (.ref f17) = true)
 (a18 : Sn K mainGlobals "lack_at" = some (some (.ref f18))) (l18 : K.lookup f18 = some ⟨oc18, od18, .func (Rr "lack_at" "lack_at" (An (top 28)) (Al (top 28)) (Ae (top 28)) .none kV18 dc18 pm18 an18 cd18 ct18), sl18⟩) (c18 : Rs K cd18 "lack_at" = true) (k18 : R8 K (.ref f18) = true)
 (a19 : Sn K mainGlobals "with_nought_at" = some (some (.ref f19))) (l19 : K.lookup f19 = some ⟨oc19, od19, .func (Rr "with_nought_at" "with_nought_at" (An (top 29)) (Al (top 29)) (Ae (top 29)) .none kV19 dc19 pm19 an19 cd19 ct19), sl19⟩) (c19 : Rs K cd19 "with_nought_at" = true) (k19 : R8 K (.ref f19) = true)
 (a20 : Sn K mainGlobals "common_measure" = some (some (.ref f20))) (l20 : K.lookup f20 = some ⟨oc20, od20, .func (Rr "common_measure" "common_measure" (An (top 6)) (Al (top 6)) (Ae (top 6)) .none kV20 dc20 pm20 an20 cd20 ct20), sl20⟩) (c20 : Rs K cd20 "common_measure" = true) (k20 : R8 K (.ref f20) = true)
 (a21 : Sn K mainGlobals "without_common" = some (some (.ref f21))) (l21 : K.lookup f21 = some ⟨oc21, od21, .func (Rr "without_common" "without_common" (An (top 30)) (Al (top 30)) (Ae (top 30)) .none kV21 dc21 pm21 an21 cd21 ct21), sl21⟩) (c21 : Rs K cd21 "without_common" = true) (k21 : R8 K (.ref f21) = true)
 (a22 : Sn K mainGlobals "both_with" = some (some (.ref f22))) (l22 : K.lookup f22 = some ⟨oc22, od22, .func (Rr "both_with" "both_with" (An (top 31)) (Al (top 31)) (Ae (top 31)) .none kV22 dc22 pm22 an22 cd22 ct22), sl22⟩) (c22 : Rs K cd22 "both_with" = true) (k22 : R8 K (.ref f22) = true)
 (a23 : Sn K mainGlobals "curve_of" = some (some (.ref f23))) (l23 : K.lookup f23 = some ⟨oc23, od23, .func (Rr "curve_of" "curve_of" (An (top 12)) (Al (top 12)) (Ae (top 12)) .none kV23 dc23 pm23 an23 cd23 ct23), sl23⟩) (c23 : Rs K cd23 "curve_of" = true) (k23 : R8 K (.ref f23) = true)
 (a24 : Sn K mainGlobals "number_of" = some (some (.ref f24))) (l24 : K.lookup f24 = some ⟨oc24, od24, .func (Rr "number_of" "number_of" (An (top 7)) (Al (top 7)) (Ae (top 7)) .none kV24 dc24 pm24 an24 cd24 ct24), sl24⟩) (c24 : Rs K cd24 "number_of" = true) (k24 : R8 K (.ref f24) = true)
 (a25 : Sn K mainGlobals "curve_over" = some (some (.ref f25))) (l25 : K.lookup f25 = some ⟨oc25, od25, .func (Rr "curve_over" "curve_over" (An (top 15)) (Al (top 15)) (Ae (top 15)) .none kV25 dc25 pm25 an25 cd25 ct25), sl25⟩) (c25 : Rs K cd25 "curve_over" = true) (k25 : R8 K (.ref f25) = true)
 (a26 : Sn K mainGlobals "pair_through" = some (some (.ref f26))) (l26 : K.lookup f26 = some ⟨oc26, od26, .func (Rr "pair_through" "pair_through" (An (top 32)) (Al (top 32)) (Ae (top 32)) .none kV26 dc26 pm26 an26 cd26 ct26), sl26⟩) (c26 : Rs K cd26 "pair_through" = true) (k26 : R8 K (.ref f26) = true)
 (a27 : Sn K mainGlobals "bottom_of" = some (some (.ref f27))) (l27 : K.lookup f27 = some ⟨oc27, od27, .func (Rr "bottom_of" "bottom_of" (An (top 13)) (Al (top 13)) (Ae (top 13)) .none kV27 dc27 pm27 an27 cd27 ct27), sl27⟩) (c27 : Rs K cd27 "bottom_of" = true) (k27 : R8 K (.ref f27) = true)
 (a28 : Sn K mainGlobals "tops_over" = some (some (.ref f28))) (l28 : K.lookup f28 = some ⟨oc28, od28, .func (Rr "tops_over" "tops_over" (An (top 14)) (Al (top 14)) (Ae (top 14)) .none kV28 dc28 pm28 an28 cd28 ct28), sl28⟩) (c28 : Rs K cd28 "tops_over" = true) (k28 : R8 K (.ref f28) = true)
 (a29 : Sn K mainGlobals "whole_product" = some (some (.ref f29))) (l29 : K.lookup f29 = some ⟨oc29, od29, .func (Rr "whole_product" "whole_product" (An (top 18)) (Al (top 18)) (Ae (top 18)) .none kV29 dc29 pm29 an29 cd29 ct29), sl29⟩) (c29 : Rs K cd29 "whole_product" = true) (k29 : R8 K (.ref f29) = true)
 (a30 : Sn K mainGlobals "by_steps" = some (some (.ref f30))) (l30 : K.lookup f30 = some ⟨oc30, od30, .func (Rr "by_steps" "by_steps" (An (top 39)) (Al (top 39)) (Ae (top 39)) .none kV30 dc30 pm30 an30 cd30 ct30), sl30⟩) (c30 : Rs K cd30 "by_steps" = true) (k30 : R8 K (.ref f30) = true)
 (a31 : Sn K mainGlobals "told_in" = some (some (.ref f31))) (l31 : K.lookup f31 = some ⟨oc31, od31, .func (Rr "told_in" "told_in" (An (top 23)) (Al (top 23)) (Ae (top 23)) .none kV31 dc31 pm31 an31 cd31 ct31), sl31⟩) (c31 : Rs K cd31 "told_in" = true) (k31 : R8 K (.ref f31) = true)
 (a32 : Sn K mainGlobals "knots_of" = some (some (.ref f32))) (l32 : K.lookup f32 = some ⟨oc32, od32, .func (Rr "knots_of" "knots_of" (An (top 24)) (Al (top 24)) (Ae (top 24)) .none kV32 dc32 pm32 an32 cd32 ct32), sl32⟩) (c32 : Rs K cd32 "knots_of" = true) (k32 : R8 K (.ref f32) = true)
 (a33 : Sn K mainGlobals "slopes_in" = some (some (.ref f33))) (l33 : K.lookup f33 = some ⟨oc33, od33, .func (Rr "slopes_in" "slopes_in" (An (top 35)) (Al (top 35)) (Ae (top 35)) .none kV33 dc33 pm33 an33 cd33 ct33), sl33⟩) (c33 : Rs K cd33 "slopes_in" = true) (k33 : R8 K (.ref f33) = true)
 (a34 : Sn K mainGlobals "first_row" = some (some (.ref f34))) (l34 : K.lookup f34 = some ⟨oc34, od34, .func (Rr "first_row" "first_row" (An (top 34)) (Al (top 34)) (Ae (top 34)) .none kV34 dc34 pm34 an34 cd34 ct34), sl34⟩) (c34 : Rs K cd34 "first_row" = true) (k34 : R8 K (.ref f34) = true)
 (a35 : Sn K mainGlobals "over" = some (some (.ref f35))) (l35 : K.lookup f35 = some ⟨oc35, od35, .func (Rr "over" "over" (An (top 9)) (Al (top 9)) (Ae (top 9)) .none kV35 dc35 pm35 an35 cd35 ct35), sl35⟩) (c35 : Rs K cd35 "over" = true) (k35 : R8 K (.ref f35) = true)
 (a36 : Sn K mainGlobals "minus" = some (some (.ref f36))) (l36 : K.lookup f36 = some ⟨oc36, od36, .func (Rr "minus" "minus" (An (top 8)) (Al (top 8)) (Ae (top 8)) .none kV36 dc36 pm36 an36 cd36 ct36), sl36⟩) (c36 : Rs K cd36 "minus" = true) (k36 : R8 K (.ref f36) = true)
 (a37 : Sn K mainGlobals "next_row" = some (some (.ref f37))) (l37 : K.lookup f37 = some ⟨oc37, od37, .func (Rr "next_row" "next_row" (An (top 36)) (Al (top 36)) (Ae (top 36)) .none kV37 dc37 pm37 an37 cd37 ct37), sl37⟩) (c37 : Rs K cd37 "next_row" = true) (k37 : R8 K (.ref f37) = true)
 (a38 : Sn K mainGlobals "table_of" = some (some (.ref f38))) (l38 : K.lookup f38 = some ⟨oc38, od38, .func (Rr "table_of" "table_of" (An (top 37)) (Al (top 37)) (Ae (top 37)) .none kV38 dc38 pm38 an38 cd38 ct38), sl38⟩) (c38 : Rs K cd38 "table_of" = true) (k38 : R8 K (.ref f38) = true)
 (a39 : Sn K mainGlobals "steps_of" = some (some (.ref f39))) (l39 : K.lookup f39 = some ⟨oc39, od39, .func (Rr "steps_of" "steps_of" (An (top 38)) (Al (top 38)) (Ae (top 38)) .none kV39 dc39 pm39 an39 cd39 ct39), sl39⟩) (c39 : Rs K cd39 "steps_of" = true) (k39 : R8 K (.ref f39) = true)
 (a40 : Sn K mainGlobals "curve_through" = some (some (.ref f40))) (l40 : K.lookup f40 = some ⟨oc40, od40, .func (Rr "curve_through" "curve_through" (An (top 40)) (Al (top 40)) (Ae (top 40)) .none kV40 dc40 pm40 an40 cd40 ct40), sl40⟩) (c40 : Rs K cd40 "curve_through" = true) (k40 : R8 K (.ref f40) = true)
 (a41 : Sn K mainGlobals "rising" = some (some (.ref f41))) (l41 : K.lookup f41 = some ⟨oc41, od41, .func (Rr "rising" "rising" (An (top 27)) (Al (top 27)) (Ae (top 27)) .none kV41 dc41 pm41 an41 cd41 ct41), sl41⟩) (c41 : Rs K cd41 "rising" = true) (k41 : R8 K (.ref f41) = true)
 (a42 : Sn K mainGlobals "height_at" = some (some (.ref f42))) (l42 : K.lookup f42 = some ⟨oc42, od42, .func (Rr "height_at" "height_at" (An (top 17)) (Al (top 17)) (Ae (top 17)) .none kV42 dc42 pm42 an42 cd42 ct42), sl42⟩) (c42 : Rs K cd42 "height_at" = true) (k42 : R8 K (.ref f42) = true)
 (a43 : Sn K mainGlobals "judged" = some (some (.ref f43))) (l43 : K.lookup f43 = some ⟨oc43, od43, .func (Rr "judged" "judged" (An (top 42)) (Al (top 42)) (Ae (top 42)) .none kV43 dc43 pm43 an43 cd43 ct43), sl43⟩) (c43 : Rs K cd43 "judged" = true) (k43 : R8 K (.ref f43) = true)
 (a44 : Sn K mainGlobals "law" = some (some (.ref f44))) (l44 : K.lookup f44 = some ⟨oc44, od44, .func (Rr "law" "law" (An (top 57)) (Al (top 57)) (Ae (top 57)) .none kV44 dc44 pm44 an44 cd44 ct44), sl44⟩) (c44 : Rs K cd44 "law" = true) (k44 : R8 K (.ref f44) = true)
 (z_len : Sn K mainGlobals "len" = some none)
 (z_abs : Sn K mainGlobals "abs" = some none)
 (z_range : Sn K mainGlobals "range" = some none)
 (z_tuple : Sn K mainGlobals "tuple" = some none)
 (z_set : Sn K mainGlobals "set" = some none)
 (z_reversed : Sn K mainGlobals "reversed" = some none)
 (z_zip : Sn K mainGlobals "zip" = some none)
 (z_sorted : Sn K mainGlobals "sorted" = some none)
 (z_list : Sn K mainGlobals "list" = some none)
 (z_isinstance : Sn K mainGlobals "isinstance" = some none)
 {t_MOST_TOLD : Tok} (x_MOST_TOLD : Sn K mainGlobals "MOST_TOLD" = some (some (.int 12 t_MOST_TOLD)))
 {g_NOUGHT : Addr} {o_NOUGHT : Obj} {v_NOUGHT : Array Value} {m_NOUGHT : Nat} (x_NOUGHT : Sn K mainGlobals "NOUGHT" = some (some (.ref g_NOUGHT))) (y_NOUGHT : K.lookup g_NOUGHT = some o_NOUGHT) (w_NOUGHT : o_NOUGHT.cls = .type "tuple") (d_NOUGHT : o_NOUGHT.data = .seq v_NOUGHT m_NOUGHT) (e_NOUGHT : v_NOUGHT.toList.map Ke = [some (.int (0 : Rat).num), some (.int ((0 : Rat).den : Int))])
 (h41 : Ef K f41 172 = true) :
 ∃ (fd : FuncData) (c : Addr), SV K c 172 = true ∧ (∀ (s : Shared) (v : Value), BindsTo s fd ⟨[v], []⟩ [("_law_script", v)]) ∧ ∀ base : Heap, K.In base → base.Ns mainGlobals mg → Bm mg base → AE l.prog w K mg base CX0 41 fa fd ["_law_script"] (EN K 172) := by
 obtain ⟨cc, hcc⟩ := Ka h41
 have e := hfa.symm.trans (Tz X G a44)
 cases e
 have OW := TB X G z_len
 have P5 := TB X G z_abs
 have OX := TB X G z_range
 have OZ := TB X G z_tuple
 have b_set := TB X G z_set
 have Pm := TB X G z_reversed
 have P4 := TB X G z_zip
 have Pp := TB X G z_sorted
 have P7 := TB X G z_list
 have Pj := TB X G z_isinstance
 have c_MOST_TOLD := Tz X G x_MOST_TOLD
 have c_NOUGHT := Tz X G x_NOUGHT
 have n_NOUGHT : ∀ H : Hp, AA K H (.ref g_NOUGHT) (0) := fun H => ⟨_, rfl, K9 y_NOUGHT w_NOUGHT d_NOUGHT e_NOUGHT⟩
 have F1 := Aw (st := top 44) l1 c1 k1
 have B1 := Fun.binds2 "_law_script" "_law_k" F1 fun _ _ _ _ _ _ _ _ => rfl
 have F2 := Aw (st := top 46) l2 c2 k2
 have B2 := Fun.binds2 "_law_top" "_law_bottom" F2 fun _ _ _ _ _ _ _ _ => rfl
 have F3 := Aw (st := top 45) l3 c3 k3
 have B3 := Fun.binds2 "_law_pen_here" "_law_many" F3 fun _ _ _ _ _ _ _ _ => rfl
 have F4 := Aw (st := top 50) l4 c4 k4
 have B4 := Fun.binds1 "_law_pen_here" F4 fun _ _ _ _ _ _ _ => rfl
 have F5 := Aw (st := top 47) l5 c5 k5
 have B5 := Fun.binds2 "_law_a" "_law_b" F5 fun _ _ _ _ _ _ _ _ => rfl
 have F6 := Aw (st := top 53) l6 c6 k6
 have B6 := Fun.binds2 "_law_pen_here" "_law_many" F6 fun _ _ _ _ _ _ _ _ => rfl
 have F7 := Aw (st := top 54) l7 c7 k7
 have B7 := Fun.binds2 "_law_pen_here" "_law_most" F7 fun _ _ _ _ _ _ _ _ => rfl
 have F8 := Aw (st := top 52) l8 c8 k8
 have B8 := Fun.binds2 "_law_pen_here" "_law_most" F8 fun _ _ _ _ _ _ _ _ => rfl
 have F9 := Aw (st := top 49) l9 c9 k9
 have B9 := Fun.binds2 "_law_a" "_law_b" F9 fun _ _ _ _ _ _ _ _ => rfl
 have F10 := Aw (st := top 51) l10 c10 k10
 have B10 := Fun.binds2 "_law_curve_here" "_law_x" F10 fun _ _ _ _ _ _ _ _ => rfl
 have F11 := Aw (st := top 55) l11 c11 k11
 have B11 := Fun.binds4 "_law_pen_here" "_law_places_here" "_law_curve_here" "_law_many" F11 fun _ _ _ _ _ _ _ _ _ _ => rfl
 have F12 := Aw (st := top 48) l12 c12 k12
 have B12 := Fun.binds2 "_law_a" "_law_b" F12 fun _ _ _ _ _ _ _ _ => rfl
 have F13 := Aw (st := top 56) l13 c13 k13
 have B13 := Fun.binds3 "_law_places_here" "_law_heights" "_law_curve_here" F13 fun _ _ _ _ _ _ _ _ _ => rfl
 have F14 := Aw (st := top 21) l14 c14 k14
 have B14 := Fun.binds1 "places" F14 fun _ _ _ _ _ _ _ => rfl
 have F15 := Aw (st := top 22) l15 c15 k15
 have B15 := Fun.binds2 "places" "fewest" F15 fun _ _ _ _ _ _ _ _ => rfl
 have F16 := Aw (st := top 26) l16 c16 k16
 have B16 := Fun.binds2 "places" "heights" F16 fun _ _ _ _ _ _ _ _ => rfl
 have F17 := Aw (st := top 16) l17 c17 k17
 have B17 := Fun.binds2 "tops" "x" F17 fun _ _ _ _ _ _ _ _ => rfl
 have F18 := Aw (st := top 28) l18 c18 k18
 have B18 := Fun.binds3 "pair" "x" "y" F18 fun _ _ _ _ _ _ _ _ _ => rfl
 have F19 := Aw (st := top 29) l19 c19 k19
 have B19 := Fun.binds2 "pair" "x" F19 fun _ _ _ _ _ _ _ _ => rfl
 have F20 := Aw (st := top 6) l20 c20 k20
 have B20 := Fun.binds2 "one" "other" F20 fun _ _ _ _ _ _ _ _ => rfl
 have F21 := Aw (st := top 30) l21 c21 k21
 have B21 := Fun.binds1 "tops" F21 fun _ _ _ _ _ _ _ => rfl
 have F22 := Aw (st := top 31) l22 c22 k22
 have B22 := Fun.binds3 "both" "x" "y" F22 fun _ _ _ _ _ _ _ _ _ => rfl
 have F23 := Aw (st := top 12) l23 c23 k23
 have B23 := Fun.binds1 "numbers" F23 fun _ _ _ _ _ _ _ => rfl
 have F24 := Aw (st := top 7) l24 c24 k24
 have B24 := Fun.binds2 "top" "bottom" F24 fun _ _ _ _ _ _ _ _ => rfl
 have F25 := Aw (st := top 15) l25 c25 k25
 have B25 := Fun.binds2 "tops" "bottom" F25 fun _ _ _ _ _ _ _ _ => rfl
 have F26 := Aw (st := top 32) l26 c26 k26
 have B26 := Fun.binds3 "places" "heights" "width" F26 fun _ _ _ _ _ _ _ _ _ => rfl
 have F27 := Aw (st := top 13) l27 c27 k27
 have B27 := Fun.binds1 "numbers" F27 fun _ _ _ _ _ _ _ => rfl
 have F28 := Aw (st := top 14) l28 c28 k28
 have B28 := Fun.binds2 "numbers" "bottom" F28 fun _ _ _ _ _ _ _ _ => rfl
 have F29 := Aw (st := top 18) l29 c29 k29
 have B29 := Fun.binds2 "first" "second" F29 fun _ _ _ _ _ _ _ _ => rfl
 have F30 := Aw (st := top 39) l30 c30 k30
 have B30 := Fun.binds2 "knots" "steps" F30 fun _ _ _ _ _ _ _ _ => rfl
 have F31 := Aw (st := top 23) l31 c31 k31
 have B31 := Fun.binds1 "points" F31 fun _ _ _ _ _ _ _ => rfl
 have F32 := Aw (st := top 24) l32 c32 k32
 have B32 := Fun.binds1 "points" F32 fun _ _ _ _ _ _ _ => rfl
 have F33 := Aw (st := top 35) l33 c33 k33
 have B33 := Fun.binds1 "points" F33 fun _ _ _ _ _ _ _ => rfl
 have F34 := Aw (st := top 34) l34 c34 k34
 have B34 := Fun.binds1 "points" F34 fun _ _ _ _ _ _ _ => rfl
 have F35 := Aw (st := top 9) l35 c35 k35
 have B35 := Fun.binds2 "a" "b" F35 fun _ _ _ _ _ _ _ _ => rfl
 have F36 := Aw (st := top 8) l36 c36 k36
 have B36 := Fun.binds2 "a" "b" F36 fun _ _ _ _ _ _ _ _ => rfl
 have F37 := Aw (st := top 36) l37 c37 k37
 have B37 := Fun.binds4 "ahead" "knots" "slopes" "k" F37 fun _ _ _ _ _ _ _ _ _ _ => rfl
 have F38 := Aw (st := top 37) l38 c38 k38
 have B38 := Fun.binds1 "points" F38 fun _ _ _ _ _ _ _ => rfl
 have F39 := Aw (st := top 38) l39 c39 k39
 have B39 := Fun.binds1 "points" F39 fun _ _ _ _ _ _ _ => rfl
 have F40 := Aw (st := top 40) l40 c40 k40
 have B40 := Fun.binds1 "points" F40 fun _ _ _ _ _ _ _ => rfl
 have F41 := Aw (st := top 27) l41 c41 k41
 have B41 := Fun.binds1 "places" F41 fun _ _ _ _ _ _ _ => rfl
 have F42 := Aw (st := top 17) l42 c42 k42
 have B42 := Fun.binds2 "curve" "x" F42 fun _ _ _ _ _ _ _ _ => rfl
 have F43 := Aw (st := top 42) l43 c43 k43
 have B43 := Fun.binds4 "places" "heights" "width" "most" F43 fun _ _ _ _ _ _ _ _ _ _ => rfl
 have F44 := Aw (st := top 57) l44 c44 k44
 refine ⟨Rr "law" "law" (An (top 57)) (Al (top 57)) (Ae (top 57)) .none kV44 dc44 pm44 an44 cd44 ct44, cc, hcc, fun s v => .of_eq rfl, fun base _ _ hbm => ?_⟩
 have Qf : Fd l.prog w K mg base 33 "_law_pen" ["_law_script", "_law_k"] (J9 K) := ⟨_, _, HN F1 OW hT, B1, k1, Tz X G a1⟩
 have Pk : Fd l.prog w K mg base 33 "_law_lowest" ["_law_top", "_law_bottom"] (Cz) := ⟨_, _, Fh F2 P5 hT, B2, k2, Tz X G a2⟩
 have Pe : Fd l.prog w K mg base 33 "_law_draw" ["_law_pen_here", "_law_many"] (D8) := ⟨_, _, GU F3 hT, B3, k3, Tz X G a3⟩
 have Pq : Fd l.prog w K mg base 34 "_law_number" ["_law_pen_here"] (FP 8) := ⟨_, _, Fg F4 Pk Pe hT, B4, k4, Tz X G a4⟩
 have Pr : Fd l.prog w K mg base 34 "_law_plus" ["_law_a", "_law_b"] (C5 K (· + ·)) := ⟨_, _, GS F5 Pk hT, B5, k5, Tz X G a5⟩
 have Qg : Fd l.prog w K mg base 35 "_law_places" ["_law_pen_here", "_law_many"] (Do K 8) := ⟨_, _, Ff F6 Pq Pr OX hT, B6, k6, Tz X G a6⟩
 have Qh : Fd l.prog w K mg base 36 "_law_held" ["_law_pen_here", "_law_most"] (Gy K) := ⟨_, _, GT F7 Qg Pe OW hT, B7, k7, Tz X G a7⟩
 have Qi : Fd l.prog w K mg base 35 "_law_curve" ["_law_pen_here", "_law_most"] (EC K 8) := ⟨_, _, FH F8 Pq Pe OZ OX hT, B8, k8, Tz X G a8⟩
 have PF : Fd l.prog w K mg base 34 "_law_times" ["_law_a", "_law_b"] (C5 K (· * ·)) := ⟨_, _, FF F9 Pk hT, B9, k9, Tz X G a9⟩
 have Ps : Fd l.prog w K mg base 35 "_law_at" ["_law_curve_here", "_law_x"] (FT K) := ⟨_, _, IP F10 Pr PF hT, B10, k10, Tz X G a10⟩
 have Qj : Fd l.prog w K mg base 36 "_law_planted" ["_law_pen_here", "_law_places_here", "_law_curve_here", "_law_many"] (Dn K) := ⟨_, _, Ev F11 Ps Pe Pq Pr OX OW hT, B11, k11, Tz X G a11⟩
 have Qk : Fd l.prog w K mg base 34 "_law_minus" ["_law_a", "_law_b"] (C5 K (· - ·)) := ⟨_, _, FG F12 Pk hT, B12, k12, Tz X G a12⟩
 have Ql : Fd l.prog w K mg base 36 "_law_missing" ["_law_places_here", "_law_heights", "_law_curve_here"] (Gw K) := ⟨_, _, Ew F13 Ps Qk OX OW hT, B13, k13, Tz X G a13⟩
 have Qm : Fd l.prog w K mg base 33 "are_unlike" ["places"] (DJ K) := ⟨_, _, FE F14 OW b_set hT, B14, k14, Tz X G a14⟩
 have Qn : Fd l.prog w K mg base 34 "check_places" ["places", "fewest"] (ED K) := ⟨_, _, Eu F15 Qm OW c_MOST_TOLD hT, B15, k15, Tz X G a15⟩
 have Qo : Fd l.prog w K mg base 35 "check_heights" ["places", "heights"] (DL K) := ⟨_, _, E9 F16 Qn OW hT, B16, k16, Tz X G a16⟩
 have PH : Fd l.prog w K mg base 33 "whole_height" ["tops", "x"] (Kw K) := ⟨_, _, Es F17 Pm hT, B17, k17, Tz X G a17⟩
 have Qp : Fd l.prog w K mg base 34 "lack_at" ["pair", "x", "y"] (Gx K) := ⟨_, _, IO F18 PH OW hT, B18, k18, Tz X G a18⟩
 have Qq : Fd l.prog w K mg base 33 "with_nought_at" ["pair", "x"] (EB K) := ⟨_, _, DQ F19 OX OW hT, B19, k19, Tz X G a19⟩
 have Pu : Fd l.prog w K mg base 33 "common_measure" ["one", "other"] (FQ) := ⟨_, _, DR F20 P5 hT, B20, k20, Tz X G a20⟩
 have Qr : Fd l.prog w K mg base 34 "without_common" ["tops"] (J8 K) := ⟨_, _, DP F21 Pu hT, B21, k21, Tz X G a21⟩
 have Qs : Fd l.prog w K mg base 35 "both_with" ["both", "x", "y"] (Gz K) := ⟨_, _, GR F22 Qp Qq Qr P4 hT, B22, k22, Tz X G a22⟩
 have Qt : Fd l.prog w K mg base 33 "curve_of" ["numbers"] (Dq K) := ⟨_, _, HL F23 OW OZ c_NOUGHT n_NOUGHT hT, B23, k23, Tz X G a23⟩
 have Pl : Fd l.prog w K mg base 34 "number_of" ["top", "bottom"] (Cz) := ⟨_, _, GN F24 Pu hT, B24, k24, Tz X G a24⟩
 have PJ : Fd l.prog w K mg base 35 "curve_over" ["tops", "bottom"] (BX K) := ⟨_, _, FD F25 Qt Pl hT, B25, k25, Tz X G a25⟩
 have Qu : Fd l.prog w K mg base 36 "pair_through" ["places", "heights", "width"] (Gu K) := ⟨_, _, Et F26 Qs PJ P4 OW hT, B26, k26, Tz X G a26⟩
 have Pw : Fd l.prog w K mg base 34 "bottom_of" ["numbers"] (FS K) := ⟨_, _, GQ F27 Pu hT, B27, k27, Tz X G a27⟩
 have PK : Fd l.prog w K mg base 33 "tops_over" ["numbers", "bottom"] (EM K) := ⟨_, _, GL F28 hT, B28, k28, Tz X G a28⟩
 have Qv : Fd l.prog w K mg base 33 "whole_product" ["first", "second"] (Gs K) := ⟨_, _, E7 F29 OX OW hT, B29, k29, Tz X G a29⟩
 have Qw : Fd l.prog w K mg base 36 "by_steps" ["knots", "steps"] (Dr K) := ⟨_, _, HM F30 Pw PK PJ Qv OX OW hT, B30, k30, Tz X G a30⟩
 have Qx : Fd l.prog w K mg base 33 "told_in" ["points"] (Ey K) := ⟨_, _, IN F31 OX OW hT, B31, k31, Tz X G a31⟩
 have PL : Fd l.prog w K mg base 34 "knots_of" ["points"] (D7 K) := ⟨_, _, HK F32 Qx hT, B32, k32, Tz X G a32⟩
 have Qy : Fd l.prog w K mg base 33 "slopes_in" ["points"] (Dm K) := ⟨_, _, GM F33 OW hT, B33, k33, Tz X G a33⟩
 have Qz : Fd l.prog w K mg base 33 "first_row" ["points"] (Gq K) := ⟨_, _, GP F34 OW hT, B34, k34, Tz X G a34⟩
 have E_over : Fd l.prog w K mg base 35 "over" ["a", "b"] (Gv K) := ⟨_, _, Mg F35 Pl hT, B35, k35, Tz X G a35⟩
 have E_minus : Fd l.prog w K mg base 35 "minus" ["a", "b"] (C5 K (· - ·)) := ⟨_, _, KO F36 Pl hT, B36, k36, Tz X G a36⟩
 have QA : Fd l.prog w K mg base 36 "next_row" ["ahead", "knots", "slopes", "k"] (CL K) := ⟨_, _, HJ F37 E_over E_minus OX OW hT, B37, k37, Tz X G a37⟩
 have QB : Fd l.prog w K mg base 37 "table_of" ["points"] (Ez K) := ⟨_, _, HH F38 PL Qy Qz QA OX OW hT, B38, k38, Tz X G a38⟩
 have QC : Fd l.prog w K mg base 38 "steps_of" ["points"] (EA K) := ⟨_, _, HI F39 QB hT, B39, k39, Tz X G a39⟩
 have QD : Fd l.prog w K mg base 39 "curve_through" ["points"] (Gp K) := ⟨_, _, E8 F40 Qw PL QC hT, B40, k40, Tz X G a40⟩
 have E_rising : Fd l.prog w K mg base 38 "rising" ["places"] (Gr K 172) := ⟨_, _, JR F41 Pw Pp hT hbm h41, B41, k41, Tz X G a41⟩
 have QE : Fd l.prog w K mg base 35 "height_at" ["curve", "x"] (Dp K) := ⟨_, _, GO F42 Pw PH Pl PK hT, B42, k42, Tz X G a42⟩
 have E_judged : Fd l.prog w K mg base 40 "judged" ["places", "heights", "width", "most"] (DK K 172) := ⟨_, _, JS F43 Qo Qu QD E_rising QE P7 OW P4 OZ c_NOUGHT n_NOUGHT hT, B43, k43, Tz X G a43⟩
 exact Nr F44 Qf Qh Qi Qj Pe Ql E_judged Ps PF OX OZ P7 Pj OW hT
theorem OC {l : SZ} {q : Program} {loose : List Str} {XP : (Str → Option Value) → Heap → Prop} {d : DefRec} {K : Params → QO} {as : List Addr} {e : ∀ P, as = (K P).map (·.1)} (hI : PyProof.Rows.importsNone q = true) (hn : l.most = some 63) (hdf : d.params.defaults = []) (has : as.contains 172 = false)
 (F : ∀ (w : World) (mg : Str → Option Value) (fa : Addr) (h : Heap), (K w.params).In h → h.Ns mainGlobals mg → mg d.name = some (.ref fa) →
  ∃ (fd : FuncData) (c : Addr), SV (K w.params) c 172 = true ∧ (∀ (s : Shared) (u : Value), BindsTo s fd ⟨[u], []⟩ [("_law_script", u)]) ∧ ∀ base : Heap, (K w.params).In base → base.Ns mainGlobals mg → Bm mg base → AE l.prog w (K w.params) mg base CX0 41 fa fd ["_law_script"] ((fun (K : QO) => (EN K 172 : Sp)) (K w.params))) :
 PySem.W.WalkO q loose XP (PySem.W.kmHook K as e [172]).says l.row.toRowW d [] (fun f vs => PySem.call f vs) :=
 L2.Kj (n := 63) (k := 41) (x := "_law_script") (Pt := 172) (CX := fun _ => CX0) (sp := fun w => (fun (K : QO) => (EN K 172 : Sp)) (K w.params)) hI hn (by decide) hdf ⟨rfl, by decide, by decide⟩ (fun w h Y => ⟨PySem.W.km_in_of Y, PySem.W.km_tabs_of Y _ QS, Mo (e _) has⟩) F (fun _ _ a ns hl _ hS hP => ⟨a, ns, rfl, hS, hl, hP, fun _ => rfl⟩) fun _ _ _ _ _ z => z
end Pf
def PySem.W.Fast.tw15091024814492085875 : Unit := ()
def PySem.W.Fast.tw12081254884292833103 : Unit := ()
def PySem.W.Fast.tw2837331665067168051 : Unit := ()
def PySem.W.Fast.tw14233921915738290529 : Unit := ()
def PySem.W.Fast.tw432226101985946122 : Unit := ()
def PySem.W.Fast.tw13916561301321891873 : Unit := ()
def PySem.W.Fast.tw2720076222363544502 : Unit := ()
def PySem.W.Fast.tw17167973874684930428 : Unit := ()
def PySem.W.Fast.tw5403343697376767719 : Unit := ()
def PySem.W.Fast.tw11808312436972005602 : Unit := ()
def PySem.W.Fast.tw10275602150217263125 : Unit := ()
def PySem.W.Fast.tw8763868771971966515 : Unit := ()
def PySem.W.Fast.tw2991728664840950684 : Unit := ()
def PySem.W.Fast.tw5416917595382067412 : Unit := ()
def PySem.W.Fast.tw9020425522588608206 : Unit := ()
def PySem.W.Fast.tw7590752766255610661 : Unit := ()
def PySem.W.Fast.tw1664565484188477885 : Unit := ()
def PySem.W.Fast.tw13754905458339523909 : Unit := ()
def PySem.W.Fast.tw1276683943055945914 : Unit := ()
def PySem.W.Fast.tw1430692352520292379 : Unit := ()
def PySem.W.Fast.tw13928387915203932070 : Unit := ()
def PySem.W.Fast.tw7530215313236078367 : Unit := ()
def PySem.W.Fast.tw4343914204897964843 : Unit := ()
def PySem.W.Fast.tw15218626352464744876 : Unit := ()
def PySem.W.Fast.tw14400753981030850234 : Unit := ()
def PySem.W.Fast.tw10811542651539183097 : Unit := ()
def PySem.W.Fast.tw8790912264102710150 : Unit := ()
def PySem.W.Fast.tw866161188849758388 : Unit := ()
def PySem.W.Fast.tw14231484980130939482 : Unit := ()
def PySem.W.Fast.tw5455939794077527427 : Unit := ()
def PySem.W.Fast.tw16997276078752017849 : Unit := ()
def PySem.W.Fast.tw2124634525548276240 : Unit := ()
def PySem.W.Fast.tw4587441148833107352 : Unit := ()
def PySem.W.Fast.tw899264970858987595 : Unit := ()
def PySem.W.Fast.tw9362320079230570024 : Unit := ()
def PySem.W.Fast.tw3309312695948258964 : Unit := ()
def PySem.W.Fast.tw963041098320070114 : Unit := ()
def PySem.W.Fast.tw1467716624304827519 : Unit := ()
def PySem.W.Fast.tw6636713489604187342 : Unit := ()
def PySem.W.Fast.tw6503715739568502108 : Unit := ()
def PySem.W.Fast.tw7449261921094773844 : Unit := ()
def PySem.W.Fast.tw7373796846570518361 : Unit := ()
def PySem.W.Fast.tw11006372358365787143 : Unit := ()
def PySem.W.Fast.tw14463636730016864398 : Unit := ()
def PySem.W.Fast.tw2830493395762352892 : Unit := ()
def PySem.W.Fast.tw6981183342760872648 : Unit := ()
def PySem.W.Fast.tw1544897289167913021 : Unit := ()
def PySem.W.Fast.tw3298858040341685973 : Unit := ()
def PySem.W.Fast.tw8045108649945944124 : Unit := ()
def PySem.W.Fast.tw13238040565510497567 : Unit := ()
def PySem.W.Fast.tw14597174331308801720 : Unit := ()
def PySem.W.Fast.tw6353349687286642865 : Unit := ()
def PySem.W.Fast.tw5890850647247920053 : Unit := ()
def PySem.W.Fast.tw647510490388785881 : Unit := ()
def PySem.W.Fast.tw16063726128260724608 : Unit := ()
def PySem.W.Fast.tw16394450125528349060 : Unit := ()
def PySem.W.Fast.tw2401894627395444340 : Unit := ()
def PySem.W.Fast.tw7336871845483123770 : Unit := ()
def PySem.W.Fast.tw15890156701997742320 : Unit := ()
def PySem.W.Fast.tw7009563959295541891 : Unit := ()
def PySem.W.Fast.tw340753938794192925 : Unit := ()
def PySem.W.Fast.tw1235170410206053593 : Unit := ()
def PySem.W.Fast.tw17705177786284094825 : Unit := ()
def PySem.W.Fast.tw10310618040418628729 : Unit := ()
def PySem.W.Fast.tw9845894878595376575 : Unit := ()
def PySem.W.Fast.tw7625881991779351532 : Unit := ()
def PySem.W.Fast.tw10743133677211529684 : Unit := ()
def PySem.W.Fast.tw14515376624707611122 : Unit := ()
def PySem.W.Fast.tw15685045415767532390 : Unit := ()
def PySem.W.Fast.tw3701337067006484255 : Unit := ()
def PySem.W.Fast.tw9604034074086903947 : Unit := ()
def PySem.W.Fast.tw13601153007403525402 : Unit := ()
def PySem.W.Fast.tw17923026457192352282 : Unit := ()
def PySem.W.Fast.tw11675612909381364083 : Unit := ()
def PySem.W.Fast.tw463018819282080651 : Unit := ()
def PySem.W.Fast.tw16536110435080409522 : Unit := ()
def PySem.W.Fast.tw8733026752356243411 : Unit := ()
def PySem.W.Fast.tw677637558762235788 : Unit := ()
def PySem.W.Fast.tw10551070091458039683 : Unit := ()
def PySem.W.Fast.tw6897545450374106651 : Unit := ()
def PySem.W.Fast.tw2969094208524014499 : Unit := ()
def PySem.W.Fast.tw8784038225404503601 : Unit := ()
def PySem.W.Fast.tw16903095735144027464 : Unit := ()
def PySem.W.Fast.tw4245550347227305936 : Unit := ()
def PySem.W.Fast.tw2828919805808564259 : Unit := ()
def PySem.W.Fast.tw13503760181716150594 : Unit := ()
def PySem.W.Fast.tw6053434565584158973 : Unit := ()
def PySem.W.Fast.tw16116334352626236151 : Unit := ()
def PySem.W.Fast.tw14547010965186547930 : Unit := ()
def PySem.W.Fast.tw14025760557617525417 : Unit := ()
open PySem PySem.W PyProof.Rows
set_option maxRecDepth 100000 in
set_option maxHeartbeats 0 in
theorem PySem.Challenge.cw_onecurve_k47_wrong_ones_found_holds : PySem.Challenge.rw_onecurve_k47_wrong_ones_found.Holds := by
 w_on; o_law; k_head; (case hw => w_witness2)
 k_fill
 refine Pf.OC (l := PySem.Challenge.rw_onecurve_k47_wrong_ones_found) (by decide +kernel) rfl rfl rfl ?F
 case F =>
  intro w mg fa h KX G hmg
  refine' Pf.NY rfl KX G hmg ?a1 ?l1 ?c1 ?k1 ?a2 ?l2 ?c2 ?k2 ?a3 ?l3 ?c3 ?k3 ?a4 ?l4 ?c4 ?k4 ?a5 ?l5 ?c5 ?k5 ?a6 ?l6 ?c6 ?k6 ?a7 ?l7 ?c7 ?k7 ?a8 ?l8 ?c8 ?k8 ?a9 ?l9 ?c9 ?k9 ?a10 ?l10 ?c10 ?k10 ?a11 ?l11 ?c11 ?k11 ?a12 ?l12 ?c12 ?k12 ?a13 ?l13 ?c13 ?k13 ?a14 ?l14 ?c14 ?k14 ?a15 ?l15 ?c15 ?k15 ?a16 ?l16 ?c16 ?k16 ?a17 ?l17 ?c17 ?k17 ?a18 ?l18 ?c18 ?k18 ?a19 ?l19 ?c19 ?k19 ?a20 ?l20 ?c20 ?k20 ?a21 ?l21 ?c21 ?k21 ?a22 ?l22 ?c22 ?k22 ?a23 ?l23 ?c23 ?k23 ?a24 ?l24 ?c24 ?k24 ?a25 ?l25 ?c25 ?k25 ?a26 ?l26 ?c26 ?k26 ?a27 ?l27 ?c27 ?k27 ?a28 ?l28 ?c28 ?k28 ?a29 ?l29 ?c29 ?k29 ?a30 ?l30 ?c30 ?k30 ?a31 ?l31 ?c31 ?k31 ?a32 ?l32 ?c32 ?k32 ?a33 ?l33 ?c33 ?k33 ?a34 ?l34 ?c34 ?k34 ?a35 ?l35 ?c35 ?k35 ?a36 ?l36 ?c36 ?k36 ?a37 ?l37 ?c37 ?k37 ?a38 ?l38 ?c38 ?k38 ?a39 ?l39 ?c39 ?k39 ?a40 ?l40 ?c40 ?k40 ?a41 ?l41 ?c41 ?k41 ?a42 ?l42 ?c42 ?k42 ?a43 ?l43 ?c43 ?k43 ?a44 ?l44 ?c44 ?k44 ?z_len ?z_abs ?z_range ?z_tuple ?z_set ?z_reversed ?z_zip ?z_sorted ?z_list ?z_isinstance ?x_MOST_TOLD ?x_NOUGHT ?y_NOUGHT ?w_NOUGHT ?d_NOUGHT ?e_NOUGHT ?h41
  (case a1 => k_is)
  (case l1 => k_is)
  (case c1 => k_is)
  (case k1 => k_is)
  (case a2 => k_is)
  (case l2 => k_is)
  (case c2 => k_is)
  (case k2 => k_is)
  (case a3 => k_is)
  (case l3 => k_is)
  (case c3 => k_is)
  (case k3 => k_is)
  (case a4 => k_is)
  (case l4 => k_is)
  (case c4 => k_is)
  (case k4 => k_is)
  (case a5 => k_is)
  (case l5 => k_is)
  (case c5 => k_is)
  (case k5 => k_is)
  (case a6 => k_is)
  (case l6 => k_is)
  (case c6 => k_is)
  (case k6 => k_is)
  (case a7 => k_is)
  (case l7 => k_is)
  (case c7 => k_is)
  (case k7 => k_is)
  (case a8 => k_is)
  (case l8 => k_is)
  (case c8 => k_is)
  (case k8 => k_is)
  (case a9 => k_is)
  (case l9 => k_is)
  (case c9 => k_is)
  (case k9 => k_is)
  (case a10 => k_is)
  (case l10 => k_is)
  (case c10 => k_is)
  (case k10 => k_is)
  (case a11 => k_is)
  (case l11 => k_is)
  (case c11 => k_is)
  (case k11 => k_is)
  (case a12 => k_is)
  (case l12 => k_is)
  (case c12 => k_is)
  (case k12 => k_is)
  (case a13 => k_is)
  (case l13 => k_is)
  (case c13 => k_is)
  (case k13 => k_is)
  (case a14 => k_is)
  (case l14 => k_is)
  (case c14 => k_is)
  (case k14 => k_is)
  (case a15 => k_is)
  (case l15 => k_is)
  (case c15 => k_is)
  (case k15 => k_is)
  (case a16 => k_is)
  (case l16 => k_is)
  (case c16 => k_is)
  (case k16 => k_is)
  (case a17 => k_is)
  (case l17 => k_is)
  (case c17 => k_is)
  (case k17 => k_is)
  (case a18 => k_is)
  (case l18 => k_is)
  (case c18 => k_is)
  (case k18 => k_is)
  (case a19 => k_is)
  (case l19 => k_is)
  (case c19 => k_is)
  (case k19 => k_is)
  (case a20 => k_is)
  (case l20 => k_is)
  (case c20 => k_is)
  (case k20 => k_is)
  (case a21 => k_is)
  (case l21 => k_is)
  (case c21 => k_is)
  (case k21 => k_is)
  (case a22 => k_is)
  (case l22 => k_is)
  (case c22 => k_is)
  (case k22 => k_is)
  (case a23 => k_is)
  (case l23 => k_is)
  (case c23 => k_is)
  (case k23 => k_is)
  (case a24 => k_is)
  (case l24 => k_is)
  (case c24 => k_is)
  (case k24 => k_is)
  (case a25 => k_is)
  (case l25 => k_is)
  (case c25 => k_is)
  (case k25 => k_is)
  (case a26 => k_is)
  (case l26 => k_is)
  (case c26 => k_is)
  (case k26 => k_is)
  (case a27 => k_is)
  (case l27 => k_is)
  (case c27 => k_is)
  (case k27 => k_is)
  (case a28 => k_is)
  (case l28 => k_is)
  (case c28 => k_is)
  (case k28 => k_is)
  (case a29 => k_is)
  (case l29 => k_is)
  (case c29 => k_is)
  (case k29 => k_is)
  (case a30 => k_is)
  (case l30 => k_is)
  (case c30 => k_is)
  (case k30 => k_is)
  (case a31 => k_is)
  (case l31 => k_is)
  (case c31 => k_is)
  (case k31 => k_is)
  (case a32 => k_is)
  (case l32 => k_is)
  (case c32 => k_is)
  (case k32 => k_is)
  (case a33 => k_is)
  (case l33 => k_is)
  (case c33 => k_is)
  (case k33 => k_is)
  (case a34 => k_is)
  (case l34 => k_is)
  (case c34 => k_is)
  (case k34 => k_is)
  (case a35 => k_is)
  (case l35 => k_is)
  (case c35 => k_is)
  (case k35 => k_is)
  (case a36 => k_is)
  (case l36 => k_is)
  (case c36 => k_is)
  (case k36 => k_is)
  (case a37 => k_is)
  (case l37 => k_is)
  (case c37 => k_is)
  (case k37 => k_is)
  (case a38 => k_is)
  (case l38 => k_is)
  (case c38 => k_is)
  (case k38 => k_is)
  (case a39 => k_is)
  (case l39 => k_is)
  (case c39 => k_is)
  (case k39 => k_is)
  (case a40 => k_is)
  (case l40 => k_is)
  (case c40 => k_is)
  (case k40 => k_is)
  (case a41 => k_is)
  (case l41 => k_is)
  (case c41 => k_is)
  (case k41 => k_is)
  (case a42 => k_is)
  (case l42 => k_is)
  (case c42 => k_is)
  (case k42 => k_is)
  (case a43 => k_is)
  (case l43 => k_is)
  (case c43 => k_is)
  (case k43 => k_is)
  (case a44 => k_is)
  (case l44 => k_is)
  (case c44 => k_is)
  (case k44 => k_is)
  (case z_len => k_is)
  (case z_abs => k_is)
  (case z_range => k_is)
  (case z_tuple => k_is)
  (case z_set => k_is)
  (case z_reversed => k_is)
  (case z_zip => k_is)
  (case z_sorted => k_is)
  (case z_list => k_is)
  (case z_isinstance => k_is)
  (case x_MOST_TOLD => k_is)
  (case x_NOUGHT => k_is)
  (case y_NOUGHT => k_is)
  (case w_NOUGHT => rfl)
  (case d_NOUGHT => rfl)
  (case e_NOUGHT => rfl)
  (case h41 => first | rfl | with_unfolding_all rfl)
#print axioms PySem.Challenge.cw_onecurve_k47_wrong_ones_found_holds
