import PyProof.Rows.All
import Wide.All
import OpenK.AllK
import Wide.FinOn
import Lean
import PyProof.EqAt
import PyProof.EqKinds
import PyProof.TupleCall
import KE.KDictList
import PySem.Challenge.RW_onecurve_k42_noughts_counted
open Option renaming some → Tb
open PySem.W renaming instObj → Tc,methodObj → Td,hideAll → Ti,of_hideAll → Tn,Frag → Tq,lookIn → TR,findIn → TU,specialIn → TV,keepIn → TX,kitOne → TY,kia_one → TZ,kitx_list → U0,callWith_K → U2,cellsFrom_some → U6,fnOf → Ui,codeIn → Uj,OpenLaw → Ux,nsIn → Vk,mg_of → Vl,exmOne → W4,mg_none_of → WD
open Nat renaming lt_of_lt_of_le → Te,lt_irrefl → Tf,ne_of_lt → Tg,le_trans → Tr,le_of_lt → Ts,ne_of_gt → TK,le_refl → TL,zero_le → TQ,min_eq_left → Ul,mul_comm → Uv,lt_of_le_of_lt → Uy,not_lt → V1,lt_succ_self → V5,le_succ → V6,sub_lt_sub_left → V8,pow_le_pow_right → Vb,pow_add → Vd,pow_succ → Ve,add_mul → Vh,one_mul → Vi,mul_le_mul_right → Vj,sub_zero → Vn,mul_add → Vq,one_le_two_pow → Vt,zero_add → Vx,add_sub_cancel → VG,sub_self → VJ,mul_le_mul → VU,mul_le_mul_left → Wf
open List renaming range → Th,mem_filter → Tj,mem_range → To,filterMap_cons → Tt,mem_cons_self → Tu,mem_cons_of_mem → Tv,mem_cons → Tw,mem_append → Tx,mem_append_left → Tz,getElem?_eq_some_iff → TC,getElem?_set_self → TF,getElem?_set_ne → TH,mem_filterMap → TM,mem_append_right → TN,append_nil → U1,nodup_cons → U3,of_mem_zip → U4,replicate → U5,length → U7,length_take → U8,getElem?_append_right → U9,getElem?_replicate → Ua,getElem?_append_left → Ub,getElem?_map → Uc,mem_of_getElem? → Ud,length_append → Ue,length_map → Ug,length_replicate → Uh,size_toArray → Um,length_set → Uo,replicate_succ → Uq,flatten_cons → Ur,append_assoc → Us,length_singleton → Ut,map_cons → Uw,find?_cons → Uz,length_cons → UA,length_nil → UB,length_pos_iff → UQ,getElem?_cons_succ → UR,map_set → US,take_add_one → UT,map_append → UU,take_length → UW,eq_nil_of_length_eq_zero → UX,lookup_cons → UZ,lookup → V0,getD_eq_getElem?_getD → V2,ext_getElem? → V3,getElem?_drop → V4,mem_singleton → V7,getElem?_eq_getElem → V9,getElem_mem → Va,drop_zero → Vm,drop_eq_getElem_cons → Vr,getElem?_eq_none → Vs,length_range → Vv,getElem?_range → Vw,map_map → Vz,map_congr_left → VA,take_of_length_le → VC,length_eq_zero_iff → VD,mem_map → VX,getElem?_of_mem → VY,mem_of_mem_take → VZ,filter_append → W5,length_filter_le → W6,range_succ → Wn,filter_cons_of_neg → Wo,filter_cons_of_pos → Wq,take_zero → Wz,filter_nil → WA,reverse_reverse → WC
open Array renaming length_toList → TJ,getElem?_toList → Uu,getElem?_setIfInBounds_ne → W2,getElem?_eq_some_iff → W3,getElem?_eq_getElem → W8
open Int renaming toNat_natCast → Uk,gcd → UC,mul_fdiv_cancel_left → UD,sign_eq_neg_one_of_neg → UG,one_mul → UH,sign_eq_one_of_pos → UI,mul_ne_zero → UL,natAbs_mul → Vc,natAbs_add_le → Vf,sub_eq_add_neg → Vg,pow_zero → Vo,pow_succ → Vp,mul_comm → VE,mul_assoc → VF,eq_of_mul_eq_mul_left → VH,pow_ne_zero → VI,one_pow → VL,pow_mul → VM,pow_add → VN,mul_zero → VO,fdiv → VW,mul_neg_of_pos_of_neg → W9,mul_pos → Wa,toNat_of_nonneg → Wc,mul_le_mul → Wg,le_refl → Wu,emod_nonneg → Ww,emod_lt_of_pos → Wx,natCast_nonneg → Wy
open Rat renaming divInt → UE,divInt_eq_div → UJ,div_mul_cancel → UK,intCast_add → UM,intCast_mul → UN,pow_zero → UO,pow_succ → UP,mul_eq_zero → UY,natCast_add → Vu,mul_comm → Vy,one_mul → VB,intCast_zero → VP,mul_inv_cancel → VR,mul_assoc → VS,mul_one → VT,zero_mul → W0,mul_zero → W7,div_def → Wb,num_natCast → Wd,den_natCast → We,mul_pos → Wh,le_refl → Wi,le_of_lt → Wj,mul_nonneg → Wk,num_eq_zero → Wl,num_nonneg → Wm,intCast_lt_intCast → Wr,inv_pos → Ws,neg_num → Wv
set_option Elab.async false
set_option linter.all false
set_option maxRecDepth 100000
namespace L2
open PySem PySem.Spec PyProof.Rows
abbrev Key:=Sum Int Str
def GQ : Key → Value → Bool
 | .inl k,v=>Value.isInt k v
 | .inr x,v=>Value.isStrOf x v
def R8 (w : World) : Key → Int
 | .inl k=>hashInt k
 | .inr x=>hashStr w x
theorem By : ∀ {k : Key} {v : Value},GQ k v = true → (∃ i t,k = Sum.inl i ∧ v = Value.int i t) ∨ (∃ x t,k = Sum.inr x ∧ v = Value.str x t)
 | .inl i,v,h=>by
   obtain ⟨t,e⟩:=Value.isInt_shape (k:=i) (v:=v) h
   exact .inl ⟨i,t,rfl,e⟩
 | .inr x,v,h=>by
   obtain ⟨t,e⟩:=Value.isStrOf_shape (x:=x) (v:=v) h
   exact .inr ⟨x,t,rfl,e⟩
theorem Lu (i : Int) (t : Tok) : GQ (.inl i) (.int i t) = true:=by simp [GQ,Value.isInt]
theorem Ls (x : Str) (t : Tok) : GQ (.inr x) (.str x t) = true:=by simp [GQ,Value.isStrOf]
theorem PL (a b : Int) : decide ((Sum.inl a : Key) = Sum.inl b) = (a == b):=by
 by_cases e : a = b
 ·subst e; simp
 ·have h : ¬ (Sum.inl a : Key) = Sum.inl b:=fun q=>e (Sum.inl.inj q)
  rw [decide_eq_false h]
  exact (beq_eq_false_iff_ne.mpr e).symm
theorem PF (a b : Str) : decide ((Sum.inr a : Key) = Sum.inr b) = decide (a = b):=by
 by_cases e : a = b
 ·subst e; simp
 ·have h : ¬ (Sum.inr a : Key) = Sum.inr b:=fun q=>e (Sum.inr.inj q)
  rw [decide_eq_false h,decide_eq_false e]
theorem PJ (a : Int) (b : Str) : decide ((Sum.inl a : Key) = Sum.inr b) = false:=decide_eq_false (fun q=>nomatch q)
theorem PH (a : Str) (b : Int) : decide ((Sum.inr a : Key) = Sum.inl b) = false:=decide_eq_false (fun q=>nomatch q)
def BM (prog : Program) (w : World) : PySem.KeyKind prog w Key where
 is:=GQ
 hash:=R8 w
 inj:=fun v a b ha hb=>by
  rcases By ha with ⟨i,t,rfl,rfl⟩ | ⟨x,t,rfl,rfl⟩
  ·rcases By hb with ⟨j,u,rfl,e⟩ | ⟨y,u,rfl,e⟩
   ·injection e with e1 _; rw [e1]
   ·exact nomatch e
  ·rcases By hb with ⟨j,u,rfl,e⟩ | ⟨y,u,rfl,e⟩
   ·exact nomatch e
   ·injection e with e1 _; rw [e1]
 byValue:=fun k v h=>by
  rcases By h with ⟨i,t,rfl,rfl⟩ | ⟨x,t,rfl,rfl⟩ <;> rfl
 pyHash:=fun hv h=>by
  rcases By hv with ⟨i,t,rfl,rfl⟩ | ⟨x,t,rfl,rfl⟩
  ·exact wpAny_pyHash_int h
  ·exact wpAny_pyHash_str h
 eqBool:=fun hu hv h=>by
  rcases By hu with ⟨i,t,rfl,rfl⟩ | ⟨x,t,rfl,rfl⟩
  ·rcases By hv with ⟨j,u,rfl,rfl⟩ | ⟨y,u,rfl,rfl⟩
   ·rw [PL] at h; exact wpAny_eqBool_int h
   ·rw [PJ] at h; exact SeqAt.EqAt.int_str i t y u _ _ _ _ h
  ·rcases By hv with ⟨j,u,rfl,rfl⟩ | ⟨y,u,rfl,rfl⟩
   ·rw [PH] at h; exact SeqAt.EqAt.str_int x t j u _ _ _ _ h
   ·rw [PF] at h; exact wpAny_eqBool_str h
 «strs»:=fun k x t v h=>by
  rcases By h with ⟨i,u,rfl,e⟩ | ⟨y,u,rfl,e⟩
  ·exact nomatch e
  ·injection e with e1 _
   subst e1
   cases v <;> rfl
theorem IU (prog : Program) (w : World) (i : Int) (t : Tok) : (BM prog w).is (.inl i) (.int i t) = true:=Lu i t
theorem IT (prog : Program) (w : World) (x : Str) (t : Tok) : (BM prog w).is (.inr x) (.str x t) = true:=Ls x t
end L2
namespace L2
open PySem PySem.Spec PyProof.Rows
inductive V where
 | non | bl (b : Bool) | int (i : Int) | str (x : Str) | byt (b : Array UInt8) | flt (b : UInt64) | ref (a : Addr) | ty (n : String)
 deriving DecidableEq
def AZ : V → Value → Prop
 | .non,u=>u = Value.none
 | .bl b,u=>u = Value.bool b
 | .int i,u=>∃ t,u = Value.int i t
 | .str x,u=>∃ t,u = Value.str x t
 | .byt b,u=>∃ t,u = Value.bytes b t
 | .flt b,u=>∃ t,u = Value.float b t
 | .ref a,u=>u = Value.ref a
 | .ty n,u=>u = Value.type n
abbrev AM : List V → List Value → Prop:=Paired AZ
theorem AM.length {xs : List V} {us : List Value} (r : AM xs us) : xs.length = us.length:=Paired.length r
theorem AM.get : ∀ {xs : List V} {us : List Value} {i : Nat} {x : V},AM xs us → xs[i]? = some x → ∃ u,us[i]? = some u ∧ AZ x u
 | _,_,_,_,.nil,e=>by simp at e
 | _,_,0,_,.cons r _,e=>by simp at e; subst e; exact ⟨_,rfl,r⟩
 | _,_,i + 1,x,.cons _ t,e=>by
   obtain ⟨u,h1,h2⟩:=AM.get (i:=i) (x:=x) t (by simpa using e)
   exact ⟨u,by simpa using h1,h2⟩
theorem AM.set {x : V} {u : Value} (r : AZ x u) : ∀ {xs : List V} {us : List Value} (i : Nat),AM xs us → AM (xs.set i x) (us.set i u)
 | _,_,_,.nil=>.nil
 | _,_,0,.cons _ t=>.cons r t
 | _,_,i + 1,.cons q t=>.cons q (AM.set r i t)
theorem AM.append {xs ys : List V} {us ws : List Value} (a : AM xs us) (b : AM ys ws) : AM (xs ++ ys) (us ++ ws):=by
 induction a with
 | nil=>exact b
 | cons r t ih=>exact .cons r ih
theorem AM.take : ∀ {xs : List V} {us : List Value} (n : Nat),AM xs us → AM (xs.take n) (us.take n)
 | _,_,0,_=>.nil
 | _,_,_ + 1,.nil=>.nil
 | _,_,n + 1,.cons r t=>.cons r (AM.take n t)
theorem AM.drop : ∀ {xs : List V} {us : List Value} (n : Nat),AM xs us → AM (xs.drop n) (us.drop n)
 | _,_,0,r=>r
 | _,_,_ + 1,.nil=>.nil
 | _,_,n + 1,.cons _ t=>AM.drop n t
def JW : Option V → Option Value → Prop
 | some v,some u=>AZ v u
 | none,none=>True
 | _,_=>False
def KV {κ : Type} : List (κ × V) → List (κ × Value) → Prop:=Paired fun (p : κ × V) (q : κ × Value)=>p.1 = q.1 ∧ AZ p.2 q.2
def kV : Key → V
 | .inl i=>.int i
 | .inr x=>.str x
inductive HO where
 | lst (xs : List V)
 | tup (xs : List V)
 | dK (kvs : List (Key × V)) | dT (kvs : List (List Key × V))
 | set (S : Int → Bool) (n : Nat)
 | ins (C dx : Addr) (fs : List (Str × V))
 | own (x : Addr)
 | xd (fs : List (Str × V))
 | met (f x : Addr)
 | rng (lo hi : Int)
 | frz (o : Obj) (u : HO)
 | tbl (ps : Array Value)
 | ext (φ : Heap → Prop)
abbrev Hp:=Addr → Option HO
def upd (H : Hp) (a : Addr) (o : HO) : Hp:=fun b=>if b = a then some o else H b
theorem Ae {H : Hp} {a : Addr} {o : HO} : upd H a o a = some o:=by unfold upd; rw [if_pos rfl]
theorem Aw {H : Hp} {a b : Addr} {o : HO} (h : b ≠ a) : upd H a o b = H b:=by unfold upd; rw [if_neg h]
theorem Np {H : Hp} {a : Addr} {o u : HO} : upd (upd H a o) a u = upd H a u:=by
 funext b; unfold upd; split <;> rfl
theorem CL {H : Hp} {a b : Addr} {o u : HO} (h : H a = some o) (h' : H b = some u) (d : o ≠ u) : a ≠ b:=by
 intro e; subst e; rw [h] at h'; exact d (Tb.inj h')
theorem AB {H : Hp} {a b : Addr} {o : HO} (h : H a = some o) (h' : H b = none) : a ≠ b:=by
 intro e; subst e; rw [h] at h'; cases h'
section
variable (P : Program) (w : World)
def Bh (H : Hp) (h : Heap) (a : Addr) : HO → Prop
 | .lst xs=>xs.length ≤ sizeLine ∧ ∃ (its : List Value) (n : Nat),AM xs its ∧ h.get? a = some { cls:=.type "list",data:=.seq its.toArray n }
 | .tup xs=>xs.length ≤ sizeLine ∧ ∃ its : List Value,AM xs its ∧ IsTup h a its.toArray
 | .dK kvs=>kvs.length ≤ sizeLine ∧ (a == sysModules) = false ∧ ∃ vs,KV kvs vs ∧ h.DictOf (BM P w) a vs
 | .dT kvs=>kvs.length ≤ sizeLine ∧ (a == sysModules) = false ∧ ∃ xs : List (List Key × Addr × Value),
  Paired (fun (p : List Key × V) (q : List Key × Addr × Value)=>p.1 = q.1 ∧ H q.2.1 = some (.tup (p.1.map kV)) ∧ AZ p.2 q.2.2) kvs xs ∧
  ∃ o es ep,h.get? a = some o ∧ o.ExactDict ∧ o.data = .dict es ep ∧ es.toList = xs.map (entryOfKey (tupleKind (BM P w))) ∧ (xs.map (·.1)).Nodup
 | .set S n=>h.SetOf (intKind P w) a S n
 | .ins C dx fs=>H dx = some (.own a) ∧ fs.length ≤ 1000 ∧ dx ≠ a ∧ h.get? a = some (Tc C dx) ∧
  ∃ mA,h.Ns1 dx mA ∧ (∀ f,JW (fs.lookup f) (mA f)) ∧ PySem.Within mA (fs.map (·.1))
 | .own _=>∃ o,h.get? a = some o
 | .xd fs=>∃ mA,h.Ns1 a mA ∧ ∀ f,JW (fs.lookup f) (mA f)
 | .rng lo hi=>∃ t u v,h.get? a = some { cls:=.type "range",data:=.fields #[.int lo t,.int hi u,.int 1 v] }
 | .frz o u=>h.get? a = some o ∧ Bh H h a u
 | .tbl ps=>h.get? a = some { cls:=.none,data:=.fields ps }
 | .met f x=>h.get? a = some (Td (.ref f) (.ref x))
 | .ext φ=>φ h ∧ (∃ o,h.get? a = some o) ∧ ∀ h1 h2 : Heap,φ h1 → (∀ o,h1.get? a = some o → h2.get? a = some o) → φ h2
def HOk (H : Hp) (h : Heap) : Prop:=∀ a o,H a = some o → Bh P w H h a o
end
section
variable {P : Program} {w : World} {H H' : Hp} {h h' : Heap} {a : Addr} {o : HO}
theorem Bh.lt (x : Bh P w H h a o) : a < h.objs.size:=by
 cases o with
 | lst xs=>obtain ⟨_,_,_,_,e⟩:=x; exact Heap.lt_size e
 | tup xs=>obtain ⟨_,_,_,p⟩:=x; exact p.lt
 | dK kvs=>obtain ⟨_,_,_,_,o,_,_,e,_⟩:=x; exact Heap.lt_size e
 | dT kvs=>obtain ⟨_,_,_,_,o,_,_,e,_⟩:=x; exact Heap.lt_size e
 | set S n=>obtain ⟨o,_,_,_,e,_⟩:=x; exact Heap.lt_size e
 | ins C dx fs=>obtain ⟨_,_,_,e,_⟩:=x; exact Heap.lt_size e
 | own y=>obtain ⟨_,e⟩:=x; exact Heap.lt_size e
 | xd fs=>obtain ⟨_,⟨_,_,_,e,_⟩,_⟩:=x; exact Heap.lt_size e
 | rng lo hi=>obtain ⟨_,_,_,e⟩:=x; exact Heap.lt_size e
 | frz ob u=>obtain ⟨e,_⟩:=x; exact Heap.lt_size e
 | tbl ps=>exact Heap.lt_size (show h.get? a = some _ from x)
 | met f y=>exact Heap.lt_size (show h.get? a = some _ from x)
 | ext φ=>obtain ⟨_,⟨_,e⟩,_⟩:=x; exact Heap.lt_size e
theorem Paired.mapP {α β : Type} {F G : α → β → Prop} {l₁ : List α} {l₂ : List β} (h : Paired F l₁ l₂) (f : ∀ a b,F a b → G a b) : Paired G l₁ l₂:=by
 induction h with
 | nil=>exact .nil
 | cons r t ih=>exact .cons (f _ _ r) ih
theorem Bh.stay (x : Bh P w H h a o) (k : ∀ b u,(b = a ∨ H b = some (.own a)) → h.get? b = some u → h'.get? b = some u)
 (ho : ∀ b,H b = some (.own a) → H' b = some (.own a)) (ht : ∀ b xs,H b = some (.tup xs) → H' b = some (.tup xs)) : Bh P w H' h' a o:=by
 induction o with
 | lst xs=>obtain ⟨z,its,n,r,e⟩:=x; exact ⟨z,its,n,r,k _ _ (.inl rfl) e⟩
 | tup xs=>obtain ⟨z,its,r,ob,e,c⟩:=x; exact ⟨z,its,r,ob,k _ _ (.inl rfl) e,c⟩
 | dK kvs=>obtain ⟨z,y,vs,r,ob,es,ep,e,c⟩:=x; exact ⟨z,y,vs,r,ob,es,ep,k _ _ (.inl rfl) e,c⟩
 | dT kvs =>
   obtain ⟨z,y,xs,r,ob,es,ep,e,c⟩:=x
   exact ⟨z,y,xs,Paired.mapP r fun p q z=>⟨z.1,ht _ _ z.2.1,z.2.2⟩,ob,es,ep,k _ _ (.inl rfl) e,c⟩
 | set S n=>obtain ⟨ob,es,ep,t,e,c⟩:=x; exact ⟨ob,es,ep,t,k _ _ (.inl rfl) e,c⟩
 | ins C dx fs =>
   obtain ⟨d,z,ne,e,mA,⟨od,es,ep,e2,c⟩,r⟩:=x
   exact ⟨ho _ d,z,ne,k _ _ (.inl rfl) e,mA,⟨od,es,ep,k _ _ (.inr d) e2,c⟩,r⟩
 | own y=>obtain ⟨ob,e⟩:=x; exact ⟨ob,k _ _ (.inl rfl) e⟩
 | xd fs=>obtain ⟨mA,⟨od,es,ep,e,c⟩,r⟩:=x; exact ⟨mA,⟨od,es,ep,k _ _ (.inl rfl) e,c⟩,r⟩
 | rng lo hi=>obtain ⟨t,u,v,e⟩:=x; exact ⟨t,u,v,k _ _ (.inl rfl) e⟩
 | frz ob u ih=>obtain ⟨e,q⟩:=x; exact ⟨k _ _ (.inl rfl) e,ih q⟩
 | tbl ps =>
   have e : h.get? a = some { cls:=.none,data:=.fields ps }:=x
   show h'.get? a = some { cls:=.none,data:=.fields ps }
   exact k a _ (.inl rfl) e
 | met f y =>
   have e : h.get? a = some (Td (.ref f) (.ref y)):=x
   show h'.get? a = some (Td (.ref f) (.ref y))
   exact k a _ (.inl rfl) e
 | ext φ=>obtain ⟨p,⟨o,e⟩,st⟩:=x; exact ⟨st _ _ p fun o q=>k _ _ (.inl rfl) q,⟨o,k _ _ (.inl rfl) e⟩,st⟩
theorem HOk.lt (x : HOk P w H h) (e : H a = some o) : a < h.objs.size:=(x a o e).lt
theorem HOk.fresh (x : HOk P w H h) (e : h.objs.size ≤ a) : H a = none:=by
 cases q : H a with
 | none=>rfl
 | some u=>exact absurd (Te (x.lt q) e) (Tf _)
theorem HOk.kept (x : HOk P w H h) (k : ∀ b u,h.get? b = some u → h'.get? b = some u) : HOk P w H h':=fun a o e =>
 (x a o e).stay (fun b u _ q=>k b u q) (fun _ q=>q) fun _ _ q=>q
theorem HOk.laid (x : HOk P w H h) (k : ∀ b u,h.get? b = some u → h'.get? b = some u) (hp : h.objs.size ≤ a) (new : Bh P w (upd H a o) h' a o) : HOk P w (upd H a o) h':=fun b u e=>by
 have hn:=x.fresh hp
 by_cases hb : b = a
 ·subst hb; rw [Ae] at e; cases e; exact new
 ·rw [Aw hb] at e
  exact (x b u e).stay (fun c v _ q=>k c v q) (fun c q=>by rw [Aw (AB q hn)]; exact q) fun c xs q=>by rw [Aw (AB q hn)]; exact q
end
def Rd (H : Hp) (a : Addr) (u : HO) : Prop:=H a = some u ∨ ∃ o,H a = some (.frz o u)
theorem Rd.ok {P : Program} {w : World} {H : Hp} {h : Heap} {a : Addr} {u : HO} (r : Rd H a u) (x : HOk P w H h) : Bh P w H h a u:=by
 rcases r with r | ⟨o,r⟩
 ·exact x a u r
 ·obtain ⟨_,q⟩:=x a _ r
  exact q
def Mut : Option HO → Prop
 | some (.lst _)=>True
 | some (.dK _)=>True
 | some (.dT _)=>True
 | some (.set _ _)=>True
 | some (.ins _ _ _)=>True
 | some (.ext _)=>True
 | _=>False
section
variable {P : Program} {w : World} {H : Hp} {h h' : Heap} {x e : Addr} {o' : HO}
theorem HOk.write (ok : HOk P w H h) (mu : Mut (H x)) (he : e = x ∨ H e = some (.own x)) (k : ∀ b u,b ≠ e → h.get? b = some u → h'.get? b = some u) (heo : ∃ u,h'.get? e = some u)
 (new : Bh P w (upd H x o') h' x o') : HOk P w (upd H x o') h':=fun b u q=>by
 have nown : ∀ c y,H c = some (.own y) → c ≠ x:=fun c y r z=>by subst z; rw [r] at mu; exact mu
 have ntup : ∀ c xs,H c = some (.tup xs) → c ≠ x:=fun c xs r z=>by subst z; rw [r] at mu; exact mu
 by_cases hb : b = x
 ·subst hb; rw [Ae] at q; cases q; exact new
 ·rw [Aw hb] at q
  by_cases hbe : b = e
  ·have q' : H b = some (.own x):=by
    rcases he with z | z
    ·exact absurd (hbe.trans z) hb
    ·rw [hbe]; exact z
   rw [q] at q'; cases q'
   obtain ⟨v,hv⟩:=heo
   exact ⟨v,by rw [hbe]; exact hv⟩
  ·refine (ok b u q).stay (fun c v hc r=>k c v ?_ r) (fun c r=>by rw [Aw (nown c b r)]; exact r) fun c xs r=>by rw [Aw (ntup c xs r)]; exact r
   rcases hc with rfl | hc
   ·exact hbe
   ·rintro rfl
    rcases he with z | z
    ·exact nown c b hc z
    ·rw [hc] at z; cases z; exact hb rfl
end
structure Un (fs ex : List Addr) (H H' : Hp) (h h' : Heap) : Prop where
 keep : ∀ b o,h.get? b = some o → H b = none → b ∉ fs → b ∉ ex → h'.get? b = some o
 slot : ∀ b o,h.get? b = some o → H b = none → b ∈ fs → b ∉ ex → ∃ sl,h'.get? b = some { o with slots:=sl }
 free : ∀ b o,h.get? b = some o → H b = none → b ∉ ex → H' b = none
 there : ∀ b o,h.get? b = some o → b ∉ ex → ∃ o',h'.get? b = some o'
 tups : ∀ b xs,H b = some (.tup xs) → H' b = some (.tup xs)
 frzs : ∀ b o u,H b = some (.frz o u) → H' b = some (.frz o u)
 tbls : ∀ b ps,H b = some (.tbl ps) → ∃ more,H' b = some (.tbl (ps ++ more))
section
variable {fs fs' ex ex' : List Addr} {H H1 H2 : Hp} {h h1 h2 h' : Heap} {a x e : Addr} {o : HO}
theorem Un.any (u : Un fs ex H H1 h h1) {b : Addr} {ob : Obj} (q : h.get? b = some ob) (n : H b = none) (hx : b ∉ ex) : ∃ sl,h1.get? b = some { ob with slots:=sl }:=by
 by_cases hb : b ∈ fs
 ·exact u.slot b ob q n hb hx
 ·exact ⟨ob.slots,u.keep b ob q n hb hx⟩
theorem Un.kept (k : ∀ b u,h.get? b = some u → h'.get? b = some u) : Un fs ex H H h h' :=
 ⟨fun b ob q _ _ _=>k b ob q,fun b ob q _ _ _=>⟨ob.slots,k b ob q⟩,fun _ _ _ n _=>n,fun b ob q _=>⟨ob,k b ob q⟩,fun _ _ q=>q,fun _ _ _ q=>q,fun _ ps q=>⟨#[],by rw [q]; simp⟩⟩
theorem Un.refl : Un fs ex H H h h:=Un.kept fun _ _ q=>q
theorem Un.laid (k : ∀ b u,h.get? b = some u → h'.get? b = some u) (hp : h.objs.size ≤ a) (hn : H a = none) : Un fs ex H (upd H a o) h h' where
 keep:=fun b u q _ _ _=>k b u q
 slot:=fun b u q _ _ _=>⟨u.slots,k b u q⟩
 free:=fun b u q n _=>by rw [Aw (Tg (Te (Heap.lt_size q) hp))]; exact n
 there:=fun b u q _=>⟨u,k b u q⟩
 tups:=fun b xs q=>by rw [Aw (AB q hn)]; exact q
 frzs:=fun b u xs q=>by rw [Aw (AB q hn)]; exact q
 tbls:=fun b ps q=>⟨#[],by rw [Aw (AB q hn),q]; simp⟩
theorem Un.write (mu : Mut (H x)) (he : e = x ∨ H e = some (.own x)) (k : ∀ b u,b ≠ e → h.get? b = some u → h'.get? b = some u) (heo : ∃ u,h'.get? e = some u) : Un fs ex H (upd H x o) h h':=by
 have hx : ∀ b,H b = none → b ≠ x:=fun b n z=>by subst z; rw [n] at mu; exact mu
 have hb : ∀ b,H b = none → b ≠ e:=fun b n z=>by
  subst z
  rcases he with r | r
  ·exact hx b n r
  ·rw [n] at r; cases r
 have hm : ∀ b u,H b = some u → ¬ Mut (some u) → b ≠ x:=fun b u q nm z=>by subst z; rw [q] at mu; exact nm mu
 refine ⟨fun b u q n _ _=>k b u (hb b n) q,fun b u q n _ _=>⟨u.slots,k b u (hb b n) q⟩,fun b u q n _=>by rw [Aw (hx b n)]; exact n,fun b u q _=>?_,
  fun b xs q=>by rw [Aw (hm b _ q fun z=>z)]; exact q,fun b u xs q=>by rw [Aw (hm b _ q fun z=>z)]; exact q,fun b ps q=>⟨#[],by rw [Aw (hm b _ q fun z=>z),q]; simp⟩⟩
 by_cases hbe : b = e
 ·subst hbe; exact heo
 ·exact ⟨u,k b u hbe q⟩
end
def trk (h : Heap) (H : Hp) : List Addr:=(Th h.objs.size).filter fun a=>(H a).isSome
def Gy (h : Heap) (H : Hp) : Heap:=Ti h (trk h H)
theorem LA (h : Heap) (H : Hp) : (Gy h H).objs.size = h.objs.size:=PySem.W.hideAll_size _ _
theorem MR {h : Heap} {H : Hp} {b : Addr} {o : Obj} (e : h.get? b = some o) (n : H b = none) : (Gy h H).get? b = some o :=
 PySem.W.hideAll_get _ e fun hm=>by
  have q : (H b).isSome = true:=(Tj.mp hm).2
  rw [n] at q; simp at q
theorem NJ {h : Heap} {H : Hp} {b : Addr} {o : Obj} (e : (Gy h H).get? b = some o) : h.get? b = some o ∧ H b = none:=by
 have e' : h.get? b = some o:=Tn (trk h H) e
 refine ⟨e',?_⟩
 cases q : H b with
 | none=>rfl
 | some x =>
   have hm : b ∈ trk h H:=Tj.mpr ⟨To.mpr (Heap.lt_size e'),by simp [q]⟩
   have z : (Gy h H).get? b = none:=PySem.W.hideAll_none (trk h H) hm
   rw [z] at e; cases e
def Od (g h : Heap) (L : Addr) : List (Addr × Obj):=(Th h.objs.size).filterMap fun a=>if a = L ∨ (g.get? a).isSome = true then none else (h.get? a).map fun o=>(a,o)
def rest (g h : Heap) (L d : Addr) : List (Addr × Obj):=(Od g h L).filter fun p=>decide (p.1 ≠ d)
end L2
namespace L2
open PySem PySem.Spec PyProof.Rows
structure Mod (K : Tq) (mg : Str → Option Value) (base : Heap) : Prop where
 kin : K.In base
 glob : base.Ns mainGlobals mg
 blt : ∃ mb,base.Ns builtinsNs mb ∧ ∀ x : Str,x ≠ "__name__" → mb x = bootBuiltins x
 nolimit : base.NoLimit
 seer : base.NoSeer
structure Cx where
 prog : Program
 w : World
 K : Tq
 mg : Str → Option Value
 base : Heap
 A : Around
 N : List Str
 s₀ : Shared
 H₀ : Hp
 env : Env
 outer : List Env
 stack : List Env
 ex : List Addr
 fn : Str → Bool
 calm : Bool
 pn : List (Addr × Obj)
 xe : Value → Shared → Prop
def frs (l : List Env) : List Addr:=l.filterMap (·.frame)
abbrev Cx.fs (X : Cx) : List Addr:=frs X.outer
def Vis (sc : Scope) (x : Str) : Prop:=sc.names.lookup x = some .local ∨ sc.names.lookup x = some .cell ∨ sc.names.lookup x = some .free
def Loc (sc : Scope) (x : Str) : Prop:=sc.names.lookup x = some .local ∨ sc.names.lookup x = some .cell
def QV (env : Env) (h : Heap) (m : Str → Option Value) (x : Str) (u : Value) : Prop :=
 (env.kindOf x = some .local ∧ m x = some u) ∨ ((env.kindOf x = some .cell ∨ env.kindOf x = some .free) ∧ ∃ c,env.cells.lookup x = some c ∧ h.IsCell c (some u))
structure Cx.Ok (X : Cx) : Prop where
 mod : Mod X.K X.mg X.base
 kind : X.env.scope.kind = .function
 glob : X.env.globals = mainGlobals
 blt : X.env.builtins = builtinsNs
 above : X.s₀.heap.objs.size ≤ X.env.locals
 inj : ∀ x y c,X.env.cells.lookup x = some c → X.env.cells.lookup y = some c → x = y
 has : ∀ x,(X.env.kindOf x = some .cell ∨ X.env.kindOf x = some .free) → ∃ c,X.env.cells.lookup x = some c
 cab : ∀ x c,X.fn x = true → X.env.cells.lookup x = some c → X.s₀.heap.objs.size ≤ c
 hd : X.calm = true → X.A.handled = none
 frames : X.A.frames = some X.stack
 stk : X.stack = X.outer ∨ (X.stack = X.env :: X.outer ∧ X.env.frame = some X.env.locals)
 exf : ∀ b ∈ X.ex,b ≠ X.env.locals ∧ ∀ x c,X.env.cells.lookup x = some c → c ≠ b
 bs : ∀ b o,X.base.get? b = some o → X.s₀.heap.get? b = some o ∧ X.H₀ b = none
 bsz : X.base.objs.size ≤ X.s₀.heap.objs.size
 noex : ∀ b o,X.base.get? b = some o → b ∉ X.ex
 exfs : ∀ b ∈ X.ex,b ∉ X.fs
 funs : X.s₀.heap.FunFrames X.base X.outer
 frf : ∀ b ∈ X.fs,X.H₀ b = none
structure Inv (X : Cx) (pins : List (Addr × Obj)) (σ : List (Option V)) (H : Hp) (s : Shared) : Prop where
 ok : X.Ok
 os : s.os = X.s₀.os
 bare : AllBare s.gens
 base : Un X.fs X.ex X.H₀ H X.s₀.heap s.heap
 loc : ∃ m,s.heap.Ns X.env.locals m ∧ ∀ (i : Nat) (x : Str) (v : V),X.N[i]? = some x → σ[i]? = some (some v) → Vis X.env.scope x → ∃ u,AZ v u ∧ QV X.env s.heap m x u
 cell : ∀ x c,X.env.cells.lookup x = some c → ∃ v,s.heap.IsCell c v
 free : H X.env.locals = none
 freeC : ∀ x c,X.env.cells.lookup x = some c → H c = none
 pin : ∀ p ∈ X.pn ++ pins,s.heap.get? p.1 = some p.2 ∧ H p.1 = none ∧ p.1 ≠ X.env.locals ∧ p.1 ∉ X.fs ∧ ∀ v,p.2.data ≠ .cell v
 hok : HOk X.prog X.w H s.heap
 len : σ.length = X.N.length
section
variable {X : Cx} {pins : List (Addr × Obj)} {σ : List (Option V)} {H H' : Hp} {s : Shared} {h' : Heap}
theorem Cx.Ok.nofr (ok : X.Ok) {b : Addr} {o : Obj} (e : X.base.get? b = some o) : b ∉ X.fs:=fun hb=>by
 have:=(ok.funs.mem hb).1
 rw [e] at this; cases this
theorem Inv.bs (I : Inv X pins σ H s) : ∀ b o,X.base.get? b = some o → s.heap.get? b = some o ∧ H b = none:=fun b o e =>
 ⟨I.base.keep b o (I.ok.bs b o e).1 (I.ok.bs b o e).2 (I.ok.nofr e) (I.ok.noex b o e),I.base.free b o (I.ok.bs b o e).1 (I.ok.bs b o e).2 (I.ok.noex b o e)⟩
theorem Inv.bk (I : Inv X pins σ H s) : ∀ b o,X.base.get? b = some o → s.heap.get? b = some o:=fun b o e=>(I.bs b o e).1
theorem Inv.mod (I : Inv X pins σ H s) : Mod X.K X.mg X.base:=I.ok.mod
theorem Inv.kIn (I : Inv X pins σ H s) : X.K.In s.heap:=I.ok.mod.kin.keeps I.bk
theorem Inv.nolimit (I : Inv X pins σ H s) : s.heap.NoLimit:=I.ok.mod.nolimit.keeps I.bk
theorem Inv.lt (I : Inv X pins σ H s) : X.env.locals < s.heap.objs.size:=let ⟨_,hn,_⟩:=I.loc; hn.lt
theorem Inv.sz (I : Inv X pins σ H s) : X.s₀.heap.objs.size ≤ s.heap.objs.size:=Tr I.ok.above (Ts I.lt)
theorem Inv.nofs (I : Inv X pins σ H s) {a : Addr} (h : s.heap.objs.size ≤ a) : a ∉ X.fs:=fun hb=>by
 obtain ⟨_,o,ho,_⟩:=I.ok.funs.mem hb
 exact absurd (Te (Heap.lt_size ho) (Tr I.sz h)) (Tf _)
theorem Inv.cne (I : Inv X pins σ H s) : ∀ x c,X.env.cells.lookup x = some c → c ≠ X.env.locals:=fun x c e z=>by
 obtain ⟨v,o,ho,hd⟩:=I.cell x c e
 obtain ⟨m,⟨o',es,ep,ho',hd',_⟩,_⟩:=I.loc
 rw [z,ho'] at ho; cases ho; rw [hd'] at hd; cases hd
theorem Inv.funs (I : Inv X pins σ H s) : s.heap.FunFrames X.base X.outer:=by
 have all : ∀ (l : List Env),(∀ b ∈ frs l,b ∈ X.fs) → X.s₀.heap.FunFrames X.base l → s.heap.FunFrames X.base l:=by
  intro l
  induction l with
  | nil=>intro _ _; trivial
  | cons env r ih =>
    intro hs hl
    obtain ⟨hk,⟨L,o,hf,hn,ho,hd⟩,hr⟩:=hl
    have hL : L ∈ X.fs:=hs L (by unfold frs; rw [Tt,hf]; exact Tu)
    obtain ⟨sl,e⟩:=I.base.slot L o ho (I.ok.frf L hL) hL fun z=>I.ok.exfs L z hL
    exact ⟨hk,⟨L,_,hf,hn,e,hd⟩,ih (fun b hb=>hs b (by unfold frs; rw [Tt,hf]; exact Tv _ hb)) hr⟩
 exact all X.outer (fun _ hb=>hb) I.ok.funs
theorem Inv.stack (I : Inv X pins σ H s) : s.heap.FunFrames X.base X.stack:=by
 rcases I.ok.stk with e | ⟨e,hf⟩
 ·rw [e]; exact I.funs
 ·rw [e]
  obtain ⟨m,hn,_⟩:=I.loc
  refine .cons (by rw [I.ok.kind]; decide) hf hn ?_ I.funs
  exact Heap.get?_none_of_le (Tr I.ok.bsz I.ok.above)
theorem Inv.stkSub (I : Inv X pins σ H s) : ∀ b ∈ frs X.stack,b ∈ X.env.locals :: X.fs:=fun b hb=>by
 rcases I.ok.stk with e | ⟨e,hf⟩
 ·rw [e] at hb; exact Tv _ hb
 ·rw [e] at hb
  unfold frs at hb
  rw [Tt,hf] at hb
  exact hb
theorem Inv.stkFree (I : Inv X pins σ H s) : ∀ b ∈ frs X.stack,H b = none:=fun b hb=>by
 rcases Tw.mp (I.stkSub b hb) with e | hb
 ·rw [e]; exact I.free
 ·obtain ⟨_,o,ho,_⟩:=I.ok.funs.mem hb
  exact I.base.free b o ho (I.ok.frf b hb) fun z=>I.ok.exfs b z hb
theorem Inv.step {g' : Array GenState} {t' : Nat} {d' : Drawn} {ch : List Addr} (I : Inv X pins σ H s)
 (hch : ∀ b ∈ ch,(b ∈ X.ex ∨ X.s₀.heap.objs.size ≤ b) ∧ b ≠ X.env.locals ∧ (∀ x c,X.env.cells.lookup x = some c → c ≠ b) ∧ ∀ p ∈ X.pn ++ pins,p.1 ≠ b)
 (keep : ∀ b o,b ≠ X.env.locals → b ∉ X.fs → b ∉ ch → s.heap.get? b = some o → H b = none → h'.get? b = some o)
 (slot : ∀ b o,b ≠ X.env.locals → b ∈ X.fs → b ∉ ch → s.heap.get? b = some o → H b = none → ∃ sl,h'.get? b = some { o with slots:=sl }) (free : ∀ b o,b ∉ ch → s.heap.get? b = some o → H b = none → H' b = none)
 (there : ∀ b o,b ∉ ch → s.heap.get? b = some o → ∃ o',h'.get? b = some o')
 (tups : ∀ b xs,H b = some (.tup xs) → H' b = some (.tup xs)) (frzs : ∀ b o u,H b = some (.frz o u) → H' b = some (.frz o u)) (tbls : ∀ b ps,H b = some (.tbl ps) → ∃ more,H' b = some (.tbl (ps ++ more)))
 (ns : ∀ m,s.heap.Ns X.env.locals m → h'.Ns X.env.locals m) (hok : HOk X.prog X.w H' h') (hg : AllBare g') :
 Inv X pins σ H' { s with heap:=h',gens:=g',drawn:=d',toks:=t' }:=by
 have neL : ∀ b o,X.s₀.heap.get? b = some o → b ≠ X.env.locals:=fun b o e=>Tg (Te (Heap.lt_size e) I.ok.above)
 have neC : ∀ b o,X.s₀.heap.get? b = some o → b ∉ X.ex → b ∉ ch:=fun b o e hx hb=>by
  rcases (hch b hb).1 with z | z
  ·exact hx z
  ·exact absurd (Te (Heap.lt_size e) z) (Tf _)
 have cellK : ∀ x c,X.env.cells.lookup x = some c → ∀ v,s.heap.IsCell c v → h'.IsCell c v:=fun x c e v ⟨o,ho,hd⟩=>by
  have nch : c ∉ ch:=fun z=>(hch c z).2.2.1 x c e rfl
  by_cases hc : c ∈ X.fs
  ·obtain ⟨sl,q⟩:=slot c o (I.cne x c e) hc nch ho (I.freeC x c e)
   exact ⟨_,q,hd⟩
  ·exact ⟨o,keep c o (I.cne x c e) hc nch ho (I.freeC x c e),hd⟩
 refine ⟨I.ok,I.os,hg,⟨fun b o e n hb hx=>?_,fun b o e n hb hx=>?_,fun b o e n hx=>?_,fun b o e hx=>?_,fun b xs e=>tups b xs (I.base.tups b xs e),fun b o xs e=>frzs b o xs (I.base.frzs b o xs e),fun b ps e=>?_⟩,?_,fun x c e=>?_,?_,fun x c e=>?_,fun p hp=>?_,hok,I.len⟩
 ·exact keep b o (neL b o e) hb (neC b o e hx) (I.base.keep b o e n hb hx) (I.base.free b o e n hx)
 ·obtain ⟨sl,e1⟩:=I.base.slot b o e n hb hx
  obtain ⟨sl',e2⟩:=slot b _ (neL b o e) hb (neC b o e hx) e1 (I.base.free b o e n hx)
  exact ⟨sl',e2⟩
 ·obtain ⟨o',e1⟩:=I.base.there b o e hx
  exact free b o' (neC b o e hx) e1 (I.base.free b o e n hx)
 ·obtain ⟨o',e1⟩:=I.base.there b o e hx
  exact there b o' (neC b o e hx) e1
 ·obtain ⟨m1,e1⟩:=I.base.tbls b ps e
  obtain ⟨m2,e2⟩:=tbls b _ e1
  exact ⟨m1 ++ m2,by rw [e2,Array.append_assoc]⟩
 ·obtain ⟨m,hn,hl⟩:=I.loc
  refine ⟨m,ns m hn,fun i x v e1 e2 e3=>?_⟩
  obtain ⟨u,r,l⟩:=hl i x v e1 e2 e3
  refine ⟨u,r,?_⟩
  rcases l with l | ⟨k,c,e,z⟩
  ·exact .inl l
  ·exact .inr ⟨k,c,e,cellK x c e _ z⟩
 ·obtain ⟨v,z⟩:=I.cell x c e
  exact ⟨v,cellK x c e v z⟩
 ·obtain ⟨m,⟨o,_,_,ho,_⟩,_⟩:=I.loc
  exact free _ o (fun z=>(hch _ z).2.1 rfl) ho I.free
 ·obtain ⟨v,o,ho,hd⟩:=I.cell x c e
  exact free c o (fun z=>(hch c z).2.2.1 x c e rfl) ho (I.freeC x c e)
 ·obtain ⟨e,n,ne,nf,d⟩:=I.pin p hp
  have nch : p.1 ∉ ch:=fun z=>(hch p.1 z).2.2.2 p hp rfl
  exact ⟨keep p.1 p.2 ne nf nch e n,free p.1 p.2 nch e n,ne,nf,d⟩
theorem Inv.un {t' : Nat} (I : Inv X pins σ H s) (u : Un X.fs [] H H' s.heap h') (hok : HOk X.prog X.w H' h') : Inv X pins σ H' { s with heap:=h',toks:=t' }:=by
 obtain ⟨m,⟨o,es,ep,ho,r⟩,_⟩:=id I.loc
 obtain ⟨sl,hL⟩:=u.any ho I.free (by simp)
 exact I.step (g':=s.gens) (d':=s.drawn) (ch:=[]) (fun _ z=>nomatch z) (fun b o _ hb _ e n=>u.keep b o e n hb (by simp)) (fun b o _ hb _ e n=>u.slot b o e n hb (by simp)) (fun b o _ e n=>u.free b o e n (by simp)) (fun b o _ e=>u.there b o e (by simp)) u.tups u.frzs u.tbls (fun m' hm=>by
  obtain ⟨o',es',ep',ho',r'⟩:=hm
  rw [ho] at ho'; cases ho'
  exact ⟨_,es',ep',hL,r'⟩) hok I.bare
theorem Inv.call {g' : Array GenState} {t' : Nat} {d' : Drawn} {ch : List Addr} (I : Inv X pins σ H s) (u : Un (frs X.stack) ch H H' s.heap h') (hok : HOk X.prog X.w H' h') (hg : AllBare g')
 (hch : ∀ b ∈ ch,(b ∈ X.ex ∨ X.s₀.heap.objs.size ≤ b) ∧ b ≠ X.env.locals ∧ (∀ x c,X.env.cells.lookup x = some c → c ≠ b) ∧ ∀ p ∈ X.pn ++ pins,p.1 ≠ b) :
 Inv X pins σ H' { s with heap:=h',gens:=g',drawn:=d',toks:=t' }:=by
 obtain ⟨m,⟨o,es,ep,ho,r⟩,_⟩:=id I.loc
 obtain ⟨sl,hL⟩:=u.any ho I.free fun z=>(hch _ z).2.1 rfl
 exact I.step (ch:=ch) hch (fun b o hL hb hc e n=>u.keep b o e n (fun z=>(Tw.mp (I.stkSub b z)).elim hL hb) hc) (fun b o _ _ hc e n=>u.any e n hc) (fun b o hc e n=>u.free b o e n hc) (fun b o hc e=>u.there b o e hc) u.tups u.frzs u.tbls (fun m' hm=>by
  obtain ⟨o',es',ep',ho',r'⟩:=hm
  rw [ho] at ho'; cases ho'
  exact ⟨_,es',ep',hL,r'⟩) hok hg
theorem Inv.turned {t' : Nat} {it : Addr} (I : Inv X pins σ H s) (k : ∀ b o,b ≠ it → s.heap.get? b = some o → h'.get? b = some o) (hn : H it = none) (hL : it ≠ X.env.locals)
 (h1 : it ∈ X.ex ∨ X.s₀.heap.objs.size ≤ it) (h2 : ∀ x c,X.env.cells.lookup x = some c → c ≠ it) (h3 : ∀ p ∈ X.pn ++ pins,p.1 ≠ it) : Inv X pins σ H { s with heap:=h',toks:=t' }:=by
 have nit : ∀ b u,H b = some u → b ≠ it:=fun b u e z=>by rw [z,hn] at e; cases e
 refine I.step (g':=s.gens) (d':=s.drawn) (ch:=[it]) (fun b hb=>?_) (fun b o _ _ hc e _=>k b o (fun z=>hc (by simp [z])) e) (fun b o _ _ hc e _=>⟨o.slots,k b o (fun z=>hc (by simp [z])) e⟩) (fun _ _ _ _ n=>n)
  (fun b o hc e=>⟨o,k b o (fun z=>hc (by simp [z])) e⟩) (fun _ _ e=>e) (fun _ _ _ e=>e) (fun b ps e=>⟨#[],by rw [e]; simp⟩) (fun m hm=>?_) (fun b u e=>?_) I.bare
 ·have e : b = it:=by simpa using hb
  subst e
  exact ⟨h1,hL,h2,h3⟩
 ·obtain ⟨o,es,ep,ho,r⟩:=hm
  exact ⟨o,es,ep,k _ o (Ne.symm hL) ho,r⟩
 ·refine (I.hok b u e).stay (fun c v hc q=>k c v ?_ q) (fun _ q=>q) fun _ _ q=>q
  rcases hc with z | z
  ·rw [z]; exact nit b u e
  ·exact nit c _ z
theorem Inv.tok (I : Inv X pins σ H s) (t : Nat) : Inv X pins σ H { s with toks:=t }:=I.un (h':=s.heap) (t':=t) Un.refl I.hok
theorem Inv.kept {t' : Nat} (I : Inv X pins σ H s) (k : ∀ b u,s.heap.get? b = some u → h'.get? b = some u) : Inv X pins σ H { s with heap:=h',toks:=t' }:=I.un (Un.kept k) (I.hok.kept k)
theorem Inv.laid {a : Addr} {o : HO} {t' : Nat} (I : Inv X pins σ H s) (k : ∀ b u,s.heap.get? b = some u → h'.get? b = some u) (hp : s.heap.objs.size ≤ a) (new : Bh X.prog X.w (upd H a o) h' a o) :
 Inv X pins σ (upd H a o) { s with heap:=h',toks:=t' }:=I.un (Un.laid k hp (I.hok.fresh hp)) (I.hok.laid k hp new)
theorem Inv.write {x e : Addr} {o : HO} {t' : Nat} (I : Inv X pins σ H s) (mu : Mut (H x)) (he : e = x ∨ H e = some (.own x)) (k : ∀ b u,b ≠ e → s.heap.get? b = some u → h'.get? b = some u) (heo : ∃ u,h'.get? e = some u)
 (new : Bh X.prog X.w (upd H x o) h' x o) : Inv X pins σ (upd H x o) { s with heap:=h',toks:=t' }:=I.un (Un.write mu he k heo) (I.hok.write mu he k heo new)
theorem Inv.weak {σ' : List (Option V)} (I : Inv X pins σ H s) (hl : σ'.length = σ.length) (w : ∀ (i : Nat) v,σ'[i]? = some (some v) → σ[i]? = some (some v)) : Inv X pins σ' H s :=
 ⟨I.ok,I.os,I.bare,I.base,let ⟨m,hn,hl'⟩:=I.loc; ⟨m,hn,fun i x v e1 e2 e3=>hl' i x v e1 (w i v e2) e3⟩,I.cell,I.free,I.freeC,I.pin,I.hok,hl.trans I.len⟩
theorem Inv.pins_of {pins' : List (Addr × Obj)} (I : Inv X pins σ H s) (h : ∀ p ∈ pins',s.heap.get? p.1 = some p.2 ∧ H p.1 = none ∧ p.1 ≠ X.env.locals ∧ p.1 ∉ X.fs ∧ ∀ v,p.2.data ≠ .cell v) : Inv X pins' σ H s :=
 ⟨I.ok,I.os,I.bare,I.base,I.loc,I.cell,I.free,I.freeC,fun p hp=>(Tx.mp hp).elim (fun z=>I.pin p (Tz _ z)) (h p),I.hok,I.len⟩
theorem FQ {N : List Str} (hN : N.Nodup) {i j : Nat} {x : Str} (a : N[i]? = some x) (b : N[j]? = some x) : i = j:=by
 obtain ⟨h1,e1⟩:=TC.mp a
 obtain ⟨h2,e2⟩:=TC.mp b
 exact (List.getElem_inj hN).mp (e1.trans e2.symm)
theorem Ez {M : Model} {A : Around} {E : Value → Shared → Prop} {i : Nat} {x : Str} {v : V} {u : Value} {Q : Unit → Shared → Prop} (I : Inv X pins σ H s) (hN : X.N.Nodup) (hi : X.N[i]? = some x) (hx : Loc X.env.scope x) (r : AZ v u)
 (h : ∀ s',Inv X pins (σ.set i (some v)) H s' → (∃ a,Heap.SameBut a s.heap s'.heap ∧ (a = X.env.locals ∨ X.env.cells.lookup x = some a)) → Q () s') (hf : X.fn x = true ∨ X.env.scope.names.lookup x = some .local:=by first | exact .inl rfl | exact .inr rfl | assumption) : wpAny M A (storeName X.env x u) Q E s:=by
 obtain ⟨m,hn,hl⟩:=id I.loc
 have hcls : (X.env.scope.kind == .class || (X.env.scope.kind == .module && X.env.locals != X.env.globals)) = false:=by rw [I.ok.kind]; rfl
 have hiσ : i < σ.length:=by rw [I.len]; exact (TC.mp hi).1
 have cne:=I.cne
 have tracked : ∀ {a : Addr} {h' : Heap},(∃ o,s.heap.get? a = some o ∧ H a = none) → Heap.SameBut a s.heap h' → HOk X.prog X.w H h':=fun {a h'} ha hs b ob e=>by
  obtain ⟨_,_,hfree⟩:=ha
  refine (I.hok b ob e).stay (fun c w' hc q=>(hs.2 c ?_).trans q) (fun _ q=>q) fun _ _ q=>q
  rintro rfl
  rcases hc with rfl | hc
  ·rw [hfree] at e; cases e
  ·rw [hfree] at hc; cases hc
 rcases hx with hk | hk
 ·refine wpAny_storeName_local hk hn (fun h' hn' hs=>?_) hcls
  obtain ⟨oL,_,_,hoL,_⟩:=id hn
  refine h _ ⟨I.ok,I.os,I.bare,⟨fun b o e n hb hx=>?_,fun b o e n hb hx=>?_,I.base.free,fun b o e hx=>?_,I.base.tups,I.base.frzs,I.base.tbls⟩,⟨_,hn',fun j y v' e1 e2 e3=>?_⟩,fun y c e=>?_,I.free,I.freeC,fun p hp=>?_,tracked ⟨oL,hoL,I.free⟩ hs,by simpa using I.len⟩ ⟨_,hs,.inl rfl⟩
  ·exact (hs.2 b (Tg (Te (Heap.lt_size e) I.ok.above))).trans (I.base.keep b o e n hb hx)
  ·obtain ⟨sl,e1⟩:=I.base.slot b o e n hb hx
   exact ⟨sl,(hs.2 b (Tg (Te (Heap.lt_size e) I.ok.above))).trans e1⟩
  ·obtain ⟨o',e1⟩:=I.base.there b o e hx
   exact ⟨o',(hs.2 b (Tg (Te (Heap.lt_size e) I.ok.above))).trans e1⟩
  ·by_cases hj : j = i
   ·subst hj
    rw [hi] at e1; cases e1
    rw [TF hiσ] at e2
    cases e2
    exact ⟨u,r,.inl ⟨hk,by simp⟩⟩
   ·rw [TH (Ne.symm hj)] at e2
    obtain ⟨u',r',q⟩:=hl j y v' e1 e2 e3
    refine ⟨u',r',?_⟩
    rcases q with ⟨k,e⟩ | ⟨k,c,e,z⟩
    ·refine .inl ⟨k,?_⟩
     have : y ≠ x:=fun e=>hj (FQ hN e1 (e ▸ hi))
     simp [this,e]
    ·exact .inr ⟨k,c,e,z.sameBut hs (cne y c e)⟩
  ·obtain ⟨w',z⟩:=I.cell y c e
   exact ⟨w',z.sameBut hs (cne y c e)⟩
  ·obtain ⟨e,n,ne,nf,d⟩:=I.pin p hp
   exact ⟨(hs.2 p.1 ne).trans e,n,ne,nf,d⟩
 ·have hfn : X.fn x = true:=by
   rcases hf with z | z
   ·exact z
   ·rw [z] at hk; cases hk
  obtain ⟨c,hc⟩:=I.ok.has x (.inl hk)
  obtain ⟨w',z⟩:=I.cell x c hc
  refine wpAny_storeName_cell I.ok.kind hk hc z (fun h' hc' hs=>?_)
  obtain ⟨oc,hoc,hocd⟩:=id z
  refine h { s with heap:=h' } ⟨I.ok,I.os,I.bare,⟨fun b o e n hb hx=>?_,fun b o e n hb hx=>?_,I.base.free,fun b o e hx=>?_,I.base.tups,I.base.frzs,I.base.tbls⟩,⟨m,hn.sameBut hs (Ne.symm (cne x c hc)),fun j y v' e1 e2 e3=>?_⟩,fun y c' e=>?_,I.free,I.freeC,fun p hp=>?_,tracked ⟨oc,hoc,I.freeC x c hc⟩ hs,by simpa using I.len⟩ ⟨c,hs,.inr hc⟩
  ·exact (hs.2 b (Tg (Te (Heap.lt_size e) (I.ok.cab x c hfn hc)))).trans (I.base.keep b o e n hb hx)
  ·obtain ⟨sl,e1⟩:=I.base.slot b o e n hb hx
   exact ⟨sl,(hs.2 b (Tg (Te (Heap.lt_size e) (I.ok.cab x c hfn hc)))).trans e1⟩
  ·obtain ⟨o',e1⟩:=I.base.there b o e hx
   exact ⟨o',(hs.2 b (Tg (Te (Heap.lt_size e) (I.ok.cab x c hfn hc)))).trans e1⟩
  ·by_cases hj : j = i
   ·subst hj
    rw [hi] at e1; cases e1
    rw [TF hiσ] at e2
    cases e2
    exact ⟨u,r,.inr ⟨.inl hk,c,hc,hc'⟩⟩
   ·rw [TH (Ne.symm hj)] at e2
    obtain ⟨u',r',q⟩:=hl j y v' e1 e2 e3
    refine ⟨u',r',?_⟩
    rcases q with q | ⟨k,c',e,z'⟩
    ·exact .inl q
    ·refine .inr ⟨k,c',e,z'.sameBut hs ?_⟩
     rintro rfl
     exact hj (FQ hN e1 (I.ok.inj _ _ _ e hc ▸ hi))
  ·by_cases hcc : c' = c
   ·subst hcc; exact ⟨_,hc'⟩
   ·obtain ⟨w2,z2⟩:=I.cell y c' e
    exact ⟨w2,z2.sameBut hs hcc⟩
  ·obtain ⟨e,n,ne,nf,d⟩:=I.pin p hp
   refine ⟨(hs.2 p.1 ?_).trans e,n,ne,nf,d⟩
   intro q
   rw [q,hoc] at e
   have q' : oc = p.2:=Tb.inj e
   exact d w' (by rw [← q']; exact hocd)
theorem CW {M : Model} {A : Around} {E : Value → Shared → Prop} {i : Nat} {x : Str} {v : V} {u : Value} {Q : Unit → Shared → Prop} (I : Inv X pins σ H s) (hN : X.N.Nodup) (hi : X.N[i]? = some x) (hx : Loc X.env.scope x) (r : AZ v u)
 (h : ∀ s',Inv X pins (σ.set i (some v)) H s' → Q () s') (hf : X.fn x = true ∨ X.env.scope.names.lookup x = some .local:=by first | exact .inl rfl | exact .inr rfl | assumption) : wpAny M A (storeName X.env x u) Q E s :=
 Ez I hN hi hx r (fun s' I' _=>h s' I') hf
theorem Inv.call' {s' : Shared} {ch : List Addr} (I : Inv X pins σ H s) (ho : s'.os = s.os) (u : Un (frs X.stack) ch H H' s.heap s'.heap) (hok : HOk X.prog X.w H' s'.heap) (hg : AllBare s'.gens)
 (hch : ∀ b ∈ ch,(b ∈ X.ex ∨ X.s₀.heap.objs.size ≤ b) ∧ b ≠ X.env.locals ∧ (∀ x c,X.env.cells.lookup x = some c → c ≠ b) ∧ ∀ p ∈ X.pn ++ pins,p.1 ≠ b) : Inv X pins σ H' s':=by
 obtain ⟨h',g',d',t',o'⟩:=s'
 have e : o' = s.os:=ho
 subst e
 exact I.call (g':=g') (t':=t') (d':=d') u hok hg hch
end
abbrev XK:=Value → Option Addr → Hp → Prop
abbrev St:=List (Option V)
abbrev VK:=V → Hp → Prop
abbrev TE:=St → Hp → VK → Prop
abbrev TT:=St → Hp → (Bool → Hp → Prop) → Prop
abbrev TA:=St → Hp → (List V → Hp → Prop) → Prop
structure Dl where
 nx : St → Hp → Prop
 rt : VK
 bk : St → Hp → Prop:=fun _ _=>False
 ct : St → Hp → Prop:=fun _ _=>False
abbrev TS:=Dl → St → Hp → Prop
inductive EP (X : Cx) (pins : List (Addr × Obj)) (σ : St) (Q : VK) (u : Value) (s' : Shared) : Prop
 | mk (v : _) (H' : _) (h1 : Inv X pins σ H' s') (h2 : AZ v u) (h3 : Q v H') : EP X pins σ Q u s'
def TP (X : Cx) (pins : List (Addr × Obj)) (σ : St) (Q : Bool → Hp → Prop) (b : Bool) (s' : Shared) : Prop:=∃ H',Inv X pins σ H' s' ∧ Q b H'
inductive AP (X : Cx) (pins : List (Addr × Obj)) (σ : St) (Q : List V → Hp → Prop) (us : List Value) (s' : Shared) : Prop
 | mk (vs : _) (H' : _) (h1 : Inv X pins σ H' s') (h2 : AM vs us) (h3 : Q vs H') : AP X pins σ Q us s'
def SP (X : Cx) (pins : List (Addr × Obj)) (D : Dl) (f : Flow) (s' : Shared) : Prop :=
 match f with
 | .next=>∃ σ' H',Inv X pins σ' H' s' ∧ D.nx σ' H'
 | .brk=>∃ σ' H',Inv X pins σ' H' s' ∧ D.bk σ' H'
 | .cont=>∃ σ' H',Inv X pins σ' H' s' ∧ D.ct σ' H'
 | .ret u=>∃ v σ' H',Inv X pins σ' H' s' ∧ AZ v u ∧ D.rt v H'
def PE (X : Cx) (e : Expr) (t : TE) : Prop :=
 ∀ (pins : List (Addr × Obj)) (s : Shared) (σ : St) (H : Hp) (Q : VK),Inv X pins σ H s → t σ H Q → wpAny (model X.prog X.w) X.A (eval e X.env) (EP X pins σ Q) X.xe s
def PT (X : Cx) (e : Expr) (t : TT) : Prop :=
 ∀ (pins : List (Addr × Obj)) (s : Shared) (σ : St) (H : Hp) (Q : Bool → Hp → Prop),Inv X pins σ H s → t σ H Q → wpAny (model X.prog X.w) X.A (isTrue e X.env (eval e X.env)) (TP X pins σ Q) X.xe s
def PW (X : Cx) (e : Expr) (t : TT) : Prop :=
 ∀ (whole : Sem Value) (pins : List (Addr × Obj)) (s : Shared) (σ : St) (H : Hp) (Q : Bool → Hp → Prop),Inv X pins σ H s → t σ H Q → wpAny (model X.prog X.w) X.A (isTrue e X.env whole) (TP X pins σ Q) X.xe s
theorem PW.pt {X : Cx} {e : Expr} {t : TT} (h : PW X e t) : PT X e t:=h _
def PA (X : Cx) (es : List Expr) (t : TA) : Prop :=
 ∀ (pos : Pos) (pins : List (Addr × Obj)) (s : Shared) (σ : St) (H : Hp) (Q : List V → Hp → Prop),Inv X pins σ H s → t σ H Q → wpAny (model X.prog X.w) X.A (spliced (backTo pos (starEach es X.env))) (AP X pins σ Q) X.xe s
def PS (X : Cx) (st : Stmt) (t : TS) : Prop :=
 ∀ (pins : List (Addr × Obj)) (s : Shared) (σ : St) (H : Hp) (D : Dl),Inv X pins σ H s → t D σ H → wpAny (model X.prog X.w) X.A (exec st X.env) (SP X pins D) X.xe s
def PSs (X : Cx) (st : List Stmt) (t : TS) : Prop :=
 ∀ (pins : List (Addr × Obj)) (s : Shared) (σ : St) (H : Hp) (D : Dl),Inv X pins σ H s → t D σ H → wpAny (model X.prog X.w) X.A (execs st X.env) (SP X pins D) X.xe s
theorem thn {α : Type} {t : Sem α} {Q Q' : α → Shared → Prop} {M : Model} {A : Around} {E : Value → Shared → Prop} {s : Shared} (h : wpAny M A t Q E s) (hQ : ∀ a s,Q a s → Q' a s) : wpAny M A t Q' E s:=wpAny_mono h hQ fun _ _ x=>x
end L2
namespace L2
open PySem PySem.Spec PyProof.Rows
section
variable {X : Cx}
inductive FA (i : Nat) (σ : St) (H : Hp) (Q : VK) : Prop
 | mk (v : _) (h1 : σ[i]? = some (some v)) (h2 : Q v H) : FA i σ H Q
def tC (v : V) : TE:=fun _ H Q=>Q v H
theorem Mp {i : Nat} {x : Str} {pos : Pos} (hN : X.N[i]? = some x) (hv : Vis X.env.scope x) (hd : (x == ("__debug__" : Str)) = false:=by decide) (hcd : (x == ("__classdict__" : Str)) = false:=by decide) : PE X (.Name x pos) (FA i):=by
 intro pins s σ H Q I h
 obtain ⟨v,e,h⟩:=h
 obtain ⟨m,hn,hl⟩:=I.loc
 obtain ⟨u,r,l⟩:=hl i x v hN e hv
 have fin : EP X pins σ Q u s:=⟨v,H,I,r,h⟩
 rcases l with ⟨hk,hm⟩ | ⟨hk,c,hc,hcell⟩
 ·exact wpAny_Name (wpAny_loadName_local I.ok.kind hk hn hm fin) hd
 ·rcases hk with hk | hk
  ·exact wpAny_Name (wpAny_loadName_cell I.ok.kind hk hc hcell fin) hd
  ·exact wpAny_Name (wpAny_loadName_free I.ok.kind hk hc hcell fin hcd) hd
theorem Ad {i j pos} : PE X (.Constant (.int i) j pos) (tC (.int i)):=fun _ _ _ H _ I h=>wpAny_Constant_int ⟨.int i,H,I.tok _,⟨_,rfl⟩,h⟩
theorem Ke {b j pos} : PE X (.Constant (.bool b) j pos) (tC (.bl b)):=fun _ _ _ H _ I h=>Constant_bool ⟨.bl b,H,I,rfl,h⟩
theorem Pe {j pos} : PE X (.Constant .none j pos) (tC .non):=fun _ _ _ H _ I h=>Constant_none ⟨.non,H,I,rfl,h⟩
theorem C5 {x j pos} : PE X (.Constant (.str x) j pos) (tC (.str x)):=fun _ _ _ H _ I h=>Calls.Constant_str ⟨.str x,H,I.tok _,⟨_,rfl⟩,h⟩
def Gl (X : Cx) (x : Str) : Prop:=X.env.kindOf x = some .globalImplicit
theorem DL {E : Value → Shared → Prop} {pins : List (Addr × Obj)} {s : Shared} {σ : St} {H : Hp} {x : Str} {u : Value} {pos : Pos} {Q : Value → Shared → Prop} (I : Inv X pins σ H s) (hg : Gl X x) (hm : X.mg x = some u) (h : Q u s)
 (hd : (x == ("__debug__" : Str)) = false:=by decide) : wpAny (model X.prog X.w) X.A (eval (.Name x pos) X.env) Q E s :=
 Calls.Name_function_global I.ok.kind hg (Calls.loadGlobal_global (by rw [I.ok.glob]; exact I.mod.glob.keeps I.bk) hm h) hd
theorem DB {E : Value → Shared → Prop} {pins : List (Addr × Obj)} {s : Shared} {σ : St} {H : Hp} {x : Str} {u : Value} {pos : Pos} {Q : Value → Shared → Prop} (I : Inv X pins σ H s) (hg : Gl X x) (hm : X.mg x = none) (hv : bootBuiltins x = some u) (h : Q u s)
 (hn : x ≠ "__name__":=by decide) (hd : (x == ("__debug__" : Str)) = false:=by decide) : wpAny (model X.prog X.w) X.A (eval (.Name x pos) X.env) Q E s:=by
 obtain ⟨mb,h1,h2⟩:=I.mod.blt
 exact Calls.Name_function_global I.ok.kind hg (Calls.loadGlobal_builtin (by rw [I.ok.glob]; exact I.mod.glob.keeps I.bk) hm (by rw [I.ok.blt]; exact h1.keeps I.bk) ((h2 x hn).trans hv) h) hd
theorem BF {x : Str} {v : V} {u : Value} {pos : Pos} (hg : Gl X x) (hm : X.mg x = some u) (r : AZ v u) (hd : (x == ("__debug__" : Str)) = false:=by decide) : PE X (.Name x pos) (tC v) :=
 fun _ _ _ H _ I h=>DL I hg hm ⟨v,H,I,r,h⟩ hd
theorem Fl {x : Str} {v : V} {u : Value} {pos : Pos} (hg : Gl X x) (hm : X.mg x = none) (hv : bootBuiltins x = some u) (r : AZ v u) (hn : x ≠ "__name__":=by decide) (hd : (x == ("__debug__" : Str)) = false:=by decide) : PE X (.Name x pos) (tC v) :=
 fun _ _ _ H _ I h=>DB I hg hm hv ⟨v,H,I,r,h⟩ hn hd
variable {a b : Expr} {ta tb : TE} {pos : Pos}
def PC (X : Cx) (op : CmpOp) (a b : Expr) (t : TE) : Prop :=
 ∀ (pins : List (Addr × Obj)) (s : Shared) (σ : St) (H : Hp) (Q : VK),Inv X pins σ H s → t σ H Q →
   wpAny (model X.prog X.w) X.A (eval a X.env) (fun v s₁=>wpAny (model X.prog X.w) X.A (eval b X.env) (fun u s₂=>wpAny (model X.prog X.w) X.A (compareOp op v u) (EP X pins σ Q) X.xe s₂) X.xe s₁) X.xe s
def tB (t : TE) : TT:=fun σ H Q=>t σ H fun x H1=>∃ c,x = .bl c ∧ Q c H1
theorem OZ {op : CmpOp} {t : TE} (h : PC X op a b t) (h1 : behindInMarks op b = false:=by first | exact nobehind _ (by decide) (by decide) | rfl) : PT X (.Compare a [op] [b] pos) (tB t):=by
 intro pins s σ H Q I hw
 refine wpAny_isTrue_Compare1 (thn (h pins s σ H _ I hw) fun v s1 h1=>thn h1 fun u s2 h2=>thn h2 fun c s3 ⟨x,H1,I1,r1,q1⟩=>?_) h1
 obtain ⟨d,rfl,q⟩:=q1
 cases r1
 exact wpAny_truthy_bool ⟨H1,I1,q⟩
theorem CT {e : Expr} {t : TE} (h : PE X e t) (he : ∀ whole,isTrue e X.env whole = (do let v ← whole; standAt e.pos; holding [v] (truthy v)):=by intro _; rfl) : PT X e (tB t):=by
 intro pins s σ H Q I hw
 refine isTrue_plain (thn (h pins s σ H _ I hw) fun v s1 ⟨x,H1,I1,r1,q1⟩=>?_) (he _)
 obtain ⟨d,rfl,q⟩:=q1
 cases r1
 exact wpAny_truthy_bool ⟨H1,I1,q⟩
variable {tA tB' : TT} {rest : List Expr}
def R6 (t u : TT) : TT:=fun σ H Q=>t σ H fun c H1=>if c = true then u σ H1 Q else Q false H1
def tOr (t u : TT) : TT:=fun σ H Q=>t σ H fun c H1=>if c = true then Q true H1 else u σ H1 Q
def R4 (t : TT) : TT:=fun σ H Q=>t σ H fun c H1=>Q (!c) H1
theorem CA (ha : PT X a tA) : PW X (.BoolOp .And [a] pos) tA:=by
 intro wh pins s σ H Q I h
 refine isTrue_and (thn (ha pins s σ H Q I h) fun c s1 e=>?_)
 cases c with
 | true=>exact isTrue_and_nil e
 | false=>exact e
theorem HD (ha : PT X a tA) : PW X (.BoolOp .Or [a] pos) tA:=by
 intro wh pins s σ H Q I h
 refine isTrue_or (thn (ha pins s σ H Q I h) fun c s1 e=>?_)
 cases c with
 | false=>exact isTrue_or_nil e
 | true=>exact e
theorem Dk (ha : PT X a tA) (hb : PW X (.BoolOp .And (b :: rest) pos) tB') : PW X (.BoolOp .And (a :: b :: rest) pos) (R6 tA tB'):=by
 intro wh pins s σ H Q I h
 refine isTrue_and (thn (ha pins s σ H _ I h) fun c s1 ⟨H1,I1,q1⟩=>?_)
 cases c with
 | true=>exact hb wh pins s1 σ H1 Q I1 q1
 | false=>exact ⟨H1,I1,q1⟩
theorem Kb (ha : PT X a tA) (hb : PW X (.BoolOp .Or (b :: rest) pos) tB') : PW X (.BoolOp .Or (a :: b :: rest) pos) (tOr tA tB'):=by
 intro wh pins s σ H Q I h
 refine isTrue_or (thn (ha pins s σ H _ I h) fun c s1 ⟨H1,I1,q1⟩=>?_)
 cases c with
 | true=>exact ⟨H1,I1,q1⟩
 | false=>exact hb wh pins s1 σ H1 Q I1 q1
theorem EF (ha : PT X a tA) : PT X (.UnaryOp .Not a pos) (R4 tA):=by
 intro pins s σ H Q I h
 exact isTrue_not (ha pins s σ H (fun c H1=>Q (!c) H1) I h)
def Qo (ta tb : TE) : TE:=fun σ H Q=>ta σ H fun x H1=>∃ c,x = .bl c ∧ if c = true then tb σ H1 Q else Q (.bl false) H1
def Qk (ta : TE) : TE:=fun σ H Q=>ta σ H fun x H1=>∃ c,x = .bl c ∧ Q (.bl (!c)) H1
theorem Pb {op} {t : TE} (h : PE X a t) : PE X (.BoolOp op [a] pos) t:=fun pins s σ H Q I hw=>BoolOp_one (h pins s σ H Q I hw)
theorem Ph (ha : PE X a ta) (hb : PE X (.BoolOp .And (b :: rest) pos) tb) : PE X (.BoolOp .And (a :: b :: rest) pos) (Qo ta tb):=by
 intro pins s σ H Q I h
 refine BoolOp_and (thn (ha pins s σ H _ I h) fun v s1 ⟨x,H1,I1,r1,q1⟩=>?_)
 obtain ⟨c,rfl,q1⟩:=q1
 cases r1
 refine wpAny_truthy_bool ?_
 cases c with
 | true=>exact hb pins s1 σ H1 Q I1 q1
 | false=>exact ⟨.bl false,H1,I1,rfl,q1⟩
theorem Pd (ha : PE X a ta) : PE X (.UnaryOp .Not a pos) (Qk ta):=by
 intro pins s σ H Q I h
 refine UnaryOp_ (thn (ha pins s σ H _ I h) fun v s1 ⟨x,H1,I1,r1,q1⟩=>?_)
 obtain ⟨c,rfl,q1⟩:=q1
 cases r1
 exact not_of (wpAny_truthy_bool ⟨.bl (!c),H1,I1,rfl,q1⟩)
end
end L2
namespace L2
open PySem PySem.Spec PyProof.Rows
def SqL (K : Tq) (H : Hp) (a : Addr) (xs : List V) : Prop :=
 Rd H a (.lst xs) ∨
  ∃ (o : Obj) (its : Array Value) (n : Nat),K.lookup a = some o ∧ o.cls = .type "list" ∧ o.dict = none ∧ o.data = .seq its n ∧ its.size ≤ sizeLine ∧ AM xs its.toList
def SqT (K : Tq) (H : Hp) (a : Addr) (xs : List V) : Prop :=
 Rd H a (.tup xs) ∨
  ∃ (o : Obj) (its : Array Value) (n : Nat),K.lookup a = some o ∧ o.cls = .type "tuple" ∧ o.data = .seq its n ∧ its.size ≤ sizeLine ∧ AM xs its.toList
def LN : Value → Option V
 | .none=>some .non
 | .bool b=>some (.bl b)
 | .int i _=>some (.int i)
 | .str x _=>some (.str x)
 | .bytes b _=>some (.byt b)
 | .float b _=>some (.flt b)
 | .ref a=>some (.ref a)
 | .type n=>some (.ty n)
 | _=>none
theorem AZ.abs {x : V} {u : Value} (r : AZ x u) : LN u = some x:=by
 cases x with
 | non=>cases r; rfl
 | bl _=>cases r; rfl
 | int _=>obtain ⟨t,rfl⟩:=r; rfl
 | str _=>obtain ⟨t,rfl⟩:=r; rfl
 | byt _=>obtain ⟨t,rfl⟩:=r; rfl
 | flt _=>obtain ⟨t,rfl⟩:=r; rfl
 | ref _=>cases r; rfl
 | ty _=>cases r; rfl
theorem AZ.inj {x y : V} {u : Value} (r : AZ x u) (q : AZ y u) : x = y:=Tb.inj (r.abs.symm.trans q.abs)
theorem AM.inj {xs ys : List V} {us : List Value} (a : AM xs us) (b : AM ys us) : xs = ys:=by
 induction a generalizing ys with
 | nil=>cases b; rfl
 | cons r t ih=>cases b with | cons r' t'=>rw [r.inj r',ih t']
section
variable {X : Cx} {pins : List (Addr × Obj)} {σ : St} {H : Hp} {s : Shared} {a : Addr} {xs ys : List V}
theorem SqL.of {K : Tq} (h : H a = some (.lst xs)) : SqL K H a xs:=.inl (.inl h)
theorem SqT.of {K : Tq} (h : H a = some (.tup xs)) : SqT K H a xs:=.inl (.inl h)
theorem Inv.list (I : Inv X pins σ H s) (h : SqL X.K H a xs) : ∃ its : List Value,AM xs its ∧ PlainL s.heap a its.toArray ∧ xs.length ≤ sizeLine:=by
 rcases h with h | ⟨o,its,n,hk,hc,hd,hs,hz,r⟩
 ·obtain ⟨z,its,n,r,e⟩:=h.ok I.hok
  exact ⟨its,r,⟨_,n,e,rfl,rfl,rfl⟩,z⟩
 ·refine ⟨its.toList,r,⟨o,n,I.kIn a o hk,hc,hd,by simpa using hs⟩,?_⟩
  have e:=r.length
  simp only [TJ] at e
  lia
theorem Inv.tuple (I : Inv X pins σ H s) (h : SqT X.K H a xs) : ∃ its : List Value,AM xs its ∧ IsTup s.heap a its.toArray ∧ xs.length ≤ sizeLine:=by
 rcases h with h | ⟨o,its,n,hk,hc,hs,hz,r⟩
 ·obtain ⟨z,its,r,p⟩:=h.ok I.hok
  exact ⟨its,r,p,z⟩
 ·refine ⟨its.toList,r,⟨o,I.kIn a o hk,hc,n,by simpa using hs⟩,?_⟩
  have e:=r.length
  simp only [TJ] at e
  lia
theorem Inv.list_inj (I : Inv X pins σ H s) (h : SqL X.K H a xs) (h' : SqL X.K H a ys) : xs = ys:=by
 obtain ⟨its,r,⟨o,n,e,_,_,d⟩,_⟩:=I.list h
 obtain ⟨its',r',⟨o',n',e',_,_,d'⟩,_⟩:=I.list h'
 rw [e] at e'; cases e'
 rw [d] at d'
 injection d' with d1 _
 have : its = its':=by simpa using congrArg Array.toList d1
 subst this
 exact r.inj r'
theorem Inv.tuple_inj (I : Inv X pins σ H s) (h : SqT X.K H a xs) (h' : SqT X.K H a ys) : xs = ys:=by
 obtain ⟨its,r,⟨o,e,_,n,d⟩,_⟩:=I.tuple h
 obtain ⟨its',r',⟨o',e',_,n',d'⟩,_⟩:=I.tuple h'
 rw [e] at e'; cases e'
 rw [d] at d'
 injection d' with d1 _
 have : its = its':=by simpa using congrArg Array.toList d1
 subst this
 exact r.inj r'
end
abbrev Cx.wish (X : Cx) (E : Value → Shared → Prop) : Cx:={ X with xe:=E }
abbrev Cx.nox (X : Cx) : Cx:=X.wish fun _ _=>False
theorem Cx.Ok.wish {X : Cx} (ok : X.Ok) (E : Value → Shared → Prop) : (X.wish E).Ok :=
 ⟨ok.mod,ok.kind,ok.glob,ok.blt,ok.above,ok.inj,ok.has,ok.cab,ok.hd,ok.frames,ok.stk,ok.exf,ok.bs,ok.bsz,ok.noex,ok.exfs,ok.funs,ok.frf⟩
theorem Cx.Ok.unwish {X : Cx} {E : Value → Shared → Prop} (ok : (X.wish E).Ok) : X.Ok :=
 ⟨ok.mod,ok.kind,ok.glob,ok.blt,ok.above,ok.inj,ok.has,ok.cab,ok.hd,ok.frames,ok.stk,ok.exf,ok.bs,ok.bsz,ok.noex,ok.exfs,ok.funs,ok.frf⟩
section
variable {X : Cx} {pins : List (Addr × Obj)} {σ : St} {H : Hp} {s : Shared} {E : Value → Shared → Prop}
theorem Inv.wish (I : Inv X pins σ H s) (E : Value → Shared → Prop) : Inv (X.wish E) pins σ H s:=⟨I.ok.wish E,I.os,I.bare,I.base,I.loc,I.cell,I.free,I.freeC,I.pin,I.hok,I.len⟩
theorem Inv.unwish (I : Inv (X.wish E) pins σ H s) : Inv X pins σ H s:=⟨I.ok.unwish,I.os,I.bare,I.base,I.loc,I.cell,I.free,I.freeC,I.pin,I.hok,I.len⟩
theorem SP.unwish {D : Dl} {f : Flow} {s' : Shared} (h : SP (X.wish E) pins D f s') : SP X pins D f s':=by
 cases f with
 | next=>obtain ⟨σ',H',I,q⟩:=h; exact ⟨σ',H',I.unwish,q⟩
 | brk=>obtain ⟨σ',H',I,q⟩:=h; exact ⟨σ',H',I.unwish,q⟩
 | cont=>obtain ⟨σ',H',I,q⟩:=h; exact ⟨σ',H',I.unwish,q⟩
 | ret u=>obtain ⟨v,σ',H',I,r,q⟩:=h; exact ⟨v,σ',H',I.unwish,r,q⟩
theorem PSs.nox {st : List Stmt} {t : TS} (h : PSs X.nox st t) : PSs X st t:=fun pins s σ H D I hw =>
 wpAny_mono (h pins s σ H D (I.wish _) hw) (fun _ _ q=>q.unwish) fun _ _ z=>False.elim z
end
section
variable {X : Cx} {st : Stmt} {rest : List Stmt} {t u : TS} {e : Expr} {te : TE} {pos : Pos}
def Ql : TS:=fun D σ H=>D.nx σ H
@[reducible] def Dl.to (D : Dl) (n : St → Hp → Prop) : Dl:={ D with nx:=n }
def Nr (t u : TS) : TS:=fun D σ H=>t (D.to (u D)) σ H
theorem AL : PSs X [] Ql:=fun _ _ σ H _ I h=>wpAny_execs_nil ⟨σ,H,I,h⟩
theorem IE (h1 : PS X st t) (h2 : PSs X rest u) : PSs X (st :: rest) (Nr t u):=by
 intro pins s σ H D I h
 refine wpAny_execs_cons (thn (h1 pins s σ H { D with nx:=u D } I h) fun f s1 q=>?_)
 cases f with
 | next =>
   obtain ⟨σ',H',I',q⟩:=q
   exact h2 pins s1 σ' H' D I' q
 | ret v=>exact q
 | brk=>exact q
 | cont=>exact q
theorem Ah (h1 : PS X st t) : PSs X [st] t:=by
 intro pins s σ H D I h
 refine wpAny_execs_cons (thn (h1 pins s σ H D I h) fun f s1 q=>?_)
 cases f with
 | next=>exact wpAny_execs_nil q
 | ret v=>exact q
 | brk=>exact q
 | cont=>exact q
theorem Inv.quiet {pins : List (Addr × Obj)} {σ : St} {H : Hp} {s : Shared} (I : Inv X pins σ H s) : interactive X.env = false:=by simp [interactive,I.ok.kind]
def Qm (te : TE) : TS:=fun D σ H=>te σ H fun _ H1=>D.nx σ H1
theorem Fg (he : PE X e te) (hs : swapsWith e none pos.line X.env = pure false:=by rfl) : PS X (.Expr e pos) (Qm te):=by
 intro pins s σ H D I h
 exact wpAny_Expr_any (thn (he pins s σ H _ I h) fun v s1 ⟨x,H1,I1,r1,q1⟩=>⟨σ,H1,I1,q1⟩) I.quiet hs
def R1 (te : TE) : TS:=fun D σ H=>te σ H D.rt
theorem Ax (he : PE X e te) : PS X (.Return (some e) pos) (R1 te):=by
 intro pins s σ H D I h
 exact wpAny_Return_some (thn (he pins s σ H _ I h) fun v s1 ⟨x,H1,I1,r1,q1⟩=>⟨x,σ,H1,I1,r1,q1⟩)
def Jx (c : TT) (t u : TS) : TS:=fun D σ H=>c σ H fun b H1=>if b = true then t D σ H1 else u D σ H1
theorem Qx {c : Expr} {a b : List Stmt} {tc : TT} (hc : PT X c tc) (ha : PSs X a t) (hb : PSs X b u) : PS X (.If c a b pos) (Jx tc t u):=by
 intro pins s σ H D I h
 refine wpAny_If (thn (hc pins s σ H _ I h) fun d s1 ⟨H1,I1,q1⟩=>?_)
 cases d with
 | true=>exact ha pins s1 σ H1 D I1 q1
 | false=>exact hb pins s1 σ H1 D I1 q1
def LZ : TS:=fun _ _ _=>False
theorem D8 : PS X st LZ:=fun _ _ _ _ _ _ h=>h.elim
theorem Ld {sts : List Stmt} : PSs X sts LZ:=fun _ _ _ _ _ _ h=>h.elim
end
abbrev TG:=V → St → Hp → (St → Hp → Prop) → Prop
abbrev TGs:=List V → St → Hp → (St → Hp → Prop) → Prop
def PG (X : Cx) (target : Expr) (t : TG) : Prop :=
 ∀ (pins : List (Addr × Obj)) (s : Shared) (σ : St) (H : Hp) (v : V) (u : Value) (Q : St → Hp → Prop),Inv X pins σ H s → AZ v u → t v σ H Q →
   wpAny (model X.prog X.w) X.A (assign target X.env u) (fun _ s'=>∃ σ' H',Inv X pins σ' H' s' ∧ Q σ' H') X.xe s
def PGs (X : Cx) (ts : List Expr) (t : TGs) : Prop :=
 ∀ (pins : List (Addr × Obj)) (s : Shared) (σ : St) (H : Hp) (vs : List V) (us : List Value) (Q : St → Hp → Prop),Inv X pins σ H s → AM vs us → t vs σ H Q →
   wpAny (model X.prog X.w) X.A (assignInOrder ((assignEach ts X.env).map (·.2)) us) (fun _ s'=>∃ σ' H',Inv X pins σ' H' s' ∧ Q σ' H') X.xe s
abbrev Q9:=V → V → V → Hp → (Hp → Prop) → Prop
def QU (X : Cx) (t : Q9) : Prop :=
 ∀ (pins : List (Addr × Obj)) (s : Shared) (σ : St) (H : Hp) (o i v : V) (ov iv u : Value) (Q : Hp → Prop),Inv X pins σ H s → AZ o ov → AZ i iv → AZ v u → t o i v H Q →
   wpAny (model X.prog X.w) X.A (setItem ov iv u) (fun _ s'=>∃ H',Inv X pins σ H' s' ∧ Q H') X.xe s
section
variable {X : Cx} {pos : Pos}
def C6 (i : Nat) : TG:=fun v σ H Q=>Q (σ.set i (some v)) H
theorem Av {i : Nat} {x : Str} (hN : X.N.Nodup) (hi : X.N[i]? = some x) (hx : Loc X.env.scope x) (hf : X.fn x = true ∨ X.env.scope.names.lookup x = some .local:=by first | exact .inl rfl | exact .inr rfl | assumption) : PG X (.Name x pos) (C6 i):=by
 intro pins s σ H v u Q I r h
 exact wpAny_assign_Name (CW I hN hi hx r (fun s' I'=>⟨_,H,I',h⟩) hf)
def PV : TGs:=fun vs σ H Q=>vs = [] ∧ Q σ H
inductive J0 (t : TG) (u : TGs) (vs : List V) (σ : St) (H : Hp) (Q : (St → Hp → Prop)) : Prop
 | mk (v : _) (r : _) (h1 : vs = v :: r) (h2 : t v σ H fun σ' H'=>u r σ' H' Q) : J0 t u vs σ H Q
theorem DJ : PGs X [] PV:=by
 intro pins s σ H vs us Q I r h
 obtain ⟨e,h⟩:=h
 subst e
 cases r
 exact assignInOrder_nil ⟨σ,H,I,h⟩
theorem Bw {e : Expr} {es : List Expr} {t : TG} {u : TGs} (h1 : PG X e t) (h2 : PGs X es u)
 (hs : (assignEach (e :: es) X.env).map (·.2) = assign e X.env :: (assignEach es X.env).map (·.2):=by rfl) : PGs X (e :: es) (J0 t u):=by
 intro pins s σ H vs us Q I r h
 obtain ⟨v,vr,e1,h⟩:=h
 subst e1
 cases r with
 | cons r rr =>
   rw [hs]
   refine assignInOrder_cons (thn (h1 pins s σ H _ _ _ I r h) fun _ s1 ⟨σ1,H1,I1,q1⟩=>?_)
   exact h2 pins s1 σ1 H1 _ _ Q I1 rr q1
inductive LD (K : Tq) (n : Nat) (t : TGs) (v : V) (σ : St) (H : Hp) (Q : (St → Hp → Prop)) : Prop
 | mk (a : _) (xs : _) (h1 : v = .ref a) (h2 : SqT K H a xs) (h3 : xs.length = n) (h4 : t xs σ H Q) : LD K n t v σ H Q
theorem P9 {es : List Expr} {k : Nat} {t : TGs} {n : Nat} (hc : X.calm = true) (h : PGs X es t)
 (hn : (assignEach es X.env).length = n:=by rfl) (hst : (assignEach es X.env).findIdx? (·.1) = none:=by rfl) : PG X (.Tuple es k pos) (LD X.K n t):=by
 intro pins s σ H v u Q I r hw
 obtain ⟨a,xs,e1,hq,hl,hw⟩:=hw
 subst e1
 cases r
 obtain ⟨its,rv,ht,hz⟩:=I.tuple hq
 refine assign_Tuple_tuple (I.ok.hd hc) ht (by simp [hn,← hl,rv.length]) hst fun h' hx=>?_
 have I1 : Inv X pins σ H { s with heap:=h' }:=I.kept (t':=s.toks) fun b o e=>hx b o (Tg (Heap.lt_size e)) e
 exact h pins _ σ H xs _ Q I1 (by simpa using rv) hw
def Ra (to ti : TE) (t : Q9) : TG:=fun v σ H Q=>to σ H fun o H1=>ti σ H1 fun i H2=>t o i v H2 fun H3=>Q σ H3
theorem EH {o i : Expr} {to ti : TE} {t : Q9} (ho : PE X o to) (hi : PE X i ti) (hs : QU X t)
 (ha : ∀ v,assign (.Subscript o i pos) X.env v = (do
  let ov ← holding [v] (eval o X.env)
  let iv ← holding [v,ov] (eval i X.env)
  standAt pos
  holding [v,ov,iv] (setItem ov iv v)
  release [v,ov,iv] []):=by intro _; rfl) : PG X (.Subscript o i pos) (Ra to ti t):=by
 intro pins s σ H v u Q I r h
 rw [ha]
 refine wpAny_bind (wpAny_holding (thn (ho pins s σ H _ I h) fun ov s1 ⟨x,H1,I1,r1,q1⟩=>?_))
 refine wpAny_bind (wpAny_holding (thn (hi pins s1 σ H1 _ I1 q1) fun iv s2 ⟨y,H2,I2,r2,q2⟩=>?_))
 refine wpAny_bind (wpAny_standAt (wpAny_bind (wpAny_holding (thn (hs pins s2 σ H2 x y v ov iv u _ I2 r1 r2 r q2) fun _ s3 ⟨H3,I3,q3⟩=>?_))))
 exact wpAny_release ⟨σ,H3,I3,q3⟩
def M4 (te : TE) (g : TG) : TS:=fun D σ H=>te σ H fun x H1=>g x σ H1 D.nx
theorem CU {tg e : Expr} {te : TE} {g : TG} (he : PE X e te) (hg : PG X tg g) (hs : swapsWithSole [tg] e pos.line X.env = pure false:=by rfl) (hw : swappedStores [tg] e X.env = pure none:=by rfl)
 (h1 : (assignEach [tg] X.env).map (·.2) = [assign tg X.env]:=by rfl) : PS X (.Assign [tg] e pos) (M4 te g):=by
 intro pins s σ H D I h
 refine wpAny_Assign_stores (thn (he pins s σ H _ I h) fun v s1 ⟨x,H1,I1,r1,q1⟩=>?_) hs hw
 rw [h1]
 exact thn (hg pins s1 σ H1 x v _ I1 r1 q1) fun _ s2 q=>q
theorem Ai {i : Nat} {x : Str} {e : Expr} {te : TE} {pos' : Pos} (hN : X.N.Nodup) (hi : X.N[i]? = some x) (hx : Loc X.env.scope x) (he : PE X e te) (hs : swapsWith e (some (.Name x pos')) pos.line X.env = pure false:=by rfl) (hf : X.fn x = true ∨ X.env.scope.names.lookup x = some .local:=by first | exact .inl rfl | exact .inr rfl | assumption) :
 PS X (.Assign [.Name x pos'] e pos) (M4 te (C6 i)):=by
 intro pins s σ H D I h
 refine wpAny_Assign_Name (thn (he pins s σ H _ I h) fun v s1 ⟨y,H1,I1,r1,q1⟩=>?_) hs
 exact CW I1 hN hi hx r1 (fun s2 I2=>⟨_,H1,I2,q1⟩) hf
def R3 (i j : Nat) (ta : TA) : TS:=fun D σ H=>ta σ H fun vs H1=>∃ v w,vs = [v,w] ∧ D.nx ((σ.set i (some v)).set j (some w)) H1
theorem Mn {i j : Nat} {x y : Str} {a b : Expr} {ta : TA} {px py pt : Pos} {kt k2 pt2} (hc : X.calm = true) (hN : X.N.Nodup) (hi : X.N[i]? = some x) (hj : X.N[j]? = some y) (hij : i ≠ j)
 (hx : X.env.scope.names.lookup x = some .local) (hy : X.env.scope.names.lookup y = some .local) (ha : PA X [a,b] ta)
 (hw : swappedStores [.Tuple [.Name x px,.Name y py] kt pt] (.Tuple [a,b] k2 pt2) X.env = pure (some [x,y]))
 (hs : swapsWithSole [.Tuple [.Name x px,.Name y py] kt pt] (.Tuple [a,b] k2 pt2) pos.line X.env = pure false:=by rfl) :
 PS X (.Assign [.Tuple [.Name x px,.Name y py] kt pt] (.Tuple [a,b] k2 pt2) pos) (R3 i j ta):=by
 intro pins s σ H D I h
 rw [exec_Assign_arm]
 refine wpAny_bind (wpAny_standAt ?_)
 rw [hs]
 refine wpAny_bind (wpAny_pure ?_)
 rw [if_neg (by decide)]
 refine wpAny_bind (Tuple_ (thn (ha _ pins s σ H _ I h) fun us s1 ⟨vs,H1,I1,r1,q1⟩=>?_))
 obtain ⟨v,w,e1,q1⟩:=q1
 subst e1
 obtain ⟨u1,u2,rfl,rv,rw'⟩ : ∃ u1 u2,us = [u1,u2] ∧ AZ v u1 ∧ AZ w u2:=by
  cases r1 with
  | cons p q =>
    cases q with
    | cons p' q' =>
      cases q'
      exact ⟨_,_,rfl,p,p'⟩
 refine wpAny_newObj_type ?_ (by show 2 ≤ sizeLine; decide)
 have I2 : Inv X pins σ H1 { s1 with heap:=s1.heap.push { cls:=.type "tuple",data:=.seq [u1,u2].toArray } }:=I1.kept (t':=s1.toks) fun b o e=>Heap.get?_push_of_some _ e
 rw [hw]
 refine wpAny_bind (wpAny_pure ?_)
 show wpAny (model X.prog X.w) X.A (do rule "assign.swapped-stores"; let items ← unpackItems (.ref s1.heap.objs.size) 2 none; assignInOrder [fun v=>bindName X.env y v,fun v=>bindName X.env x v] items.reverse; pure Flow.next) _ _ _
 refine wpAny_bind (wpAny_rule (wpAny_bind (unpackItems_tuple (items:=#[u1,u2]) (I.ok.hd hc) (IsTup.new s1.heap _) fun h' hx'=>?_)))
 have I3:=I2.kept (h':=h') (t':=s1.toks) fun b o e=>hx' b o (Tg (Heap.lt_size e)) e
 show wpAny _ _ (assignInOrder [fun v=>bindName X.env y v,fun v=>bindName X.env x v] [u2,u1] >>= fun _=>pure Flow.next) _ _ _
 refine wpAny_bind (assignInOrder_cons (wpAny_bindName (CW I3 hN hj (.inl hy) rw' (fun s2 I4=>?_) (.inr hy))))
 refine assignInOrder_cons (wpAny_bindName (CW I4 hN hi (.inl hx) rv (fun s3 I5=>assignInOrder_nil (wpAny_pure ?_)) (.inr hx)))
 rw [List.set_comm _ _ (Ne.symm hij)] at I5
 exact ⟨_,H1,I5,q1⟩
end
section
variable {X : Cx} {pos : Pos}
def Jw (c : TT) (tb : TS) : TS:=fun D σ H=>∃ W : Nat → St → Hp → Prop,(∃ m,W m σ H) ∧ ∀ m σ H,W m σ H →
 c σ H fun b H1=>if b = true then ∃ N : St → Hp → Prop,(∀ σ' H',N σ' H' → ∃ m',m' < m ∧ W m' σ' H') ∧ tb { D with nx:=N,ct:=N,bk:=D.nx } σ H1 else D.nx σ H1
theorem Cg {c : Expr} {body : List Stmt} {tc : TT} {tb : TS} (hp : PassesOwn (model X.prog X.w) X.A X.env X.xe) (hc : PT X c tc) (hb : PSs X body tb) : PS X (.While c body [] pos) (Jw tc tb):=by
 intro pins s σ H D I h
 obtain ⟨W,⟨m0,w0⟩,turn⟩:=h
 refine wpAny_While (codeAny_whileLoop (fun n s'=>∃ σ' H',Inv X pins σ' H' s' ∧ W n σ' H') ?_ m0 ⟨σ,H,I,w0⟩)
 rintro n s1 ⟨σ1,H1,I1,w1⟩
 refine wpAny_passesOwn hp (thn (hc pins s1 σ1 H1 _ I1 (turn n σ1 H1 w1)) fun b s2 ⟨H2,I2,q2⟩=>?_)
 cases b with
 | true =>
   obtain ⟨N,hN,q2⟩:=q2
   rw [if_pos rfl]
   refine wpAny_passesOwn hp (thn (hb pins s2 σ1 H2 _ I2 q2) fun f s3 q3=>?_)
   cases f with
   | next =>
     obtain ⟨σ3,H3,I3,n3⟩:=q3
     obtain ⟨m',hm,w3⟩:=hN σ3 H3 n3
     exact ⟨m',hm,σ3,H3,I3,w3⟩
   | cont =>
     obtain ⟨σ3,H3,I3,n3⟩:=q3
     obtain ⟨m',hm,w3⟩:=hN σ3 H3 n3
     exact ⟨m',hm,σ3,H3,I3,w3⟩
   | brk=>exact q3
   | ret v=>exact q3
 | false =>
   rw [if_neg Bool.false_ne_true]
   exact wpAny_execs_nil ⟨σ1,H2,I2,q2⟩
end
structure It where
 go : Nat → Hp → Prop
 yld : Nat → Hp → V → Hp → Prop
 stop : Nat → Hp → Prop
def DZ (X : Cx) (pins : List (Addr × Obj)) (H : Hp) (b : Addr) : Prop :=
 H b = none ∧ b ≠ X.env.locals ∧ b ∉ X.fs ∧ (b ∈ X.ex ∨ X.s₀.heap.objs.size ≤ b) ∧ (∀ x c,X.env.cells.lookup x = some c → c ≠ b) ∧ ∀ p ∈ X.pn ++ pins,p.1 ≠ b
theorem Inv.fpOk {X : Cx} {pins : List (Addr × Obj)} {σ : St} {H H' : Hp} {s : Shared} {b : Addr} (I : Inv X pins σ H s) (hb : s.heap.objs.size ≤ b) (hn : H' b = none) : DZ X pins H' b:=by
 refine ⟨hn,TK (Te I.lt hb),I.nofs hb,.inr (Tr I.sz hb),fun x c e z=>?_,fun p hp z=>?_⟩
 ·obtain ⟨v,q⟩:=I.cell x c e
  exact absurd (Te q.lt (by rw [z]; exact hb)) (Tf _)
 ·exact absurd (Te (Heap.lt_size (I.pin p hp).1) (by rw [z]; exact hb)) (Tf _)
structure Ip (P : Program) (w : World) (K : Tq) (tg : Expr) (J : It) (fp : List Addr) (it : Addr) (tn : Nat → Heap → Prop) : Prop where
 mem : it ∈ fp
 obj : ∀ i h,tn i h → ∀ b ∈ fp,∃ o,h.get? b = some o ∧ ∀ v,o.data ≠ .cell v
 keep : ∀ i h h',tn i h → (∀ b ∈ fp,∀ o,h.get? b = some o → h'.get? b = some o) → tn i h'
 item : ∀ (X : Cx),X.prog = P → X.w = w → X.K = K → X.calm = true → ∀ (i : Nat) (pins : List (Addr × Obj)) (s : Shared) (σ : St) (H : Hp) (E : Value → Shared → Prop),Inv X pins σ H s → (∀ b ∈ fp,DZ X pins H b) → tn i s.heap → J.go i H →
  wpAny (model P w) X.A (pyNext (.ref it)) (fun r s1=>∃ u,r = some u ∧
   wpAny (model P w) X.A (letOwnedTupleGo tg (.ref it) u) (fun _ s2=>∃ x H',Inv X pins σ H' s2 ∧ AZ x u ∧ J.yld i H x H' ∧ tn (i + 1) s2.heap ∧ ∀ b ∈ fp,H' b = none) E s1) E s
 done : ∀ (X : Cx),X.prog = P → X.w = w → X.K = K → X.calm = true → ∀ (i : Nat) (pins : List (Addr × Obj)) (s : Shared) (σ : St) (H : Hp) (E : Value → Shared → Prop),Inv X pins σ H s → (∀ b ∈ fp,DZ X pins H b) → tn i s.heap → J.stop i H →
  wpAny (model P w) X.A (pyNext (.ref it)) (fun r s1=>r = none ∧ Inv X pins σ H s1) E s
 self : ∀ (A : Around) (i : Nat) (s : Shared) (Q : Value → Shared → Prop) (E : Value → Shared → Prop),tn i s.heap → Q (.ref it) s → wpAny (model P w) A (pyIter (.ref it)) Q E s
abbrev TI:=St → Hp → (It → Hp → Prop) → Prop
def PIE (X : Cx) (pins : List (Addr × Obj)) (σ : St) (tg : Expr) (R : It → Hp → Prop) (itv : Value) (s2 : Shared) : Prop :=
 ∃ (it : Addr) (fp : List Addr) (tn : Nat → Heap → Prop) (J : It) (H' : Hp),itv = .ref it ∧ Inv X pins σ H' s2 ∧ Ip X.prog X.w X.K tg J fp it tn ∧ tn 0 s2.heap ∧ (∀ b ∈ fp,DZ X pins H' b) ∧ R J H'
def PI (X : Cx) (tg iter : Expr) (wi : TI) : Prop :=
 ∀ (pins : List (Addr × Obj)) (s : Shared) (σ : St) (H : Hp) (R : It → Hp → Prop),Inv X pins σ H s → wi σ H R →
   wpAny (model X.prog X.w) X.A (eval iter X.env) (fun v s1=>wpAny (model X.prog X.w) X.A (pyIter v) (PIE X pins σ tg R) X.xe s1) X.xe s
theorem FV {M : Model} {A : Around} {E : Value → Shared → Prop} {s : Shared} {tg : Expr} {it : Addr} {u : Value} {o : Obj} {n : String} {vs : Array Value} {Q : Unit → Shared → Prop} (ho : s.heap.get? it = some o) (hc : o.cls = .type n) (hd : o.data = .fields vs)
 (hn : ["enumerate","zip","dict_itemiterator","dict_reverseitemiterator","odict_iterator","itertools.zip_longest","itertools.pairwise"].contains n = false) (hQ : Q () s) : wpAny M A (letOwnedTupleGo tg (.ref it) u) Q E s:=by
 unfold letOwnedTupleGo
 cases tg <;> first
  | exact wpAny_pure hQ
  | (cases u <;> first
   | exact wpAny_pure hQ
   | (refine wpAny_bind (wpAny_load ho ?_)
      rw [hc,hd]
      show wpAny M A (if (["enumerate","zip","dict_itemiterator","dict_reverseitemiterator","odict_iterator","itertools.zip_longest","itertools.pairwise"].contains n && vs[0]? == some (rawInt _)) = true then _ else _) Q E s
      rw [if_neg (by intro h; rw [hn,Bool.false_and] at h; cases h)]
      exact wpAny_pure hQ))
def Itl (K : Tq) (a : Addr) : It :=
 ⟨fun i H=>∃ xs x,SqL K H a xs ∧ xs[i]? = some x,fun i H x H'=>H' = H ∧ ∀ xs,SqL K H a xs → xs[i]? = some x,fun i H=>∃ xs,SqL K H a xs ∧ xs.length ≤ i⟩
def Itt (K : Tq) (a : Addr) : It :=
 ⟨fun i H=>∃ xs x,SqT K H a xs ∧ xs[i]? = some x,fun i H x H'=>H' = H ∧ ∀ xs,SqT K H a xs → xs[i]? = some x,fun i H=>∃ xs,SqT K H a xs ∧ xs.length ≤ i⟩
def Itr (lo : Int) (n : Nat) : It:=⟨fun i _=>i < n,fun i H x H'=>H' = H ∧ x = .int (lo + i),fun i _=>n ≤ i⟩
theorem GF {P : Program} {w : World} {K : Tq} {tg : Expr} (a it : Addr) : Ip P w K tg (Itl K a) [it] it (fun i h=>h.IsListIter it a i) where
 mem:=by simp
 obj:=fun i h st b hb=>by
  have e : b = it:=by simpa using hb
  subst e
  obtain ⟨o,e,c,d⟩:=st
  exact ⟨o,e,fun v z=>by rw [d] at z; cases z⟩
 keep:=fun i h h' st k=>st.at fun o e=>k it (by simp) o e
 item:=by
  intro X hP hw hK hc i pins s σ H E I hf st hg
  subst hP hw hK
  obtain ⟨xs,x,hq,hx⟩:=hg
  obtain ⟨its,rv,p,hz⟩:=I.list hq
  obtain ⟨u,hu,ru⟩:=rv.get hx
  obtain ⟨f0,f1,f2,f3,f4,f5⟩:=hf it (by simp)
  refine wpAny_pyNext_list_item st p.isList (x:=u) (by simpa using hu) fun h' st' sb=>?_
  have I1 : Inv X pins σ H { s with heap:=h' }:=I.turned (t':=s.toks) (fun b o hb e=>(sb.2 b hb).trans e) f0 f1 f3 f4 f5
  obtain ⟨o,e,c,d⟩:=id st'
  exact ⟨u,rfl,FV (s:={ s with heap:=h' }) e c d (by decide) ⟨x,H,I1,ru,⟨rfl,fun ys hy=>by rw [I.list_inj hy hq]; exact hx⟩,st',fun b hb=>(hf b hb).1⟩⟩
 done:=by
  intro X hP hw hK hc i pins s σ H E I hf st hg
  subst hP hw hK
  obtain ⟨xs,hq,hx⟩:=hg
  obtain ⟨its,rv,p,hz⟩:=I.list hq
  obtain ⟨f0,f1,f2,f3,f4,f5⟩:=hf it (by simp)
  have hl:=rv.length
  exact wpAny_pyNext_list_end (I.ok.hd hc) st p.isList (by simp; lia) fun h' eb=>⟨rfl,I.turned (t':=s.toks) (fun b o hb e=>eb b o hb e) f0 f1 f3 f4 f5⟩
 self:=fun _ _ _ _ _ st h=>wpAny_pyIter_listiter st h
theorem Js {P : Program} {w : World} {K : Tq} {tg : Expr} (a it : Addr) : Ip P w K tg (Itt K a) [it] it (fun i h=>h.IsTupleIter it a i) where
 mem:=by simp
 obj:=fun i h st b hb=>by
  have e : b = it:=by simpa using hb
  subst e
  obtain ⟨o,e,c,d⟩:=st
  exact ⟨o,e,fun v z=>by rw [d] at z; cases z⟩
 keep:=fun i h h' st k=>st.at fun o e=>k it (by simp) o e
 item:=by
  intro X hP hw hK hc i pins s σ H E I hf st hg
  subst hP hw hK
  obtain ⟨xs,x,hq,hx⟩:=hg
  obtain ⟨its,rv,p,hz⟩:=I.tuple hq
  obtain ⟨u,hu,ru⟩:=rv.get hx
  obtain ⟨f0,f1,f2,f3,f4,f5⟩:=hf it (by simp)
  refine wpAny_pyNext_tuple_item st (show s.heap.IsTuple a its.toArray from p) (x:=u) (by simpa using hu) fun h' st' sb=>?_
  have I1 : Inv X pins σ H { s with heap:=h' }:=I.turned (t':=s.toks) (fun b o hb e=>(sb.2 b hb).trans e) f0 f1 f3 f4 f5
  obtain ⟨o,e,c,d⟩:=id st'
  exact ⟨u,rfl,FV (s:={ s with heap:=h' }) e c d (by decide) ⟨x,H,I1,ru,⟨rfl,fun ys hy=>by rw [I.tuple_inj hy hq]; exact hx⟩,st',fun b hb=>(hf b hb).1⟩⟩
 done:=by
  intro X hP hw hK hc i pins s σ H E I hf st hg
  subst hP hw hK
  obtain ⟨xs,hq,hx⟩:=hg
  obtain ⟨its,rv,p,hz⟩:=I.tuple hq
  obtain ⟨f0,f1,f2,f3,f4,f5⟩:=hf it (by simp)
  have hl:=rv.length
  exact wpAny_pyNext_tuple_end (I.ok.hd hc) st (show s.heap.IsTuple a its.toArray from p) (by simp; lia) fun h' eb=>⟨rfl,I.turned (t':=s.toks) (fun b o hb e=>eb b o hb e) f0 f1 f3 f4 f5⟩
 self:=fun _ _ _ _ _ st h=>wpAny_pyIter_tupleiter st h
theorem Jt {P : Program} {w : World} {K : Tq} {tg : Expr} (it : Addr) (lo : Int) (n : Nat) : Ip P w K tg (Itr lo n) [it] it (fun i h=>IsRangeIter h it (lo + (i : Nat) * 1) ((n : Int) - (i : Nat)) 1) where
 mem:=by simp
 obj:=fun i h st b hb=>by
  have e : b = it:=by simpa using hb
  subst e
  exact ⟨_,st,fun v z=>by
   have z' : Data.fields _ = Data.cell v:=z
   cases z'⟩
 keep:=fun i h h' st k=>k it (by simp) _ st
 item:=by
  intro X hP hw hK hc i pins s σ H E I hf st hg
  subst hP hw hK
  obtain ⟨f0,f1,f2,f3,f4,f5⟩:=hf it (by simp)
  have W:=Walks.range (prog:=X.prog) (w:=X.w) (I.ok.hd hc) it lo 1 n
  refine W.item i s _ _ hg st fun v h' tk hv st' kk=>?_
  obtain ⟨t,rfl⟩:=hv
  have I1 : Inv X pins σ H { s with heap:=h',toks:=tk }:=I.turned (fun b o hb e=>kk b o (by simpa using hb) e) f0 f1 f3 f4 f5
  refine ⟨_,rfl,FV (s:={ s with heap:=h',toks:=tk }) (n:="range_iterator") st' rfl rfl (by decide) ⟨.int (lo + i),H,I1,⟨t,?_⟩,⟨rfl,rfl⟩,st',fun b hb=>(hf b hb).1⟩⟩
  rw [Int.mul_one]
 done:=by
  intro X hP hw hK hc i pins s σ H E I hf st hg
  subst hP hw hK
  obtain ⟨f0,f1,f2,f3,f4,f5⟩:=hf it (by simp)
  exact wpAny_pyNext_range_end (I.ok.hd hc) st (by have : n ≤ i:=hg; lia) fun h' eb=>⟨rfl,I.turned (t':=s.toks) (fun b o hb e=>eb b o hb e) f0 f1 f3 f4 f5⟩
 self:=fun _ _ _ _ _ st h=>wpAny_pyIter_rangeiter st h
end L2
namespace L2
open PySem PySem.Spec PyProof.Rows
section
variable {X : Cx} {tg : Expr}
def GV (K : Tq) (tl : TE) : TI:=fun σ H R=>tl σ H fun x H1=>∃ a,x = .ref a ∧ (∃ xs,SqL K H1 a xs) ∧ R (Itl K a) H1
def QE (K : Tq) (tl : TE) : TI:=fun σ H R=>tl σ H fun x H1=>∃ a,x = .ref a ∧ (∃ xs,SqT K H1 a xs) ∧ R (Itt K a) H1
theorem Kc {l : Expr} {tl : TE} (hl : PE X l tl) : PI X tg l (GV X.K tl):=by
 intro pins s σ H R I h
 refine thn (hl pins s σ H _ I h) fun v s1 ⟨x,H1,I1,r1,q1⟩=>?_
 obtain ⟨a,e,⟨xs,hq⟩,q⟩:=q1
 subst e
 cases r1
 obtain ⟨its,rv,p,hz⟩:=I1.list hq
 refine wpAny_pyIter_list p.isList ?_
 refine ⟨s1.heap.objs.size,[s1.heap.objs.size],_,_,H1,rfl,I1.kept (t':=s1.toks) fun b o e=>Heap.get?_push_of_some _ e,GF a _,⟨_,Heap.get?_push_size _ rfl,rfl,rfl⟩,fun b hb=>?_,q⟩
 have e : b = s1.heap.objs.size:=by simpa using hb
 subst e
 exact I1.fpOk (TL _) (I1.hok.fresh (TL _))
theorem P7 {l : Expr} {tl : TE} (hl : PE X l tl) : PI X tg l (QE X.K tl):=by
 intro pins s σ H R I h
 refine thn (hl pins s σ H _ I h) fun v s1 ⟨x,H1,I1,r1,q1⟩=>?_
 obtain ⟨a,e,⟨xs,hq⟩,q⟩:=q1
 subst e
 cases r1
 obtain ⟨its,rv,p,hz⟩:=I1.tuple hq
 refine wpAny_pyIter_tuple (show s1.heap.IsTuple a its.toArray from p) ?_
 refine ⟨s1.heap.objs.size,[s1.heap.objs.size],_,_,H1,rfl,I1.kept (t':=s1.toks) fun b o e=>Heap.get?_push_of_some _ e,Js a _,⟨_,Heap.get?_push_size _ rfl,rfl,rfl⟩,fun b hb=>?_,q⟩
 have e : b = s1.heap.objs.size:=by simpa using hb
 subst e
 exact I1.fpOk (TL _) (I1.hok.fresh (TL _))
theorem ID {pins : List (Addr × Obj)} {σ : St} {H : Hp} {s : Shared} {R : It → Hp → Prop} {E : Value → Shared → Prop} {lo hi : Int} {t u v : Tok} {tk : Nat} (I : Inv X pins σ H s) (h1 : -(2 ^ 62) ≤ lo) (h2 : lo < 2 ^ 62) (h3 : -(2 ^ 62) ≤ hi) (h4 : hi < 2 ^ 62)
 (q : R (Itr lo (hi - lo).toNat) H) : wpAny (model X.prog X.w) X.A (pyIter (.ref s.heap.objs.size)) (PIE X pins σ tg R) E { s with heap:=s.heap.push { cls:=.type "range",data:=.fields #[.int lo t,.int hi u,.int 1 v] },toks:=tk }:=by
 refine wpAny_pyIter_range (IsRange.new ..) (small_one h1 h2 h3 h4) ?_
 have I1 : Inv X pins σ H { s with heap:=s.heap.push { cls:=.type "range",data:=.fields #[.int lo t,.int hi u,.int 1 v] },toks:=tk }:=I.kept fun b o e=>Heap.get?_push_of_some _ e
 refine ⟨(s.heap.push { cls:=.type "range",data:=.fields #[.int lo t,.int hi u,.int 1 v] }).objs.size,[(s.heap.push { cls:=.type "range",data:=.fields #[.int lo t,.int hi u,.int 1 v] }).objs.size],_,_,H,rfl,
  I1.kept (t':=tk) fun b o e=>Heap.get?_push_of_some _ e,Jt _ lo (hi - lo).toNat,?_,fun b hb=>?_,q⟩
 ·have e1 : lo + ((0 : Nat) : Int) * 1 = lo:=by simp
  have e2 : (((hi - lo).toNat : Nat) : Int) - ((0 : Nat) : Int) = Builtin.Range.rangeSize lo hi 1:=by rw [rangeSize_one]; split <;> lia
  show IsRangeIter _ _ (lo + ((0 : Nat) : Int) * 1) ((((hi - lo).toNat : Nat) : Int) - ((0 : Nat) : Int)) 1
  rw [e1,e2]
  exact Heap.get?_push_size _ rfl
 ·have e : b = (s.heap.push { cls:=.type "range",data:=.fields #[.int lo t,.int hi u,.int 1 v] }).objs.size:=by simpa using hb
  subst e
  exact I1.fpOk (TL _) (I1.hok.fresh (TL _))
def QG (ta : TA) : TI:=fun σ H R=>ta σ H fun vs H1=>∃ j : Int,vs = [.int j] ∧ -(2 ^ 62) ≤ j ∧ j < 2 ^ 62 ∧ R (Itr 0 j.toNat) H1
def QF (ta : TA) : TI:=fun σ H R=>ta σ H fun vs H1=>∃ i j : Int,vs = [.int i,.int j] ∧ (-(2 ^ 62) ≤ i ∧ i < 2 ^ 62 ∧ -(2 ^ 62) ≤ j ∧ j < 2 ^ 62) ∧ R (Itr i (j - i).toNat) H1
theorem Bv {a : Expr} {ta : TA} {p pos : Pos} (hg : Gl X "range") (hm : X.mg "range" = none) (ha : PA X [a] ta) (hs : starEach [a] X.env = [(false,eval a X.env)]:=by rfl) : PI X tg (.Call (.Name "range" p) [a] [] pos) (QG ta):=by
 intro pins s σ H R I h
 refine Call_ (DB I hg hm boot_range (PyProof.Rows.callWith_type1 (thn (ha pos pins s σ H _ I h) fun us s1 ⟨vs,H1,I1,r1,q1⟩=>?_) hs rfl))
 obtain ⟨j,e,q1,q2,q⟩:=q1
 subst e
 cases r1 with
 | cons r rr =>
   cases rr
   obtain ⟨t,rfl⟩:=r
   exact call_range_1 (ID I1 (by lia) (by lia) q1 q2 (by simpa using q))
theorem GI {a b : Expr} {ta : TA} {p pos : Pos} (hg : Gl X "range") (hm : X.mg "range" = none) (ha : PA X [a,b] ta) (hs : starEach [a,b] X.env = [(false,eval a X.env),(false,eval b X.env)]:=by rfl) (hs2 : starEach [b] X.env = [(false,eval b X.env)]:=by rfl) :
 PI X tg (.Call (.Name "range" p) [a,b] [] pos) (QF ta):=by
 intro pins s σ H R I h
 refine Call_ (DB I hg hm boot_range (PyProof.Rows.callWith_type1 (thn (ha pos pins s σ H _ I h) fun us s1 ⟨vs,H1,I1,r1,q1⟩=>?_) (by rw [hs,hs2]) (by rw [hs2]; rfl)))
 obtain ⟨i,j,e,⟨q1,q2,q3,q4⟩,q⟩:=q1
 subst e
 cases r1 with
 | cons r rr =>
   cases rr with
   | cons r' rr =>
     cases rr
     obtain ⟨t,rfl⟩:=r
     obtain ⟨t',rfl⟩:=r'
     exact call_range_2 (ID I1 q1 q2 q3 q4 q)
def ON (wi : TI) (g : TG) (tb : TS) : TS:=fun D σ H=>wi σ H fun J H1=>∃ W : Nat → Nat → St → Hp → Prop,(∃ m,W 0 m σ H1) ∧ ∀ i m σ H,W i m σ H →
 (J.stop i H ∧ D.nx σ H) ∨ (J.go i H ∧ ∃ N : St → Hp → Prop,(∀ σ' H',N σ' H' → ∃ m',m' < m ∧ W (i + 1) m' σ' H') ∧ ∀ x H',J.yld i H x H' → g x σ H' fun σ2 H2=>tb { D with nx:=N,ct:=N,bk:=D.nx } σ2 H2)
def EG (fp : List Addr) (h : Heap) : List (Addr × Obj):=fp.filterMap fun b=>(h.get? b).map fun o=>(b,o)
theorem Cd {fp : List Addr} {h : Heap} {b : Addr} {o : Obj} (hb : b ∈ fp) (e : h.get? b = some o) : (b,o) ∈ EG fp h:=TM.mpr ⟨b,hb,by rw [e]; rfl⟩
theorem Li {fp : List Addr} {h : Heap} {p : Addr × Obj} (hp : p ∈ EG fp h) : p.1 ∈ fp ∧ h.get? p.1 = some p.2:=by
 obtain ⟨b,hb,e⟩:=TM.mp hp
 cases q : h.get? b with
 | none=>rw [q] at e; cases e
 | some o =>
   rw [q] at e
   have e' : (b,o) = p:=Tb.inj e
   subst e'
   exact ⟨hb,q⟩
theorem Inv.pinned {pins : List (Addr × Obj)} {σ : St} {H : Hp} {s : Shared} {fp : List Addr} (I : Inv X pins σ H s) (hf : ∀ b ∈ fp,DZ X pins H b) (ho : ∀ b ∈ fp,∃ o,s.heap.get? b = some o ∧ ∀ v,o.data ≠ .cell v) : Inv X (pins ++ EG fp s.heap) σ H s :=
 I.pins_of fun p hp=>(Tx.mp hp).elim (fun z=>I.pin p (TN _ z)) fun z=>by
  obtain ⟨hb,e⟩:=Li z
  obtain ⟨f0,f1,f2,_⟩:=hf p.1 hb
  obtain ⟨o,e',d⟩:=ho p.1 hb
  rw [e] at e'; cases e'
  exact ⟨e,f0,f1,f2,d⟩
theorem Inv.unpinned {pins pl : List (Addr × Obj)} {σ : St} {H : Hp} {s : Shared} (I : Inv X (pins ++ pl) σ H s) : Inv X pins σ H s:=I.pins_of fun p hp=>I.pin p (TN _ (Tz _ hp))
theorem P6 {iter : Expr} {body : List Stmt} {wi : TI} {g : TG} {tb : TS} {pos : Pos} (hp : PassesOwn (model X.prog X.w) X.A X.env X.xe) (hc : X.calm = true) (hi : PI X tg iter wi) (hg : PG X tg g) (hb : PSs X body tb)
 (hs : ∀ x,foldedSetIterable iter X.env x = pure x:=by intro _; rfl) : PS X (.For tg iter body [] pos) (ON wi g tb):=by
 intro pins s σ H D I h
 refine wpAny_For (thn (hi pins s σ H _ I h) fun v s1 h1=>thn h1 fun itv s2 h2=>?_) hs
 obtain ⟨it,fp,tn,J,H2,e,I2,T,st2,f2,W,⟨m0,w0⟩,turn⟩:=h2
 subst e
 -- what stays true of the iterator's objects through the loop
 have stat : ∀ {H' : Hp},(∀ b ∈ fp,H' b = none) → ∀ b ∈ fp,DZ X pins H' b:=fun hn b hb=>⟨hn b hb,(f2 b hb).2⟩
 refine codeAny_forLoop_any (fun n s'=>∃ i σ' H',Inv X pins σ' H' s' ∧ tn i s'.heap ∧ (∀ b ∈ fp,H' b = none) ∧ W i n σ' H') ?_ m0 ⟨0,σ,H2,I2,st2,fun b hb=>(f2 b hb).1,w0⟩
 rintro n s3 ⟨i,σ3,H3,I3,st3,fr3,w3⟩
 rcases turn i n σ3 H3 w3 with ⟨stop,qn⟩ | ⟨go,N,hN,step⟩
 ·refine wpAny_passesOwn hp (thn (T.done X rfl rfl rfl hc i pins s3 σ3 H3 X.xe I3 (stat fr3) st3 stop) fun r s4 ⟨hr,I4⟩=>?_)
  subst hr
  exact wpAny_execs_nil ⟨σ3,H3,I4,qn⟩
 ·refine wpAny_passesOwn hp (thn (T.item X rfl rfl rfl hc i pins s3 σ3 H3 X.xe I3 (stat fr3) st3 go) fun r s4 ⟨u,hr,h4⟩=>?_)
  subst hr
  refine wpAny_passesOwn hp (thn h4 fun _ s5 ⟨x,H5,I5,r5,y5,st5,fr5⟩=>?_)
  have I5':=I5.pinned (stat fr5) (T.obj _ _ st5)
  refine wpAny_passesOwn hp (thn (hg _ s5 σ3 H5 x u _ I5' r5 (step x H5 y5)) fun _ s6 ⟨σ6,H6,I6,q6⟩=>?_)
  refine wpAny_passesOwn hp (thn (hb _ s6 σ6 H6 _ I6 q6) fun f s7 q7=>?_)
  have again : ∀ {σ7 : St} {H7 : Hp},Inv X (pins ++ EG fp s5.heap) σ7 H7 s7 → N σ7 H7 → ∃ m,m < n ∧ ∃ i σ' H',Inv X pins σ' H' s7 ∧ tn i s7.heap ∧ (∀ b ∈ fp,H' b = none) ∧ W i m σ' H':=fun {σ7 H7} I7 n7=>by
   obtain ⟨m',hm,w7⟩:=hN σ7 H7 n7
   refine ⟨m',hm,i + 1,σ7,H7,I7.unpinned,T.keep _ _ _ st5 fun b hb o e=>(I7.pin (b,o) (TN _ (TN _ (Cd hb e)))).1,fun b hb=>?_,w7⟩
   obtain ⟨o,e,d⟩:=T.obj _ _ st5 b hb
   exact (I7.pin (b,o) (TN _ (TN _ (Cd hb e)))).2.1
  cases f with
  | next=>obtain ⟨σ7,H7,I7,n7⟩:=q7; exact again I7 n7
  | cont=>obtain ⟨σ7,H7,I7,n7⟩:=q7; exact again I7 n7
  | brk=>obtain ⟨σ7,H7,I7,q7⟩:=q7; exact ⟨σ7,H7,I7.unpinned,q7⟩
  | ret v=>obtain ⟨x7,σ7,H7,I7,r7,q7⟩:=q7; exact ⟨x7,σ7,H7,I7.unpinned,r7,q7⟩
end
theorem J1 {K : Tq} {a : Addr} {xs : List V} {g : TG} {tb : TS} {D : Dl} {σ : St} {H : Hp} (Pv : Nat → St → Hp → Prop) (h0 : Pv 0 σ H) (hl : ∀ i σ H,i ≤ xs.length → Pv i σ H → SqL K H a xs)
 (hs : ∀ i x σ H,xs[i]? = some x → Pv i σ H → g x σ H fun σ2 H2=>tb { D with nx:=Pv (i + 1),ct:=Pv (i + 1),bk:=D.nx } σ2 H2) (hd : ∀ σ H,Pv xs.length σ H → D.nx σ H) :
 ∃ W : Nat → Nat → St → Hp → Prop,(∃ m,W 0 m σ H) ∧ ∀ i m σ H,W i m σ H →
   ((Itl K a).stop i H ∧ D.nx σ H) ∨ ((Itl K a).go i H ∧ ∃ N : St → Hp → Prop,(∀ σ' H',N σ' H' → ∃ m',m' < m ∧ W (i + 1) m' σ' H') ∧ ∀ x H',(Itl K a).yld i H x H' → g x σ H' fun σ2 H2=>tb { D with nx:=N,ct:=N,bk:=D.nx } σ2 H2):=by
 refine ⟨fun i m σ H=>m = xs.length - i ∧ i ≤ xs.length ∧ Pv i σ H,⟨xs.length,by simp,TQ _,h0⟩,?_⟩
 rintro i m σ H ⟨rfl,hi,p⟩
 have q:=hl i σ H hi p
 by_cases hlt : i < xs.length
 ·refine .inr ⟨⟨xs,xs[i],q,by simp [hlt]⟩,Pv (i + 1),fun σ' H' p'=>⟨xs.length - (i + 1),by lia,rfl,hlt,p'⟩,fun x H' y=>?_⟩
  obtain ⟨e,y⟩:=y
  subst e
  exact hs i x σ _ (y xs q) p
 ·have e : i = xs.length:=by lia
  subst e
  exact .inl ⟨⟨xs,q,TL _⟩,hd σ H p⟩
theorem O0 {K : Tq} {a : Addr} {xs : List V} {g : TG} {tb : TS} {D : Dl} {σ : St} {H : Hp} (Pv : Nat → St → Hp → Prop) (h0 : Pv 0 σ H) (hl : ∀ i σ H,i ≤ xs.length → Pv i σ H → SqT K H a xs)
 (hs : ∀ i x σ H,xs[i]? = some x → Pv i σ H → g x σ H fun σ2 H2=>tb { D with nx:=Pv (i + 1),ct:=Pv (i + 1),bk:=D.nx } σ2 H2) (hd : ∀ σ H,Pv xs.length σ H → D.nx σ H) :
 ∃ W : Nat → Nat → St → Hp → Prop,(∃ m,W 0 m σ H) ∧ ∀ i m σ H,W i m σ H →
   ((Itt K a).stop i H ∧ D.nx σ H) ∨ ((Itt K a).go i H ∧ ∃ N : St → Hp → Prop,(∀ σ' H',N σ' H' → ∃ m',m' < m ∧ W (i + 1) m' σ' H') ∧ ∀ x H',(Itt K a).yld i H x H' → g x σ H' fun σ2 H2=>tb { D with nx:=N,ct:=N,bk:=D.nx } σ2 H2):=by
 refine ⟨fun i m σ H=>m = xs.length - i ∧ i ≤ xs.length ∧ Pv i σ H,⟨xs.length,by simp,TQ _,h0⟩,?_⟩
 rintro i m σ H ⟨rfl,hi,p⟩
 have q:=hl i σ H hi p
 by_cases hlt : i < xs.length
 ·refine .inr ⟨⟨xs,xs[i],q,by simp [hlt]⟩,Pv (i + 1),fun σ' H' p'=>⟨xs.length - (i + 1),by lia,rfl,hlt,p'⟩,fun x H' y=>?_⟩
  obtain ⟨e,y⟩:=y
  subst e
  exact hs i x σ _ (y xs q) p
 ·have e : i = xs.length:=by lia
  subst e
  exact .inl ⟨⟨xs,q,TL _⟩,hd σ H p⟩
theorem BK {lo : Int} {n : Nat} {g : TG} {tb : TS} {D : Dl} {σ : St} {H : Hp} (Pv : Nat → St → Hp → Prop) (h0 : Pv 0 σ H)
 (hs : ∀ i σ H,i < n → Pv i σ H → g (.int (lo + i)) σ H fun σ2 H2=>tb { D with nx:=Pv (i + 1),ct:=Pv (i + 1),bk:=D.nx } σ2 H2) (hd : ∀ σ H,Pv n σ H → D.nx σ H) :
 ∃ W : Nat → Nat → St → Hp → Prop,(∃ m,W 0 m σ H) ∧ ∀ i m σ H,W i m σ H →
   ((Itr lo n).stop i H ∧ D.nx σ H) ∨ ((Itr lo n).go i H ∧ ∃ N : St → Hp → Prop,(∀ σ' H',N σ' H' → ∃ m',m' < m ∧ W (i + 1) m' σ' H') ∧ ∀ x H',(Itr lo n).yld i H x H' → g x σ H' fun σ2 H2=>tb { D with nx:=N,ct:=N,bk:=D.nx } σ2 H2):=by
 refine ⟨fun i m σ H=>m = n - i ∧ i ≤ n ∧ Pv i σ H,⟨n,by simp,TQ _,h0⟩,?_⟩
 rintro i m σ H ⟨rfl,hi,p⟩
 by_cases hlt : i < n
 ·refine .inr ⟨hlt,Pv (i + 1),fun σ' H' p'=>⟨n - (i + 1),by lia,rfl,hlt,p'⟩,fun x H' y=>?_⟩
  obtain ⟨e,y⟩:=y
  subst e y
  exact hs i σ _ hlt p
 ·have e : i = n:=by lia
  subst e
  exact .inl ⟨TL _,hd σ H p⟩
theorem Iw {c : TT} {tb : TS} {D : Dl} {σ : St} {H : Hp} (Pv : St → Hp → Prop) (μ : St → Hp → Nat) (h0 : Pv σ H)
 (hs : ∀ σ H,Pv σ H → c σ H fun b H1=>if b = true then tb { D with nx:=fun σ' H'=>Pv σ' H' ∧ μ σ' H' < μ σ H,ct:=fun σ' H'=>Pv σ' H' ∧ μ σ' H' < μ σ H,bk:=D.nx } σ H1 else D.nx σ H1)
 (mono : ∀ σ H Q Q',(∀ b H1,Q b H1 → Q' b H1) → c σ H Q → c σ H Q') : Jw c tb D σ H:=by
 refine ⟨fun m σ H=>m = μ σ H ∧ Pv σ H,⟨_,rfl,h0⟩,?_⟩
 rintro m σ H ⟨rfl,p⟩
 refine mono σ H _ _ (fun b H1 q=>?_) (hs σ H p)
 cases b with
 | true=>exact ⟨_,fun σ' H' ⟨p',l⟩=>⟨_,l,rfl,p'⟩,q⟩
 | false=>exact q
end L2
namespace L2
open PySem PySem.Spec PyProof.Rows
abbrev R2:=V → V → Hp → VK → Prop
def OpR (X : Cx) (f : Value → Value → Sem Value) (r : R2) : Prop :=
 ∀ (pins : List (Addr × Obj)) (s : Shared) (σ : St) (H : Hp) (x y : V) (v u : Value) (Q : VK),Inv X pins σ H s → AZ x v → AZ y u → r x y H Q →
   wpAny (model X.prog X.w) X.A (f v u) (EP X pins σ Q) X.xe s
def UnR (X : Cx) (f : Value → Sem Value) (r : V → Hp → VK → Prop) : Prop :=
 ∀ (pins : List (Addr × Obj)) (s : Shared) (σ : St) (H : Hp) (x : V) (v : Value) (Q : VK),Inv X pins σ H s → AZ x v → r x H Q →
   wpAny (model X.prog X.w) X.A (f v) (EP X pins σ Q) X.xe s
def Dg (X : Cx) (f : Value) (r : List V → Hp → VK → Prop) : Prop :=
 ∀ (pins : List (Addr × Obj)) (s : Shared) (σ : St) (H : Hp) (xs : List V) (us : List Value) (Q : VK),Inv X pins σ H s → AM xs us → r xs H Q →
   wpAny (model X.prog X.w) X.A (call f us) (EP X pins σ Q) X.xe s
def tOp (r : R2) (ta tb : TE) : TE:=fun σ H Q=>ta σ H fun x H1=>tb σ H1 fun y H2=>r x y H2 Q
def tUn (r : V → Hp → VK → Prop) (ta : TE) : TE:=fun σ H Q=>ta σ H fun x H1=>r x H1 Q
inductive rI (C : Int → Int → Prop) (g : Int → Int → V) (x : V) (y : V) (H : Hp) (Q : VK) : Prop
 | mk (i : _) (j : _) (h1 : x = .int i) (h2 : y = .int j) (h3 : C i j) (h4 : Q (g i j) H) : rI C g x y H Q
inductive rI0 (g : Int → Int → V) (x : V) (y : V) (H : Hp) (Q : VK) : Prop
 | mk (i : _) (j : _) (h1 : x = .int i) (h2 : y = .int j) (h3 : Q (g i j) H) : rI0 g x y H Q
inductive rU (g : Int → V) (x : V) (H : Hp) (Q : VK) : Prop
 | mk (i : _) (h1 : x = .int i) (h2 : Q (g i) H) : rU g x H Q
section
variable {X : Cx} {a b c : Expr} {ta tb tc : TE} {pos : Pos}
theorem Q6 (ha : PE X a ta) (hb : PE X b tb) {pins : List (Addr × Obj)} {s : Shared} {σ : St} {H : Hp} {R : V → V → Hp → Prop} (I : Inv X pins σ H s)
 (h : ta σ H fun x H1=>tb σ H1 fun y H2=>R x y H2) {Q : Value → Shared → Prop} {f : Value → Value → Sem Value}
 (hf : ∀ v u s2 x y H2,Inv X pins σ H2 s2 → AZ x v → AZ y u → R x y H2 → wpAny (model X.prog X.w) X.A (f v u) Q X.xe s2) :
 wpAny (model X.prog X.w) X.A (eval a X.env) (fun v s₁=>wpAny (model X.prog X.w) X.A (eval b X.env) (fun u s₂=>wpAny (model X.prog X.w) X.A (f v u) Q X.xe s₂) X.xe s₁) X.xe s:=by
 refine thn (ha pins s σ H _ I h) fun v s1 ⟨x,H1,I1,r1,q1⟩=>?_
 refine thn (hb pins s1 σ H1 _ I1 q1) fun u s2 ⟨y,H2,I2,r2,q2⟩=>?_
 exact hf v u s2 x y H2 I2 r1 r2 q2
theorem Aj {op : Operator} {r : R2} (ho : OpR X (binaryOp op) r) (ha : PE X a ta) (hb : PE X b tb) : PE X (.BinOp a op b pos) (tOp r ta tb):=by
 intro pins s σ H Q I h
 exact wpAny_BinOp (Q6 ha hb I h fun v u s2 x y H2 I2 rx ry q=>ho pins s2 σ H2 x y v u Q I2 rx ry q)
theorem DR {op : UnaryOp} {r : V → Hp → VK → Prop} (ho : UnR X (unaryOp op) r) (ha : PE X a ta) : PE X (.UnaryOp op a pos) (tUn r ta):=by
 intro pins s σ H Q I h
 exact UnaryOp_ (thn (ha pins s σ H _ I h) fun v s1 ⟨x,H1,I1,r1,q1⟩=>ho pins s1 σ H1 x v Q I1 r1 q1)
theorem opI {f : Value → Value → Sem Value} {C : Int → Int → Prop} {g : Int → Int → Int}
 (rule : ∀ (i j : Int) (t u : Tok) (s : Shared) (Q : Value → Shared → Prop) (E : Value → Shared → Prop),C i j → Q (.int (g i j) s.toks) { s with toks:=s.toks + 1 } → wpAny (model X.prog X.w) X.A (f (.int i t) (.int j u)) Q E s) :
 OpR X f (rI C fun i j=>.int (g i j)):=by
 intro pins s σ H x y v u Q I rx ry h
 obtain ⟨i,j,rfl,rfl,hc,q⟩:=h
 obtain ⟨t,rfl⟩:=rx
 obtain ⟨t',rfl⟩:=ry
 exact rule i j t t' s _ _ hc ⟨.int (g i j),H,I.tok _,⟨_,rfl⟩,q⟩
theorem QC {f : Value → Value → Sem Value} {g : Int → Int → Int}
 (rule : ∀ (i j : Int) (t u : Tok) (s : Shared) (Q : Value → Shared → Prop) (E : Value → Shared → Prop),Q (.int (g i j) s.toks) { s with toks:=s.toks + 1 } → wpAny (model X.prog X.w) X.A (f (.int i t) (.int j u)) Q E s) :
 OpR X f (rI0 fun i j=>.int (g i j)):=by
 intro pins s σ H x y v u Q I rx ry h
 obtain ⟨i,j,rfl,rfl,q⟩:=h
 obtain ⟨t,rfl⟩:=rx
 obtain ⟨t',rfl⟩:=ry
 exact rule i j t t' s _ _ ⟨.int (g i j),H,I.tok _,⟨_,rfl⟩,q⟩
theorem Pm {f : Value → Value → Sem Value} {g : Int → Int → Bool}
 (rule : ∀ (i j : Int) (t u : Tok) (s : Shared) (Q : Value → Shared → Prop) (E : Value → Shared → Prop),Q (.bool (g i j)) s → wpAny (model X.prog X.w) X.A (f (.int i t) (.int j u)) Q E s) :
 OpR X f (rI0 fun i j=>.bl (g i j)):=by
 intro pins s σ H x y v u Q I rx ry h
 obtain ⟨i,j,rfl,rfl,q⟩:=h
 obtain ⟨t,rfl⟩:=rx
 obtain ⟨t',rfl⟩:=ry
 exact rule i j t t' s _ _ ⟨.bl (g i j),H,I,rfl,q⟩
def Qe (i j : Int) : Prop:=0 ≤ j ∧ j ≤ 1000000 ∧ i.natAbs < 2 ^ 64
theorem AJ : OpR X (binaryOp .Add) (rI0 fun i j=>.int (i + j)):=QC fun _ _ _ _ _ _ _ q=>add_int q
theorem Bo : OpR X (binaryOp .Sub) (rI0 fun i j=>.int (i - j)):=QC fun _ _ _ _ _ _ _ q=>sub_int q
theorem Cq : OpR X (binaryOp .Mod) (rI (fun _ j=>0 < j) fun i j=>.int (i % j)):=opI fun i j _ _ _ _ _ hc q=>by
 have h1 : (0 : Int) < j:=hc
 exact mod_int' (by lia) (by rw [Int.fmod_eq_emod_of_nonneg i (by lia)]; exact q)
theorem Mx : OpR X (binaryOp .Pow) (rI Qe fun i j=>.int (i ^ j.toNat)):=opI fun _ _ _ _ _ _ _ hc q=>pow_int_small hc.1 hc.2.1 hc.2.2 q
theorem unI {f : Value → Sem Value} {g : Int → Int}
 (rule : ∀ (i : Int) (t : Tok) (s : Shared) (Q : Value → Shared → Prop) (E : Value → Shared → Prop),Q (.int (g i) s.toks) { s with toks:=s.toks + 1 } → wpAny (model X.prog X.w) X.A (f (.int i t)) Q E s) :
 UnR X f (rU fun i=>.int (g i)):=by
 intro pins s σ H x v Q I rx h
 obtain ⟨i,rfl,q⟩:=h
 obtain ⟨t,rfl⟩:=rx
 exact rule i t s _ _ ⟨.int (g i),H,I.tok _,⟨_,rfl⟩,q⟩
theorem CS : UnR X (unaryOp .USub) (rU fun i=>.int (-i)):=unI fun _ _ _ _ _ q=>neg_int q
end
def Qp : V → V → Bool
 | .non,.non=>true | .non,.int _=>true | .int _,.non=>true | .non,.bl _=>true | .bl _,.non=>true | .non,.str _=>true | .str _,.non=>true
 | .int _,.int _=>true | .bl _,.bl _=>true | .str _,.str _=>true | .byt _,.byt _=>true
 | .int _,.str _=>true | .str _,.int _=>true | .bl _,.str _=>true | .str _,.bl _=>true
 | _,_=>false
def rEq : R2:=fun x y H Q=>Qp x y = true ∧ Q (.bl (decide (x = y))) H
def rNe : R2:=fun x y H Q=>Qp x y = true ∧ Q (.bl (!decide (x = y))) H
theorem Kz {i j : Int} : decide (V.int i = V.int j) = (i == j):=by
 rw [Bool.eq_iff_iff]
 simp
theorem MY {i j : Bool} : decide (V.bl i = V.bl j) = (i == j):=by
 rw [Bool.eq_iff_iff]
 simp
theorem Ky {i j : Str} : decide (V.str i = V.str j) = (i == j):=by
 rw [Bool.eq_iff_iff]
 simp
theorem KA {i j : Array UInt8} : decide (V.byt i = V.byt j) = (i.toList == j.toList):=by
 rw [Bool.eq_iff_iff]
 cases i
 cases j
 simp
section
variable {X : Cx} {a b c : Expr} {ta tb tc : TE} {pos : Pos}
theorem AY {pins : List (Addr × Obj)} {σ : St} {H : Hp} {s : Shared} {Q : VK} {k k' : Bool} (I : Inv X pins σ H s) (q : Q (.bl k) H) (e : k = k') : EP X pins σ Q (.bool k') s:=by
 subst e
 exact ⟨.bl k,H,I,rfl,q⟩
theorem CK : OpR X (compareOp .Eq) rEq:=by
 intro pins s σ H x y v u Q I rx ry h
 obtain ⟨hs,q⟩:=h
 cases x with
 | non =>
   cases rx
   cases y with
   | non=>cases ry; exact PySem.EqNone.eq_none_none (AY I q (by simp))
   | bl j=>cases ry; exact PySem.EqNone.eq_none_bool (AY I q (by simp))
   | int j=>obtain ⟨t',rfl⟩:=ry; exact PySem.EqNone.eq_none_int (AY I q (by simp))
   | str j=>obtain ⟨t',rfl⟩:=ry; exact PySem.EqNone.eq_none_str (AY I q (by simp))
   | _=>exact absurd (show false = true from hs) Bool.false_ne_true
 | bl i =>
   cases rx
   cases y with
   | non=>cases ry; exact PySem.EqNone.eq_bool_none (AY I q (by simp))
   | bl j=>cases ry; exact eq_bool (AY I q MY)
   | str j=>obtain ⟨t',rfl⟩:=ry; exact PySem.EqMixed.eq_bool_str (AY I q (by simp))
   | _=>exact absurd (show false = true from hs) Bool.false_ne_true
 | int i =>
   obtain ⟨t,rfl⟩:=rx
   cases y with
   | non=>cases ry; exact PySem.EqNone.eq_int_none (AY I q (by simp))
   | int j=>obtain ⟨t',rfl⟩:=ry; exact eq_int (AY I q Kz)
   | str j=>obtain ⟨t',rfl⟩:=ry; exact PySem.EqMixed.eq_int_str (AY I q (by simp))
   | _=>exact absurd (show false = true from hs) Bool.false_ne_true
 | str i =>
   obtain ⟨t,rfl⟩:=rx
   cases y with
   | non=>cases ry; exact PySem.EqNone.eq_str_none (AY I q (by simp))
   | bl j=>cases ry; exact PySem.EqMixed.eq_str_bool (AY I q (by simp))
   | int j=>obtain ⟨t',rfl⟩:=ry; exact PySem.EqMixed.eq_str_int (AY I q (by simp))
   | str j=>obtain ⟨t',rfl⟩:=ry; exact eq_str (AY I q Ky)
   | _=>exact absurd (show false = true from hs) Bool.false_ne_true
 | byt i =>
   obtain ⟨t,rfl⟩:=rx
   cases y with
   | byt j=>obtain ⟨t',rfl⟩:=ry; exact PySem.W.eq_bytes (AY I q KA)
   | _=>exact absurd (show false = true from hs) Bool.false_ne_true
 | _=>cases y <;> exact absurd (show false = true from hs) Bool.false_ne_true
theorem GJ : OpR X (compareOp .NotEq) rNe:=by
 intro pins s σ H x y v u Q I rx ry h
 obtain ⟨hs,q⟩:=h
 cases x with
 | non =>
   cases rx
   cases y with
   | non=>cases ry; exact PySem.EqNone.ne_none_none (AY I q (by simp))
   | bl j=>cases ry; exact PySem.EqNone.ne_none_bool (AY I q (by simp))
   | int j=>obtain ⟨t',rfl⟩:=ry; exact PySem.EqNone.ne_none_int (AY I q (by simp))
   | str j=>obtain ⟨t',rfl⟩:=ry; exact PySem.EqNone.ne_none_str (AY I q (by simp))
   | _=>exact absurd (show false = true from hs) Bool.false_ne_true
 | bl i =>
   cases rx
   cases y with
   | non=>cases ry; exact PySem.EqNone.ne_bool_none (AY I q (by simp))
   | bl j=>cases ry; exact ne_bool (AY I q (congrArg not MY))
   | str j=>obtain ⟨t',rfl⟩:=ry; exact PySem.EqMixed.ne_bool_str (AY I q (by simp))
   | _=>exact absurd (show false = true from hs) Bool.false_ne_true
 | int i =>
   obtain ⟨t,rfl⟩:=rx
   cases y with
   | non=>cases ry; exact PySem.EqNone.ne_int_none (AY I q (by simp))
   | int j=>obtain ⟨t',rfl⟩:=ry; exact ne_int (AY I q (congrArg not Kz))
   | str j=>obtain ⟨t',rfl⟩:=ry; exact PySem.EqMixed.ne_int_str (AY I q (by simp))
   | _=>exact absurd (show false = true from hs) Bool.false_ne_true
 | str i =>
   obtain ⟨t,rfl⟩:=rx
   cases y with
   | non=>cases ry; exact PySem.EqNone.ne_str_none (AY I q (by simp))
   | bl j=>cases ry; exact PySem.EqMixed.ne_str_bool (AY I q (by simp))
   | int j=>obtain ⟨t',rfl⟩:=ry; exact PySem.EqMixed.ne_str_int (AY I q (by simp))
   | str j=>obtain ⟨t',rfl⟩:=ry; exact ne_str (AY I q (congrArg not Ky))
   | _=>exact absurd (show false = true from hs) Bool.false_ne_true
 | byt i =>
   obtain ⟨t,rfl⟩:=rx
   cases y with
   | byt j=>obtain ⟨t',rfl⟩:=ry; exact PySem.W.ne_bytes (AY I q (congrArg not KA))
   | _=>exact absurd (show false = true from hs) Bool.false_ne_true
 | _=>cases y <;> exact absurd (show false = true from hs) Bool.false_ne_true
theorem Ec : OpR X (compareOp .Lt) (rI0 fun i j=>.bl (decide (i < j))):=Pm fun _ _ _ _ _ _ _ q=>lt_int q
theorem Cu : OpR X (compareOp .Gt) (rI0 fun i j=>.bl (decide (j < i))):=Pm fun _ _ _ _ _ _ _ q=>gt_int q
theorem QB : OpR X (compareOp .GtE) (rI0 fun i j=>.bl (decide (j ≤ i))):=Pm fun _ _ _ _ _ _ _ q=>ge_int q
theorem Ay (b : Expr) {op : CmpOp} (h : op ≠ .In:=by decide) (h2 : op ≠ .NotIn:=by decide) : behindInMarks op b = false:=by
 have e1 : (op == CmpOp.In) = false:=by cases op <;> first | rfl | exact absurd rfl h
 have e2 : (op == CmpOp.NotIn) = false:=by cases op <;> first | rfl | exact absurd rfl h2
 cases b <;> simp [behindInMarks,e1,e2]
theorem DK {op : CmpOp} {r : R2} (ho : OpR X (compareOp op) r) (ha : PE X a ta) (hb : PE X b tb) (hm : behindInMarks op b = false) : PE X (.Compare a [op] [b] pos) (tOp r ta tb):=by
 intro pins s σ H Q I h
 exact wpAny_Compare1 (Q6 ha hb I h fun v u s2 x y H2 I2 rx ry q=>ho pins s2 σ H2 x y v u Q I2 rx ry q) hm
def Qh (t : TE) : TT:=fun σ H Q=>t σ H fun x H'=>∃ k,x = .bl k ∧ Q k H'
theorem Au {op : CmpOp} {r : R2} (ho : OpR X (compareOp op) r) (ha : PE X a ta) (hb : PE X b tb) (hm : behindInMarks op b = false) : PT X (.Compare a [op] [b] pos) (Qh (tOp r ta tb)):=by
 intro pins s σ H Q I h
 refine wpAny_isTrue_Compare1 (thn (ha pins s σ H _ I h) fun v s1 ⟨x,H1,I1,r1,q1⟩=>thn (hb pins s1 σ H1 _ I1 q1) fun u s2 ⟨y,H2,I2,r2,q2⟩ =>
  thn (ho pins s2 σ H2 x y v u _ I2 r1 r2 q2) fun c s3 ⟨z,H3,I3,r3,k,e,q3⟩=>?_) hm
 subst e
 cases r3
 exact wpAny_truthy_bool ⟨H3,I3,q3⟩
theorem HX : (sizeLine : Nat) < 2 ^ 63:=by rw [sizeLine_eq]; decide
theorem Fv {x : V} {us : List Value} (r : AM [x] us) : ∃ u,us = [u] ∧ AZ x u:=by
 cases r with
 | cons r1 r2=>cases r2; exact ⟨_,rfl,r1⟩
theorem Og {x y : V} {us : List Value} (r : AM [x,y] us) : ∃ u w',us = [u,w'] ∧ AZ x u ∧ AZ y w':=by
 cases r with
 | cons r1 r2 =>
   cases r2 with
   | cons r3 r4=>cases r4; exact ⟨_,_,rfl,r1,r3⟩
theorem Er : Dg X (.builtin "abs") (fun xs H Q=>∃ i,xs = [.int i] ∧ Q (.int (if i < 0 then -i else i)) H):=by
 intro pins s σ H xs us Q I r h
 obtain ⟨i,rfl,q⟩:=h
 obtain ⟨u,rfl,t,rfl⟩:=Fv r
 exact call_abs_int fun u tk=>⟨.int (if i < 0 then -i else i),H,I.tok _,⟨_,rfl⟩,q⟩
theorem LM : Dg X (.type "int") (fun xs H Q=>(∃ i,xs = [.int i] ∧ Q (.int i) H) ∨ ∃ k,xs = [.bl k] ∧ Q (.int (if k then 1 else 0)) H):=by
 intro pins s σ H xs us Q I r h
 rcases h with ⟨i,rfl,q⟩ | ⟨k,rfl,q⟩
 ·obtain ⟨u,rfl,t,rfl⟩:=Fv r
  exact call_int_int ⟨.int i,H,I,⟨_,rfl⟩,q⟩
 ·obtain ⟨u,rfl,r1⟩:=Fv r
  cases r1
  exact call_int_bool ⟨.int (if k then 1 else 0),H,I.tok _,⟨_,rfl⟩,q⟩
end
end L2
namespace L2
open PySem PySem.Spec PyProof.Rows
structure Qc (h : Heap) (x dx C : Addr) (mA : Str → Option Value) : Prop where
 obj : h.get? x = some (Tc C dx)
 ns : h.Ns1 dx mA
 ne : dx ≠ x
theorem Lo {h : Heap} {dx : Addr} {mA : Str → Option Value} (n : h.Ns1 dx mA) : ∃ od,h.get? dx = some od ∧ ∀ name,TR name od = some (mA name):=by
 obtain ⟨o,es,ep,ho,hd,hk,_,hm⟩:=n
 refine ⟨o,ho,fun name=>?_⟩
 have e:=hm name
 unfold nsFind findBy at e
 rw [← Array.find?_toList] at e
 unfold TR
 rw [hd]
 dsimp only
 split
 ·rename_i y q
  rw [q] at e
  exact congrArg some e
 ·rename_i q
  rw [q] at e
  have a : es.toList.any (·.refKey) = false:=by
   rw [List.any_eq_false]
   intro y hy
   obtain ⟨z,t,hkey⟩:=hk y (Array.mem_toList_iff.mp hy)
   simp [DictEntry.refKey,hkey]
  have a' : ¬ es.toList.any (·.refKey) = true:=by rw [a]; exact Bool.false_ne_true
  rw [if_neg a']
  exact congrArg some e
theorem Qc.look {h : Heap} {x dx C : Addr} {mA : Str → Option Value} (I : Qc h x dx C mA) : ∃ od,PySem.W.InstAt h x (Tc C dx) C (some od) ∧ ∀ name,TR name od = some (mA name) :=
 let ⟨od,ho,hl⟩:=Lo I.ns
 ⟨od,⟨I.obj,rfl,rfl,ho⟩,hl⟩
section
variable {prog : Program} {w : World} {A : Around} {E : Value → Shared → Prop} {s : Shared} {K : Tq} {x dx C f : Addr} {mA : Str → Option Value} {name : Str} {v : Value}
end
section
variable {P : Program} {w : World} {H H' : Hp} {h h' : Heap} {a C dx : Addr} {fs fs' : List (Str × V)}
theorem NV (hok : HOk P w H h) (e : H a = some (.ins C dx fs)) : ∃ mA,Qc h a dx C mA ∧ (∀ f,JW (fs.lookup f) (mA f)) ∧ PySem.Within mA (fs.map (·.1)) ∧ fs.length ≤ 1000 ∧ H dx = some (.own a):=by
 obtain ⟨d,z,ne,ob,mA,n,r,q⟩:=(show Bh P w H h a (.ins C dx fs) from hok a _ e)
 exact ⟨mA,⟨ob,n,ne⟩,r,q,z,d⟩
end
structure Cls (K : Tq) (C : Addr) : Prop where
 pg : PySem.W.plainGet K C Str.empty = true
 hd : PySem.W.hasDictIn K C = true
 po : PySem.W.plainOver K C = true
 sa : TU K (.ref C) "__setattr__" = some (some (.builtin "object.__setattr__"))
theorem Cls.get {K : Tq} {C : Addr} (c : Cls K C) (f : Str) : PySem.W.plainGet K C f = true:=c.pg
structure Con (K : Tq) (C : Addr) (f : Str) (v : V) (u : Value) : Prop where
 at_ : TU K (.ref C) f = some (some u)
 rel : AZ v u
 get : TV K u "__get__" = some none
 cp : PySem.W.copiedNames.contains f = false
structure Meth (K : Tq) (C : Addr) (m : Str) (f : Addr) : Prop where
 at_ : TU K (.ref C) m = some (some (.ref f))
 fn : PySem.W.isFn K (.ref f) = true
 kp : TX K (.ref f) = true
section
variable {X : Cx} {pins : List (Addr × Obj)} {σ : St} {H : Hp} {s : Shared} {a C dx : Addr} {fs : List (Str × V)} {f : Str} {v : V} {A : Around} {E : Value → Shared → Prop}
end
section
variable {X : Cx} {o e value : Expr} {f : Str} {pos pos' tpos : Pos} {ta tv : TE}
end
section
variable {X : Cx} {pins : List (Addr × Obj)} {σ : St} {H : Hp} {s : Shared} {A : Around} {E : Value → Shared → Prop} {Q : Value → Shared → Prop} {c : Value} {b : Bool}
inductive ES (K : Tq) (H : Hp) : V → Value → Prop where
 | non : ES K H .non (.type "NoneType")
 | bl (x : Bool) : ES K H (.bl x) (.type "bool")
 | int (i : Int) : ES K H (.int i) (.type "int")
 | str (x : Str) : ES K H (.str x) (.type "str")
 | flt (x : UInt64) : ES K H (.flt x) (.type "float")
 | lst {a : Addr} {xs : List V} (e : H a = some (.lst xs)) : ES K H (.ref a) (.type "list")
 | frz {a : Addr} {o : Obj} {xs : List V} (e : H a = some (.frz o (.lst xs))) : ES K H (.ref a) (.type "list")
 | tup {a : Addr} {xs : List V} (e : H a = some (.tup xs)) : ES K H (.ref a) (.type "tuple")
 | dK {a : Addr} {kvs : List (Key × V)} (e : H a = some (.dK kvs)) : ES K H (.ref a) (.type "dict")
 | dT {a : Addr} {kvs : List (List Key × V)} (e : H a = some (.dT kvs)) : ES K H (.ref a) (.type "dict")
 | ins {a C dx : Addr} {fs : List (Str × V)} (e : H a = some (.ins C dx fs)) (cl : Cls K C) (ha : TU K (.ref C) "__class__" = some (some (.builtin "object.__class__")))
  (hn : TV K (.builtin "object.__class__") "__get__" = some (some (.builtin "getset_descriptor.__get__"))) (htk : PySem.W.takesIn K (.builtin "object.__class__") = some true)
  (hm : PySem.W.mroIn K C (.type "object") = some true) : ES K H (.ref a) (.ref C)
theorem Lv {x : V} {u t : Value} (I : Inv X pins σ H s) (rx : AZ x u) (ty : ES X.K H x t) (e : TY X.K t c = some b) (h : ∀ tk,Q (.bool b) { s with toks:=tk }) :
 wpAny (model X.prog X.w) A (call (.builtin "isinstance") [u,c]) Q E s:=by
 cases ty with
 | non=>cases (show u = Value.none from rx); exact TZ PySem.W.kitx_none I.kIn True.intro e (fun z=>nomatch z) h
 | bl y=>cases (show u = Value.bool y from rx); exact TZ PySem.W.kitx_bool I.kIn True.intro e (fun z=>nomatch z) h
 | int i=>obtain ⟨t,q⟩:=(show ∃ t,u = Value.int i t from rx); cases q; exact TZ PySem.W.kitx_int I.kIn True.intro e (fun z=>nomatch z) h
 | str y=>obtain ⟨t,q⟩:=(show ∃ t,u = Value.str y t from rx); cases q; exact TZ PySem.W.kitx_str I.kIn True.intro e (fun z=>nomatch z) h
 | flt y=>obtain ⟨t,q⟩:=(show ∃ t,u = Value.float y t from rx); cases q; exact TZ PySem.W.kitx_float I.kIn True.intro e (fun z=>nomatch z) h
 | @lst a xs ea =>
   cases (show u = Value.ref a from rx)
   obtain ⟨_,_,n,_,h1⟩:=(show Bh X.prog X.w H s.heap a (.lst xs) from I.hok a _ ea)
   exact TZ U0 I.kIn ⟨_,h1,rfl⟩ e (fun z=>nomatch z) h
 | @frz a ob xs ea =>
   cases (show u = Value.ref a from rx)
   obtain ⟨_,_,_,n,_,h1⟩:=(show Bh X.prog X.w H s.heap a (.frz ob (.lst xs)) from I.hok a _ ea)
   exact TZ U0 I.kIn ⟨_,h1,rfl⟩ e (fun z=>nomatch z) h
 | @tup a xs ea =>
   cases (show u = Value.ref a from rx)
   obtain ⟨_,_,_,p⟩:=(show Bh X.prog X.w H s.heap a (.tup xs) from I.hok a _ ea)
   obtain ⟨o,h1,h2,_⟩:=p
   exact TZ PySem.W.kitx_tuple I.kIn ⟨o,h1,h2⟩ e (fun z=>nomatch z) h
 | @dK a kvs ea =>
   cases (show u = Value.ref a from rx)
   obtain ⟨_,_,vs,_,p⟩:=(show Bh X.prog X.w H s.heap a (.dK kvs) from I.hok a _ ea)
   obtain ⟨o,es,ep,h1,h2,_⟩:=p
   exact TZ PySem.W.kitx_dict I.kIn ⟨o,h1,h2.1⟩ e (fun z=>nomatch z) h
 | @dT a kvs ea =>
   cases (show u = Value.ref a from rx)
   obtain ⟨_,_,xs,_,o,es,ep,h1,h2,_⟩:=(show Bh X.prog X.w H s.heap a (.dT kvs) from I.hok a _ ea)
   exact TZ PySem.W.kitx_dict I.kIn ⟨o,h1,h2.1⟩ e (fun z=>nomatch z) h
 | @ins a C dx fs ea cl ha hn htk hm =>
   cases (show u = Value.ref a from rx)
   obtain ⟨mA,O,_⟩:=NV I.hok ea
   obtain ⟨od,J,_⟩:=O.look
   exact TZ (PySem.W.kitx_own (cl.get _) cl.hd ha hn htk hm) I.kIn J e (fun z=>nomatch z) h
end
end L2
namespace L2
open PySem PySem.Spec PyProof.Rows
structure C7 (k : Nat) (A : Around) : Prop where
 hd : A.handled = none
 dp : A.depth + 3 * k + 5 < recursionLimit
 un : A.units + 16 * k + 200 < cLine
theorem C7.mono {j k : Nat} {A : Around} (r : C7 k A) (h : j ≤ k) : C7 j A:=⟨r.hd,by have:=r.dp; lia,by have:=r.un; lia⟩
theorem C7.deeper {k : Nat} {A : Around} (r : C7 (k + 1) A) (env : Env) : C7 k (A.deeper env) :=
 ⟨r.hd,by have:=r.dp; show A.depth + 1 + 3 * k + 5 < _; lia,by have:=r.un; show A.units + 3 + 16 * k + 200 < _; lia⟩
theorem C7.depth {k : Nat} {A : Around} (r : C7 k A) : A.depth < recursionLimit:=by have:=r.dp; lia
theorem C7.units {k : Nat} {A : Around} (r : C7 k A) : A.units + 64 < cLine:=by have:=r.un; lia
def OM : TA:=fun _ H Q=>Q [] H
def M0 (ta : TE) (tr : TA) : TA:=fun σ H Q=>ta σ H fun x H1=>tr σ H1 fun xs H2=>Q (x :: xs) H2
section
variable {X : Cx} {e : Expr} {es : List Expr} {te : TE} {t : TA} {pos : Pos}
theorem Ab : PA X [] OM:=fun _ _ _ _ H Q I h=>Calls.spliced_nil ⟨[],H,I,.nil,h⟩
theorem Aa (ha : PE X e te) (hr : PA X es t) (hs : starEach (e :: es) X.env = (false,eval e X.env) :: starEach es X.env:=by rfl) : PA X (e :: es) (M0 te t):=by
 intro pos pins s σ H Q I h
 rw [hs]
 show wpAny _ _ (spliced ((false,eval e X.env) :: backTo pos (starEach es X.env))) _ _ s
 refine Calls.spliced_cons (thn (ha pins s σ H _ I h) fun u s1 ⟨x,H1,I1,r1,q1⟩=>?_)
 exact thn (hr pos pins s1 σ H1 _ I1 q1) fun us s2 ⟨xs,H2,I2,r2,q2⟩=>⟨x :: xs,H2,I2,.cons r1 r2,q2⟩
def R0 (t : TA) : TE:=fun σ H Q=>t σ H fun xs H1=>xs.length ≤ sizeLine ∧ ∀ p,H1 p = none → Q (.ref p) (upd H1 p (.tup xs))
def R5 (t : TA) : TE:=fun σ H Q=>t σ H fun xs H1=>xs.length ≤ sizeLine ∧ ∀ p,H1 p = none → Q (.ref p) (upd H1 p (.lst xs))
theorem AG {x1} (h : PA X es t) : PE X (.Tuple es x1 pos) (R0 t):=by
 intro pins s σ H Q I hq
 refine wpAny_Tuple_spliced (thn (h pos pins s σ H _ I hq) fun us s1 ⟨xs,H1,I1,r,z,q⟩=>⟨by rw [← r.length]; exact z,?_⟩)
 have hf : H1 s1.heap.objs.size = none:=I1.hok.fresh (TL _)
 refine ⟨.ref s1.heap.objs.size,upd H1 s1.heap.objs.size (.tup xs),I1.laid (t':=s1.toks) (fun b u e=>Heap.get?_push_of_some _ e) (TL _) ?_,rfl,q _ hf⟩
 exact ⟨z,us,r,⟨_,Heap.get?_push_size _ rfl,rfl,_,rfl⟩⟩
theorem Be (h : PA X es t) : PE X (.List es pos) (R5 t):=by
 intro pins s σ H Q I hq
 refine wpAny_List_spliced (thn (h pos pins s σ H _ I hq) fun us s1 ⟨xs,H1,I1,r,z,q⟩=>⟨by rw [← r.length]; exact z,?_⟩)
 have hf : H1 s1.heap.objs.size = none:=I1.hok.fresh (TL _)
 refine ⟨.ref s1.heap.objs.size,upd H1 s1.heap.objs.size (.lst xs),I1.laid (t':=s1.toks) (fun b u e=>Heap.get?_push_of_some _ e) (TL _) ?_,rfl,q _ hf⟩
 exact ⟨z,us,0,r,Heap.get?_push_size _ rfl⟩
end
abbrev Sp:=List V → Hp → VK → XK → Prop
abbrev CXT:=List Env → Hp → Shared → XK → Value → Shared → Prop
structure LO (P : Program) (w : World) (K : Tq) (mg : Str → Option Value) (base : Heap) (A : Around) (outer : List Env) (s : Shared) (H : Hp) : Prop where
 frames : A.frames = some outer
 mod : Mod K mg base
 bs : ∀ b o,base.get? b = some o → s.heap.get? b = some o ∧ H b = none
 bsz : base.objs.size ≤ s.heap.objs.size
 funs : s.heap.FunFrames base outer
 frf : ∀ b ∈ frs outer,H b = none
 hok : HOk P w H s.heap
 bare : AllBare s.gens
def CE (outer : List Env) (P : Program) (w : World) (H : Hp) (s : Shared) (Q : VK) (u : Value) (s' : Shared) : Prop :=
 ∃ v H',s'.os = s.os ∧ AllBare s'.gens ∧ Un (frs outer) [] H H' s.heap s'.heap ∧ HOk P w H' s'.heap ∧ AZ v u ∧ Q v H'
def CR (CX : CXT) (outer : List Env) (P : Program) (w : World) (H : Hp) (s : Shared) (Q : VK) (E : XK) (r : Result) (s' : Shared) : Prop :=
 match r with
 | .ok (.ret u)=>CE outer P w H s Q u s'
 | .ok _=>False
 | .error e=>CX outer H s E e s'
structure AN (P : Program) (w : World) (K : Tq) (mg : Str → Option Value) (base : Heap) (CX : CXT) (k : Nat) (f : Addr) (fd : FuncData) (ps : List Str) (sp : Sp) : Prop where
 len : ∀ vs H Q E,sp vs H Q E → vs.length = ps.length
 run : ∀ (A : Around) (outer : List Env) (s : Shared) (H : Hp) (args : Args) (us : List Value) (vs : List V) (Q : VK) (E : XK),C7 k A → LO P w K mg base A outer s H → BindsTo s fd args (ps.zip us) → AM vs us → sp vs H Q E →
  codeAny (model P w) A (.call (.ref f) args) (CR CX outer P w H s Q E) s
section
variable {X : Cx} {pins : List (Addr × Obj)} {σ : St} {H : Hp} {s s' : Shared}
theorem Inv.env0 (I : Inv X pins σ H s) : LO X.prog X.w X.K X.mg X.base X.A X.stack s H :=
 ⟨I.ok.frames,I.ok.mod,I.bs,Tr I.ok.bsz I.sz,I.stack,I.stkFree,I.hok,I.bare⟩
theorem Inv.after {Q : VK} {u : Value} (I : Inv X pins σ H s) (h : CE X.stack X.prog X.w H s Q u s') : EP X pins σ Q u s':=by
 obtain ⟨v,H',os,bare,un,hok,r,q⟩:=h
 obtain ⟨hh,g,d,t,os'⟩:=s'
 obtain rfl : os' = s.os:=os
 exact ⟨v,H',I.call (h':=hh) (g':=g) (d':=d) (t':=t) (ch:=[]) un hok bare (fun b z=>absurd z (by simp)),r,q⟩
end
def M3 (sp : Sp) (dvs : List V) (E : XK) (t : TA) : TE:=fun σ H Q=>t σ H fun vs H1=>sp (vs ++ dvs) H1 Q E
def CQ (K : Tq) (fd : FuncData) (ps : List Str) (ds : List Value) : Prop :=
 ∀ (s : Shared) (us : List Value),K.In s.heap → (us ++ ds).length = ps.length → BindsTo s fd ⟨us,[]⟩ (ps.zip (us ++ ds))
theorem CQ.all {K : Tq} {fd : FuncData} {ps : List Str} (h : ∀ us : List Value,us.length = ps.length → bindArgs fd ⟨us,[]⟩ = pure (ps.zip us)) : CQ K fd ps []:=fun s us _ hl=>by
 rw [U1] at hl ⊢
 exact .of_eq (h us hl)
def Gd (CX : CXT) (X : Cx) (E : XK) : Prop:=∀ (pins : List (Addr × Obj)) (σ : St) (H : Hp) (s : Shared) (e : Value) (s' : Shared),Inv X pins σ H s → CX X.stack H s E e s' → X.xe e s'
section
variable {X : Cx} {CX : CXT} {k : Nat} {f C : Addr} {fd : FuncData} {ps : List Str} {sp : Sp} {dvs : List V} {ds : List Value} {E : XK} {x m : Str} {p pos apos : Pos} {e o : Expr} {es : List Expr} {ta : TE} {t : TA}
theorem OS {pins : List (Addr × Obj)} {σ : St} {H : Hp} {s : Shared} {Q : VK} {us : List Value} {vs : List V} (F : AN X.prog X.w X.K X.mg X.base CX k f fd ps sp) (hr : C7 k X.A) (hb : CQ X.K fd ps ds) (hd : AM dvs ds) (hx : Gd CX X E)
 (I : Inv X pins σ H s) (r : AM vs us) (h : sp (vs ++ dvs) H Q E) : wpAny (model X.prog X.w) X.A (call (.ref f) us) (EP X pins σ Q) X.xe s:=by
 have r2 : AM (vs ++ dvs) (us ++ ds):=r.append hd
 have hl : (us ++ ds).length = ps.length:=by rw [← r2.length]; exact F.len _ _ _ _ h
 refine wpAny_call (codeAny_mono (F.run X.A X.stack s H ⟨us,[]⟩ (us ++ ds) (vs ++ dvs) Q E hr I.env0 (hb s us I.kIn hl) r2 h) fun r s' hq=>?_)
 cases r with
 | error e=>exact hx pins σ H s e s' I hq
 | ok fl =>
   cases fl with
   | ret u=>exact I.after hq
   | next=>exact False.elim hq
   | brk=>exact False.elim hq
   | cont=>exact False.elim hq
theorem Kd (F : AN X.prog X.w X.K X.mg X.base CX k f fd ps sp) (hr : C7 k X.A) (hg : Gl X x) (hm : X.mg x = some (.ref f)) (hk : TX X.K (.ref f) = true) (hb : CQ X.K fd ps ds) (hd : AM dvs ds) (hx : Gd CX X E)
 (ha : PA X (e :: es) t) (hdb : (x == ("__debug__" : Str)) = false:=by decide) (he : starEach (e :: es) X.env = (false,eval e X.env) :: starEach es X.env:=by rfl) (hpl : (backTo pos (starEach es X.env)).any (·.1) = false:=by rfl) :
 PE X (.Call (.Name x p) (e :: es) [] pos) (M3 sp dvs E t):=by
 intro pins s σ H Q I h
 refine wpAny_Call_Name_kw (DL I hg hm ?_ hdb)
 refine U2 (h₀:=X.base) I.ok.mod.kin hk (thn (ha pos pins s σ H _ I h) fun us s1 ⟨vs,H1,I1,r,q⟩=>⟨I1.kIn,?_⟩) he hpl
 exact OS F hr hb hd hx I1 r q
structure Mk (K : Tq) (C f : Addr) : Prop where
 makes : PySem.W.makesIn K C = true
 init : TU K (.ref C) "__init__" = some (some (.ref f))
 fn : PySem.W.isFn K (.ref f) = true
 kp : TX K (.ref C) = true
end
section
variable {X : Cx} {CX : CXT} {k : Nat} {f C : Addr} {fd : FuncData} {ps ks : List Str} {sp : Sp} {E : XK} {x m : Str} {p pos apos kpos : Pos} {e o : Expr} {es : List Expr} {kws : List Keyword} {te ta : TE} {t tk : TA} {nm : Option Str}
structure Rk (K : Tq) (fd : FuncData) (ps ks : List Str) (g : List Value → List Value → List Value) (gV : List V → List V → List V) : Prop where
 to : ∀ (s : Shared) (us ws : List Value),K.In s.heap → (g us ws).length = ps.length → BindsTo s fd ⟨us,ks.zip ws⟩ (ps.zip (g us ws))
 rel : ∀ {vs : List V} {us : List Value} {zs : List V} {ws : List Value},AM vs us → AM zs ws → AM (gV vs zs) (g us ws)
variable {g : List Value → List Value → List Value} {gV : List V → List V → List V}
end
structure Ar (N P : List Str) (sc : Scope) : Prop where
 kind : sc.kind = .function
 co : sc.isCoroutine = false
 gen : sc.isGenerator = false
 nd : N.Nodup
 pre : N.take P.length = P
 par : ∀ x ∈ P,sc.names.lookup x = some .local ∨ sc.names.lookup x = some .cell
 nofree : ∀ y ∈ sc.names,y.2 ≠ .free
theorem H9 {kindOf : Str → Option NameKind} {x : Str} : ∀ {binds : List (Str × Value)} {m : Str → Option Value},(∀ v,(x,v) ∉ binds) → bindL kindOf binds m x = m x
 | [],_,_=>rfl
 | (n,v) :: r,m,h=>by
   unfold bindL
   rw [H9 fun w hw=>h w (Tv _ hw)]
   split
   ·have : x ≠ n:=by rintro rfl; exact h v Tu
    simp [this]
   ·rfl
theorem Hb {kindOf : Str → Option NameKind} {x : Str} : ∀ {binds : List (Str × Value)} {m : Str → Option Value},(∀ v,(x,v) ∉ binds) → bindC kindOf binds m x = m x
 | [],_,_=>rfl
 | (n,v) :: r,m,h=>by
   unfold bindC
   rw [Hb fun w hw=>h w (Tv _ hw)]
   split
   ·rfl
   ·have : x ≠ n:=by rintro rfl; exact h v Tu
    simp [this]
theorem Ha {kindOf : Str → Option NameKind} {x : Str} {v : Value} : ∀ {P : List Str} {vs : List Value} {i : Nat} {m : Str → Option Value},P.Nodup → P[i]? = some x → vs[i]? = some v → kindOf x = some .local →
 bindL kindOf (P.zip vs) m x = some v
 | [],_,_,_,_,h,_,_=>by simp at h
 | _ :: _,[],_,_,_,_,h,_=>by simp at h
 | p :: P,w :: vs,0,m,nd,h1,h2,hk=>by
   simp at h1 h2; subst h1; subst h2
   show bindL kindOf ((p,w) :: P.zip vs) m p = _
   unfold bindL
   rw [H9 fun v hv=>(U3.mp nd).1 (U4 hv).1,if_pos hk]
   simp
 | p :: P,w :: vs,i + 1,m,nd,h1,h2,hk=>by
   show bindL kindOf ((p,w) :: P.zip vs) m x = _
   unfold bindL
   exact Ha (i:=i) (U3.mp nd).2 (by simpa using h1) (by simpa using h2) hk
theorem Hc {kindOf : Str → Option NameKind} {x : Str} {v : Value} : ∀ {P : List Str} {vs : List Value} {i : Nat} {m : Str → Option Value},P.Nodup → P[i]? = some x → vs[i]? = some v → kindOf x ≠ some .local →
 bindC kindOf (P.zip vs) m x = some v
 | [],_,_,_,_,h,_,_=>by simp at h
 | _ :: _,[],_,_,_,_,h,_=>by simp at h
 | p :: P,w :: vs,0,m,nd,h1,h2,hk=>by
   simp at h1 h2; subst h1; subst h2
   show bindC kindOf ((p,w) :: P.zip vs) m p = _
   unfold bindC
   rw [Hb fun v hv=>(U3.mp nd).1 (U4 hv).1,if_neg hk]
   simp
 | p :: P,w :: vs,i + 1,m,nd,h1,h2,hk=>by
   show bindC kindOf ((p,w) :: P.zip vs) m x = _
   unfold bindC
   exact Hc (i:=i) (U3.mp nd).2 (by simpa using h1) (by simpa using h2) hk
def start (N : List Str) (vs : List V) : St:=vs.map some ++ U5 (N.length - vs.length) none
def Ds (CX : CXT) (P : Program) (w : World) (K : Tq) (mg : Str → Option Value) (base : Heap) (N : List Str) (qual : Str) (scope : Scope) (f : Addr) (cd : Value) (A : Around) (outer : List Env) (s : Shared) (H : Hp) (E : XK) : Cx where
 prog:=P
 w:=w
 K:=K
 mg:=mg
 base:=base
 A:=A.deeper (envOfC qual scope s.heap.objs.size f cd)
 N:=N
 s₀:=s
 H₀:=H
 env:=envOfC qual scope s.heap.objs.size f cd
 outer:=outer
 stack:=envOfC qual scope s.heap.objs.size f cd :: outer
 ex:=[]
 calm:=true
 fn:=fun _=>true
 pn:=[]
 xe:=fun e s'=>wpAny (model P w) (A.deeper (envOfC qual scope s.heap.objs.size f cd)) (leaving (envOfC qual scope s.heap.objs.size f cd) e) (fun _ s''=>CX outer H s E e s'') (fun e' s''=>CX outer H s E e' s'') s'
theorem Jg {sc : Scope} {n : Nat} {x : Str} (h : sc.names.lookup x = some .cell) : ∃ c,(cellsFrom n sc.names []).lookup x = some c:=by
 have q:=U6 sc.names n [] (.inl h)
 exact Option.isSome_iff_exists.mp q
theorem GU {CX : CXT} {P : Program} {w : World} {K : Tq} {mg : Str → Option Value} {base : Heap} {N ps : List Str} {qual : Str} {scope : Scope} {f : Addr} {cd : Value} {A : Around} {outer : List Env} {s s1 : Shared} {H : Hp} {E : XK} {us : List Value} {vs : List V}
 (S : Ar N ps scope) (hd : A.handled = none) (e0 : LO P w K mg base A outer s H) (hl : vs.length = ps.length) (r : AM vs us)
 (x : InCallC s s.heap.objs.size (bindL (envOfC qual scope s.heap.objs.size f cd).kindOf (ps.zip us) fun _=>none) (cellsFrom (s.heap.objs.size + 1) scope.names []) (bindC (envOfC qual scope s.heap.objs.size f cd).kindOf (ps.zip us) fun _=>none) s1) :
 Inv (Ds CX P w K mg base N qual scope f cd A outer s H E) [] (start N vs) H s1:=by
 have hpl : ps.length ≤ N.length:=by have:=congrArg U7 S.pre; rw [U8] at this; lia
 obtain ⟨h1,tk,rfl,hk⟩:=x.done
 have noA : ∀ b : Addr,b ∉ (Ds CX P w K mg base N qual scope f cd A outer s H E).ex:=fun b z=>absurd (show b ∈ ([] : List Addr) from z) (by simp)
 refine ⟨⟨e0.mod,S.kind,rfl,rfl,TL _,fun y z c h1 h2=>?_,fun y hy=>?_,fun y c _ h=>?_,fun _=>hd,Around.frames_deeper e0.frames,.inr ⟨rfl,rfl⟩,fun b z=>absurd z (noA b),e0.bs,e0.bsz,fun b _ _=>noA b,fun b z=>absurd z (noA b),e0.funs,e0.frf⟩,
  rfl,e0.bare,Un.kept hk,⟨_,x.toInCall.ns,fun i y v h1 h2 h3=>?_⟩,fun y c h=>⟨_,x.cell y c h⟩,e0.hok.fresh (TL _),fun y c h=>?_,fun p hp=>absurd (show p ∈ ([] : List (Addr × Obj)) from hp) (by simp),e0.hok.kept hk,?_⟩
 ·exact name_of_addr x.apart (PySem.mem_of_lookup h1) (PySem.mem_of_lookup h2)
 ·have hy : scope.names.lookup y = some .cell ∨ scope.names.lookup y = some .free:=hy
  rcases hy with hy | hy
  ·exact Jg hy
  ·exact absurd rfl (S.nofree _ (PySem.mem_of_lookup hy))
 ·exact Ts (x.above y c (PySem.mem_of_lookup h))
 ·have hi : i < vs.length:=by
   unfold start at h2
   by_cases hi : i < vs.length
   ·exact hi
   ·rw [U9 (by simpa using hi)] at h2
    rw [Ua] at h2
    split at h2 <;> cases h2
  have ha : vs[i]? = some v:=by
   unfold start at h2
   rw [Ub (by simpa using hi),Uc] at h2
   cases e : vs[i]? with
   | none=>rw [e] at h2; cases h2
   | some a=>rw [e] at h2; cases h2; rfl
  obtain ⟨u,hu,rv⟩:=r.get ha
  have hp : ps[i]? = some y:=by
   rw [← S.pre,List.getElem?_take_of_lt (by lia)]; exact h1
  have ndP : ps.Nodup:=by rw [← S.pre]; exact S.nd.sublist (List.take_sublist _ _)
  refine ⟨u,rv,?_⟩
  rcases S.par y (Ud hp) with k | k
  ·exact .inl ⟨k,Ha ndP hp hu k⟩
  ·obtain ⟨c,e⟩:=Jg (n:=s.heap.objs.size + 1) k
   refine .inr ⟨.inl k,c,e,?_⟩
   have q:=x.cell y c e
   rw [Hc ndP hp hu (by show scope.names.lookup y ≠ _; rw [k]; decide)] at q
   exact q
 ·exact e0.hok.fresh (Ts (x.above y c (PySem.mem_of_lookup h)))
 ·unfold start
  show _ = N.length
  rw [Ue,Ug,Uh]
  lia
theorem Ov {CX : CXT} {P : Program} {w : World} {K : Tq} {mg : Str → Option Value} {base : Heap} {k : Nat} {f : Addr} {name qual : Str} {params : Arguments} {body : List Stmt} {scope : Scope} {dV kV doc pm cdv ct oc : Value} {an od : Option Addr}
 {osl : Array (Option Value)} {N ps : List Str} {sp : Sp} (lk : K.lookup f = some ⟨oc,od,.func (Ui name qual params body scope dV kV doc pm an cdv ct),osl⟩) (hcd : Uj K cdv qual = true) (S : Ar N ps scope)
 (len : ∀ vs H Q E,sp vs H Q E → vs.length = ps.length)
 (hbody : ∀ (A : Around) (outer : List Env) (s : Shared) (H : Hp) (vs : List V) (Q : VK) (E : XK),C7 k (A.deeper (envOfC qual scope s.heap.objs.size f cdv)) → sp vs H Q E →
  ∃ t,PSs (Ds CX P w K mg base N qual scope f cdv A outer s H E) body t ∧ t { nx:=fun _ H'=>Q .non H',rt:=Q } (start N vs) H) :
 AN P w K mg base CX (k + 1) f (Ui name qual params body scope dV kV doc pm an cdv ct) ps sp:=by
 refine ⟨len,fun A outer s H args us vs Q E hr e0 hb r hsp=>?_⟩
 have hl:=len _ _ _ _ hsp
 have KX : K.In s.heap:=e0.mod.kin.keeps fun b o e=>(e0.bs b o e).1
 have lim : s.heap.NoLimit:=e0.mod.nolimit.keeps fun b o e=>(e0.bs b o e).1
 have hkind : ∀ y ∈ ps.zip us,scope.names.lookup y.1 = some .local ∨ (scope.names.lookup y.1 = some .cell ∧ ((cellsFrom (s.heap.objs.size + 1) scope.names []).lookup y.1).isSome = true):=fun ⟨n,v⟩ hy=>by
  rcases S.par n (U4 hy).1 with q | q
  ·exact .inl q
  ·exact .inr ⟨q,U6 _ _ _ (.inl q)⟩
 refine codeAny_call_function hr.depth (KX _ _ lk) rfl S.co S.gen rfl (PySem.W.codeRec_of KX hcd) (hb _ _ _ _ ?_)
 refine wpAny_newFunctionEnv_cells S.kind hkind fun env he s1 x=>?_
 subst he
 refine ⟨lim.keeps x.toInCall.keep,codeAny_func ?_⟩
 obtain ⟨t,ht,hq⟩:=hbody A outer s H vs Q E (hr.deeper _) hsp
 have I : Inv (Ds CX P w K mg base N qual scope f cdv A outer s H E) [] (start N vs) H s1:=GU S hr.hd e0 hl r x
 refine wpAny_mono (ht [] s1 (start N vs) H _ I hq) (fun fl s' hs=>?_) fun e s' hs=>hs
 have fin : ∀ {σ' : St} {H' : Hp} {v : V} {u : Value},Inv (Ds CX P w K mg base N qual scope f cdv A outer s H E) [] σ' H' s' → AZ v u → Q v H' → CE outer P w H s Q u s' :=
  fun {σ' H' v u} J rv q=>⟨v,H',J.os,J.bare,J.base,J.hok,rv,q⟩
 cases fl with
 | ret u =>
   obtain ⟨v,σ',H',J,rv,q⟩:=hs
   exact fin J rv q
 | next =>
   obtain ⟨σ',H',J,q⟩:=hs
   exact fin (v:=V.non) (u:=Value.none) J rfl q
 | brk =>
   obtain ⟨_,_,_,q⟩:=hs
   exact False.elim q
 | cont =>
   obtain ⟨_,_,_,q⟩:=hs
   exact False.elim q
end L2
namespace L2
open PySem PySem.Spec PyProof.Rows
section
variable {X : Cx} {x : Str} {p pos : Pos} {e : Expr} {es : List Expr} {t : TA} {id T : String} {r : List V → Hp → VK → Prop}
def tCB (r : List V → Hp → VK → Prop) (t : TA) : TE:=fun σ H Q=>t σ H fun vs H1=>r vs H1 Q
theorem Ak (hc : Dg X (.builtin id) r) (hg : Gl X x) (hm : X.mg x = none) (hv : bootBuiltins x = some (.builtin id)) (ha : PA X (e :: es) t) (hn : x ≠ "__name__":=by decide) (hdb : (x == ("__debug__" : Str)) = false:=by decide)
 (he : starEach (e :: es) X.env = (false,eval e X.env) :: starEach es X.env:=by rfl) (hpl : (backTo pos (starEach es X.env)).any (·.1) = false:=by rfl) : PE X (.Call (.Name x p) (e :: es) [] pos) (tCB r t):=by
 intro pins s σ H Q I h
 refine wpAny_Call_Name_kw (DB I hg hm hv ?_ hn hdb)
 exact PyProof.Rows.callWith_builtin1 (thn (ha pos pins s σ H _ I h) fun us s1 ⟨vs,H1,I1,r1,q1⟩=>hc pins s1 σ H1 vs us Q I1 r1 q1) he hpl
theorem CG (hc : Dg X (.type T) r) (hg : Gl X x) (hm : X.mg x = none) (hv : bootBuiltins x = some (.type T)) (ha : PA X (e :: es) t) (hn : x ≠ "__name__":=by decide) (hdb : (x == ("__debug__" : Str)) = false:=by decide)
 (he : starEach (e :: es) X.env = (false,eval e X.env) :: starEach es X.env:=by rfl) (hpl : (backTo pos (starEach es X.env)).any (·.1) = false:=by rfl) : PE X (.Call (.Name x p) (e :: es) [] pos) (tCB r t):=by
 intro pins s σ H Q I h
 refine wpAny_Call_Name_kw (DB I hg hm hv ?_ hn hdb)
 exact PyProof.Rows.callWith_type1 (thn (ha pos pins s σ H _ I h) fun us s1 ⟨vs,H1,I1,r1,q1⟩=>hc pins s1 σ H1 vs us Q I1 r1 q1) he hpl
end
end L2
namespace HT
open PySem PyProof.Rows
section
open PySem.SeqAt
open PySem.AutoSeq1 (wpAny_loadPart')
open PySem.MeetsSeq PySem.MeetsSeq2 PySem.MeetsSeq3
end
section
variable {prog : Program} {w : World} {A : Around} {E : Value → Shared → Prop} {s : Shared}
def sIx (n d : Nat) : Option Int → Nat
 | none=>d
 | some v=>if v < 0 then (v + (n : Int)).toNat else min v.toNat n
theorem sIx_nat (n d k : Nat) : sIx n d (some (k : Int)) = min k n:=by
 show (if (k : Int) < 0 then ((k : Int) + (n : Int)).toNat else min (k : Int).toNat n) = min k n
 rw [if_neg (by lia),Uk]
theorem clip_eq (v : Int) (n d : Nat) : (if v < 0 then max (v + (n : Int)) 0 else min v (n : Int)) = ((sIx n d (some v) : Nat) : Int):=by
 show (if v < 0 then max (v + (n : Int)) 0 else min v (n : Int)) = (((if v < 0 then (v + (n : Int)).toNat else min v.toNat n) : Nat) : Int)
 by_cases hv : v < 0
 ·rw [if_pos hv,if_pos hv,Int.toNat_eq_max]
 ·rw [if_neg hv,if_neg hv]
  obtain ⟨k,rfl⟩:=Int.eq_ofNat_of_zero_le (Int.not_lt.mp hv)
  rw [Uk]
  rcases Nat.le_total k n with h | h
  ·rw [Ul h,Int.min_eq_left (Int.ofNat_le.mpr h)]
  ·rw [Nat.min_eq_right h,Int.min_eq_right (Int.ofNat_le.mpr h)]
end
end HT
namespace L2
open PySem PySem.Spec PyProof.Rows
abbrev TO:=St → Hp → (Option Int → Hp → Prop) → Prop
def PO (X : Cx) (e : Option Expr) (t : TO) : Prop :=
 ∀ (pins : List (Addr × Obj)) (s : Shared) (σ : St) (H : Hp) (Q : Option Int → Hp → Prop),Inv X pins σ H s → t σ H Q →
   wpAny (model X.prog X.w) X.A (evalPart e X.env) (fun u s'=>∃ o H',Inv X pins σ H' s' ∧ IsPart u o ∧ Q o H') X.xe s
def Nt : TO:=fun _ H Q=>Q none H
def Qj (t : TE) : TO:=fun σ H Q=>t σ H fun x H1=>∃ i,x = .int i ∧ Q (some i) H1
section
variable {X : Cx} {e : Expr} {te : TE} {lo hi : Option Expr} {tl th : TO} {pos p2 : Pos}
theorem Fj : PO X none Nt:=by
 intro pins s σ H Q I h
 rw [evalPart_none]
 exact wpAny_pure ⟨none,H,I,.none,h⟩
theorem Fi (h : PE X e te) : PO X (some e) (Qj te):=by
 intro pins s σ H Q I hw
 rw [evalPart_some]
 refine thn (h pins s σ H _ I hw) fun u s1 ⟨x,H1,I1,r1,q1⟩=>?_
 obtain ⟨i,rfl,q⟩:=q1
 obtain ⟨t,rfl⟩:=r1
 exact ⟨some i,H1,I1,.int i t,q⟩
def SlR (X : Cx) (r : V → Option Int → Option Int → Hp → VK → Prop) : Prop :=
 ∀ (pins : List (Addr × Obj)) (s : Shared) (σ : St) (H : Hp) (x : V) (v vl vu : Value) (lo hi : Option Int) (sl : Addr) (Q : VK),Inv X pins σ H s → AZ x v → s.heap.IsSliceOf sl vl vu .none → IsPart vl lo → IsPart vu hi → r x lo hi H Q →
   ∃ T id,typeLookup (.type T) "__getitem__" = pure (some (.builtin id)) ∧ s.TypeIs v T ∧ wpAny (model X.prog X.w) X.A (getItem v (.ref sl)) (EP X pins σ Q) X.xe s
def tSl (r : V → Option Int → Option Int → Hp → VK → Prop) (te : TE) (tl th : TO) : TE:=fun σ H Q=>te σ H fun x H1=>tl σ H1 fun l H2=>th σ H2 fun u H3=>r x l u H3 Q
theorem E8 {r : V → Option Int → Option Int → Hp → VK → Prop} (hr : SlR X r) (he : PE X e te) (hl : PO X lo tl) (hu : PO X hi th) : PE X (.Subscript e (.Slice lo hi none p2) pos) (tSl r te tl th):=by
 intro pins s σ H Q I h
 refine Subscript_ (thn (he pins s σ H _ I h) fun v s1 ⟨x,H1,I1,r1,q1⟩=>?_)
 refine wpAny_Slice (thn (hl pins s1 σ H1 _ I1 q1) fun vl s2 ⟨l,H2,I2,pl,q2⟩=>thn (hu pins s2 σ H2 _ I2 q2) fun vu s3 ⟨u,H3,I3,pu,q3⟩=>?_)
 rw [evalPart_none]
 refine wpAny_pure ?_
 have I4 : Inv X pins σ H3 { s3 with heap:=s3.heap.push { cls:=.type "slice",data:=.fields #[vl,vu,.none] } }:=I3.kept (t':=s3.toks) fun b ob q=>Heap.get?_push_of_some _ q
 obtain ⟨T,id,hT,ht,hg⟩:=hr pins { s3 with heap:=s3.heap.push { cls:=.type "slice",data:=.fields #[vl,vu,.none] } } σ H3 x v vl vu l u s3.heap.objs.size Q I4 r1 (Heap.IsSliceOf.new ..) pl pu q3
 show wpAny (model X.prog X.w) X.A (subscriptTail e (.Slice lo hi none p2) v (.ref s3.heap.objs.size)) (EP X pins σ Q) X.xe { s3 with heap:=s3.heap.push { cls:=.type "slice",data:=.fields #[vl,vu,.none] } }
 exact tail_any (ops:=[.ref s3.heap.objs.size,v]) ht hT hg (by with_unfolding_all rfl)
def Du (xs : List V) (lo hi : Option Int) : List V:=(xs.drop (HT.sIx xs.length 0 lo)).take (HT.sIx xs.length xs.length hi - HT.sIx xs.length 0 lo)
theorem Jb (xs : List V) (lo hi : Option Int) : (Du xs lo hi).length ≤ xs.length:=by
 unfold Du
 rw [U8,List.length_drop]
 exact Tr (Nat.min_le_right _ _) (Nat.sub_le _ _)
end
end L2
namespace L2
open PySem PySem.Spec PyProof.Rows
def ixN (n : Nat) (i : Int) : Option Nat:=if 0 ≤ i then (if i < n then some i.toNat else none) else if -(n : Int) ≤ i then some (i + n).toNat else none
def atI {α : Type} (xs : List α) (i : Int) : Option α:=(ixN xs.length i).bind fun j=>xs[j]?
theorem Kp {n : Nat} {i : Int} {j : Nat} (h : ixN n i = some j) : seqIndex? i n = some j ∧ j < n ∧ -(n : Int) ≤ i ∧ i < n:=by
 unfold ixN at h
 by_cases h0 : 0 ≤ i
 ·rw [if_pos h0] at h
  by_cases h1 : i < n
  ·rw [if_pos h1] at h
   have e : i.toNat = j:=Tb.inj h
   exact ⟨by rw [seqIndex_of h0 h1,e],by lia,by lia,h1⟩
  ·rw [if_neg h1] at h; cases h
 ·rw [if_neg h0] at h
  by_cases h1 : -(n : Int) ≤ i
  ·rw [if_pos h1] at h
   have e : (i + n).toNat = j:=Tb.inj h
   exact ⟨by rw [seqIndex_neg (by lia) h1,e],by lia,h1,by lia⟩
  ·rw [if_neg h1] at h; cases h
theorem KQ {α : Type} {xs : List α} {i : Int} {v : α} (h : atI xs i = some v) : ∃ j,seqIndex? i xs.length = some j ∧ xs[j]? = some v ∧ j < xs.length ∧ -(xs.length : Int) ≤ i ∧ i < xs.length:=by
 unfold atI at h
 cases e : ixN xs.length i with
 | none=>rw [e] at h; cases h
 | some j =>
   rw [e] at h
   obtain ⟨h1,h2,h3,h4⟩:=Kp e
   exact ⟨j,h1,h,h2,h3,h4⟩
theorem AR {α : Type} {xs : List α} {j : Nat} {v : α} (h : xs[j]? = some v) : atI xs (j : Int) = some v:=by
 have hj : j < xs.length:=(TC.mp h).1
 have e : ixN xs.length (j : Int) = some j:=by
  unfold ixN
  rw [if_pos (by lia),if_pos (by lia)]; simp
 unfold atI; rw [e]; exact h
def Of (b : Expr) : Prop:=∀ o i,subscripted b false o i = operate [o,i] (getItem o i)
def IxR (X : Cx) (r : R2) : Prop :=
 ∀ (value slice : Expr) (pins : List (Addr × Obj)) (s : Shared) (σ : St) (H : Hp) (x y : V) (v u : Value) (Q : VK),Inv X pins σ H s → AZ x v → AZ y u → r x y H Q →
   subscripted slice false v u = operate [v,u] (getItem v u) → wpAny (model X.prog X.w) X.A (subscriptTail value slice v u) (EP X pins σ Q) X.xe s
def MtR (X : Cx) (id : String) (r : V → List V → Hp → VK → Prop) : Prop :=
 ∀ (pins : List (Addr × Obj)) (s : Shared) (σ : St) (H : Hp) (x : V) (xs : List V) (v : Value) (us : List Value) (Q : VK),Inv X pins σ H s → AZ x v → AM xs us → r x xs H Q →
   wpAny (model X.prog X.w) X.A (call (.builtin id) (v :: us)) (EP X pins σ Q) X.xe s
section
variable {X : Cx} {a b : Expr} {ta tb : TE} {pos : Pos}
theorem Al {r : R2} (hr : IxR X r) (ha : PE X a ta) (hb : PE X b tb) (hs : Of b) : PE X (.Subscript a b pos) (tOp r ta tb):=by
 intro pins s σ H Q I h
 exact Subscript_ (Q6 ha hb I h fun v u s2 x y H2 I2 rx ry q=>hr a b pins s2 σ H2 x y v u Q I2 rx ry q (hs _ _))
inductive OY (K : Tq) (x : V) (y : V) (H : Hp) (Q : VK) : Prop
 | mk (p : _) (xs : _) (i : _) (v : _) (h1 : x = .ref p) (h2 : y = .int i) (h3 : SqL K H p xs) (h4 : atI xs i = some v) (h5 : Q v H) : OY K x y H Q
inductive OX (K : Tq) (x : V) (y : V) (H : Hp) (Q : VK) : Prop
 | mk (p : _) (xs : _) (i : _) (v : _) (h1 : x = .ref p) (h2 : y = .int i) (h3 : SqT K H p xs) (h4 : atI xs i = some v) (h5 : Q v H) : OX K x y H Q
theorem NR : IxR X (OY X.K):=by
 intro value slice pins s σ H x y v u Q I rx ry h hs
 obtain ⟨p,xs,i,z,rfl,rfl,hq,he,q⟩:=h
 cases rx
 obtain ⟨t,rfl⟩:=ry
 obtain ⟨its,r,pl,hz⟩:=I.list hq
 obtain ⟨j,h1,h2,h3,h4,h5⟩:=KQ he
 obtain ⟨w,ew,rw'⟩:=r.get h2
 have hl:=r.length
 have hn:=HX
 have fin : EP X pins σ Q w s:=⟨z,H,I,rw',q⟩
 by_cases h0 : 0 ≤ i
 ·have hj : i.toNat = j:=by
   rw [seqIndex_of h0 h5] at h1
   exact Tb.inj h1
  exact item_listR pl.isList h0 (by lia) (by rw [hj]; simpa using ew) fin hs
 ·have hj : (i + (its.toArray.size : Int)).toNat = j:=by
   rw [seqIndex_neg (by lia) h4] at h1
   rw [Um,← hl]
   exact Tb.inj h1
  exact subscriptTail_builtinR (x:=w) pl.isList.typeIs slot_list_getitem.lookup
   (wpAny_getItem_list_neg (Q:=fun r s'=>r = w ∧ EP X pins σ Q r s') pl.isList (by lia) (by rw [Um] <;> lia) (by lia) (by rw [hj]; simpa using ew) ⟨rfl,fin⟩) hs
theorem PN : IxR X (OX X.K):=by
 intro value slice pins s σ H x y v u Q I rx ry h hs
 obtain ⟨p,xs,i,z,rfl,rfl,hq,he,q⟩:=h
 cases rx
 obtain ⟨t,rfl⟩:=ry
 obtain ⟨its,r,pl,hz⟩:=I.tuple hq
 obtain ⟨j,h1,h2,h3,h4,h5⟩:=KQ he
 obtain ⟨w,ew,rw'⟩:=r.get h2
 have hl:=r.length
 have hn:=HX
 have fin : EP X pins σ Q w s:=⟨z,H,I,rw',q⟩
 exact subscriptTail_builtinR (x:=w) pl.typeIs slot_tuple_getitem.lookup
  (getItem_tuple (j:=j) (Q:=fun r s'=>r = w ∧ EP X pins σ Q r s') pl (by lia) (by lia) (by rw [Um,← hl]; exact h1) (by simpa using ew) ⟨rfl,fin⟩) hs
theorem JI (its : List Value) (n j : Nat) (u : Value) : Obj.mapSeq (·.setIfInBounds j u) { cls:=.type "list",data:=.seq its.toArray n } = { cls:=.type "list",data:=.seq (its.set j u).toArray n }:=by
 simp [Obj.mapSeq]
theorem Inv.lst {pins : List (Addr × Obj)} {σ : St} {H : Hp} {s : Shared} {p : Addr} {xs : List V} (I : Inv X pins σ H s) (h : H p = some (.lst xs)) :
 ∃ (its : List Value) (n : Nat),AM xs its ∧ s.heap.get? p = some { cls:=.type "list",data:=.seq its.toArray n } ∧ xs.length ≤ sizeLine:=by
 obtain ⟨z,its,n,r,e⟩:=I.hok p _ h
 exact ⟨its,n,r,e,z⟩
theorem Inv.lstUpd {pins : List (Addr × Obj)} {σ : St} {H : Hp} {s : Shared} {p : Addr} {xs ys : List V} {its its' : List Value} {n n' : Nat} {f : Obj → Obj} (I : Inv X pins σ H s) (h : H p = some (.lst xs))
 (ho : s.heap.get? p = some { cls:=.type "list",data:=.seq its.toArray n }) (hf : f { cls:=.type "list",data:=.seq its.toArray n } = { cls:=.type "list",data:=.seq its'.toArray n' }) (r : AM ys its') (hz : ys.length ≤ sizeLine) (t : Nat) :
 Inv X pins σ (upd H p (.lst ys)) { s with heap:=s.heap.update p f,toks:=t }:=by
 have e : (s.heap.update p f).get? p = some { cls:=.type "list",data:=.seq its'.toArray n' }:=by
  rw [Heap.get?_update_self f ho (by rw [hf] <;> rfl),hf]
 refine I.write (x:=p) (e:=p) (by rw [h]; trivial) (.inl rfl) (fun b u hb q=>(Heap.get?_update_other _ _ (Ne.symm hb)).trans q) ⟨_,e⟩ ?_
 exact ⟨hz,its',n',r,e⟩
inductive Oj (o : V) (i : V) (v : V) (H : Hp) (Q : (Hp → Prop)) : Prop
 | mk (p : _) (xs : _) (k : _) (j : _) (h1 : o = .ref p) (h2 : i = .int k) (h3 : H p = some (.lst xs)) (h4 : ixN xs.length k = some j) (h5 : Q (upd H p (.lst (xs.set j v)))) : Oj o i v H Q
theorem D0 : QU X Oj:=by
 intro pins s σ H o i v ov iv u Q I ro ri rv h
 obtain ⟨p,xs,k,j,rfl,rfl,hp,hj,q⟩:=h
 cases ro
 obtain ⟨t,rfl⟩:=ri
 obtain ⟨its,n,r,ho,hz⟩:=I.lst hp
 obtain ⟨h1,h2,h3,h4⟩:=Kp hj
 have hl:=r.length
 have hn:=HX
 have I' : Inv X pins σ (upd H p (.lst (xs.set j v))) { s with heap:=s.heap.update p (Obj.mapSeq (·.setIfInBounds j u)) } :=
  I.lstUpd hp ho (JI its n j u) (r.set rv j) (by rw [Uo]; exact hz) s.toks
 by_cases h0 : 0 ≤ k
 ·have hk : k.toNat = j:=by
   rw [seqIndex_of h0 h4] at h1
   exact Tb.inj h1
  exact PySem.W.ki_setAt ho h0 (by lia) (by rw [Um,← hl]; exact h4) (by rw [hk]; exact ⟨_,I',q⟩)
 ·have hk : (k + (its.toArray.size : Int)).toNat = j:=by
   rw [seqIndex_neg (by lia) h3] at h1
   rw [Um,← hl]
   exact Tb.inj h1
  exact PySem.W.ki_setBack ho (by lia) (by rw [Um,← hl]; exact h3) (by lia) (by rw [hk]; exact ⟨_,I',q⟩)
theorem Hw (lo hi : Option Int) (n : Nat) : (sliceBounds lo hi none n).1 = ((HT.sIx n 0 lo : Nat) : Int) ∧ (sliceBounds lo hi none n).2.1 = ((HT.sIx n n hi : Nat) : Int) ∧ (sliceBounds lo hi none n).2.2 = 1:=by
 have key : ∀ (i : Int) (d : Nat),max 0 (min (if i < 0 then i + (n : Int) else i) (n : Int)) = ((HT.sIx n d (some i) : Nat) : Int):=by
  intro i d
  rw [← HT.clip_eq]
  by_cases h : i < 0
  ·rw [if_pos h,if_pos h,Int.min_eq_left (by lia),Int.max_comm]
  ·rw [if_neg h,if_neg h,Int.max_eq_right (Int.le_min.mpr ⟨by lia,by lia⟩)]
 refine ⟨?_,?_,rfl⟩
 ·cases lo with
  | none=>simp [sliceBounds,HT.sIx]
  | some i=>exact key i 0
 ·cases hi with
  | none=>simp [sliceBounds,HT.sIx]
  | some i=>exact key i n
theorem Gg (its : List Value) (lo hi : Option Int) : slicePick its.toArray lo hi none = ((its.drop (HT.sIx its.length 0 lo)).take (HT.sIx its.length its.length hi - HT.sIx its.length 0 lo)).toArray:=by
 obtain ⟨h1,h2,h3⟩:=Hw lo hi its.toArray.size
 unfold slicePick
 rw [h1,h2,h3]
 simp only [sliceRange_one,pick_run,Um] <;> rfl
inductive OW (K : Tq) (x : V) (lo : Option Int) (hi : Option Int) (H : Hp) (Q : VK) : Prop
 | mk (a : _) (xs : _) (h1 : x = .ref a) (h2 : SqL K H a xs) (h3 : ∀ p,H p = none → Q (.ref p) (upd H p (.lst (Du xs lo hi)))) : OW K x lo hi H Q
theorem Nw : SlR X (OW X.K):=by
 intro pins s σ H x v vl vu lo hi sl Q I rx hs pl pu h
 obtain ⟨a,xs,rfl,hx,q⟩:=h
 cases rx
 obtain ⟨its,r,ht,hz⟩:=I.list hx
 have hlen:=r.length
 refine ⟨"list",_,slot_list_getitem.lookup,ht.isList.typeIs,?_⟩
 refine wpAny_getItem_list_slice ht.isList hs pl pu .none (by simp) ?_ (by rw [Um] <;> lia)
 rw [Gg,← hlen]
 refine ⟨.ref s.heap.objs.size,_,I.laid (t':=s.toks) (o:=.lst (Du xs lo hi)) (fun b ob q=>Heap.get?_push_of_some _ q) (TL _) ?_,rfl,q _ (I.hok.fresh (TL _))⟩
 exact ⟨Tr (Jb xs lo hi) hz,_,0,(r.drop (HT.sIx xs.length 0 lo)).take (HT.sIx xs.length xs.length hi - HT.sIx xs.length 0 lo),Heap.get?_push_size _ rfl⟩
theorem Ik : Dg X (.builtin "len") (fun xs H Q=>∃ p ys,xs = [.ref p] ∧ (SqL X.K H p ys ∨ SqT X.K H p ys) ∧ Q (.int ys.length) H):=by
 intro pins s σ H xs us Q I r h
 obtain ⟨p,ys,rfl,hq,q⟩:=h
 obtain ⟨u,rfl,rx⟩:=Fv r
 cases rx
 have hn:=HX
 rcases hq with hq | hq
 ·obtain ⟨its,r',pl,hz⟩:=I.list hq
  have hlen:=r'.length
  exact Calls.call_len_list pl.isList (by simp only [Um] <;> lia) ⟨.int ys.length,H,I.tok _,⟨s.toks + 1,by rw [Um,hlen]⟩,q⟩
 ·obtain ⟨its,r',pl,hz⟩:=I.tuple hq
  have hlen:=r'.length
  exact len_tuple pl (by simp only [Um] <;> lia) ⟨.int ys.length,H,I.tok _,⟨s.toks + 1,by rw [Um,hlen]⟩,q⟩
theorem Ij : Dg X (.type "list") (fun xs H Q=>∃ p ys,xs = [.ref p] ∧ (SqL X.K H p ys ∨ SqT X.K H p ys) ∧ ∀ l,H l = none → Q (.ref l) (upd H l (.lst ys))):=by
 intro pins s σ H xs us Q I r h
 obtain ⟨p,ys,rfl,hq,q⟩:=h
 obtain ⟨u,rfl,rx⟩:=Fv r
 cases rx
 have fin : ∀ (its : List Value),AM ys its → ys.length ≤ sizeLine → ∀ (h' : Heap) (c' : Nat),(∀ b o',s.heap.get? b = some o' → h'.get? b = some o') →
  h'.get? s.heap.objs.size = some { cls:=.type "list",dict:=none,data:=.seq its.toArray c',slots:=#[] } → EP X pins σ Q (.ref s.heap.objs.size) { s with heap:=h' }:=fun its r' hz h' c' kp e =>
  ⟨.ref s.heap.objs.size,_,I.laid (t':=s.toks) kp (TL _) (show Bh X.prog X.w _ h' _ (.lst ys) from ⟨hz,its,c',r',e⟩),rfl,q _ (I.hok.fresh (TL _))⟩
 rcases hq with hq | hq
 ·obtain ⟨its,r',pl,hz⟩:=I.list hq
  have hlen:=r'.length
  obtain ⟨o,ho,hc,n,hd⟩:=pl.isList
  exact call_list_seq p (.inl rfl) ho hc hd (fun h' c' kp e=>fin its r' hz h' c' kp e) (by simp only [Um] <;> lia)
 ·obtain ⟨its,r',pl,hz⟩:=I.tuple hq
  have hlen:=r'.length
  obtain ⟨o,ho,hc,n,hd⟩:=pl
  exact call_list_seq p (.inr rfl) ho hc hd (fun h' c' kp e=>fin its r' hz h' c' kp e) (by simp only [Um] <;> lia)
theorem GA : Dg X (.type "tuple") (fun xs H Q=>∃ p ys,xs = [.ref p] ∧ ((SqL X.K H p ys ∧ ∀ l,H l = none → Q (.ref l) (upd H l (.tup ys))) ∨ (SqT X.K H p ys ∧ Q (.ref p) H))):=by
 intro pins s σ H xs us Q I r h
 obtain ⟨p,ys,rfl,h⟩:=h
 obtain ⟨u,rfl,rx⟩:=Fv r
 cases rx
 rcases h with ⟨hq,q⟩ | ⟨hq,q⟩
 ·obtain ⟨its,r',pl,hz⟩:=I.list hq
  have hlen:=r'.length
  refine call_tuple_list pl.isList (fun h' kp=>?_) (by simp only [Um] <;> lia)
  have I1 : Inv X pins σ H { s with heap:=h' }:=I.kept (t':=s.toks) kp
  have I2 : Inv X pins σ (upd H h'.objs.size (.tup ys)) { s with heap:=h'.push { cls:=.type "tuple",data:=.seq its.toArray } } :=
   I1.laid (t':=s.toks) (fun b o e=>Heap.get?_push_of_some _ e) (TL _) (show Bh X.prog X.w _ _ _ (.tup ys) from ⟨hz,its,r',IsTup.new _ _⟩)
  exact ⟨.ref h'.objs.size,_,I2,rfl,q _ (I1.hok.fresh (TL _))⟩
 ·obtain ⟨its,r',pl,hz⟩:=I.tuple hq
  exact call_tuple_same pl ⟨.ref p,H,I,rfl,q⟩
def tyV (K : Tq) (T : String) (x : V) (H : Hp) : Prop:=match x with
 | .str _=>T = "str"
 | .int _=>T = "int"
 | .ref p=>(T = "list" ∧ ∃ xs,SqL K H p xs) ∨ (T = "tuple" ∧ ∃ o,K.lookup p = some o ∧ o.cls = .type "tuple" ∧ o.dict = none) ∨
  (T = "dict" ∧ ((∃ kvs,H p = some (.dK kvs)) ∨ ∃ kvs,H p = some (.dT kvs))) ∨ (T = "set" ∧ ∃ S n,H p = some (.set S n))
 | _=>False
theorem LS {pins : List (Addr × Obj)} {σ : St} {H : Hp} {s : Shared} {T : String} {x : V} {v : Value} (I : Inv X pins σ H s) (r : AZ x v) (ty : tyV X.K T x H) :
 s.TypeIs v T ∧ ∀ a,v = .ref a → ∃ ob,s.heap.get? a = some ob ∧ ob.dict = none:=by
 cases x with
 | str z =>
   obtain ⟨t,rfl⟩:=r
   cases (show T = "str" from ty)
   exact ⟨typeIs_str s z t,fun _ e=>nomatch e⟩
 | int i =>
   obtain ⟨t,rfl⟩:=r
   cases (show T = "int" from ty)
   exact ⟨typeIs_int s i t,fun _ e=>nomatch e⟩
 | ref p =>
   cases r
   rcases ty with ⟨rfl,xs,hq⟩ | ⟨rfl,o,hk,hc,hd⟩ | ⟨rfl,hk⟩ | ⟨rfl,S,n,hk⟩
   ·obtain ⟨its,_,pl,_⟩:=I.list hq
    refine ⟨pl.isList.typeIs,fun a e=>?_⟩
    cases e
    obtain ⟨o,n,e,c,hd,_⟩:=pl
    exact ⟨o,e,hd⟩
   ·refine ⟨⟨o,I.kIn p o hk,hc⟩,fun a e=>?_⟩
    cases e
    exact ⟨o,I.kIn _ o hk,hd⟩
   ·have z : ∃ o,s.heap.get? p = some o ∧ o.ExactDict:=by
     rcases hk with ⟨kvs,hk⟩ | ⟨kvs,hk⟩
     ·obtain ⟨_,_,_,_,o,_,_,e,ex,_⟩:=I.hok p _ hk
      exact ⟨o,e,ex⟩
     ·obtain ⟨_,_,_,_,o,_,_,e,ex,_⟩:=I.hok p _ hk
      exact ⟨o,e,ex⟩
    obtain ⟨o,e,ex⟩:=z
    refine ⟨⟨o,e,ex.1⟩,fun a e2=>?_⟩
    cases e2
    exact ⟨o,e,ex.2.1⟩
   ·obtain ⟨o,_,_,_,e,ex,_⟩:=I.hok p _ hk
    refine ⟨⟨o,e,ex.1⟩,fun a e2=>?_⟩
    cases e2
    exact ⟨o,e,ex.2.1⟩
 | _=>exact False.elim ty
def Qn (K : Tq) (T : String) (r : V → List V → Hp → VK → Prop) (to : TE) : TE:=fun σ H Q=>to σ H fun x H1=>tyV K T x H1 ∧ r x [] H1 Q
def tBM (K : Tq) (T : String) (r : V → List V → Hp → VK → Prop) (to : TE) (t : TA) : TE:=fun σ H Q=>to σ H fun x H1=>tyV K T x H1 ∧ t σ H1 fun xs H2=>r x xs H2 Q
variable {o e : Expr} {es : List Expr} {to : TE} {t : TA} {name : Str} {apos cpos : Pos} {T id : String} {r : V → List V → Hp → VK → Prop}
theorem Pg (pa : PlainAttrs T) (slot : Slot T name id) (hty : typeOf (.builtin id) = pure (.type "method_descriptor")) (hm : MtR X id r) (ho : PE X o to)
 (hbase : attributeBase o name X.env (eval o X.env) = eval o X.env:=by rfl) (hline : (apos.endLine == cpos.line) = true:=by rfl) {K : Tq} (eK : X.K = K:=by rfl) : PE X (.Call (.Attribute o name apos) [] [] cpos) (Qn K T r to):=by
 subst eK
 intro pins s σ H Q I h
 refine wpAny_Call_method0_late hbase hline (thn (ho pins s σ H _ I h) fun v s1 ⟨x,H1,I1,r1,ty,q1⟩=>?_)
 obtain ⟨h1,h2⟩:=LS I1 r1 ty
 exact ⟨T,id,pa,slot,hty,h1,h2,Calls.callWith_builtin rfl (PySem.evalArgs_none (hm pins s1 σ H1 x [] v [] Q I1 r1 .nil q1))⟩
theorem Qy (pa : PlainAttrs T) (slot : Slot T name id) (hty : typeOf (.builtin id) = pure (.type "method_descriptor")) (hm : MtR X id r) (ho : PE X o to) (ha : PA X (e :: es) t)
 (hbase : attributeBase o name X.env (eval o X.env) = eval o X.env:=by rfl)
 (hfew : ((backTo cpos (starEach (e :: es) X.env)).all (fun x=>!x.1) && (backToKw cpos (keywordEach [] X.env)).all (fun x=>x.1.isSome)
  && decide ((e :: es).length + ([] : List Keyword).length + (if ([] : List Keyword).isEmpty then 0 else 1) < 30)) = true:=by rfl)
 (hline : (apos.endLine == cpos.line) = true:=by rfl) (hs : starEach (e :: es) X.env = (false,eval e X.env) :: starEach es X.env:=by rfl) (hplain : (backTo cpos (starEach es X.env)).any (·.1) = false:=by rfl) {K : Tq} (eK : X.K = K:=by rfl) :
 PE X (.Call (.Attribute o name apos) (e :: es) [] cpos) (tBM K T r to t):=by
 subst eK
 intro pins s σ H Q I h
 refine wpAny_Call_method_late hbase hfew hline rfl (thn (ho pins s σ H _ I h) fun v s1 ⟨x,H1,I1,r1,ty,q1⟩=>?_)
 obtain ⟨h1,h2⟩:=LS I1 r1 ty
 refine ⟨T,id,pa,slot,hty,h1,h2,?_⟩
 have hA:=ha cpos pins s1 σ H1 _ I1 q1
 rw [hs] at hA ⊢
 refine Calls.callWith_builtin (by show (false || (backTo cpos (starEach es X.env)).any (·.1)) = false; rw [hplain] <;> rfl) (Calls.evalArgs_plain ?_)
 exact thn hA fun us s2 ⟨vs,H2,I2,r2,q2⟩=>hm pins s2 σ H2 x vs v us Q I2 r1 r2 q2
end
end L2
namespace L2
open PySem PySem.Spec PyProof.Rows
def MtM (X : Cx) (id : String) (r : V → List V → Hp → VK → Prop) : Prop :=
 ∀ (pins : List (Addr × Obj)) (s : Shared) (σ : St) (H : Hp) (x : V) (xs : List V) (v : Value) (us : List Value) (Q : VK),Inv X pins σ H s → AZ x v → AM xs us → r x xs H Q →
   wpAny (model X.prog X.w) X.A (call (.builtin id) (v :: us)) (EP X pins σ Q) X.xe s
theorem AM.one {x : V} {us : List Value} (h : AM [x] us) : ∃ u,us = [u] ∧ AZ x u:=by
 cases h with
 | cons r t=>cases t; exact ⟨_,rfl,r⟩
theorem AM.zero : ∀ {us : List Value},AM [] us → us = []
 | _,.nil=>rfl
theorem AM.dropLast {xs : List V} {us : List Value} (h : AM xs us) : AM xs.dropLast us.dropLast:=by
 induction h with
 | nil=>exact .nil
 | cons r t ih =>
   cases t with
   | nil=>exact .nil
   | cons q t'=>exact .cons r ih
theorem AM.rep {xs : List V} {us : List Value} (h : AM xs us) : ∀ k : Nat,AM (U5 k xs).flatten (U5 k us).flatten
 | 0=>.nil
 | k + 1=>by
   rw [Uq,Uq,Ur,Ur]
   exact AM.append h (AM.rep h k)
theorem JR {α : Type} (l : List α) : l.eraseIdx (l.length - 1) = l.dropLast:=by
 induction l with
 | nil=>rfl
 | cons a r ih =>
   cases r with
   | nil=>rfl
   | cons b r =>
     have e : (a :: b :: r).length - 1 = ((b :: r).length - 1) + 1:=by
      have h1 : (a :: b :: r).length = r.length + 2:=rfl
      have h2 : (b :: r).length = r.length + 1:=rfl
      lia
     rw [e,List.eraseIdx_cons_succ,ih]
     all_goals rfl
theorem GX (its : List Value) : ∀ (k : Nat) (acc : List Value),
 List.foldl (fun x1 x2=>x1 ++ x2) acc.toArray (U5 k its.toArray) = (acc ++ (U5 k its).flatten).toArray
 | 0,acc=>by simp
 | k + 1,acc=>by
   have e : acc.toArray ++ its.toArray = (acc ++ its).toArray:=by simp
   have e2 : (acc ++ its) ++ (U5 k its).flatten = acc ++ (U5 (k + 1) its).flatten:=by
    rw [Uq,Ur,Us]
   rw [← e2,← GX its k (acc ++ its),← e,Uq,List.foldl_cons]
section
variable {X : Cx} {pins : List (Addr × Obj)} {σ : St} {H : Hp} {s : Shared} {l b : Addr} {xs ys zs : List V}
theorem Inv.lset {its its' : List Value} {n : Nat} {f : Array Value → Array Value} {t' : Nat} (I : Inv X pins σ H s) (hH : H l = some (.lst xs))
 (e : s.heap.get? l = some { cls:=.type "list",data:=.seq its.toArray n }) (hf : f its.toArray = its'.toArray) (hv : AM ys its') (hz : ys.length ≤ sizeLine) :
 Inv X pins σ (upd H l (.lst ys)) { s with heap:=s.heap.update l (Obj.mapSeq f),toks:=t' }:=by
 have q:=PySem.IsL.update e f
 rw [hf] at q
 refine I.write (x:=l) (e:=l) (by rw [hH]; exact trivial) (.inl rfl) (fun b' u hb hu=>(Heap.get?_update_other s.heap (Obj.mapSeq f) (Ne.symm hb)).trans hu) ⟨_,q⟩ ?_
 exact ⟨hz,its',_,hv,q⟩
theorem Inv.lnew {its : List Value} {t' : Nat} (I : Inv X pins σ H s) (hv : AM ys its) (hz : ys.length ≤ sizeLine) :
 Inv X pins σ (upd H s.heap.objs.size (.lst ys)) { s with heap:=s.heap.push { cls:=.type "list",data:=.seq its.toArray },toks:=t' } :=
 I.laid (fun _ _ q=>Heap.get?_push_of_some _ q) (TL _) ⟨hz,its,0,hv,Heap.get?_push_size _ rfl⟩
theorem Inv.fresh (I : Inv X pins σ H s) : H s.heap.objs.size = none:=I.hok.fresh (TL _)
theorem Inv.lstM (I : Inv X pins σ H s) (hH : H l = some (.lst xs)) : xs.length ≤ sizeLine ∧ ∃ (its : List Value) (n : Nat),AM xs its ∧ xs.length = its.length ∧ s.heap.get? l = some { cls:=.type "list",data:=.seq its.toArray n }:=by
 obtain ⟨z,its,n,r,e⟩:=I.hok l _ hH
 exact ⟨z,its,n,r,r.length,e⟩
theorem IL {n : Nat} (h : n ≤ sizeLine) : Builtin.List.listTooLong n = false:=by
 unfold Builtin.List.listTooLong
 exact decide_eq_false (by lia)
end
section
variable {X : Cx}
inductive Ka (x : V) (vs : List V) (H : Hp) (Q : VK) : Prop
 | mk (l : _) (xs : _) (y : _) (h1 : x = .ref l) (h2 : vs = [y]) (h3 : H l = some (.lst xs)) (h4 : xs.length < sizeLine) (h5 : Q .non (upd H l (.lst (xs ++ [y])))) : Ka x vs H Q
theorem EN : MtM X "list.append" Ka:=by
 intro pins s σ H x vs v us Q I rx rv h
 obtain ⟨l,xs,y,rfl,rfl,hH,hz,q⟩:=h
 cases rx
 obtain ⟨u,rfl,ru⟩:=rv.one
 obtain ⟨z,its,n,r,hl,e⟩:=I.lstM hH
 refine call_meets F.slot_list_append ⟨_,e,rfl⟩ F.entry_list_append (F.args_list_append_2 _ _) (PySem.list_append l its.toArray n u (by rw [Um]; lia)) ⟨e,?_⟩
 refine ⟨.non,_,I.lset (its':=its ++ [u]) hH e (by simp) (r.append (.cons ru .nil)) ?_,rfl,q⟩
 rw [Ue,Ut]
 lia
inductive K9 (x : V) (vs : List V) (H : Hp) (Q : VK) : Prop
 | mk (l : _) (b : _) (xs : _) (zs : _) (h1 : x = .ref l) (h2 : vs = [.ref b]) (h3 : H l = some (.lst xs)) (h4 : H b = some (.lst zs)) (h5 : xs.length + zs.length ≤ sizeLine) (h6 : Q .non (upd H l (.lst (xs ++ zs)))) : K9 x vs H Q
theorem Ll : MtM X "list.extend" K9:=by
 intro pins s σ H x vs v us Q I rx rv h
 obtain ⟨l,b,xs,zs,rfl,rfl,hH,hB,hz,q⟩:=h
 cases rx
 obtain ⟨u,rfl,ru⟩:=rv.one
 cases ru
 obtain ⟨z,its,n,r,hl,e⟩:=I.lstM hH
 obtain ⟨z2,its2,n2,r2,hl2,e2⟩:=I.lstM hB
 have hsz : its.toArray.size + its2.toArray.size ≤ sizeLine:=by rw [Um,Um]; lia
 have hlong : ¬ (!its.toArray.isEmpty && Builtin.List.listTooLong (its.toArray.size + its2.toArray.size)) = true:=by
  rw [IL hsz,Bool.and_false]
  exact Bool.false_ne_true
 refine call_meets F.slot_list_extend ⟨_,e,rfl⟩ F.entry_list_extend (F.args_list_extend_2 _ _)
  (AutoSeq1.list_extend_list_list_0 l its.toArray n b its2.toArray n2 hlong (by rw [Um]; lia) (by lia)) ⟨e,e2,?_⟩
 refine ⟨.non,_,I.lset (its':=its ++ its2) hH e (by simp) (r.append r2) ?_,rfl,q⟩
 rw [Ue]
 lia
inductive Qt (x : V) (vs : List V) (H : Hp) (Q : VK) : Prop
 | mk (l : _) (xs : _) (y : _) (h1 : x = .ref l) (h2 : vs = []) (h3 : H l = some (.lst xs)) (h4 : xs[xs.length - 1]? = some y) (h5 : Q y (upd H l (.lst xs.dropLast))) : Qt x vs H Q
theorem Pq : MtM X "list.pop" Qt:=by
 intro pins s σ H x vs v us Q I rx rv h
 obtain ⟨l,xs,y,rfl,rfl,hH,hy,q⟩:=h
 cases rx
 have hus:=rv.zero
 subst hus
 obtain ⟨z,its,n,r,hl,e⟩:=I.lstM hH
 obtain ⟨u,hu,ru⟩:=r.get hy
 have hy' : its.toArray[its.toArray.size - 1]? = some u:=by
  show its.toArray[its.length - 1]? = some u
  rw [← Uu,← hl]
  exact hu
 refine call_meets F.slot_list_pop ⟨_,e,rfl⟩ F.entry_list_pop (F.args_list_pop_1 _) (MeetsSeq.list_pop_last l its.toArray n u hy' (by rw [Um]; lia)) ⟨e,?_⟩
 refine ⟨y,_,I.lset (its':=its.dropLast) hH e ?_ r.dropLast ?_,ru,q⟩
 ·show its.toArray.eraseIdxIfInBounds (its.toArray.size - 1) = its.dropLast.toArray
  rw [Um,List.eraseIdxIfInBounds_toArray,JR]
 ·rw [List.length_dropLast]
  lia
inductive Qv (x : V) (y : V) (H : Hp) (Q : VK) : Prop
 | mk (l : _) (b : _) (xs : _) (zs : _) (h1 : x = .ref l) (h2 : y = .ref b) (h3 : H l = some (.lst xs)) (h4 : H b = some (.lst zs)) (h5 : xs.length + zs.length ≤ sizeLine) (h6 : ∀ p,H p = none → Q (.ref p) (upd H p (.lst (xs ++ zs)))) : Qv x y H Q
theorem Dz : OpR X (binaryOp .Add) Qv:=by
 intro pins s σ H x y v u Q I rx ry h
 obtain ⟨l,b,xs,zs,rfl,rfl,hH,hB,hz,q⟩:=h
 cases rx
 cases ry
 obtain ⟨z,its,n,r,hl,e⟩:=I.lstM hH
 obtain ⟨z2,its2,n2,r2,hl2,e2⟩:=I.lstM hB
 refine PySem.P.add_list e e2 ?_ (by rw [Um,Um]; lia)
 have ea : its.toArray ++ its2.toArray = (its ++ its2).toArray:=by simp
 rw [ea]
 exact ⟨.ref _,_,I.lnew (t':=s.toks) (r.append r2) (by rw [Ue]; lia),rfl,q _ I.fresh⟩
inductive Qs (x : V) (y : V) (H : Hp) (Q : VK) : Prop
 | mk (l : _) (k : _) (xs : _) (h1 : x = .ref l) (h2 : y = .int k) (h3 : H l = some (.lst xs)) (h4 : -(2 ^ 63) ≤ k) (h5 : k < 2 ^ 63) (h6 : xs.length * k.toNat ≤ sizeLine) (h7 : ∀ p,H p = none → Q (.ref p) (upd H p (.lst (U5 k.toNat xs).flatten))) : Qs x y H Q
theorem NN {α : Type} (xs : List α) (k : Nat) : (U5 k xs).flatten.length = k * xs.length:=by
 induction k with
 | zero=>simp
 | succ k ih=>rw [Uq,Ur,Ue,ih,Nat.succ_mul,Nat.add_comm]
theorem Mw : OpR X (binaryOp .Mult) Qs:=by
 intro pins s σ H x y v u Q I rx ry h
 obtain ⟨l,k,xs,rfl,rfl,hH,h1,h2,hz,q⟩:=h
 cases rx
 obtain ⟨t,rfl⟩:=ry
 obtain ⟨z,its,n,r,hl,e⟩:=I.lstM hH
 have hlen : its.toArray.size * k.toNat ≤ sizeLine:=by rw [Um,← hl]; exact hz
 have hcap : ¬ its.toArray.size * k.toNat > (2 ^ 63 - 1) / 8:=by
  have : (sizeLine : Nat) ≤ (2 ^ 63 - 1) / 8:=by decide
  lia
 have hfit : ¬ (!Builtin.List.listFitsIndex k) = true:=by
  rw [fitsIndex_both h1 h2]
  exact Bool.false_ne_true
 have hlong : ¬ Builtin.List.listTooLong (its.toArray.size * k.toNat) = true:=by
  rw [IL hlen]
  exact Bool.false_ne_true
 have hnew : List.foldl (fun x1 x2=>x1 ++ x2) #[] (U5 (if its.toArray.isEmpty = true then 0 else k.toNat) its.toArray) = (U5 k.toNat its).flatten.toArray:=by
  have f0 : ∀ m : Nat,List.foldl (fun x1 x2=>x1 ++ x2) #[] (U5 m its.toArray) = (U5 m its).flatten.toArray:=fun m=>by
   have:=GX its m []
   rw [List.nil_append] at this
   exact this
  rw [f0]
  cases its with
  | nil=>simp
  | cons a r'=>rw [if_neg (by simp)]
 refine wpAny_binaryOp_repeat_ref (T:="list") (U:="int") (by decide) ⟨_,e,rfl⟩ (fun s'=>typeIs_int s' k t) noFill_list_mul F.fills_int_mul F.slot_int_rmul repeat_list F.slot_int_index.lookup
  (call_meets F.slot_int_rmul (typeIs_int s k t) F.entry_int_rmul (F.args_int_rmul_2 _ _) (int___rmul___int_list k t l its.toArray n)
   ⟨e,rfl,⟨_,e,rfl⟩,call_meets F.slot_list_mul ⟨_,e,rfl⟩ F.entry_list_mul (F.args_list_mul_2 _ _) (AutoListH.list___mul___list_int_3 l its.toArray n k t hfit hcap hlong) ⟨e,?_⟩⟩)
 rw [hnew]
 exact ⟨.ref _,_,I.lnew (t':=s.toks) (r.rep k.toNat) (by rw [NN,Uv]; exact hz),rfl,q _ I.fresh⟩
end
section
variable {prog : Program} {w : World} {A : Around} {E : Value → Shared → Prop} {s : Shared}
set_option maxRecDepth 100000 in
end
section
variable {X : Cx}
end
end L2
namespace Att
open PySem PySem.W PySem.Calls PyProof.Rows
theorem ints_of_wellAll {P : Params} {h : Heap} : ∀ (ns : List Int) (vs : List Value),WellAll P h vs (ns.map WData.int) → IntsAre vs ns:=by
 intro ns
 induction ns with
 | nil =>
   intro vs w
   rw [List.map_nil] at w
   cases w
   exact .nil
 | cons n ns ih =>
   intro vs w
   rw [Uw] at w
   cases w with
   | cons a b =>
     cases a
     exact .cons _ _ (ih _ b)
theorem script_of {l : OpenLaw} {n : Nat} (hn : l.most = some n) {P : Params} {h : Heap} {args : List WData} {vals : List Value}
 (hpre : l.row.toRowW.claim.pre args = true) (hwl : WellAll P h vals args) :
 ∃ a vs ns,vals = [Value.ref a] ∧ args = [WData.list (ns.map WData.int)] ∧ h.get? a = some { cls:=.type "list",data:=.seq vs.toArray } ∧ IntsAre vs ns ∧ ns.length ≤ n:=by
 have hsh : WShape.hasAll [] args [.list .int] = true:=(pre_splitW hpre).1
 have hc : l.pre.holds [] { args:=args } = true:=(pre_splitW hpre).2
 obtain ⟨d,r,rfl,h1,h2⟩:=hasAllW_cons hsh
 obtain rfl:=hasAllW_nil h2
 obtain ⟨xs,rfl,h3⟩:=hasW_list h1
 obtain ⟨ns,rfl⟩:=items_int h3
 have hlen : ns.length ≤ n:=by
  unfold OpenLaw.pre at hc
  have h4 : (WTm.not (.lt (.lit (.int (n : Int))) (.len (.arg 0)))).holds [] { args:=[.list (ns.map .int)] } = true:=by
   have h4:=(holds_andW hc).1
   rw [hn] at h4
   exact h4
  have h5:=condW_of h4 (w_not (w_lt w_lit (w_len_list (w_arg rfl))))
  rw [Ug] at h5
  refine Nat.le_of_not_lt fun q=>?_
  have q' : (n : Int) < ((ns.length : Nat) : Int):=by lia
  first
   | (rw [decide_eq_true q'] at h5; exact absurd h5 (by decide))
   | (simp at h5; lia)
 cases hwl with
 | cons w1 w2 =>
   cases w2
   cases w1 with
   | list ho hall=>exact ⟨_,_,ns,rfl,rfl,ho,ints_of_wellAll ns _ hall,hlen⟩
theorem post_true (l : OpenLaw) (args : List WData) : l.row.toRowW.claim.post args (.bool true) args = true :=
 postW_of (r:=l.row.toRowW) (X:=(true == true))
  (show WShape.has [] (.bool true) .bool = true by first | rfl | decide | simp [WShape.has,WShape.arms,WShape.armsAll])
  (show (WTm.eq .res (.lit (.bool true))).value [] { args:=args,res:=some (.bool true),after:=args } = some (.bool (true == true)) from w_eq_bool (w_res rfl) w_lit) rfl
theorem attach_call {l : OpenLaw} {n : Nat} {q : Program} {loose : List Str} {XP : (Str → Option Value) → Heap → Prop} {YP : World → Heap → Prop} {d : DefRec}
 (hn : l.most = some n) (hdf : d.params.defaults = [])
 (call : ∀ (w : World) (s₀ s₁ : Shared) (mg mb : Str → Option Value) (fa : Addr) (o : Obj) (pm cd doc : Value) (a : Addr) (vs : List Value) (ns : List Int),
  Ground q loose [] XP w s₀ mg mb s₁.heap → YP w s₁.heap →
  s₁.heap.get? fa = some o → o.data = .func (docDef d.name d.params d.body d.scope pm cd doc) → s₁.heap.CodeRec cd d.name → mg d.name = some (.ref fa) →
  s₁.heap.get? a = some { cls:=.type "list",data:=.seq vs.toArray } → IntsAre vs ns → ns.length ≤ n → s₁.gens = #[] →
  codeAny (model l.prog w) callerA (.call (.ref fa) ⟨[.ref a],[]⟩) (fun r s'=>r = .ok (.ret (.bool true)) ∧ OldK s₁.heap s'.heap ∧ s'.os = s₁.os ∧ AllBare s'.gens) s₁) :
 WalkO q loose XP YP l.row.toRowW d [] (fun f vs=>PySem.call f vs):=by
 intro w s₀ s₁ mg mb G Y fa o pm cd doc dV kV ho hd hcd hD hmg hg args vals as hpre hlay hrd hwl hlo
 obtain rfl : dV = .none:=Dflts.none hD hdf
 obtain rfl : kV = .none:=Dflts.noKw hD
 obtain ⟨a,vs,ns,rfl,rfl,hobj,hints,hlen⟩:=script_of hn hpre hwl
 refine enter_call (codeAny_mono (call w s₀ s₁ mg mb fa o pm cd doc a vs ns G Y ho (fd_plain hd) hcd hmg hobj hints hlen hg) fun r s' hq=>?_)
 obtain ⟨rfl,h2,h3,h4⟩:=hq
 exact ⟨.inl ⟨.bool true,.bool true,[],rfl,fun _=>rfl,.bool true,post_true l _,fun _=>⟨List.Pairwise.nil,fun _ hm=>(nomatch hm)⟩⟩,h2,h3,h4⟩
section
variable {prog : Program} {w : World} {A : Around} {E : Value → Shared → Prop} {s : Shared} {K : Frag}
end
end Att
namespace L2
open PySem PySem.Spec PyProof.Rows
theorem KW {vs : List Value} {ns : List Int} (h : IntsAre vs ns) : AM (ns.map V.int) vs:=by
 induction h with
 | nil=>exact .nil
 | cons n t h ih=>exact .cons ⟨t,rfl⟩ ih
def Qb (H : Hp) : Prop:=∀ b,H b = none ∨ ∃ o xs,H b = some (.frz o (.lst xs))
theorem MK {P : Program} {w : World} {K : Tq} {mg mb : Str → Option Value} {CX : CXT} {k : Nat} {fa a : Addr} {fd : FuncData} {x : Str} {sp : Sp} {s₁ : Shared} {vs : List Value} {ns : List Int}
 (KX : K.In s₁.heap) (hns : s₁.heap.Ns mainGlobals mg) (hb : s₁.heap.Ns builtinsNs mb) (hbb : ∀ x : Str,x ≠ "__name__" → mb x = bootBuiltins x) (hlim : s₁.heap.NoLimit) (hsee : s₁.heap.NoSeer) (hg : s₁.gens = #[])
 (ha : s₁.heap.get? a = some { cls:=.type "list",data:=.seq vs.toArray }) (hi : IntsAre vs ns) (hl : ns.length ≤ sizeLine) (hr : C7 k callerA)
 (F : ∀ base : Heap,K.In base → base.Ns mainGlobals mg → AN P w K mg base CX k fa fd [x] sp) (hbind : ∀ (s : Shared) (u : Value),BindsTo s fd ⟨[u],[]⟩ [(x,u)])
 (hsp : ∀ H : Hp,Qb H → SqL K H a (ns.map V.int) → sp [.ref a] H (fun v _=>v = .bl true) fun _ _ _=>False)
 (hCX : ∀ H e s',CX [] H s₁ (fun _ _ _=>False) e s' → False) :
 codeAny (model P w) callerA (.call (.ref fa) ⟨[.ref a],[]⟩) (fun r s'=>r = .ok (.ret (.bool true)) ∧ OldK s₁.heap s'.heap ∧ s'.os = s₁.os ∧ AllBare s'.gens) s₁:=by
 have rv:=KW hi
 have lenV:=hi.length
 -- from an abstract heap in which nothing but the script may be tracked
 have core : ∀ H : Hp,Qb H → SqL K H a (ns.map V.int) → HOk P w H s₁.heap → (∀ b,H b ≠ none → b = a) → (H a ≠ none → K.lookup a = none) →
  codeAny (model P w) callerA (.call (.ref fa) ⟨[.ref a],[]⟩) (fun r s'=>r = .ok (.ret (.bool true)) ∧ OldK s₁.heap s'.heap ∧ s'.os = s₁.os ∧ AllBare s'.gens) s₁:=by
  intro H hO hS hok hA hK
  have base_of : ∀ {b : Addr} {o : Obj},s₁.heap.get? b = some o → H b = none → (Gy s₁.heap H).get? b = some o:=fun e n=>MR e n
  have noA : ∀ {b : Addr} {o : Obj} {es : Array DictEntry} {ep : Nat},s₁.heap.get? b = some o → o.data = .dict es ep → H b = none:=fun {b o es ep} e d=>by
   cases q : H b with
   | none=>rfl
   | some u =>
     have e' : b = a:=hA b (by rw [q]; simp)
     subst e'
     rw [ha] at e; cases e
     have d' : Data.seq vs.toArray _ = Data.dict es ep:=d
     cases d'
  have nsK : ∀ {b : Addr} {m : Str → Option Value},s₁.heap.Ns b m → (Gy s₁.heap H).Ns b m:=fun {b m} ⟨o,es,ep,e,d,r⟩=>⟨o,es,ep,base_of e (noA e d),d,r⟩
  have hKb : K.In (Gy s₁.heap H):=fun b o e=>base_of (KX b o e) (by
   cases q : H b with
   | none=>rfl
   | some u =>
     have e' : b = a:=hA b (by rw [q]; simp)
     subst e'
     rw [hK (by rw [q]; simp)] at e; cases e)
  have seerK : (Gy s₁.heap H).NoSeer:=⟨let ⟨mc,x,y⟩:=hsee.statics; ⟨mc,nsK x,y⟩,let ⟨mm,x,y⟩:=hsee.mods; ⟨mm,nsK x,y⟩,let ⟨mi,x,y⟩:=hsee.imp; ⟨mi,nsK x,y⟩,by
   obtain ⟨mg',bm,ob,x,y,z,u,v⟩:=hsee.main
   refine ⟨mg',bm,ob,nsK x,y,base_of z ?_,u,v⟩
   cases q : H bm with
   | none=>rfl
   | some o =>
     have e' : bm = a:=hA bm (by rw [q]; simp)
     subst e'
     rw [ha] at z
     cases z
     have u' : Value.type "list" = Value.type "module":=u
     exact absurd u' (by decide)⟩
  have hM : Mod K mg (Gy s₁.heap H):=⟨hKb,nsK hns,⟨mb,nsK hb,hbb⟩,let ⟨mc,h1,h2⟩:=hlim; ⟨mc,nsK h1,h2⟩,seerK⟩
  have e0 : LO P w K mg (Gy s₁.heap H) callerA [] s₁ H:=⟨rfl,hM,fun b o e=>NJ e,Nat.le_of_eq (LA _ _),trivial,fun b hb=>absurd (show b ∈ ([] : List Addr) from hb) (by simp),hok,.of_eq hg⟩
  refine codeAny_mono ((F _ hKb (nsK hns)).run callerA [] s₁ H ⟨[.ref a],[]⟩ [.ref a] [.ref a] _ _ hr e0 (hbind s₁ (.ref a)) (.cons rfl .nil) (hsp H hO hS)) fun r s' h=>?_
  cases r with
  | error e=>exact (hCX H e s' h).elim
  | ok fl =>
    cases fl with
    | next=>exact False.elim h
    | brk=>exact False.elim h
    | cont=>exact False.elim h
    | ret u =>
      obtain ⟨v,H',os,bare,un,hok',r',q⟩:=h
      have q' : v = .bl true:=q
      subst q'
      obtain rfl : u = Value.bool true:=r'
      refine ⟨rfl,OldK.of_keep fun b o e=>?_,os,bare⟩
      cases q : H b with
      | none=>exact un.keep b o e q (by intro z; exact absurd (show b ∈ ([] : List Addr) from z) (by simp)) (by simp)
      | some u =>
        rcases hO b with z | ⟨ob,xs,z⟩
        ·rw [q] at z; cases z
        ·have z2:=un.frzs b ob _ z
         obtain ⟨e1,_⟩:=hok b _ z
         obtain ⟨e2,_⟩:=hok' b _ z2
         rw [e] at e1; cases e1
         exact e2
 cases hk : K.lookup a with
 | some o =>
   -- the script is one of the module's own objects
   have e:=KX a o hk
   rw [ha] at e
   cases e
   refine core (fun _=>none) (fun _=>.inl rfl) (.inr ⟨_,vs.toArray,_,hk,rfl,rfl,rfl,by rw [Um,lenV]; exact hl,by simpa using rv⟩) (fun b u z=>by have z' : (none : Option HO) = some u:=z; cases z') (fun b z=>absurd rfl z) fun z=>absurd rfl z
 | none =>
   refine core (fun b=>if b = a then some (.frz { cls:=.type "list",data:=.seq vs.toArray } (.lst (ns.map V.int))) else none) (fun b=>?_) (.inl (.inr ⟨{ cls:=.type "list",data:=.seq vs.toArray },if_pos rfl⟩)) (fun b u z=>?_) (fun b z=>?_) fun _=>hk
   ·by_cases hb : b = a
    ·exact .inr ⟨_,_,if_pos hb⟩
    ·exact .inl (if_neg hb)
   ·by_cases hb : b = a
    ·have z':=(if_pos hb).symm.trans z
     cases z'
     subst hb
     exact ⟨ha,by rw [Ug]; exact hl,vs,_,rv,ha⟩
    ·have z':=(if_neg hb).symm.trans z
     cases z'
   ·by_cases hb : b = a
    ·exact hb
    ·exact absurd (if_neg hb) z
end L2
namespace L2
open PySem PySem.Spec PyProof.Rows
theorem Nk {l : Ux} {n k : Nat} {q : Program} {loose : List Str} {XP : (Str → Option Value) → Heap → Prop} {YP : World → Heap → Prop} {d : DefRec} {K : Params → Tq} {CX : World → CXT} {sp : World → Sp} {x : Str}
 (hI : importsNone q = true) (hn : l.most = some n) (hn2 : n ≤ sizeLine) (hdf : d.params.defaults = []) (hr : C7 k callerA)
 (hY : ∀ (w : World) (h : Heap),YP w h → (K w.params).In h)
 (F : ∀ (w : World) (mg : Str → Option Value) (fa : Addr) (h : Heap),(K w.params).In h → h.Ns mainGlobals mg → mg d.name = some (.ref fa) →
  ∃ fd : FuncData,(∀ (s : Shared) (u : Value),BindsTo s fd ⟨[u],[]⟩ [(x,u)]) ∧
    ∀ base : Heap,(K w.params).In base → base.Ns mainGlobals mg → AN l.prog w (K w.params) mg base (CX w) k fa fd [x] (sp w))
 (hsp : ∀ (w : World) (H : Hp) (a : Addr) (ns : List Int),ns.length ≤ n → Qb H → SqL (K w.params) H a (ns.map V.int) → sp w [.ref a] H (fun v _=>v = .bl true) fun _ _ _=>False)
 (hCX : ∀ (w : World) (H : Hp) (s : Shared) (e : Value) (s' : Shared),CX w [] H s (fun _ _ _=>False) e s' → False) :
 PySem.W.WalkO q loose XP YP l.row.toRowW d [] (fun f vs=>PySem.call f vs):=by
 refine Att.attach_call hn hdf fun w s₀ s₁ mg mb fa o pm cd doc a vs ns G Y ho hd hcd hmg hobj hints hlen hg=>?_
 have KX:=hY w _ Y
 obtain ⟨fd,hb,hF⟩:=F w mg fa _ KX G.T.g hmg
 exact MK KX G.T.g G.T.b G.T.builtins G.T.nolimit (G.T.seer hI) hg hobj hints (Tr hlen hn2) hr hF hb (fun H hO hS=>hsp w H a ns hlen hO hS) fun H e s'=>hCX w H s₁ e s'
end L2
namespace L2
open PySem PySem.Spec PyProof.Rows
def Ap (s : Stmt) : Arguments:=match s with
 | .FunctionDef _ a _ _ _ _ _ _ _ _=>a
 | _=>{ posonlyargs:=[],args:=[],vararg:=none,kwonlyargs:=[],kw_defaults:=[],kwarg:=none,defaults:=[] }
def Ao (s : Stmt) : List Stmt:=match s with
 | .FunctionDef _ _ b _ _ _ _ _ _ _=>b
 | _=>[]
def Af (s : Stmt) : Scope:=match s with
 | .FunctionDef _ _ _ _ _ _ sc _ _ _=>sc
 | _=>{ kind:=.function,names:=[],isGenerator:=false,isCoroutine:=false }
abbrev CX0 : CXT:=fun _ _ _ _ _ _=>False
abbrev E0 : XK:=fun _ _ _=>False
theorem QA {X : Cx} : Gd CX0 X E0:=fun _ _ _ _ _ _ _ h=>h.elim
structure Fun (K : Tq) (x qual : Str) (st : Stmt) (f : Addr) (fd : FuncData) : Prop where
 ex : ∃ (oc : Value) (od : Option Addr) (kV doc pm : Value) (an : Option Addr) (cdv ct : Value) (osl : Array (Option Value)),
  fd = Ui x qual (Ap st) (Ao st) (Af st) .none kV doc pm an cdv ct ∧ K.lookup f = some ⟨oc,od,.func fd,osl⟩ ∧ Uj K cdv qual = true
 kp : TX K (.ref f) = true
section
variable {P : Program} {w : World} {K : Tq} {mg : Str → Option Value} {base : Heap}
theorem Fun.ok {x qual : Str} {st : Stmt} {f : Addr} {fd : FuncData} {N ps : List Str} {k : Nat} {sp : Sp} (F : Fun K x qual st f fd) (S : Ar N ps (Af st)) (len : ∀ vs H Q E,sp vs H Q E → vs.length = ps.length)
 (hbody : ∀ (cdv : Value) (A : Around) (outer : List Env) (s : Shared) (H : Hp) (vs : List V) (Q : VK) (E : XK),C7 k (A.deeper (envOfC qual (Af st) s.heap.objs.size f cdv)) → sp vs H Q E →
  ∃ t,PSs (Ds CX0 P w K mg base N qual (Af st) f cdv A outer s H E).nox (Ao st) t ∧ t { nx:=fun _ H'=>Q .non H',rt:=Q } (start N vs) H) : AN P w K mg base CX0 (k + 1) f fd ps sp:=by
 obtain ⟨oc,od,kV,doc,pm,an,cdv,ct,osl,rfl,lk,hcd⟩:=F.ex
 refine Ov lk hcd S len fun A outer s H vs Q E hr hsp=>?_
 obtain ⟨t,h,q⟩:=hbody cdv A outer s H vs Q E hr hsp
 exact ⟨t,h.nox,q⟩
theorem Fun.binds {x qual : Str} {st : Stmt} {f : Addr} {fd : FuncData} {ps : List Str} (F : Fun K x qual st f fd)
 (h : ∀ (kV doc pm : Value) (an : Option Addr) (cdv ct : Value) (us : List Value),us.length = ps.length → bindArgs (Ui x qual (Ap st) (Ao st) (Af st) .none kV doc pm an cdv ct) ⟨us,[]⟩ = pure (ps.zip us)) : CQ K fd ps []:=by
 obtain ⟨oc,od,kV,doc,pm,an,cdv,ct,osl,rfl,lk,hcd⟩:=F.ex
 exact .all (h kV doc pm an cdv ct)
theorem AE {x qual : Str} {st : Stmt} {f : Addr} {oc : Value} {od an : Option Addr} {osl : Array (Option Value)} {kV doc pm cdv ct : Value} (l : K.lookup f = some ⟨oc,od,.func (Ui x qual (Ap st) (Ao st) (Af st) .none kV doc pm an cdv ct),osl⟩)
 (c : Uj K cdv qual = true) (k : TX K (.ref f) = true) : Fun K x qual st f (Ui x qual (Ap st) (Ao st) (Af st) .none kV doc pm an cdv ct):=⟨⟨oc,od,kV,doc,pm,an,cdv,ct,osl,rfl,l,c⟩,k⟩
end
theorem AX {n : Nat} (h : n ≤ 1000) : n < sizeLine:=Uy h (by decide)
section
variable {X : Cx}
theorem pv (i : Nat) {x : Str} {pos : Pos} (hN : X.N[i]? = some x:=by rfl) (hv : Vis X.env.scope x:=by first | exact Or.inl rfl | exact Or.inr (Or.inl rfl) | exact Or.inr (Or.inr rfl)) (hd : (x == ("__debug__" : Str)) = false:=by decide)
 (hcd : (x == ("__classdict__" : Str)) = false:=by decide) : PE X (.Name x pos) (FA i):=Mp hN hv hd hcd
end
theorem CN {A B : Prop} (h : B) : if false = true then A else B:=by
 rw [if_neg Bool.false_ne_true]
 exact h
theorem Gw {A B : Prop} (h : A) : if true = true then A else B:=by
 rw [if_pos rfl]
 exact h
theorem Fe {c A B : Prop} [Decidable c] (h1 : c → A) (h2 : ¬ c → B) : if c then A else B:=by
 by_cases h : c
 ·rw [if_pos h]
  exact h1 h
 ·rw [if_neg h]
  exact h2 h
def Ag (H H' : Hp) : Prop:=∀ b o,H b = some o → H' b = some o
theorem Ag.refl (H : Hp) : Ag H H:=fun _ _ h=>h
theorem Ag.trans {H H1 H2 : Hp} (a : Ag H H1) (b : Ag H1 H2) : Ag H H2:=fun c o h=>b c o (a c o h)
theorem Ag.free {H H' : Hp} (e : Ag H H') {l : Addr} (h : H' l = Option.none) : H l = Option.none:=by
 cases q : H l with
 | none=>rfl
 | some o =>
   rw [e l o q] at h
   cases h
theorem Ag.seq {K : Tq} {H H' : Hp} {a : Addr} {xs : List V} (e : Ag H H') (h : SqL K H a xs) : SqL K H' a xs:=by
 rcases h with (h | ⟨o,h⟩) | h
 ·exact .inl (.inl (e _ _ h))
 ·exact .inl (.inr ⟨o,e _ _ h⟩)
 ·exact .inr h
end L2
namespace L2
open PySem PySem.Spec PyProof.Rows
section
variable {κ : Type} [DecidableEq κ]
def DV (kvs : List (κ × V)) (k : κ) : Option V:=(kvs.find? fun kv=>decide (kv.1 = k)).map (·.2)
def Dr (kvs : List (κ × V)) (k : κ) (v : V) : List (κ × V) :=
 if (kvs.any fun kv=>decide (kv.1 = k)) = true then kvs.map (fun kv=>if kv.1 = k then (kv.1,v) else kv) else kvs ++ [(k,v)]
theorem Fw {p : κ × V} {r : List (κ × V)} {k : κ} (e : p.1 = k) : DV (p :: r) k = some p.2:=by simp [DV,Uz,e]
theorem Fy {p : κ × V} {r : List (κ × V)} {k : κ} (e : ¬ p.1 = k) : DV (p :: r) k = DV r k:=by simp [DV,Uz,e]
theorem E1 (k : κ) : ∀ kvs : List (κ × V),(kvs.any fun kv=>decide (kv.1 = k)) = (DV kvs k).isSome
 | []=>rfl
 | p :: r=>by
   rw [List.any_cons]
   by_cases e : p.1 = k
   ·simp only [Fw e,decide_eq_true e,Bool.true_or,Option.isSome_some]
   ·rw [Fy e,decide_eq_false e,Bool.false_or]; exact E1 k r
theorem DA (kvs : List (κ × V)) (k : κ) (v : V) : (Dr kvs k v).length ≤ kvs.length + 1:=by
 unfold Dr
 split
 ·rw [Ug]; lia
 ·rw [Ue,UA,UB]; lia
theorem Ml {kvs : List (κ × V)} {k : κ} (v : V) (h : DV kvs k = none) : Dr kvs k v = kvs ++ [(k,v)]:=by
 unfold Dr
 rw [E1,h]
 exact if_neg (by decide)
theorem JW.isSome_eq {o : Option V} {u : Option Value} (r : JW o u) : o.isSome = u.isSome:=by
 cases o with
 | none=>cases u with
   | none=>rfl
   | some _=>exact (show False from r).elim
 | some _=>cases u with
   | none=>exact (show False from r).elim
   | some _=>rfl
theorem KV.val {kvs : List (κ × V)} {vs : List (κ × Value)} (r : KV kvs vs) (k : κ) : JW (DV kvs k) (valueAt vs k):=by
 unfold KV at r
 induction r with
 | nil=>exact True.intro
 | @cons p q ps qs h t ih =>
   obtain ⟨h1,h2⟩:=h
   by_cases e : p.1 = k
   ·have e' : q.1 = k:=h1.symm.trans e
    have b : valueAt (q :: qs) k = some q.2:=by simp [valueAt,Uz,e']
    rw [Fw e,b]; exact h2
   ·have e' : ¬ q.1 = k:=fun z=>e (h1.trans z)
    have b : valueAt (q :: qs) k = valueAt qs k:=by simp [valueAt,Uz,e']
    rw [Fy e,b]; exact ih
theorem KV.any {kvs : List (κ × V)} {vs : List (κ × Value)} (r : KV kvs vs) (k : κ) : (kvs.any fun kv=>decide (kv.1 = k)) = vs.any fun kv=>decide (kv.1 = k):=by
 unfold KV at r
 induction r with
 | nil=>rfl
 | cons h t ih=>rw [List.any_cons,List.any_cons,ih,h.1]
theorem KV.repl {kvs : List (κ × V)} {vs : List (κ × Value)} (r : KV kvs vs) (k : κ) {y : V} {u : Value} (ry : AZ y u) :
 KV (kvs.map fun kv=>if kv.1 = k then (kv.1,y) else kv) (vs.map fun kv=>if kv.1 = k then (kv.1,u) else kv):=by
 unfold KV at r ⊢
 induction r with
 | nil=>exact .nil
 | @cons p q ps qs h t ih =>
   rw [Uw,Uw]
   refine .cons ?_ ih
   obtain ⟨h1,h2⟩:=h
   by_cases e : p.1 = k
   ·rw [if_pos e,if_pos (h1.symm.trans e)]; exact ⟨h1,ry⟩
   ·rw [if_neg e,if_neg (fun z=>e (h1.trans z))]; exact ⟨h1,h2⟩
theorem KV.put {kvs : List (κ × V)} {vs : List (κ × Value)} (r : KV kvs vs) (k : κ) {y : V} {u : Value} (ry : AZ y u) : KV (Dr kvs k y) (stored vs k u):=by
 unfold Dr stored
 rw [r.any k]
 by_cases e : (vs.any fun kv=>decide (kv.1 = k)) = true
 ·rw [if_pos e,if_pos e]; exact r.repl k ry
 ·rw [if_neg e,if_neg e]; exact Paired.snoc r ⟨rfl,ry⟩
theorem KV.length {kvs : List (κ × V)} {vs : List (κ × Value)} (r : KV kvs vs) : kvs.length = vs.length:=Paired.length r
end
theorem MN {P : Program} {w : World} {k : Key} {u : Value} (r : AZ (kV k) u) : (BM P w).is k u = true:=by
 cases k with
 | inl i=>obtain ⟨t,e⟩:=(show ∃ t,u = Value.int i t from r); subst e; exact IU P w i t
 | inr x=>obtain ⟨t,e⟩:=(show ∃ t,u = Value.str x t from r); subst e; exact IT P w x t
theorem GS {P : Program} {w : World} : ∀ {ks : List Key} {us : List Value},AM (ks.map kV) us → ItemsAre (BM P w) ks us
 | [],_,r=>by rw [List.map_nil] at r; cases r; exact .nil
 | k :: ks,_,r=>by
   rw [Uw] at r
   cases r with
   | cons h t=>exact .cons (MN h) (GS t)
abbrev KT (H : Hp) : List (List Key × V) → List (List Key × Addr × Value) → Prop:=Paired fun p q=>p.1 = q.1 ∧ H q.2.1 = some (.tup (p.1.map kV)) ∧ AZ p.2 q.2.2
theorem KT.val {H : Hp} {kvs : List (List Key × V)} {xs : List (List Key × Addr × Value)} (r : KT H kvs xs) (k : List Key) : JW (DV kvs k) ((atKey xs k).map (·.2)):=by
 induction r with
 | nil=>exact True.intro
 | @cons p q ps qs h t ih =>
   obtain ⟨h1,_,h2⟩:=h
   by_cases e : p.1 = k
   ·have e' : q.1 = k:=h1.symm.trans e
    have b : atKey (q :: qs) k = some q.2:=by simp [atKey,Uz,e']
    rw [Fw e,b]; exact h2
   ·have e' : ¬ q.1 = k:=fun z=>e (h1.trans z)
    have b : atKey (q :: qs) k = atKey qs k:=by simp [atKey,Uz,e']
    rw [Fy e,b]; exact ih
theorem KT.repl {H : Hp} {kvs : List (List Key × V)} {xs : List (List Key × Addr × Value)} (r : KT H kvs xs) (k : List Key) {y : V} {u : Value} (ry : AZ y u) :
 KT H (kvs.map fun kv=>if kv.1 = k then (kv.1,y) else kv) (xs.map (putAt k u)):=by
 induction r with
 | nil=>exact .nil
 | @cons p q ps qs h t ih =>
   rw [Uw,Uw]
   refine .cons ?_ ih
   obtain ⟨h1,h2,h3⟩:=h
   unfold putAt
   by_cases e : p.1 = k
   ·rw [if_pos e,if_pos (h1.symm.trans e)]; exact ⟨h1,h2,ry⟩
   ·rw [if_neg e,if_neg (fun z=>e (h1.trans z))]; exact ⟨h1,h2,h3⟩
theorem KT.put {H : Hp} {kvs : List (List Key × V)} {xs : List (List Key × Addr × Value)} (r : KT H kvs xs) (k : List Key) {b : Addr} {y : V} {u : Value} (hb : H b = some (.tup (k.map kV))) (ry : AZ y u) :
 KT H (Dr kvs k y) (storedH xs k b u):=by
 have e : (kvs.any fun kv=>decide (kv.1 = k)) = (atKey xs k).isSome:=by
  rw [E1,(r.val k).isSome_eq,Option.isSome_map]
 unfold Dr storedH
 rw [e]
 by_cases q : (atKey xs k).isSome = true
 ·rw [if_pos q,if_pos q]; exact r.repl k ry
 ·rw [if_neg q,if_neg q]; exact Paired.snoc r ⟨rfl,hb,ry⟩
theorem KT.keeps {H H' : Hp} {kvs : List (List Key × V)} {xs : List (List Key × Addr × Value)} (r : KT H kvs xs) (ht : ∀ b ys,H b = some (.tup ys) → H' b = some (.tup ys)) : KT H' kvs xs :=
 Paired.mapP r fun _ _ z=>⟨z.1,ht _ _ z.2.1,z.2.2⟩
section
variable {P : Program} {w : World} {H : Hp} {h : Heap} {a : Addr}
theorem Oi {u : HO} (ok : HOk P w H h) (e : Rd H a u) : Bh P w H h a u:=e.ok ok
theorem OB {kvs : List (Key × V)} (ok : HOk P w H h) (e : Rd H a (.dK kvs)) : kvs.length ≤ sizeLine ∧ (a == sysModules) = false ∧ ∃ vs,KV kvs vs ∧ h.DictOf (BM P w) a vs :=
 show Bh P w H h a (.dK kvs) from Oi ok e
theorem QM {kvs : List (Key × V)} (ok : HOk P w H h) (e : H a = some (.dK kvs)) : kvs.length ≤ sizeLine ∧ (a == sysModules) = false ∧ ∃ vs,KV kvs vs ∧ h.DictOf (BM P w) a vs:=OB ok (.inl e)
theorem JN {ks : List Key} (ok : HOk P w H h) (e : H a = some (.tup (ks.map kV))) : (tupleKind (BM P w)).is h ks a:=by
 obtain ⟨_,its,r,o,h1,h2,n,h3⟩:=(show Bh P w H h a (.tup (ks.map kV)) from ok a _ e)
 exact ⟨o,its.toArray,n,h1,h2,h3,by simpa using GS r⟩
theorem OA {kvs : List (List Key × V)} (ok : HOk P w H h) (e : Rd H a (.dT kvs)) : kvs.length ≤ sizeLine ∧ (a == sysModules) = false ∧
 ∃ xs,KT H kvs xs ∧ h.DictOfH (tupleKind (BM P w)) a xs:=by
 obtain ⟨z,y,xs,r,o,es,ep,h1,h2,h3,h4,h5⟩:=(show Bh P w H h a (.dT kvs) from Oi ok e)
 refine ⟨z,y,xs,r,o,es,ep,h1,h2,h3,h4,fun x hx=>?_,h5⟩
 have all : ∀ {l : List (List Key × V)} {m : List (List Key × Addr × Value)},KT H l m → ∀ x ∈ m,(tupleKind (BM P w)).is h x.1 x.2.1:=by
  intro l m q
  induction q with
  | nil=>intro x hx; exact nomatch hx
  | @cons p q ps qs hq t ih =>
    intro x hx
    rcases Tw.mp hx with e | hx
    ·subst e
     exact JN ok (by rw [← hq.1]; exact hq.2.1)
    ·exact ih x hx
 exact all r x hx
theorem QL {kvs : List (List Key × V)} (ok : HOk P w H h) (e : H a = some (.dT kvs)) : kvs.length ≤ sizeLine ∧ (a == sysModules) = false ∧
 ∃ xs,KT H kvs xs ∧ h.DictOfH (tupleKind (BM P w)) a xs:=OA ok (.inl e)
end
def Ng (H : Hp) (a : Addr) (y : V) (r : Option V) : Prop :=
 (∃ kvs k,Rd H a (.dK kvs) ∧ y = kV k ∧ r = DV kvs k) ∨ ∃ kvs k b,Rd H a (.dT kvs) ∧ y = .ref b ∧ H b = some (.tup (k.map kV)) ∧ r = DV kvs k
def Nf (H : Hp) (a : Addr) (y v : V) (H' : Hp) : Prop :=
 (∃ kvs k,H a = some (.dK kvs) ∧ y = kV k ∧ kvs.length < sizeLine ∧ H' = upd H a (.dK (Dr kvs k v))) ∨
 ∃ kvs k b,H a = some (.dT kvs) ∧ y = .ref b ∧ H b = some (.tup (k.map kV)) ∧ kvs.length < sizeLine ∧ H' = upd H a (.dT (Dr kvs k v))
theorem Ng.t {H : Hp} {a b : Addr} {kvs : List (List Key × V)} {k : List Key} (e : H a = some (.dT kvs)) (eb : H b = some (.tup (k.map kV))) : Ng H a (.ref b) (DV kvs k):=.inr ⟨kvs,k,b,.inl e,rfl,eb,rfl⟩
theorem Nf.t {H : Hp} {a b : Addr} {kvs : List (List Key × V)} {k : List Key} {v : V} (e : H a = some (.dT kvs)) (eb : H b = some (.tup (k.map kV))) (hl : kvs.length < sizeLine) :
 Nf H a (.ref b) v (upd H a (.dT (Dr kvs k v))):=.inr ⟨kvs,k,b,e,rfl,eb,hl,rfl⟩
section
variable {X : Cx} {pins : List (Addr × Obj)} {σ : St} {H : Hp} {s : Shared} {a : Addr} {y v : V} {u r : Value} {o : Option V} {A : Around} {E : Value → Shared → Prop}
theorem Inv.big (I : Inv X pins σ H s) : sysModules < s.heap.objs.size:=by
 have h : mainGlobals < s.heap.objs.size:=(I.mod.glob.keeps I.bk).lt
 exact Nat.lt_trans (by decide) h
theorem O6 {Q : Value → Shared → Prop} (hu : A.units + 1 < cLine) (I : Inv X pins σ H s) (g : Ng H a y o) (ry : AZ y u) (h : ∀ s',Inv X pins σ H s' → Q (.bool (!o.isSome)) s') :
 wpAny (model X.prog X.w) A (compareOp .NotIn u (.ref a)) Q E s:=by
 rcases g with ⟨kvs,k,e,ey,l⟩ | ⟨kvs,k,b,e,ey,eb,l⟩
 ·subst ey
  obtain ⟨z,hd,vs,rel,dd⟩:=OB I.hok e
  refine wpAny_notIn_of (MN ry) hd dd.mapOf ?_
  rw [← (rel.val k).isSome_eq,← l]
  exact h _ (I.tok _)
 ·subst ey
  cases (show u = Value.ref b from ry)
  obtain ⟨z,hd,xs,rel,dd⟩:=OA I.hok e
  refine wpAny_notIn_heap (tupleKind_room_in1 hu) (JN I.hok eb) hd dd ?_
  have q:=(rel.val k).isSome_eq
  rw [Option.isSome_map] at q
  rw [← q,← l]
  exact h _ (I.tok _)
theorem KC {h' : Heap} {t' : Nat} {ob : HO} (I : Inv X pins σ H s) (mu : Mut (H a)) (hs : Heap.SameBut a s.heap h') (he : ∃ q,h'.get? a = some q) (new : Bh X.prog X.w (upd H a ob) h' a ob) :
 Inv X pins σ (upd H a ob) { s with heap:=h',toks:=t' } :=
 I.write (x:=a) (e:=a) mu (.inl rfl) (fun b q hb z=>(hs.2 b hb).trans z) he new
theorem PZ {P : Program} {w : World} {H' : Hp} {h' : Heap} {kvs : List (Key × V)} {vs : List (Key × Value)} (z : kvs.length ≤ sizeLine) (hd : (a == sysModules) = false) (rel : KV kvs vs) (dd : h'.DictOf (BM P w) a vs) :
 Bh P w H' h' a (.dK kvs):=⟨z,hd,vs,rel,dd⟩
theorem LG {H' : Hp} {Q : Unit → Shared → Prop} (hu : A.units + 1 < cLine) (I : Inv X pins σ H s) (g : Nf H a y v H') (ry : AZ y u) (rv : AZ v r) (h : ∀ s',Inv X pins σ H' s' → Q () s') :
 wpAny (model X.prog X.w) A (setItem (.ref a) u r) Q E s:=by
 rcases g with ⟨kvs,k,e,ey,l,eH⟩ | ⟨kvs,k,b,e,ey,eb,l,eH⟩
 ·subst ey eH
  obtain ⟨z,hd,vs,rel,dd⟩:=QM I.hok e
  have hz : vs.length ≤ sizeLine:=by rw [← rel.length]; exact z
  have hl : (Dr kvs k v).length ≤ sizeLine:=by have:=DA kvs k v; lia
  refine wpAny_setItem_pairs (hsz:=hz) (MN ry) dd fun h' dd' hs=>h _ ?_
  have he : ∃ q,h'.get? a = some q:=let ⟨q,_,_,hq,_⟩:=dd'; ⟨q,hq⟩
  exact KC I (by rw [e]; exact True.intro) hs he (PZ hl hd (rel.put k rv) dd')
 ·subst ey eH
  cases (show u = Value.ref b from ry)
  obtain ⟨z,hd,xs,rel,dd⟩:=QL I.hok e
  have hz : xs.length ≤ sizeLine:=by rw [← Paired.length rel]; exact z
  have hl : (Dr kvs k v).length ≤ sizeLine:=by have:=DA kvs k v; lia
  refine wpAny_setItem_heap (hsz:=hz) (tupleKind_room_in1 hu) (JN I.hok eb) dd fun h' dd' hs=>h _ ?_
  obtain ⟨q,es,ep,hq,h2,h3,h4,_,h5⟩:=dd'
  refine KC I (by rw [e]; exact True.intro) hs ⟨q,hq⟩ ⟨hl,hd,_,(rel.put k eb rv).keeps fun c ys ec=>?_,q,es,ep,hq,h2,h3,h4,h5⟩
  rw [Aw (CL ec e (fun z=>nomatch z))]
  exact ec
end
section
variable {X : Cx} {pins : List (Addr × Obj)} {σ : St} {H : Hp} {s : Shared} {a : Addr} {kvs : List (Key × V)} {k : Key} {u : Value} {A : Around} {E : Value → Shared → Prop}
end
def Nu (ty td : TE) : TE:=fun σ H Q=>ty σ H fun y H1=>td σ H1 fun x H2=>∃ a o,x = .ref a ∧ Ng H2 a y o ∧ Q (.bl (!o.isSome)) H2
def Qq (td ty tv : TE) : TS:=fun D σ H=>tv σ H fun v H1=>td σ H1 fun x H2=>ty σ H2 fun y H3=>∃ a H4,x = .ref a ∧ Nf H3 a y v H4 ∧ D.nx σ H4
section
variable {X : Cx} {o i e value : Expr} {pos pos' tpos : Pos} {td ty tv : TE}
theorem Lf (hu : X.A.units + 1 < cLine) (hi : PE X i ty) (ho : PE X o td) : PC X .NotIn i o (Nu ty td):=by
 intro pins s σ H Q I h
 refine thn (hi pins s σ H _ I h) fun iv s1 ⟨y,H1,I1,ry,q1⟩=>thn (ho pins s1 σ H1 _ I1 q1) fun u s2 ⟨x,H2,I2,rx,a,ov,ex,g,q2⟩=>?_
 subst ex
 obtain rfl : u = Value.ref a:=rx
 exact O6 hu I2 g ry fun s3 I3=>⟨.bl (!ov.isSome),H2,I3,rfl,q2⟩
theorem NB (hu : X.A.units + 1 < cLine) (ho : PE X o td) (hi : PE X i ty) (hv : PE X value tv) (hs : swapsWith value (some (.Subscript o i pos')) pos.line X.env = pure false) :
 PS X (.Assign [.Subscript o i pos'] value pos) (Qq td ty tv):=by
 intro pins s σ H D I h
 refine wpAny_Assign_Subscript (thn (hv pins s σ H _ I h) fun r s1 ⟨v,H1,I1,rv,q1⟩=>thn (ho pins s1 σ H1 _ I1 q1) fun u s2 ⟨x,H2,I2,rx,q2⟩=>thn (hi pins s2 σ H2 _ I2 q2) fun iv s3 ⟨y,H3,I3,ry,a,H4,ex,g,q3⟩=>?_) hs
 subst ex
 obtain rfl : u = Value.ref a:=rx
 exact LG hu I3 g ry rv fun s4 I4=>⟨σ,H4,I4,q3⟩
end
theorem MV {P : Program} {w : World} {H : Hp} (h : Heap) (hb : sysModules < h.objs.size) : Bh P w H (h.push { cls:=.type "dict",data:=.dict #[] }) h.objs.size (.dT []) :=
 ⟨TQ _,beq_eq_false_iff_ne.mpr (Ne.symm (Tg hb)),[],.nil,_,#[],0,Heap.get?_push_size _ rfl,⟨rfl,rfl,rfl⟩,rfl,rfl,List.nodup_nil⟩
def OO : TE:=fun _ H Q=>∀ p,H p = none → Q (.ref p) (upd H p (.dT []))
section
variable {X : Cx} {pos : Pos}
theorem Ms : PE X (.Dict [] [] pos) OO:=fun pins s σ H Q I h =>
 wpAny_Dict_empty ⟨.ref s.heap.objs.size,_,I.laid (a:=s.heap.objs.size) (o:=.dT []) (t':=s.toks) (fun _ _ q=>Heap.get?_push_of_some _ q) (TL _) (MV s.heap I.big),rfl,h _ (I.hok.fresh (TL _))⟩
end
structure M1 (X : Cx) (o : Expr) (m : Str) (apos : Pos) (e : Expr) (cpos : Pos) : Prop where
 base : attributeBase o m X.env (eval o X.env) = eval o X.env
 few : ((backTo cpos (starEach [e] X.env)).all (fun x=>!x.1) && (backToKw cpos (keywordEach [] X.env)).all (fun x=>x.1.isSome)
  && decide (([e] : List Expr).length + ([] : List Keyword).length + (if ([] : List Keyword).isEmpty then 0 else 1) < 30)) = true
 line : (apos.endLine == cpos.line) = true
 trees : backTo cpos (starEach [e] X.env) = [(false,eval e X.env)]
structure M2 (X : Cx) (o : Expr) (m : Str) (apos : Pos) (e f : Expr) (cpos : Pos) : Prop where
 base : attributeBase o m X.env (eval o X.env) = eval o X.env
 few : ((backTo cpos (starEach [e,f] X.env)).all (fun x=>!x.1) && (backToKw cpos (keywordEach [] X.env)).all (fun x=>x.1.isSome)
  && decide (([e,f] : List Expr).length + ([] : List Keyword).length + (if ([] : List Keyword).isEmpty then 0 else 1) < 30)) = true
 line : (apos.endLine == cpos.line) = true
 trees : backTo cpos (starEach [e,f] X.env) = [(false,eval e X.env),(false,eval f X.env)]
section
variable {X : Cx} {pins : List (Addr × Obj)} {σ : St} {H : Hp} {s : Shared} {a : Addr} {y d : V} {u r : Value} {o : Option V} {A : Around} {E : Value → Shared → Prop}
end
section
variable {X : Cx} {o e f : Expr} {apos cpos : Pos} {td ty tx : TE}
end
section
variable {X : Cx} {pins : List (Addr × Obj)} {σ : St} {H : Hp} {s : Shared} {a : Addr} {kvs : List (Key × V)} {A : Around} {E : Value → Shared → Prop}
end
section
variable {X : Cx} {pins : List (Addr × Obj)} {σ : St} {H : Hp} {s : Shared} {a : Addr} {y : V} {u : Value} {A : Around} {E : Value → Shared → Prop}
end
end L2
namespace Nm
def msr (a b : Int) : Int:=if b < 0 then -(UC a b : Int) else (UC a b : Int)
theorem gcd_pos {a b : Int} (hb : b ≠ 0) : 0 < UC a b:=Nat.pos_of_ne_zero fun h=>hb (Int.gcd_eq_zero_iff.mp h).2
theorem msr_ne {a b : Int} (hb : b ≠ 0) : msr a b ≠ 0:=by
 have:=gcd_pos (a:=a) hb
 unfold msr; split <;> lia
theorem fdiv_neg_dvd {a g : Int} (h : g ∣ a) : a.fdiv (-g) = -(a / g):=by
 obtain ⟨k,rfl⟩:=h
 by_cases hg : g = 0
 ·subst hg; simp
 ·rw [Int.mul_ediv_cancel_left _ hg,show g * k = -g * -k by rw [Int.neg_mul_neg],UD _ (by lia)]
theorem fdiv_dvd {a g : Int} (h : g ∣ a) : a.fdiv g = a / g:=by
 obtain ⟨k,rfl⟩:=h
 by_cases hg : g = 0
 ·subst hg; simp
 ·rw [Int.mul_ediv_cancel_left _ hg,UD _ hg]
theorem top_msr {a b : Int} (hb : b ≠ 0) : a.fdiv (msr a b) = (UE a b).num:=by
 rw [Rat.num_divInt,Int.gcd_comm b a]
 have d : (UC a b : Int) ∣ a:=Int.gcd_dvd_left ..
 unfold msr
 split
 ·rename_i h
  rw [fdiv_neg_dvd d,UG h,Int.neg_mul,UH,Int.neg_ediv_of_dvd d]
 ·rw [fdiv_dvd d,UI (by lia),UH]
theorem bottom_msr {a b : Int} (hb : b ≠ 0) : b.fdiv (msr a b) = (UE a b).den:=by
 rw [Rat.den_divInt,if_neg hb,Int.gcd_comm b a]
 have d : (UC a b : Int) ∣ b:=Int.gcd_dvd_right ..
 rw [Int.natCast_ediv]
 unfold msr
 split
 ·rename_i h
  rw [fdiv_neg_dvd d,← Int.neg_ediv_of_dvd d,Int.ofNat_natAbs_of_nonpos (by lia)]
 ·rw [fdiv_dvd d,Int.natAbs_of_nonneg (by lia)]
theorem gcd_turn (x y : Int) : UC y (x % y) = UC x y:=by
 have e : x % y + y * (x / y) = x:=Int.emod_add_mul_ediv x y
 have h : UC (x % y + y * (x / y)) y = UC (x % y) y:=Int.gcd_add_mul_left_left ..
 rw [e] at h
 rw [h,Int.gcd_comm]
theorem abs_if (i : Int) : (if i < 0 then -i else i) = (i.natAbs : Int):=by split <;> lia
theorem num_mul (q : Rat) : ((q.num : Int) : Rat) = q * ((q.den : Int) : Rat):=by
 have hd : ((q.den : Nat) : Int) ≠ 0:=by have:=q.den_pos; lia
 have h1 : q = (q.num : Rat) / ((q.den : Int) : Rat):=by
  have:=Rat.num_divInt_den q
  rw [UJ] at this
  exact this.symm
 have h0 : (((q.den : Int)) : Rat) ≠ 0:=fun z=>hd (by exact_mod_cast z)
 conv=>rhs; lhs; rw [h1]
 rw [UK h0]
theorem den_ne (q : Rat) : ((q.den : Nat) : Int) ≠ 0:=by have:=q.den_pos; lia
theorem cast_ne {a : Int} (h : a ≠ 0) : (a : Rat) ≠ 0:=fun z=>h (by exact_mod_cast z)
theorem div_eq {t b : Int} {q : Rat} (hb : b ≠ 0) (h : (t : Rat) = q * (b : Rat)) : UE t b = q:=by
 rw [UJ,h,Rat.mul_div_cancel (cast_ne hb)]
theorem plus_eq (p q : Rat) : UE (p.num * q.den + q.num * p.den) (p.den * q.den) = p + q :=
 div_eq (UL (den_ne p) (den_ne q)) (by rw [UM,UN,UN,UN,num_mul p,num_mul q]; grind)
theorem minus_eq (p q : Rat) : UE (p.num * q.den - q.num * p.den) (p.den * q.den) = p - q :=
 div_eq (UL (den_ne p) (den_ne q)) (by rw [Rat.intCast_sub,UN,UN,UN,num_mul p,num_mul q]; grind)
theorem times_eq (p q : Rat) : UE (p.num * q.num) (p.den * q.den) = p * q :=
 div_eq (UL (den_ne p) (den_ne q)) (by rw [UN,UN,num_mul p,num_mul q]; grind)
theorem pow_add (x : Rat) (m : Nat) : ∀ n : Nat,x ^ (m + n) = x ^ m * x ^ n
 | 0=>by rw [Nat.add_zero,UO]; grind
 | n + 1=>by rw [← Nat.add_assoc,UP,UP,pow_add x m n]; grind
end Nm
namespace Cv
def ev : List Rat → Rat → Rat
 | [],_=>0
 | q :: r,x=>q + x * ev r x
def strip : List Rat → List Rat
 | []=>[]
 | q :: r=>if strip r = [] ∧ q = 0 then [] else q :: strip r
theorem ev_strip (x : Rat) : ∀ qs,ev (strip qs) x = ev qs x
 | []=>rfl
 | q :: r=>by
   have ih:=ev_strip x r
   unfold strip
   split
   ·rename_i h
    rw [h.1] at ih
    show (0 : Rat) = q + x * ev r x
    rw [← ih,h.2]; show (0 : Rat) = 0 + x * 0; grind
   ·show q + x * ev (strip r) x = _
    rw [ih]; rfl
theorem strip_length : ∀ qs,(strip qs).length ≤ qs.length
 | []=>TL _
 | q :: r=>by
   have ih:=strip_length r
   unfold strip
   split
   ·exact TQ _
   ·exact Nat.succ_le_succ ih
theorem strip_last : ∀ qs,strip qs ≠ [] → (strip qs)[(strip qs).length - 1]? ≠ some 0
 | [],h=>absurd rfl h
 | q :: r,h=>by
   have ih:=strip_last r
   unfold strip at h ⊢
   split at h
   ·exact absurd rfl h
   ·rename_i hc
    rw [if_neg hc]
    by_cases e : strip r = []
    ·rw [e]
     intro z
     have z' : q = 0:=by simpa using z
     exact hc ⟨e,z'⟩
    ·have hl : 0 < (strip r).length:=UQ.mpr e
     rw [UA,show (strip r).length + 1 - 1 = ((strip r).length - 1) + 1 by lia,UR]
     exact ih e
theorem strip_mem : ∀ qs q,q ∈ strip qs → q ∈ qs
 | [],_,h=>h
 | p :: r,q,h=>by
   unfold strip at h
   split at h
   ·cases h
   ·rcases Tw.mp h with e | e
    ·exact e ▸ Tu
    ·exact Tv _ (strip_mem r q e)
theorem take_strip : ∀ (qs : List Rat) (w : Nat),(∀ j q,w ≤ j → qs[j]? = some q → q = 0) → (w = 0 ∨ ∃ q,qs[w - 1]? = some q ∧ q ≠ 0) → qs.take w = strip qs
 | [],w,_,_=>by simp [strip]
 | p :: r,0,h,_=>by
   have ih:=take_strip r 0 (fun j q _ e=>h (j + 1) q (by lia) (by simpa using e)) (.inl rfl)
   have hp : p = 0:=h 0 p (TL _) rfl
   unfold strip
   rw [← ih,if_pos ⟨rfl,hp⟩]; rfl
 | p :: r,w + 1,h,h2=>by
   have hz : ∀ j q,w ≤ j → r[j]? = some q → q = 0:=fun j q hj e=>h (j + 1) q (by lia) (by simpa using e)
   by_cases hw : w = 0
   ·subst hw
    have ih:=take_strip r 0 hz (.inl rfl)
    rcases h2 with z | ⟨q,e,hq⟩
    ·exact absurd z (by lia)
    ·have e' : p = q:=by simpa using e
     subst e'
     unfold strip
     rw [← ih,if_neg (fun z=>hq z.2)]; rfl
   ·have ih:=take_strip r w hz (by
     rcases h2 with z | ⟨q,e,hq⟩
     ·exact absurd z (by lia)
     ·refine .inr ⟨q,?_,hq⟩
      rw [show w + 1 - 1 = (w - 1) + 1 by lia,UR] at e
      exact e)
    have hne : strip r ≠ []:=by
     rw [← ih]
     rcases h2 with z | ⟨q,e,hq⟩
     ·exact absurd z (by lia)
     ·rw [show w + 1 - 1 = (w - 1) + 1 by lia,UR] at e
      intro z
      have hl : 0 < (r.take w).length:=by
       rw [U8]
       have:=(TC.mp e).1
       lia
      rw [z] at hl; simp at hl
    unfold strip
    rw [← ih,if_neg (fun z=>hne (by rw [← ih]; exact z.1))]; rfl
def pw : List Rat → Rat → Rat → Rat
 | [],_,_=>0
 | q :: r,x,p=>q * p + pw r x (p * x)
theorem ev_scale (c x : Rat) : ∀ qs,ev (qs.map (· * c)) x = ev qs x * c
 | []=>by show (0 : Rat) = 0 * c; grind
 | q :: r=>by
   show q * c + x * ev (r.map (· * c)) x = (q + x * ev r x) * c
   rw [ev_scale c x r]; grind
theorem ev_snoc (x q : Rat) : ∀ l : List Rat,ev (l ++ [q]) x = ev l x + q * x ^ l.length
 | []=>by show q + x * 0 = 0 + q * x ^ 0; rw [UO]; grind
 | p :: r=>by
   show p + x * ev (r ++ [q]) x = (p + x * ev r x) + q * x ^ (r.length + 1)
   rw [ev_snoc x q r,UP]; grind
theorem strip_zeros : ∀ (qs : List Rat) (n : Nat),strip (qs ++ U5 n 0) = strip qs
 | [],0=>rfl
 | [],n + 1=>by
   have ih:=strip_zeros [] n
   show strip (0 :: U5 n 0) = []
   unfold strip
   have e : strip (U5 n 0) = []:=by simpa [strip] using ih
   rw [if_pos ⟨e,rfl⟩]
 | q :: r,n=>by
   have ih:=strip_zeros r n
   show strip (q :: (r ++ U5 n 0)) = strip (q :: r)
   unfold strip
   rw [ih]
theorem ev_set (x d : Rat) : ∀ (l : List Rat) (i : Nat) (v : Rat),l[i]? = some v → ev (l.set i (v + d)) x = ev l x + d * x ^ i
 | [],_,_,h=>by simp at h
 | q :: r,0,v,h=>by
   have e : q = v:=by simpa using h
   subst e
   show (q + d) + x * ev r x = (q + x * ev r x) + d * x ^ 0
   rw [UO]; grind
 | q :: r,i + 1,v,h=>by
   show q + x * ev (r.set i (v + d)) x = (q + x * ev r x) + d * x ^ (i + 1)
   rw [ev_set x d r i v (by simpa using h),UP]; grind
theorem ev_zeros (x : Rat) : ∀ n,ev (U5 n 0) x = 0
 | 0=>rfl
 | n + 1=>by
   show (0 : Rat) + x * ev (U5 n 0) x = 0
   rw [ev_zeros x n]; grind
def evI (ts : List Int) (x : Rat) : Rat:=ev (ts.map fun t : Int=>(t : Rat)) x
theorem evI_set (x : Rat) (l : List Int) (i : Nat) (v d : Int) (h : l[i]? = some v) : evI (l.set i (v + d)) x = evI l x + (d : Rat) * x ^ i:=by
 unfold evI
 rw [US,UM]
 exact ev_set x _ _ i _ (by rw [Uc,h]; rfl)
theorem evI_zeros (x : Rat) (n : Nat) : evI (U5 n 0) x = 0:=by
 unfold evI
 rw [List.map_replicate]
 exact ev_zeros x n
theorem evI_take_succ (x : Rat) (l : List Int) (i : Nat) (v : Int) (h : l[i]? = some v) : evI (l.take (i + 1)) x = evI (l.take i) x + (v : Rat) * x ^ i:=by
 have hi : i < l.length:=(TC.mp h).1
 unfold evI
 rw [UT,h]
 show ev ((l.take i ++ [v]).map _) x = _
 rw [UU]
 show ev (_ ++ [(v : Rat)]) x = _
 rw [ev_snoc,Ug,U8,Ul (by lia)]
theorem evI_cons (x : Rat) (t : Int) (l : List Int) : evI (t :: l) x = (t : Rat) + x * evI l x:=rfl
theorem evI_scale (x : Rat) (c : Int) (l : List Int) : evI (l.map (c * ·)) x = (c : Rat) * evI l x:=by
 induction l with
 | nil=>show (0 : Rat) = _ * 0; grind
 | cons t l ih=>rw [Uw,evI_cons,evI_cons,ih,UN]; grind
theorem evI_last (x : Rat) (l : List Int) (t : Int) (h : l[l.length - 1]? = some t) : evI l x = evI (l.take (l.length - 1)) x + (t : Rat) * x ^ (l.length - 1):=by
 have hl : l.length - 1 < l.length:=(TC.mp h).1
 have:=evI_take_succ x l (l.length - 1) t h
 rw [show l.length - 1 + 1 = l.length by lia,UW] at this
 exact this
def quot (c : Rat) : List Rat → List Rat
 | []=>[]
 | [_]=>[]
 | _ :: b :: l=>ev (b :: l) c :: quot c (b :: l)
theorem quot_ev (c x : Rat) : ∀ l : List Rat,ev l x = ev l c + (x - c) * ev (quot c l) x
 | []=>by show (0 : Rat) = 0 + _ * 0; grind
 | [a]=>by show a + x * 0 = a + c * 0 + (x - c) * 0; grind
 | a :: b :: l=>by
   have h:=quot_ev c x (b :: l)
   show a + x * ev (b :: l) x = a + c * ev (b :: l) c + (x - c) * (ev (b :: l) c + x * ev (quot c (b :: l)) x)
   rw [h]; grind
theorem quot_length (c : Rat) : ∀ l : List Rat,(quot c l).length = l.length - 1
 | []=>rfl
 | [_]=>rfl
 | _ :: b :: l=>by
   show (quot c (b :: l)).length + 1 = _
   rw [quot_length c (b :: l)]
   simp
theorem ev_none (x : Rat) : ∀ l : List Rat,(∀ q ∈ l,q = 0) → ev l x = 0
 | [],_=>rfl
 | a :: l,h=>by
   show a + x * ev l x = 0
   rw [h a Tu,ev_none x l fun q hq=>h q (Tv _ hq)]
   grind
theorem ident : ∀ (n : Nat) (l : List Rat),l.length ≤ n → ∀ s : Nat,(∀ k : Nat,s ≤ k → ev l (k : Rat) = 0) → ∀ q ∈ l,q = 0
 | 0,l,hl,_,_=>by
   have e : l = []:=UX (by lia)
   rw [e]
   exact fun q h=>nomatch h
 | n + 1,[],_,_,_=>fun q h=>nomatch h
 | n + 1,a :: t,hl,s,h=>by
   have hs:=h s (TL _)
   have hq : ∀ q ∈ quot (s : Rat) (a :: t),q = 0:=ident n _ (by rw [quot_length]; simp at hl ⊢; lia) (s + 1) fun k hk=>by
    have e:=quot_ev (s : Rat) (k : Rat) (a :: t)
    rw [h k (by lia),hs] at e
    have e2 : ((k : Rat) - (s : Rat)) * ev (quot (s : Rat) (a :: t)) (k : Rat) = 0:=by grind
    rcases UY.mp e2 with z | z
    ·have z2 : (k : Rat) = (s : Rat):=by grind
     have z3 : k = s:=by exact_mod_cast z2
     lia
    ·exact z
   have hall : ∀ x,ev (a :: t) x = 0:=fun x=>by
    rw [quot_ev (s : Rat) x (a :: t),hs,ev_none x _ hq]; grind
   have ha : a = 0:=by
    have:=hall 0
    show a = 0
    have e : ev (a :: t) 0 = a + 0 * ev t 0:=rfl
    rw [e] at this
    grind
   have ht : ∀ q ∈ t,q = 0:=ident n t (by simp at hl; lia) 1 fun k hk=>by
    have e:=hall (k : Rat)
    have e1 : ev (a :: t) (k : Rat) = a + (k : Rat) * ev t (k : Rat):=rfl
    rw [e1,ha] at e
    have e2 : (k : Rat) * ev t (k : Rat) = 0:=by grind
    rcases UY.mp e2 with z | z
    ·have z3 : k = 0:=by exact_mod_cast z
     lia
    ·exact z
   intro q hq'
   rcases Tw.mp hq' with z | z
   ·rw [z]; exact ha
   ·exact ht q z
def dif : List Rat → List Rat → List Rat
 | [],m=>m.map (· * (-1))
 | a :: l,m=>(a - m.headD 0) :: dif l m.tail
theorem ev_head (x : Rat) (m : List Rat) : ev m x = m.headD 0 + x * ev m.tail x:=by
 cases m with
 | nil=>show (0 : Rat) = 0 + x * 0; grind
 | cons b m=>rfl
theorem dif_ev (x : Rat) : ∀ l m : List Rat,ev (dif l m) x = ev l x - ev m x
 | [],m=>by
   show ev (m.map (· * (-1))) x = 0 - ev m x
   rw [ev_scale]; grind
 | a :: l,m=>by
   show (a - m.headD 0) + x * ev (dif l m.tail) x = (a + x * ev l x) - ev m x
   rw [dif_ev x l m.tail,ev_head x m]; grind
theorem dif_none : ∀ l m : List Rat,l.length = m.length → (∀ q ∈ dif l m,q = 0) → l = m
 | [],[],_,_=>rfl
 | [],_ :: _,e,_=>nomatch e
 | _ :: _,[],e,_=>nomatch e
 | a :: l,b :: m,e,h=>by
   have h1 : a - b = 0:=h _ Tu
   have h2:=dif_none l m (by simpa using e) fun q hq=>h q (Tv _ hq)
   rw [h2,show a = b by grind]
theorem same_of (l m : List Rat) (e : l.length = m.length) (h : ∀ x,ev l x = ev m x) : l = m :=
 dif_none l m e (ident _ _ (TL _) 0 fun k _=>by rw [dif_ev,h]; grind)
end Cv
namespace L2
open PySem PySem.Spec PyProof.Rows
theorem DY {env : Env} : ∀ (names : List (Str × NameKind)) (acc : List (Str × Addr)),(∀ x ∈ names,x.2 = .free → ∃ c,env.cells.lookup x.1 = some c) →
 ∃ cl : List (Str × Addr),(forIn (m:=Sem) names acc fun x r=>do
  if x.2 == .free then pure (ForInStep.yield ((x.1,← cellOf env x.1) :: r)) else pure (ForInStep.yield r)) = pure cl ∧
  (∀ p ∈ cl,p ∈ acc ∨ env.cells.lookup p.1 = some p.2) ∧ (∀ p ∈ acc,p ∈ cl) ∧ ∀ x ∈ names,x.2 = .free → ∃ c,(x.1,c) ∈ cl
 | [],acc,_=>⟨acc,rfl,fun _ h=>.inl h,fun _ h=>h,fun _ h=>nomatch h⟩
 | x :: r,acc,h=>by
   by_cases hk : x.2 = .free
   ·obtain ⟨c,hc⟩:=h x Tu hk
    obtain ⟨cl,e,h1,h2,h3⟩:=DY r ((x.1,c) :: acc) fun y hy=>h y (Tv _ hy)
    refine ⟨cl,?_,fun p hp=>?_,fun p hp=>h2 p (Tv _ hp),fun y hy hf=>?_⟩
    ·rw [List.forIn_cons]
     have z : (x.2 == NameKind.free) = true:=by rw [hk]; rfl
     have cell : cellOf env x.1 = pure c:=by unfold cellOf; rw [hc]
     simp only [z,if_true,cell]
     exact e
    ·rcases h1 p hp with q | q
     ·rcases Tw.mp q with rfl | q
      ·exact .inr hc
      ·exact .inl q
     ·exact .inr q
    ·rcases Tw.mp hy with rfl | hy
     ·exact ⟨c,h2 _ Tu⟩
     ·exact h3 y hy hf
   ·obtain ⟨cl,e,h1,h2,h3⟩:=DY r acc fun y hy=>h y (Tv _ hy)
    refine ⟨cl,?_,h1,h2,fun y hy hf=>?_⟩
    ·rw [List.forIn_cons]
     have z : (x.2 == NameKind.free) = false:=by
      cases e : x.2 <;> first | rfl | exact absurd e hk
     simp only [z,Bool.false_eq_true,if_false]
     exact e
    ·rcases Tw.mp hy with rfl | hy
     ·exact absurd hf hk
     ·exact h3 y hy hf
theorem DU {x : Str} {c : Addr} : ∀ {cl : List (Str × Addr)},(x,c) ∈ cl → ∃ c',cl.lookup x = some c'
 | [],h=>nomatch h
 | (y,d) :: r,h=>by
   by_cases e : x = y
   ·subst e; exact ⟨d,by simp⟩
   ·rcases Tw.mp h with q | q
    ·cases q; exact absurd rfl e
    ·obtain ⟨c',q'⟩:=DU q
     refine ⟨c',?_⟩
     have : (x == y) = false:=by simpa using e
     rw [UZ,this]
     exact q'
theorem CV {scope : Scope} {env : Env} (h : ∀ x ∈ scope.names,x.2 = .free → ∃ c,env.cells.lookup x.1 = some c) :
 ∃ cl : List (Str × Addr),closureFor scope env = pure cl ∧ (∀ x c,cl.lookup x = some c → env.cells.lookup x = some c) ∧ ∀ x ∈ scope.names,x.2 = .free → ∃ c,cl.lookup x.1 = some c:=by
 obtain ⟨cl,e,h1,_,h3⟩:=DY scope.names [] h
 refine ⟨cl,?_,fun x c q=>?_,fun x hx hf=>?_⟩
 ·unfold closureFor
  simp only [bind_pure]
  exact e
 ·rcases h1 _ (PySem.mem_of_lookup q) with z | z
  ·exact nomatch z
  ·exact z
 ·obtain ⟨c,hc⟩:=h3 x hx hf
  exact DU hc
theorem Cw {env : Env} : ∀ {names : List (Str × NameKind)} {x : Str},names.lookup x = some .free →
 (names.map fun (n,k)=>if (k == NameKind.free && env.scope.kind == .function && env.kindOf n == some .cell) then (n,NameKind.cell) else (n,k)).lookup x = some .cell ∨
 (names.map fun (n,k)=>if (k == NameKind.free && env.scope.kind == .function && env.kindOf n == some .cell) then (n,NameKind.cell) else (n,k)).lookup x = some .free
 | [],_,h=>by simp at h
 | (n,k) :: r,x,h=>by
   have ih:=@Cw env r x
   show V0 x ((if (k == NameKind.free && env.scope.kind == .function && env.kindOf n == some .cell) = true then (n,NameKind.cell) else (n,k)) :: _) = _ ∨ V0 x ((if (k == NameKind.free && env.scope.kind == .function && env.kindOf n == some .cell) = true then (n,NameKind.cell) else (n,k)) :: _) = _
   cases hx : x == n with
   | true =>
     simp only [UZ,hx] at h
     cases h
     by_cases hc : (NameKind.free == NameKind.free && env.scope.kind == .function && env.kindOf n == some .cell) = true
     ·rw [if_pos hc]; simp [UZ,hx]
     ·rw [if_neg hc]; simp [UZ,hx]
   | false =>
     simp only [UZ,hx] at h
     by_cases hc : (k == NameKind.free && env.scope.kind == .function && env.kindOf n == some .cell) = true
     ·rw [if_pos hc]; simp only [UZ,hx]; exact ih h
     ·rw [if_neg hc]; simp only [UZ,hx]; exact ih h
theorem E5 {env : Env} {x : Str} : ∀ {names : List (Str × NameKind)},(∀ y ∈ names,y.2 ≠ .cell) →
 ((names.map fun (n,k)=>if (k == NameKind.free && env.scope.kind == .function && env.kindOf n == some .cell) then (n,NameKind.cell) else (n,k)).lookup x = some .cell ∨
  (names.map fun (n,k)=>if (k == NameKind.free && env.scope.kind == .function && env.kindOf n == some .cell) then (n,NameKind.cell) else (n,k)).lookup x = some .free) → (x,NameKind.free) ∈ names
 | [],_,h=>by simp at h
 | (n,k) :: r,hc,h=>by
   have ih:=@E5 env x r fun y hy=>hc y (Tv _ hy)
   have hk : k ≠ .cell:=hc (n,k) Tu
   change V0 x ((if (k == NameKind.free && env.scope.kind == .function && env.kindOf n == some .cell) = true then (n,NameKind.cell) else (n,k)) :: _) = _ ∨ V0 x ((if (k == NameKind.free && env.scope.kind == .function && env.kindOf n == some .cell) = true then (n,NameKind.cell) else (n,k)) :: _) = _ at h
   cases hx : x == n with
   | true =>
     have e : x = n:=by simpa using hx
     subst e
     by_cases hq : (k == NameKind.free && env.scope.kind == .function && env.kindOf x == some .cell) = true
     ·have : k = .free:=by
       cases k <;> first | rfl | (simp at hq)
      subst this; exact Tu
     ·rw [if_neg hq] at h
      simp only [UZ,hx] at h
      rcases h with h | h
      ·cases h; exact absurd rfl hk
      ·cases h; exact Tu
   | false =>
     refine Tv _ (ih ?_)
     by_cases hq : (k == NameKind.free && env.scope.kind == .function && env.kindOf n == some .cell) = true
     ·rw [if_pos hq] at h; simpa only [UZ,hx] using h
     ·rw [if_neg hq] at h; simpa only [UZ,hx] using h
def AQ (X : Cx) (N : List Str) (scope : Scope) (cl : List (Str × Addr)) (C : Addr) (s : Shared) (H : Hp) (fp : List Addr) : Cx :=
 { prog:=X.prog,w:=X.w,K:=X.K,mg:=X.mg,base:=X.base,A:=X.A,N:=N,s₀:=s,H₀:=H,env:=compEnvC scope cl C X.env,outer:=X.stack,stack:=X.stack,ex:=fp,
   fn:=fun _=>false,calm:=X.calm,pn:=[],xe:=fun _ _=>False }
def cS (nt : Nat) (js : List Nat) (σ : St) : St:=U5 nt none ++ js.map fun i=>σ.getD i none
abbrev CB (ys : List Value) : Obj:={ cls:=.type "list",data:=.seq ys.toArray ys.length }
theorem Eo {prog : Program} {w : World} {A : Around} {R : Result → Shared → Prop} {s : Shared} {elt target iter : Expr} {ifs : List Expr} {scope : Scope} {pos : Pos} {it acc : Value} {env : Env} (I : Nat → Shared → Prop)
 (turn : ∀ n s,I n s → wpAny (model prog w) A (pyNext it) (fun r s₁=>match r with
  | none=>R (.ok .next) s₁
  | some v=>wpAny (model prog w) A (letOwnedTupleGo target it v) (fun _ s₁'=>wpAny (model prog w) A (assign target env v) (fun _ s₂ =>
   wpAny (model prog w) A (forIn ifs true fun c r=>if r = true then do let ok ← isTrue c env (eval c env); pure (ForInStep.yield ok) else pure (ForInStep.yield r)) (fun ok s₃ =>
    if ok = true then wpAny (model prog w) A (eval elt env) (fun x s₄ =>
     wpAny (model prog w) A (call (.builtin "list.append") [acc,x]) (fun _ s₅=>∃ m,m < n ∧ I m s₅) (fun _ _=>False) s₄) (fun _ _=>False) s₃
    else ∃ m,m < n ∧ I m s₃) (fun _ _=>False) s₂) (fun _ _=>False) s₁') (fun _ _=>False) s₁) (fun _ _=>False) s)
 (n : Nat) (h : I n s) :
 codeAny (model prog w) A (.compLoop (.ListComp elt [⟨target,iter,ifs,0⟩] scope pos) 0 it acc env) R s:=by
 refine codeAny_loop rfl I (fun n s hI=>?_) n h
 show wpAny _ A ((compTurn (.ListComp elt [⟨target,iter,ifs,0⟩] scope pos) 0 it acc env).onRaise (fun x=>do noteFrame x env; theTreesLotGoes x)) _ _ s
 refine wpAny_noted ?_
 rw [compTurn_list]
 refine wpAny_bind (wpAny_standAt (wpAny_bind (wpAny_mono (turn n s hI) (fun r s₁ h₁=>?_) fun _ _ h'=>h'.elim)))
 cases r with
 | none=>exact wpAny_pure h₁
 | some v =>
   refine wpAny_bind (wpAny_mono h₁ (fun _ s₁' h₁'=>?_) fun _ _ h'=>h'.elim)
   refine wpAny_bind (wpAny_mono h₁' (fun _ s₂ h₂=>wpAny_bind (wpAny_mono h₂ (fun ok s₃ h₃=>?_) fun _ _ h'=>h'.elim)) fun _ _ h'=>h'.elim)
   cases ok with
   | false=>exact wpAny_pure ⟨rfl,h₃⟩
   | true =>
     exact wpAny_bind (wpAny_bind (wpAny_mono h₃ (fun x s₄ h₄=>wpAny_bind (wpAny_mono h₄ (fun _ s₅ h₅=>wpAny_pure (wpAny_pure ⟨rfl,h₅⟩)) fun _ _ h'=>h'.elim)) fun _ _ h'=>h'.elim))
def PTs (X : Cx) (ifs : List Expr) (t : TT) : Prop :=
 ∀ (pins : List (Addr × Obj)) (s : Shared) (σ : St) (H : Hp) (Q : Bool → Hp → Prop),Inv X pins σ H s → t σ H Q →
   wpAny (model X.prog X.w) X.A (forIn ifs true fun c r=>if r = true then do let ok ← isTrue c X.env (eval c X.env); pure (ForInStep.yield ok) else pure (ForInStep.yield r)) (TP X pins σ Q) X.xe s
def LY : TT:=fun _ H Q=>Q true H
theorem BL {X : Cx} : PTs X [] LY:=fun _ _ _ H _ I h=>wpAny_tests_nil ⟨H,I,h⟩
theorem DI {X : Cx} {c : Expr} {t : TT} (h : PT X c t) : PTs X [c] t:=fun pins s σ H Q I q=>wpAny_tests_one (h pins s σ H Q I q)
structure LcW (J : It) (n nt : Nat) (js : List Nat) (σ : St) (g : TG) (tc : TT) (te : TE) (Fin : List V → Hp → Prop) (W : Nat → List V → Hp → Prop) : Prop where
 go : ∀ i zs H,i < n → W i zs H → J.go i H ∧ zs.length < sizeLine
 step : ∀ i zs H x H',i < n → W i zs H → J.yld i H x H' → g x (cS nt js σ) H' fun σ2 H2=>tc σ2 H2 fun b H3=>if b = true then te σ2 H3 fun y H4=>W (i + 1) (zs ++ [y]) H4 else W (i + 1) zs H3
 stop : ∀ zs H,W n zs H → J.stop n H ∧ zs.length ≤ sizeLine ∧ Fin zs H
@[irreducible] def tLC (wi : TI) (nt : Nat) (js : List Nat) (g : TG) (tc : TT) (te : TE) : TE:=fun σ H Q=>wi σ H fun J H1 =>
 ∃ (n : Nat) (W : Nat → List V → Hp → Prop),W 0 [] H1 ∧ LcW J n nt js σ g tc te (fun zs H'=>∀ p,H' p = none → Q (.ref p) (upd H' p (.lst zs))) W
theorem Ca {wi : TI} {nt : Nat} {js : List Nat} {g : TG} {tc : TT} {te : TE} {σ : St} {H : Hp} {Q : VK}
 (h : wi σ H fun J H1=>∃ (n : Nat) (W : Nat → List V → Hp → Prop),W 0 [] H1 ∧ LcW J n nt js σ g tc te (fun zs H'=>∀ p,H' p = none → Q (.ref p) (upd H' p (.lst zs))) W) : tLC wi nt js g tc te σ H Q:=by
 unfold tLC; exact h
theorem MI {wi : TI} {nt : Nat} {js : List Nat} {g : TG} {tc : TT} {te : TE} {σ : St} {H : Hp} {Q : VK} (h : tLC wi nt js g tc te σ H Q) :
 wi σ H fun J H1=>∃ (n : Nat) (W : Nat → List V → Hp → Prop),W 0 [] H1 ∧ LcW J n nt js σ g tc te (fun zs H'=>∀ p,H' p = none → Q (.ref p) (upd H' p (.lst zs))) W:=by
 unfold tLC at h; exact h
structure Bf (X : Cx) (N : List Str) (nt : Nat) (js : List Nat) (scope : Scope) : Prop where
 kind : scope.kind = .function
 nocell : ∀ y ∈ scope.names,y.2 ≠ .cell
 names : ∀ y ∈ scope.names,y.2 = .local → scope.names.lookup y.1 = some .local
 free : ∀ y ∈ scope.names,y.2 = .free → X.env.kindOf y.1 = some .cell ∨ X.env.kindOf y.1 = some .free
 len : N.length = nt + js.length
 outer : ∀ j i,js[j]? = some i → ∃ x,N[nt + j]? = some x ∧ X.N[i]? = some x ∧ scope.names.lookup x = some .free
def KD (NX : List Str) (sc : Scope) (N : List Str) (nt : Nat) (js : List Nat) (scope : Scope) : Bool :=
 decide (scope.kind = .function) && scope.names.all (fun y=>decide (y.2 ≠ .cell)) && scope.names.all (fun y=>decide (y.2 ≠ .local) || decide (scope.names.lookup y.1 = some .local)) &&
 scope.names.all (fun y=>decide (y.2 ≠ .free) || (decide (sc.names.lookup y.1 = some .cell) || decide (sc.names.lookup y.1 = some .free))) && decide (N.length = nt + js.length) &&
 (Th js.length).all fun j=>match js[j]?,N[nt + j]? with
  | some i,some x=>decide (NX[i]? = some x) && decide (scope.names.lookup x = some .free)
  | _,_=>false
theorem Bf.look {X : Cx} {NX N : List Str} {sc scope : Scope} {nt : Nat} {js : List Nat} (hN : X.N = NX) (hs : X.env.scope = sc) (h : KD NX sc N nt js scope = true) : Bf X N nt js scope:=by
 unfold KD at h
 simp only [Bool.and_eq_true,List.all_eq_true,Bool.or_eq_true,decide_eq_true_eq] at h
 obtain ⟨⟨⟨⟨⟨h1,h2⟩,h3⟩,h4⟩,h5⟩,h6⟩:=h
 refine ⟨h1,h2,fun y hy hl=>(h3 y hy).resolve_left fun z=>z hl,fun y hy hf=>?_,h5,fun j i e=>?_⟩
 ·have q:=(h4 y hy).resolve_left fun z=>z hf
  rw [← hs] at q
  exact q
 ·have hj : j < js.length:=(TC.mp e).1
  have q:=h6 j (To.mpr hj)
  rw [e] at q
  cases en : N[nt + j]? with
  | none=>rw [en] at q; cases q
  | some x =>
    rw [en] at q
    simp only [Bool.and_eq_true,decide_eq_true_eq] at q
    exact ⟨x,rfl,by rw [hN]; exact q.1,q.2⟩
section
variable {X : Cx} {N : List Str} {nt : Nat} {js : List Nat} {scope : Scope} {cl : List (Str × Addr)}
theorem HOk.track {P : Program} {w : World} {H : Hp} {h : Heap} {a : Addr} {o : HO} (x : HOk P w H h) (hn : H a = none) (new : Bh P w (upd H a o) h a o) : HOk P w (upd H a o) h:=fun b u e=>by
 by_cases hb : b = a
 ·subst hb; rw [Ae] at e; cases e; exact new
 ·rw [Aw hb] at e
  exact (x b u e).stay (fun c v _ q=>q) (fun c q=>by rw [Aw (AB q hn)]; exact q) fun c xs q=>by rw [Aw (AB q hn)]; exact q
theorem IY {pins : List (Addr × Obj)} {σ : St} {H : Hp} {s : Shared} {C D : Addr} {h' : Heap} {tk : Nat} {fp : List Addr} {m : Str → Option Value} (I : Inv X pins σ H s) (ok : Bf X N nt js scope)
 (hcl : ∀ x c,cl.lookup x = some c → X.env.cells.lookup x = some c) (hcl2 : ∀ x ∈ scope.names,x.2 = .free → ∃ c,cl.lookup x.1 = some c)
 (hf : ∀ b ∈ fp,DZ X pins H b) (ho : ∀ b ∈ fp,∃ o,s.heap.get? b = some o ∧ ∀ v,o.data ≠ .cell v)
 (hD : s.heap.objs.size ≤ D) (hC : s.heap.objs.size ≤ C) (hDC : D ≠ C) (k : ∀ b o,s.heap.get? b = some o → h'.get? b = some o) (hn : h'.Ns C m) (hd : h'.get? D = some (CB [])) :
 Inv (AQ X N scope cl C s H fp) [(D,CB [])] (cS nt js σ) H { s with heap:=h',toks:=tk }:=by
 have lt : ∀ b ∈ fp,b < s.heap.objs.size:=fun b hb=>by obtain ⟨o,e,_⟩:=ho b hb; exact Heap.lt_size e
 have frlt : ∀ b ∈ frs X.stack,b < s.heap.objs.size:=fun b hb=>by
  obtain ⟨_,o,e,_⟩:=I.stack.mem hb
  exact Heap.lt_size e
 refine ⟨⟨I.ok.mod,ok.kind,I.ok.glob,I.ok.blt,hC,fun x y c h1 h2=>I.ok.inj x y c (hcl x c h1) (hcl y c h2),fun x hx=>?_,fun x c hx=>absurd hx Bool.false_ne_true,I.ok.hd,I.ok.frames,.inl rfl,fun b hb=>⟨?_,fun x c e=>(hf b hb).2.2.2.2.1 x c (hcl x c e)⟩,I.bs,
  Tr I.ok.bsz I.sz,fun b o e hb=>?_,fun b hb hs=>?_,I.stack,I.stkFree⟩,rfl,I.bare,Un.kept k,⟨m,hn,fun j x v h1 h2 h3=>?_⟩,fun x c e=>?_,I.hok.fresh hC,fun x c e=>I.freeC x c (hcl x c e),fun p hp=>?_,I.hok.kept k,?_⟩
 ·obtain ⟨c,hc⟩:=hcl2 (x,.free) (E5 ok.nocell hx) rfl
  exact ⟨c,hc⟩
 ·exact Tg (Te (lt b hb) hC)
 ·rcases (hf b hb).2.2.2.1 with z | z
  ·exact I.ok.noex b o e z
  ·exact absurd (Te (Heap.lt_size e) (Tr I.ok.bsz z)) (Tf _)
 ·rcases Tw.mp (I.stkSub b hs) with z | z
  ·exact (hf b hb).2.1 z
  ·exact (hf b hb).2.2.1 z
 ·change N[j]? = some x at h1
  unfold cS at h2
  by_cases hj : j < nt
  ·rw [Ub (by simpa using hj),Ua] at h2
   rw [if_pos hj] at h2; cases h2
  ·rw [U9 (by simpa using V1.mp hj),Uh,Uc] at h2
   cases ei : js[j - nt]? with
   | none=>rw [ei] at h2; cases h2
   | some i =>
     rw [ei] at h2
     obtain ⟨y,e1,e2,e3⟩:=ok.outer _ i ei
     rw [show nt + (j - nt) = j by lia,h1] at e1
     cases e1
     have hv : σ[i]? = some (some v):=by
      simp only [Option.map_some,Tb.injEq] at h2
      rw [V2] at h2
      cases eσ : σ[i]? with
      | none=>rw [eσ] at h2; cases h2
      | some z=>rw [eσ] at h2; simp at h2; rw [h2]
     obtain ⟨m₀,_,hl⟩:=I.loc
     have kf:=ok.free (x,.free) (PySem.mem_of_lookup e3) rfl
     obtain ⟨u,r,l⟩:=hl i x v e2 hv (kf.elim (fun z=>.inr (.inl z)) fun z=>.inr (.inr z))
     refine ⟨u,r,.inr ⟨Cw e3,?_⟩⟩
     rcases l with ⟨kl,_⟩ | ⟨_,c,ec,⟨oc,hoc,hod⟩⟩
     ·rcases kf with z | z <;> (rw [z] at kl; cases kl)
     ·obtain ⟨c',hc'⟩:=hcl2 (x,.free) (PySem.mem_of_lookup e3) rfl
      have e':=hcl x c' hc'
      rw [ec] at e'
      cases e'
      exact ⟨c,hc',oc,k _ _ hoc,hod⟩
 ·obtain ⟨v,oc,hoc,hod⟩:=I.cell x c (hcl x c e)
  exact ⟨v,oc,k _ _ hoc,hod⟩
 ·have e : p = (D,CB []):=by
   have hp' : p ∈ [(D,CB [])]:=hp
   simpa using hp'
  subst e
  refine ⟨hd,I.hok.fresh hD,hDC,fun hb=>absurd (Te (frlt D hb) hD) (Tf _),fun v z=>by cases z⟩
 ·show (cS nt js σ).length = N.length
  unfold cS
  rw [Ue,Uh,Ug,ok.len]
end
end L2
namespace L2
open PySem PySem.Spec PyProof.Rows
def Gb (g : TG) (nt : Nat) : Prop:=∀ x σ H Q,g x σ H Q → g x σ H fun σ2 H2=>(σ2.length = σ.length ∧ σ2.drop nt = σ.drop nt) ∧ Q σ2 H2
theorem AI {i nt : Nat} (h : i < nt) : Gb (C6 i) nt:=fun x σ H Q q=>⟨⟨Uo,by
 apply V3
 intro k
 rw [V4,V4,TH (by lia)]⟩,q⟩
section
variable {X : Cx} {N : List Str} {nt : Nat} {js : List Nat} {scope : Scope} {elt iter tg : Expr} {ifs : List Expr} {pos : Pos} {g : TG} {tc : TT} {te : TE} {wi : TI}
theorem Fs {σ σ2 : St} (hl : σ2.length = (cS nt js σ).length) (hd : σ2.drop nt = (cS nt js σ).drop nt) : ∀ (i : Nat) v,(cS nt js σ)[i]? = some (some v) → σ2[i]? = some (some v):=fun i v e=>by
 by_cases hi : i < nt
 ·unfold cS at e
  rw [Ub (by simpa using hi),Ua,if_pos hi] at e
  cases e
 ·have q : ((cS nt js σ).drop nt)[i - nt]? = some (some v):=by rw [V4,show nt + (i - nt) = i by lia]; exact e
  rw [← hd,V4,show nt + (i - nt) = i by lia] at q
  exact q
set_option maxHeartbeats 4000000 in
theorem Jd {pins : List (Addr × Obj)} {σ : St} {H : Hp} {s₂ : Shared} {cl : List (Str × Addr)} {J : It} {fp : List Addr} {it : Addr} {tn : Nat → Heap → Prop} {E : Value → Shared → Prop} {Fin : List V → Hp → Prop} {W : Nat → List V → Hp → Prop} {nn : Nat}
 {RR : Value → Addr → Result → Shared → Prop} (hcalm : X.calm = true) (ok : Bf X N nt js scope)
 (hcl : ∀ x c,cl.lookup x = some c → X.env.cells.lookup x = some c) (hcl2 : ∀ x ∈ scope.names,x.2 = .free → ∃ c,cl.lookup x.1 = some c)
 (hg : ∀ cl C s H fp,PG (AQ X N scope cl C s H fp) tg g) (hk : Gb g nt) (hc : ∀ cl C s H fp,PTs (AQ X N scope cl C s H fp) ifs tc) (he : ∀ cl C s H fp,PE (AQ X N scope cl C s H fp) elt te)
 (I : Inv X pins σ H s₂) (T : Ip X.prog X.w X.K tg J fp it tn) (st : tn 0 s₂.heap) (hf : ∀ b ∈ fp,DZ X pins H b) (w0 : W 0 [] H) (lw : LcW J nn nt js σ g tc te Fin W)
 (hRR : ∀ D C s' H' zs m,Inv X pins σ (upd H' D (.lst zs)) s' → s'.heap.Ns C m → H' D = none → (upd H' D (.lst zs)) C = none → C ≠ X.env.locals → X.s₀.heap.objs.size ≤ C → (∀ x c,X.env.cells.lookup x = some c → c ≠ C) →
  (∀ p ∈ X.pn ++ pins,p.1 ≠ C) → Fin zs H' → RR (.ref D) C (.ok .next) s') :
 wpAny (model X.prog X.w) X.A (newList []) (fun acc s₃=>wpAny (model X.prog X.w) X.A (newFunctionEnv scope X.env.globals cl [] X.env.qual none .none (some X.env)) (fun cenv s₄ =>
  codeAny (model X.prog X.w) X.A (.compStart (.ListComp elt [⟨tg,iter,ifs,0⟩] scope pos) 0 (.ref it) acc { cenv with scope:=relabel scope X.env }) (RR acc cenv.locals) s₄) E s₃) E s₂:=by
 refine wpAny_newObj_type (wpAny_newFunctionEnv ok.nocell (by intro y hy; simp at hy) (fun h₁ hns₁ hsb₁=>?_) ok.kind)
 dsimp only at hns₁ hsb₁ ⊢
 generalize hH2 : s₂.heap.push { cls:=.type "list",dict:=none,data:=.seq ([] : List Value).toArray } = H2 at hns₁ hsb₁ ⊢
 have hC : H2.objs.size = s₂.heap.objs.size + 1:=by rw [← hH2,Heap.size_push]
 have hDC : s₂.heap.objs.size ≠ H2.objs.size:=by rw [hC]; exact Tg (V5 _)
 have hCle : s₂.heap.objs.size ≤ H2.objs.size:=by rw [hC]; exact V6 _
 have below : ∀ b,b < s₂.heap.objs.size → b ≠ H2.objs.size ∧ b ≠ s₂.heap.objs.size:=fun b hb=>⟨by rw [hC]; exact Tg (Nat.lt_succ_of_lt hb),Tg hb⟩
 have old : ∀ b o,s₂.heap.get? b = some o → h₁.get? b = some o:=fun b o e=>hsb₁.extBut b o (below b (Heap.lt_size e)).1 (Heap.get?_push_of_some _ (hH2 ▸ Heap.get?_push_of_some _ e))
 have hacc : h₁.get? s₂.heap.objs.size = some (CB []):=hsb₁.extBut _ _ hDC (Heap.get?_push_of_some _ (hH2 ▸ Heap.get?_push_size _ rfl))
 have ho:=T.obj 0 _ st
 have lt : ∀ b ∈ fp,b < s₂.heap.objs.size:=fun b hb=>by obtain ⟨o,e,_⟩:=ho b hb; exact Heap.lt_size e
 have loop : ∀ s₃ : Shared,s₃ = { s₂ with heap:=h₁,toks:=s₂.toks + ([] : List (Str × Value)).length } →
  codeAny (model X.prog X.w) X.A (.compLoop (.ListComp elt [⟨tg,iter,ifs,0⟩] scope pos) 0 (.ref it) (.ref s₂.heap.objs.size) (compEnvC scope cl H2.objs.size X.env)) (RR (.ref s₂.heap.objs.size) H2.objs.size) s₃:=by
  rintro s₃ rfl
  have I0 : Inv (AQ X N scope cl H2.objs.size s₂ H fp) [(s₂.heap.objs.size,CB [])] (cS nt js σ) H { s₂ with heap:=h₁,toks:=s₂.toks + ([] : List (Str × Value)).length } :=
   IY I ok hcl hcl2 hf ho (TL _) hCle hDC old hns₁ hacc
  have fpy : ∀ {H' : Hp} {ys : List Value},(∀ b ∈ fp,H' b = none) → ∀ b ∈ fp,DZ (AQ X N scope cl H2.objs.size s₂ H fp) [(s₂.heap.objs.size,CB ys)] H' b:=fun {H' ys} hn b hb =>
   ⟨hn b hb,(below b (lt b hb)).1,I0.ok.exfs b hb,.inl hb,(I0.ok.exf b hb).2,fun p hp=>by
    have hp' : p ∈ [(s₂.heap.objs.size,CB ys)]:=hp
    have e : p = (s₂.heap.objs.size,CB ys):=by simpa using hp'
    rw [e]; exact Ne.symm (below b (lt b hb)).2⟩
  refine Eo (fun n s'=>∃ i zs ys H',n = nn - i ∧ i ≤ nn ∧ Inv (AQ X N scope cl H2.objs.size s₂ H fp) [(s₂.heap.objs.size,CB ys)] (cS nt js σ) H' s' ∧ AM zs ys ∧ tn i s'.heap ∧ (∀ b ∈ fp,H' b = none) ∧ W i zs H') ?_ nn
   ⟨0,[],[],H,rfl,TQ _,I0,.nil,T.keep 0 _ _ st (fun b _ o e=>old b o e),fun b hb=>(hf b hb).1,w0⟩
  rintro n s' ⟨i,zs,ys,H',hn0,hile,I',rv,st',fr',w'⟩
  by_cases hlt : i < nn
  case neg =>
   have hie : i = nn:=Nat.le_antisymm hile (V1.mp hlt)
   rw [hie] at w' st'
   obtain ⟨stop,zl,fin⟩:=lw.stop zs H' w'
   refine thn (T.done (AQ X N scope cl H2.objs.size s₂ H fp) rfl rfl rfl hcalm nn _ s' _ H' (fun _ _=>False) I' (fpy fr') st' stop) fun r s4 ⟨hr,I4⟩=>?_
   subst hr
   have zD:=(I4.pin (s₂.heap.objs.size,CB ys) (TN _ (V7.mpr rfl)))
   have u:=I4.base
   have u2 : Un (frs X.stack) fp H (upd H' s₂.heap.objs.size (.lst zs)) s₂.heap s4.heap :=
    ⟨u.keep,u.slot,fun b o q n hx=>by rw [Aw (Tg (Heap.lt_size q))]; exact u.free b o q n hx,u.there,fun b xs q=>by rw [Aw (AB (u.tups b xs q) zD.2.1)]; exact u.tups b xs q,
     fun b o xs q=>by rw [Aw (AB (u.frzs b o xs q) zD.2.1)]; exact u.frzs b o xs q,fun b ps q=>by
      obtain ⟨more,e⟩:=u.tbls b ps q
      exact ⟨more,by rw [Aw (AB e zD.2.1)]; exact e⟩⟩
   have hok2 : HOk X.prog X.w (upd H' s₂.heap.objs.size (.lst zs)) s4.heap:=HOk.track I4.hok zD.2.1 ⟨zl,ys,_,rv,zD.1⟩
   have I5 : Inv X pins σ (upd H' s₂.heap.objs.size (.lst zs)) s4:=I.call' I4.os u2 hok2 I4.bare fun b hb=>⟨(hf b hb).2.2.2.1,(hf b hb).2.1,(hf b hb).2.2.2.2.1,(hf b hb).2.2.2.2.2⟩
   obtain ⟨m,hn,_⟩:=I4.loc
   refine hRR _ _ s4 H' zs m I5 hn zD.2.1 ?_ ?_ (Tr I.sz hCle) ?_ ?_ fin
   ·rw [Aw (Ne.symm hDC)]; exact I4.free
   ·exact TK (Te I.lt hCle)
   ·intro x c e z
    obtain ⟨v,q⟩:=I.cell x c e
    exact absurd (Te q.lt (by rw [z]; exact hCle)) (Tf _)
   ·intro p hp z
    exact absurd (Te (Heap.lt_size (I.pin p hp).1) (by rw [z]; exact hCle)) (Tf _)
  case pos =>
   obtain ⟨go,zl⟩:=lw.go i zs H' hlt w'
   have step:=lw.step i zs H'
   refine thn (T.item (AQ X N scope cl H2.objs.size s₂ H fp) rfl rfl rfl hcalm i _ s' _ H' (fun _ _=>False) I' (fpy fr') st' go) fun r s4 ⟨u,hr,h4⟩=>?_
   subst hr
   refine thn h4 fun _ s5 ⟨x,H5,I5,r5,y5,st5,fr5⟩=>?_
   have I5':=I5.pinned (fpy fr5) (T.obj _ _ st5)
   refine thn (hg cl _ s₂ H fp _ s5 _ H5 x u _ I5' r5 (hk _ _ _ _ (step x H5 hlt w' y5))) fun _ s6 ⟨σ6,H6,I6,⟨hl6,hd6⟩,q6⟩=>?_
   refine thn (hc cl _ s₂ H fp _ s6 σ6 H6 _ I6 q6) fun okb s7 ⟨H7,I7,q7⟩=>?_
   have frs' : ∀ {H8 : Hp} {σ8 : St} {s8 : Shared},Inv (AQ X N scope cl H2.objs.size s₂ H fp) ([(s₂.heap.objs.size,CB ys)] ++ EG fp s5.heap) σ8 H8 s8 → tn (i + 1) s8.heap ∧ ∀ b ∈ fp,H8 b = none:=fun {H8 σ8 s8} I8 =>
    ⟨T.keep _ _ _ st5 fun b hb o e=>(I8.pin (b,o) (TN _ (TN _ (Cd hb e)))).1,fun b hb=>by
     obtain ⟨o,e,d⟩:=T.obj _ _ st5 b hb
     exact (I8.pin (b,o) (TN _ (TN _ (Cd hb e)))).2.1⟩
   cases okb with
   | false =>
     rw [if_neg Bool.false_ne_true] at q7 ⊢
     obtain ⟨a1,a2⟩:=frs' I7
     exact ⟨nn - (i + 1),by rw [hn0]; exact V8 hlt (V5 i),i + 1,zs,ys,H7,rfl,hlt,I7.unpinned.weak (by rw [hl6]) (Fs hl6 hd6),rv,a1,a2,q7⟩
   | true =>
     rw [if_pos rfl] at q7 ⊢
     refine thn (he cl _ s₂ H fp _ s7 σ6 H7 _ I7 q7) fun v s8 ⟨y,H8,I8,r8,q8⟩=>?_
     have zD:=(I8.pin (s₂.heap.objs.size,CB ys) (TN _ (Tz _ (V7.mpr rfl))))
     have ylen : ys.length < sizeLine:=by rw [← rv.length]; exact zl
     obtain ⟨a1,a2⟩:=frs' I8
     refine append_at (hsz:=by rw [Um]; exact Ts ylen) zD.1 fun h9 hs9 hD9=>?_
     have I8u : Inv (AQ X N scope cl H2.objs.size s₂ H fp) [] (cS nt js σ) H8 s8:=(I8.pins_of (pins':=[]) fun p hp=>nomatch hp).weak (by rw [hl6]) (Fs hl6 hd6)
     have I9 : Inv (AQ X N scope cl H2.objs.size s₂ H fp) [] (cS nt js σ) H8 { s8 with heap:=h9 }:=I8u.turned (t':=s8.toks) (it:=s₂.heap.objs.size) (fun b o hb e=>hs9.extBut b o hb e) zD.2.1 hDC (.inr (TL _))
      (fun x c e z=>by
       obtain ⟨v,q⟩:=I.cell x c (hcl x c e)
       exact absurd (Te q.lt (by rw [z]; exact TL _)) (Tf _)) (fun p hp=>nomatch hp)
     refine ⟨nn - (i + 1),by rw [hn0]; exact V8 hlt (V5 i),i + 1,zs ++ [y],ys ++ [v],H8,rfl,hlt,I9.pins_of (fun p hp=>?_),rv.snoc r8,T.keep _ _ _ a1 fun b hb o e=>hs9.extBut b o (below b (lt b hb)).2 e,a2,q8⟩
     have e : p = (s₂.heap.objs.size,CB (ys ++ [v])):=by simpa using hp
     subst e
     refine ⟨?_,zD.2.1,hDC,zD.2.2.2.1,fun v z=>by cases z⟩
     rw [hD9]
     show some ({ cls:=.type "list",data:=.seq (ys.toArray.push v) (ys.length + 1) } : Obj) = some { cls:=.type "list",data:=.seq (ys ++ [v]).toArray (ys ++ [v]).length }
     rw [Ue,Ut,List.push_toArray]
 exact codeAny_compStart_list (loop _ rfl) (T.self _ 0 _ _ _ (T.keep 0 _ _ st (fun b _ o e=>old b o e)) (loop _ rfl))
theorem Ct (hcalm : X.calm = true) (ok : Bf X N nt js scope) (hi : PI X tg iter wi) (hg : ∀ cl C s H fp,PG (AQ X N scope cl C s H fp) tg g) (hk : Gb g nt) (hc : ∀ cl C s H fp,PTs (AQ X N scope cl C s H fp) ifs tc)
 (he : ∀ cl C s H fp,PE (AQ X N scope cl C s H fp) elt te) (hs : ∀ x,foldedSetIterable iter X.env x = pure x:=by intro _; rfl) : PE X (.ListComp elt [⟨tg,iter,ifs,0⟩] scope pos) (tLC wi nt js g tc te):=by
 intro pins s σ H Q I h
 obtain ⟨cl,hclos,hcl,hcl2⟩:=CV (scope:=scope) (env:=X.env) fun x hx hf=>I.ok.has x.1 (ok.free x hx hf)
 rw [eval_ListComp]
 refine wpAny_comprehension_free (use:=none) rfl hs hclos ok.kind ok.names ?_
 refine thn (hi pins s σ H _ I (MI h)) fun v s1 h1=>thn h1 fun itv s2 h2=>?_
 obtain ⟨it,fp,tn,J,H2,e,I2,T,st2,f2,nn,W,w0,lw⟩:=h2
 subst e
 refine Jd (RR:=fun acc C=>compPost (model X.prog X.w) X.A X.xe none (EP X pins σ Q) acc C) hcalm ok hcl hcl2 hg hk hc he I2 T st2 f2 w0 lw ?_
 intro D C s' H' zs m I3 hn hDn hCn hCL hC0 hCc hCp fin
 exact ⟨m,hn,fun h'' hs''=>⟨.ref D,_,I3.turned (t':=s'.toks) (it:=C) (fun b o hb e=>hs''.extBut b o hb e) hCn hCL (.inr hC0) hCc hCp,rfl,fin D hDn⟩⟩
theorem Mo {i : Nat} {y : Str} {py spos : Pos} (hcalm : X.calm = true) (hN : X.N.Nodup) (hi' : X.N[i]? = some y) (hy : X.env.kindOf y = some .local) (ok : Bf X N nt js scope) (hi : PI X tg iter wi) (hg : ∀ cl C s H fp,PG (AQ X N scope cl C s H fp) tg g) (hk : Gb g nt)
 (hc : ∀ cl C s H fp,PTs (AQ X N scope cl C s H fp) ifs tc) (he : ∀ cl C s H fp,PE (AQ X N scope cl C s H fp) elt te)
 (hsw : swapsWith (.ListComp elt [⟨tg,iter,ifs,0⟩] scope pos) (some (.Name y py)) spos.line X.env = pure true) (hs : ∀ x,foldedSetIterable iter X.env x = pure x:=by intro _; rfl) :
 PS X (.Assign [.Name y py] (.ListComp elt [⟨tg,iter,ifs,0⟩] scope pos) spos) (M4 (tLC wi nt js g tc te) (C6 i)):=by
 intro pins s σ H D₀ I h
 obtain ⟨cl,hclos,hcl,hcl2⟩:=CV (scope:=scope) (env:=X.env) fun x hx hf=>I.ok.has x.1 (ok.free x hx hf)
 rw [exec_Assign_Name_used _ _ _ _ hsw]
 refine wpAny_bind (wpAny_standAt (wpAny_bind ?_))
 show wpAny _ X.A (do let _ ← comprehension (.ListComp elt [⟨tg,iter,ifs,0⟩] scope pos) scope X.env _ (newList []) false (eval iter X.env) (some (assign (.Name y py) X.env))) _ _ s
 refine wpAny_bind (wpAny_mono (wpAny_comprehension_free (use:=some (assign (.Name y py) X.env)) (Q:=fun _ s'=>SP X pins D₀ .next s') rfl hs hclos ok.kind ok.names
  (thn (hi pins s σ H _ I (MI (show tLC wi nt js g tc te σ H fun x H1=>C6 i x σ H1 D₀.nx from h))) fun v s1 h1=>thn h1 fun itv s2 h2=>?_)) (fun _ s' hq=>wpAny_pure (wpAny_pure hq)) fun _ _ e=>e)
 obtain ⟨it,fp,tn,J,H2,e,I2,T,st2,f2,nn,W,w0,lw⟩:=h2
 subst e
 refine Jd (RR:=fun acc C=>compPost (model X.prog X.w) X.A X.xe (some (assign (.Name y py) X.env)) (fun _ s'=>SP X pins D₀ .next s') acc C) hcalm ok hcl hcl2 hg hk hc he I2 T st2 f2 w0 lw ?_
 intro D C s' H' zs m I3 hn hDn hCn hCL hC0 hCc hCp fin
 show wpAny _ X.A (assign (.Name y py) X.env (.ref D)) _ _ _
 refine wpAny_assign_Name (Ez (v:=.ref D) I3 hN hi' (.inl hy) rfl (fun s3 I4 hsb=>?_) (.inr hy))
 obtain ⟨a,hsb,ha⟩:=hsb
 have haC : C ≠ a:=by
  rcases ha with z | z
  ·rw [z]; exact hCL
  ·exact Ne.symm (hCc y a z)
 refine ⟨m,hn.sameBut hsb haC,fun h'' hs''=>?_⟩
 exact ⟨_,_,I4.turned (t':=s3.toks) (it:=C) (fun b o hb e=>hs''.extBut b o hb e) hCn hCL (.inr hC0) hCc hCp,fin D hDn⟩
end
end L2
namespace L2
open PySem PySem.Spec PyProof.Rows
def Bd (n : Nat) (x : Int) : Prop:=x.natAbs < 2 ^ n
theorem Bd.bits {n : Nat} {x : Int} (h : Bd n x) : Builtin.Int.intBits x ≤ n:=PySem.intBits_le_iff.mpr h
def Nd (i j : Int) : Prop:=∃ m n,Bd m i ∧ Bd n j ∧ m + n ≤ 134217728
theorem Nd.ok {i j : Int} (h : Nd i j) : IntMulOk i j:=by
 obtain ⟨m,n,h1,h2,h3⟩:=h
 exact PySem.IntMulOk.of_le h1.bits h2.bits h3
section
variable {X : Cx}
theorem BQ {k : Nat} (hr : C7 k X.A) (hT : X.prog.given.tree = none) (hk : 32 ≤ k:=by decide)
 (hst : ∃ (env : Env) (l : List Env),X.stack = env :: l ∧ env.scope.isGenerator = false ∧ env.scope.isCoroutine = false ∧ env.builtins = builtinsNs ∧ env.globals = mainGlobals:=by exact ⟨_,_,rfl,rfl,rfl,rfl,rfl⟩) :
 OpR X (binaryOp .FloorDiv) (rI (fun _ j=>j ≠ 0) fun i j=>.int (i.fdiv j)):=by
 intro pins s σ H x y v u Q I rx ry h
 obtain ⟨i,j,rfl,rfl,hc,q⟩:=h
 obtain ⟨t,rfl⟩:=rx
 obtain ⟨t',rfl⟩:=ry
 obtain ⟨env,l,e1,e2,e3,e4,e5⟩:=hst
 have hd : X.A.depth + Builtin.pylongFrames < recursionLimit:=by
  have:=hr.dp
  have e : Builtin.pylongFrames ≤ 101:=by decide
  lia
 refine floordiv_int hc ⟨.int (i.fdiv j),H,I.tok _,⟨_,rfl⟩,q⟩ (.inr (PySem.PylongRoom.of I.nolimit hd (PySem.SeerAt.of (I.ok.mod.seer.keeps I.bk) hT (by rw [I.ok.frames,e1]) e2 e3 e4 e5)))
end
structure Fd (P : Program) (w : World) (K : Tq) (mg : Str → Option Value) (base : Heap) (n : Nat) (x : Str) (ps : List Str) (sp : Sp) : Prop where
 ex : ∃ (f : Addr) (fd : FuncData),AN P w K mg base CX0 n f fd ps sp ∧ CQ K fd ps [] ∧ TX K (.ref f) = true ∧ mg x = some (.ref f)
theorem Am {X : Cx} {n k : Nat} {x : Str} {ps : List Str} {sp : Sp} {e : Expr} {es : List Expr} {t : TA} {p pos : Pos} (F : Fd X.prog X.w X.K X.mg X.base n x ps sp) (hr : C7 k X.A) (hg : Gl X x) (ha : PA X (e :: es) t) (hn : n ≤ k:=by decide)
 (hdb : (x == ("__debug__" : Str)) = false:=by decide) (he : starEach (e :: es) X.env = (false,eval e X.env) :: starEach es X.env:=by rfl) (hpl : (backTo pos (starEach es X.env)).any (·.1) = false:=by rfl) :
 PE X (.Call (.Name x p) (e :: es) [] pos) (M3 sp [] E0 t):=by
 obtain ⟨f,fd,F1,F2,F3,F4⟩:=F.ex
 exact Kd F1 (hr.mono hn) hg F4 F3 F2 .nil QA ha hdb he hpl
inductive Rds (K : Tq) (H : Hp) : V → PyData → Prop where
 | non : Rds K H .non .none
 | bl (b : Bool) : Rds K H (.bl b) (.bool b)
 | int (i : Int) : Rds K H (.int i) (.int i)
 | str (x : Str) : Rds K H (.str x) (.str x)
 | lst {a : Addr} {xs : List V} {ds : List PyData} : SqL K H a xs → xs.length = ds.length → (∀ (i : Nat) x d,xs[i]? = some x → ds[i]? = some d → Rds K H x d) → Rds K H (.ref a) (.list ds)
 | tup {a : Addr} {xs : List V} {ds : List PyData} : SqT K H a xs → xs.length = ds.length → (∀ (i : Nat) x d,xs[i]? = some x → ds[i]? = some d → Rds K H x d) → Rds K H (.ref a) (.tuple ds)
theorem Dx {h : Heap} : ∀ {us : List Value} {xs : List V} {ds : List PyData},AM xs us → xs.length = ds.length → (∀ (i : Nat) x d u,xs[i]? = some x → ds[i]? = some d → AZ x u → ∃ as,Reads h u d as) → ∃ as,ReadsAll h us ds as
 | [],_,[],.nil,_,_=>⟨[],.nil⟩
 | [],_,_ :: _,.nil,hl,_=>by simp at hl
 | _ :: _,_,[],.cons _ _,hl,_=>by simp at hl
 | u :: us,x :: xs,d :: ds,.cons r t,hl,hr=>by
   obtain ⟨a1,r1⟩:=hr 0 x d u rfl rfl r
   obtain ⟨a2,r2⟩:=Dx (us:=us) (xs:=xs) (ds:=ds) t (by simpa using hl) fun i x' d' u' e1 e2 q=>hr (i + 1) x' d' u' (by simpa using e1) (by simpa using e2) q
   exact ⟨_,.cons r1 r2⟩
theorem E6 {X : Cx} {pins : List (Addr × Obj)} {σ : St} {H : Hp} {s : Shared} (I : Inv X pins σ H s) {x : V} {d : PyData} (r : Rds X.K H x d) : ∀ {u : Value},AZ x u → ∃ as,Reads s.heap u d as:=by
 induction r with
 | non=>intro u ru; cases ru; exact ⟨_,.none⟩
 | bl b=>intro u ru; cases ru; exact ⟨_,.bool b⟩
 | int i=>intro u ru; obtain ⟨t,rfl⟩:=ru; exact ⟨_,.int i t⟩
 | str z=>intro u ru; obtain ⟨t,rfl⟩:=ru; exact ⟨_,.str z t⟩
 | lst q hl _ ih =>
   intro u ru
   cases ru
   obtain ⟨its,rv,⟨o,n,e,c,_,dd⟩,_⟩:=I.list q
   obtain ⟨as,ra⟩:=Dx rv hl fun i x d u e1 e2 rr=>ih i x d e1 e2 rr
   exact ⟨_,.list e c dd (by simpa using ra)⟩
 | tup q hl _ ih =>
   intro u ru
   cases ru
   obtain ⟨its,rv,⟨o,e,c,n,dd⟩,_⟩:=I.tuple q
   obtain ⟨as,ra⟩:=Dx rv hl fun i x d u e1 e2 rr=>ih i x d e1 e2 rr
   exact ⟨_,.tuple e c dd (by simpa using ra)⟩
section
variable {X : Cx}
@[irreducible] def EW (K : Tq) (neg : Bool) : R2:=fun x y H Q=>∃ d e,Rds K H x d ∧ Rds K H y e ∧ SeqAt.shaped d = true ∧ SeqAt.shaped e = true ∧ Q (.bl (if neg then !PyData.eqv d e else PyData.eqv d e)) H
theorem Ie {K : Tq} {neg : Bool} {x y : V} {H : Hp} {Q : VK} (h : ∃ d e,Rds K H x d ∧ Rds K H y e ∧ SeqAt.shaped d = true ∧ SeqAt.shaped e = true ∧ Q (.bl (if neg then !PyData.eqv d e else PyData.eqv d e)) H) : EW K neg x y H Q:=by
 unfold EW; exact h
theorem Pl (hu : X.A.units + 64 < cLine) : OpR X (compareOp .Eq) (EW X.K false):=by
 intro pins s σ H x y v u Q I rx ry h
 unfold EW at h
 obtain ⟨d,e,r1,r2,h1,h2,q⟩:=h
 obtain ⟨as,q1⟩:=E6 I r1 rx
 obtain ⟨bs,q2⟩:=E6 I r2 ry
 exact SeqAt.compareEq_shaped q1 q2 h1 h2 hu ⟨.bl _,H,I,rfl,q⟩
theorem Pk (hu : X.A.units + 64 < cLine) : OpR X (compareOp .NotEq) (EW X.K true):=by
 intro pins s σ H x y v u Q I rx ry h
 unfold EW at h
 obtain ⟨d,e,r1,r2,h1,h2,q⟩:=h
 obtain ⟨as,q1⟩:=E6 I r1 rx
 obtain ⟨bs,q2⟩:=E6 I r2 ry
 exact SeqAt.compareNe_shaped q1 q2 h1 h2 hu ⟨.bl _,H,I,rfl,q⟩
end
end L2
namespace L2
open PySem PySem.Spec PyProof.Rows
theorem AF : bootBuiltins "len" = some (.builtin "len"):=by decide +kernel
theorem Il : bootBuiltins "abs" = some (.builtin "abs"):=by decide +kernel
theorem AH : bootBuiltins "isinstance" = some (.builtin "isinstance"):=by decide +kernel
theorem Q5 : bootBuiltins "sum" = some (.builtin "sum"):=by decide +kernel
theorem Ft : bootBuiltins "list" = some (.type "list"):=by decide +kernel
theorem FY : bootBuiltins "tuple" = some (.type "tuple"):=by decide +kernel
theorem N6 : bootBuiltins "int" = some (.type "int"):=by decide +kernel
theorem Oa : bootBuiltins "bool" = some (.type "bool"):=by decide +kernel
theorem Jh : bootBuiltins "reversed" = some (.type "reversed"):=by decide +kernel
def Fx (H : Hp) (L : List (Addr × HO)) : Prop:=∀ p ∈ L,H p.1 = some p.2
def Mv (a : Addr) (H H' : Hp) : Prop:=∀ b o,b ≠ a → H b = some o → H' b = some o
theorem Mv.refl (a : Addr) (H : Hp) : Mv a H H:=fun _ _ _ h=>h
theorem Mv.trans {a : Addr} {H H1 H2 : Hp} (x : Mv a H H1) (y : Mv a H1 H2) : Mv a H H2:=fun b o n h=>y b o n (x b o n h)
theorem Mv.new {a p : Addr} {H : Hp} {o : HO} (h : H p = none) : Mv a H (upd H p o):=fun b u _ q=>by rw [Aw (AB q h)]; exact q
theorem KP {ns : List Int} {k : Int} (h0 : 0 ≤ k) (h : k < (ns.length : Int)) : ∃ v : Int,atI (ns.map V.int) k = some (.int v):=by
 have hk : k.toNat < ns.length:=by lia
 have ek : k = ((k.toNat : Nat) : Int):=by lia
 have q : atI (ns.map V.int) ((k.toNat : Nat) : Int) = some (.int ns[k.toNat]):=AR (by rw [Uc,V9 hk] <;> rfl)
 rw [← ek] at q
 exact ⟨_,q⟩
def nT (q : Rat) : HO:=.tup [.int q.num,.int q.den]
def Pen (H : Hp) (a : Addr) : Prop:=∃ c0 c1 c2 : Int,H a = some (.lst [.int c0,.int c1,.int c2])
theorem Pen.same {H : Hp} {a p : Addr} {o : HO} (x : Pen H a) (h : H p = none) : Pen (upd H p o) a:=by
 obtain ⟨c0,c1,c2,e⟩:=x
 exact ⟨c0,c1,c2,by rw [Aw (AB e h)]; exact e⟩
theorem Pen.put {H : Hp} {a : Addr} {c0 c1 c2 : Int} : Pen (upd H a (.lst [.int c0,.int c1,.int c2])) a:=⟨c0,c1,c2,Ae⟩
def Bq (i j : Int) : Prop:=(-(2 ^ 64) < i ∧ i < 2 ^ 64) ∨ (-(2 ^ 64) < j ∧ j < 2 ^ 64) ∨ Nd i j
theorem Bq.ok {i j : Int} (h : Bq i j) : IntMulOk i j:=by
 rcases h with ⟨h1,h2⟩ | ⟨h1,h2⟩ | h
 ·exact .of_left (intBits_le_64 h1 h2)
 ·exact .of_right (intBits_le_64 h1 h2)
 ·exact h.ok
theorem Aq {X : Cx} : OpR X (binaryOp .Mult) (rI Bq fun i j=>.int (i * j)):=opI fun _ _ _ _ _ _ _ hc q=>mul_int q hc.ok
def Ge (a : Addr) (H H' : Hp) : Prop:=∀ b,b ≠ a → H' b = H b
theorem Ge.mv {a : Addr} {H H' : Hp} (x : Ge a H H') : Mv a H H':=fun b o n h=>by rw [x b n]; exact h
theorem Ge.put {a : Addr} {H : Hp} {o : HO} : Ge a H (upd H a o):=fun b n=>Aw n
theorem Pen.ne {H : Hp} {a p : Addr} {o : HO} (x : Pen H a) (h : H p = some o) (hd : ∀ c0 c1 c2 : Int,o ≠ .lst [.int c0,.int c1,.int c2]) : p ≠ a:=by
 obtain ⟨c0,c1,c2,e⟩:=x
 exact CL h e (hd c0 c1 c2)
structure Lg (a : Addr) (H : Hp) (L : List (Addr × HO)) : Prop where
 fx : Fx H L
 ne : ∀ x ∈ L,x.1 ≠ a
 pen : Pen H a
theorem Ob {xs : List Int} {i : Int} (h0 : 0 ≤ i) (h : i < (xs.length : Int)) : ∃ v : Int,atI (xs.map V.int) i = some (.int v) ∧ v ∈ xs:=by
 have hk : i.toNat < xs.length:=by lia
 have ek : i = ((i.toNat : Nat) : Int):=by lia
 have q : atI (xs.map V.int) ((i.toNat : Nat) : Int) = some (.int xs[i.toNat]):=AR (by rw [Uc,V9 hk] <;> rfl)
 rw [← ek] at q
 exact ⟨_,q,Va hk⟩
theorem M9 {K : Tq} {H : Hp} {a p : Addr} {xs : List V} {o : HO} (hS : SqL K H a xs) (hp : H p = none) : SqL K (upd H p o) a xs:=by
 have st : ∀ u,H a = some u → upd H p o a = some u:=fun u e=>by rw [Aw (AB e hp)]; exact e
 rcases hS with (h | ⟨o,h⟩) | h
 ·exact .inl (.inl (st _ h))
 ·exact .inl (.inr ⟨o,st _ h⟩)
 ·exact .inr h
inductive EC (vs : List V) (H : Hp) (Q : VK) (E_3 : XK) : Prop
 | mk (a : Addr) (m : Int) (h1 : vs = [.ref a,.int m]) (h2 : Pen H a) (h3 : 1 ≤ m) (h4 : m < 1073741824) (h5 : ∀ (d : Int) (H' : Hp),0 ≤ d → d < m → Ge a H H' → Pen H' a → Q (.int d) H') : EC vs H Q E_3
inductive Mc (K : Tq) (vs : List V) (H : Hp) (Q : VK) (E_3 : XK) : Prop
 | mk (a : Addr) (ns : List Int) (k : Int) (h1 : vs = [.ref a,.int k]) (h2 : SqL K H a (ns.map V.int)) (h3 : ns.length ≤ 63) (h4 : 0 ≤ k) (h5 : k < 2 ^ 62) (h6 : ∀ (p : Addr) (c0 c1 : Int),H p = none → Q (.ref p) (upd H p (.lst [.int c0,.int c1,.int 0]))) : Mc K vs H Q E_3
inductive Cr (vs : List V) (H : Hp) (Q : VK) (E_3 : XK) : Prop
 | mk (t b : Int) (h1 : vs = [.int t,.int b]) (h2 : b ≠ 0) (h3 : ∀ p,H p = none → Q (.ref p) (upd H p (nT (UE t b)))) : Cr vs H Q E_3
inductive K6 (vs : List V) (H : Hp) (Q : VK) (E_3 : XK) : Prop
 | mk (a b : Int) (h1 : vs = [.int a,.int b]) (h2 : Q (.int (UC a b)) H) : K6 vs H Q E_3
inductive K4 (n : Nat) (vs : List V) (H : Hp) (Q : VK) (E_3 : XK) : Prop
 | mk (a : _) (h1 : vs = [.ref a]) (h2 : Pen H a) (h3 : ∀ (q : Rat) (r : Addr) (H' : Hp),Mv a H H' → Pen H' a → H' r = some (nT q) → Bd n q.num → Bd n q.den → Q (.ref r) H') : K4 n vs H Q E_3
inductive Iz (K : Tq) (vs : List V) (H : Hp) (Q : VK) (E_3 : XK) : Prop
 | mk (a : Addr) (ns : List Int) (h1 : vs = [.ref a]) (h2 : SqL K H a (ns.map V.int)) (h3 : ns.length ≤ 63) (h4 : ∀ H',Q (.bl true) H') : Iz K vs H Q E_3
def mu (i : Nat) (σ : St) : Nat:=match σ[i]? with | some (some (.int y))=>y.toNat | _=>0
theorem Bd.mono {m n : Nat} {x : Int} (h : Bd m x) (hmn : m ≤ n) : Bd n x:=Te h (Vb (by decide) hmn)
theorem Bd.num {n : Nat} {t b : Int} (h : Bd n t) : Bd n (UE t b).num:=by
 unfold Bd at *
 by_cases hb : b = 0
 ·subst hb; simp; exact Nat.pos_of_ne_zero (by simp)
 ·rw [← Nm.top_msr hb]
  exact Uy (PySem.natAbs_fdiv_le t _) h
theorem Bd.den {n : Nat} {t b : Int} (hb : b ≠ 0) (h : Bd n b) : Bd n (UE t b).den:=by
 unfold Bd at *
 rw [← Nm.bottom_msr hb]
 exact Uy (PySem.natAbs_fdiv_le b _) h
end L2
namespace L2
open PySem PySem.Spec PyProof.Rows
def He (K : Tq) (a : Addr) (xs : List V) : It :=
 ⟨fun i H=>SqL K H a xs ∧ i < xs.length,fun i H x H'=>H' = H ∧ xs[xs.length - 1 - i]? = some x,fun i _=>xs.length = i⟩
theorem LV {P : Program} {w : World} {K : Tq} {tg : Expr} (a it : Addr) (xs : List V) : Ip P w K tg (He K a xs) [it] it (fun i h=>i ≤ xs.length ∧ h.IsRevIter it a ((xs.length : Int) - 1 - (i : Int))) where
 mem:=by simp
 obj:=fun i h st b hb=>by
  have e : b = it:=by simpa using hb
  subst e
  obtain ⟨_,o,e,c,d⟩:=st
  exact ⟨o,e,fun v z=>by rw [d] at z; cases z⟩
 keep:=fun i h h' st k=>⟨st.1,st.2.at fun o e=>k it (by simp) o e⟩
 item:=by
  intro X hP hw hK hc i pins s σ H E I hf st hg
  subst hP hw hK
  obtain ⟨hq,hi⟩:=hg
  obtain ⟨its,rv,p,hz⟩:=I.list hq
  have hl:=rv.length
  have hx : xs[xs.length - 1 - i]? = some (xs[xs.length - 1 - i]'(by lia)):=V9 (by lia)
  obtain ⟨u,hu,ru⟩:=rv.get hx
  obtain ⟨f0,f1,f2,f3,f4,f5⟩:=hf it (by simp)
  have e : (xs.length : Int) - 1 - (i : Int) = ((xs.length - 1 - i : Nat) : Int):=by lia
  have st2:=st.2
  rw [e] at st2
  refine wpAny_pyNext_rev_item st2 p.isList (x:=u) (by simpa using hu) fun h' st' sb=>?_
  have I1 : Inv X pins σ H { s with heap:=h' }:=I.turned (t':=s.toks) (fun b o hb e=>(sb.2 b hb).trans e) f0 f1 f3 f4 f5
  obtain ⟨o,e',c,d⟩:=id st'
  have e2 : ((xs.length - 1 - i : Nat) : Int) - 1 = (xs.length : Int) - 1 - ((i + 1 : Nat) : Int):=by lia
  rw [e2] at st'
  exact ⟨u,rfl,FV (s:={ s with heap:=h' }) e' c d (by decide) ⟨_,H,I1,ru,⟨rfl,hx⟩,⟨hi,st'⟩,fun b hb=>(hf b hb).1⟩⟩
 done:=by
  intro X hP hw hK hc i pins s σ H E I hf st hg
  subst hP hw hK
  obtain ⟨f0,f1,f2,f3,f4,f5⟩:=hf it (by simp)
  have hg' : xs.length = i:=hg
  have st2:=st.2
  rw [show (xs.length : Int) - 1 - (i : Int) = -1 by lia] at st2
  exact wpAny_pyNext_rev_end (I.ok.hd hc) st2 fun h' eb=>⟨rfl,I.turned (t':=s.toks) (fun b o hb e=>eb b o hb e) f0 f1 f3 f4 f5⟩
 self:=fun _ _ _ _ _ st h=>wpAny_pyIter_revIter st.2 h
section
variable {X : Cx} {tg : Expr}
def QH (K : Tq) (tl : TE) : TI:=fun σ H R=>tl σ H fun x H1=>∃ v,[x] = [v] ∧ ∃ a xs,v = .ref a ∧ SqL K H1 a xs ∧ R (He K a xs) H1
theorem P8 {l : Expr} {tl : TE} {p pos : Pos} (hg : Gl X "reversed") (hm : X.mg "reversed" = none) (hl : PE X l tl) (hs : starEach [l] X.env = [(false,eval l X.env)]:=by rfl) : PI X tg (.Call (.Name "reversed" p) [l] [] pos) (QH X.K tl):=by
 intro pins s σ H R I h
 have ha : PA X [l] (M0 tl OM):=Aa hl Ab (by rw [hs]; rfl)
 refine Call_ (DB I hg hm Jh (PyProof.Rows.callWith_type1 (thn (ha pos pins s σ H (fun vs H1=>∃ x,vs = [x] ∧ ∃ a xs,x = .ref a ∧ SqL X.K H1 a xs ∧ R (He X.K a xs) H1) I h) fun us s1 ⟨vs,H1,I1,r1,q1⟩=>?_) hs rfl))
 obtain ⟨x,e0,a,xs,e,hq,q⟩:=q1
 subst e0
 subst e
 cases r1 with
 | cons r rr =>
   cases rr
   cases r
   obtain ⟨its,rv,p,hz⟩:=I1.list hq
   refine call_reversed_list p.isList ?_
   have I2 : Inv X pins σ H1 { s1 with heap:=s1.heap.push (revObj a ((its.toArray.size : Int) - 1)) }:=I1.kept (t':=s1.toks) fun b o e=>Heap.get?_push_of_some _ e
   have st : ({ s1 with heap:=s1.heap.push (revObj a ((its.toArray.size : Int) - 1)) } : Shared).heap.IsRevIter s1.heap.objs.size a ((xs.length : Int) - 1 - ((0 : Nat) : Int)):=by
    refine ⟨_,Heap.get?_push_size _ rfl,rfl,?_⟩
    have e : ((its.toArray.size : Nat) : Int) - 1 = (xs.length : Int) - 1 - ((0 : Nat) : Int):=by rw [Um,← rv.length]; simp
    show Data.fields #[.ref a,rawInt _] = _
    rw [e]
   refine wpAny_pyIter_revIter st ?_
   refine ⟨s1.heap.objs.size,[s1.heap.objs.size],_,_,H1,rfl,I2,LV a _ xs,⟨TQ _,st⟩,fun b hb=>?_,q⟩
   have e : b = s1.heap.objs.size:=by simpa using hb
   subst e
   exact I1.fpOk (TL _) (I1.hok.fresh (TL _))
end
theorem Kt {K : Tq} {a : Addr} {xs : List V} {g : TG} {tb : TS} {D : Dl} {σ : St} {H : Hp} (Pv : Nat → St → Hp → Prop) (h0 : Pv 0 σ H) (hl : ∀ i σ H,i ≤ xs.length → Pv i σ H → SqL K H a xs)
 (hs : ∀ i x σ H,i < xs.length → xs[xs.length - 1 - i]? = some x → Pv i σ H → g x σ H fun σ2 H2=>tb { D with nx:=Pv (i + 1),ct:=Pv (i + 1),bk:=D.nx } σ2 H2) (hd : ∀ σ H,Pv xs.length σ H → D.nx σ H) :
 ∃ W : Nat → Nat → St → Hp → Prop,(∃ m,W 0 m σ H) ∧ ∀ i m σ H,W i m σ H →
   ((He K a xs).stop i H ∧ D.nx σ H) ∨ ((He K a xs).go i H ∧ ∃ N : St → Hp → Prop,(∀ σ' H',N σ' H' → ∃ m',m' < m ∧ W (i + 1) m' σ' H') ∧ ∀ x H',(He K a xs).yld i H x H' → g x σ H' fun σ2 H2=>tb { D with nx:=N,ct:=N,bk:=D.nx } σ2 H2):=by
 refine ⟨fun i m σ H=>m = xs.length - i ∧ i ≤ xs.length ∧ Pv i σ H,⟨xs.length,by simp,TQ _,h0⟩,?_⟩
 rintro i m σ H ⟨rfl,hi,p⟩
 have q:=hl i σ H hi p
 by_cases hlt : i < xs.length
 ·refine .inr ⟨⟨q,hlt⟩,Pv (i + 1),fun σ' H' p'=>⟨xs.length - (i + 1),by lia,rfl,hlt,p'⟩,fun x H' y=>?_⟩
  obtain ⟨e,y⟩:=y
  subst e
  exact hs i x σ _ hlt y p
 ·have e : i = xs.length:=by lia
  subst e
  exact .inl ⟨rfl,hd σ H p⟩
end L2
namespace L2
open PySem PySem.Spec PyProof.Rows
theorem SqT.same {K : Tq} {H H' : Hp} {a : Addr} {xs : List V} (h : SqT K H a xs) (e : Ag H H') : SqT K H' a xs:=by
 rcases h with (h | ⟨o,h⟩) | h
 ·exact .inl (.inl (e _ _ h))
 ·exact .inl (.inr ⟨o,e _ _ h⟩)
 ·exact .inr h
theorem Ag.new {H : Hp} {p : Addr} {o : HO} (h : H p = none) : Ag H (upd H p o):=fun b u q=>by rw [Aw (AB q h)]; exact q
theorem Ag.mv {H H' : Hp} {a : Addr} (h : Ag H H') : Mv a H H':=fun b o _ q=>h b o q
theorem Paired.get {α β : Type} {F : α → β → Prop} : ∀ {l₁ : List α} {l₂ : List β} {i : Nat} {a : α},Paired F l₁ l₂ → l₁[i]? = some a → ∃ b,l₂[i]? = some b ∧ F a b
 | _,_,_,_,.nil,e=>by simp at e
 | _,_,0,_,.cons h _,e=>by simp at e; subst e; exact ⟨_,rfl,h⟩
 | _,_,i + 1,_,.cons _ t,e=>by
   obtain ⟨b,h1,h2⟩:=Paired.get (i:=i) t (by simpa using e)
   exact ⟨b,by simpa using h1,h2⟩
theorem Paired.get' {α β : Type} {F : α → β → Prop} : ∀ {l₁ : List α} {l₂ : List β} {i : Nat} {b : β},Paired F l₁ l₂ → l₂[i]? = some b → ∃ a,l₁[i]? = some a ∧ F a b
 | _,_,_,_,.nil,e=>by simp at e
 | _,_,0,_,.cons h _,e=>by simp at e; subst e; exact ⟨_,rfl,h⟩
 | _,_,i + 1,_,.cons _ t,e=>by
   obtain ⟨b,h1,h2⟩:=Paired.get' (i:=i) t (by simpa using e)
   exact ⟨b,by simpa using h1,h2⟩
theorem Paired.take {α β : Type} {F : α → β → Prop} : ∀ {l₁ : List α} {l₂ : List β} (n : Nat),Paired F l₁ l₂ → Paired F (l₁.take n) (l₂.take n)
 | _,_,0,_=>by simp; exact .nil
 | _,_,_ + 1,.nil=>.nil
 | _,_,n + 1,.cons h t=>.cons h (Paired.take n t)
theorem Paired.set {α β : Type} {F : α → β → Prop} {a : α} {b : β} (q : F a b) : ∀ {l₁ : List α} {l₂ : List β} (i : Nat),Paired F l₁ l₂ → Paired F (l₁.set i a) (l₂.set i b)
 | _,_,_,.nil=>.nil
 | _,_,0,.cons _ t=>.cons q t
 | _,_,i + 1,.cons h t=>.cons h (Paired.set q i t)
def AA (K : Tq) (H : Hp) (x : V) (q : Rat) : Prop:=∃ r,x = .ref r ∧ SqT K H r [.int q.num,.int q.den]
abbrev AS (K : Tq) (H : Hp) : List V → List Rat → Prop:=Paired (AA K H)
theorem AA.of {K : Tq} {H : Hp} {r : Addr} {q : Rat} (h : H r = some (nT q)) : AA K H (.ref r) q:=⟨r,rfl,SqT.of h⟩
theorem AA.same {K : Tq} {H H' : Hp} {x : V} {q : Rat} (h : AA K H x q) (e : Ag H H') : AA K H' x q:=by
 obtain ⟨r,rfl,h⟩:=h
 exact ⟨r,rfl,h.same e⟩
theorem AS.same {K : Tq} {H H' : Hp} {xs : List V} {qs : List Rat} (h : AS K H xs qs) (e : Ag H H') : AS K H' xs qs:=Paired.mapP h fun _ _ z=>z.same e
theorem SqT.mv {K : Tq} {H H' : Hp} {a p : Addr} {xs : List V} (h : SqT K H a xs) (pn : Pen H p) (m : Mv p H H') : SqT K H' a xs:=by
 obtain ⟨c0,c1,c2,e⟩:=pn
 rcases h with (h | ⟨o,h⟩) | h
 ·exact .inl (.inl (m _ _ (CL h e (fun z=>by cases z)) h))
 ·exact .inl (.inr ⟨o,m _ _ (CL h e (fun z=>by cases z)) h⟩)
 ·exact .inr h
theorem AA.mv {K : Tq} {H H' : Hp} {x : V} {q : Rat} {p : Addr} (h : AA K H x q) (pn : Pen H p) (m : Mv p H H') : AA K H' x q:=by
 obtain ⟨r,rfl,h⟩:=h
 exact ⟨r,rfl,h.mv pn m⟩
theorem AS.mv {K : Tq} {H H' : Hp} {xs : List V} {qs : List Rat} {p : Addr} (h : AS K H xs qs) (pn : Pen H p) (m : Mv p H H') : AS K H' xs qs:=Paired.mapP h fun _ _ z=>z.mv pn m
theorem SqT.put {K : Tq} {H : Hp} {a p : Addr} {xs ys : List V} {o : HO} (h : SqT K H a xs) (hp : H p = some (.lst ys)) : SqT K (upd H p o) a xs:=by
 rcases h with (h | ⟨u,h⟩) | h
 ·exact .inl (.inl (by rw [Aw (CL h hp (fun z=>by cases z))]; exact h))
 ·exact .inl (.inr ⟨u,by rw [Aw (CL h hp (fun z=>by cases z))]; exact h⟩)
 ·exact .inr h
theorem AA.put {K : Tq} {H : Hp} {x : V} {q : Rat} {p : Addr} {ys : List V} {o : HO} (h : AA K H x q) (hp : H p = some (.lst ys)) : AA K (upd H p o) x q:=by
 obtain ⟨r,rfl,h⟩:=h
 exact ⟨r,rfl,h.put hp⟩
theorem AS.put {K : Tq} {H : Hp} {xs : List V} {qs : List Rat} {p : Addr} {ys : List V} {o : HO} (h : AS K H xs qs) (hp : H p = some (.lst ys)) : AS K (upd H p o) xs qs:=Paired.mapP h fun _ _ z=>z.put hp
def Crv (K : Tq) (H : Hp) (r : Addr) (qs : List Rat) : Prop:=∃ xs,SqT K H r xs ∧ AS K H xs qs
theorem Crv.same {K : Tq} {H H' : Hp} {r : Addr} {qs : List Rat} (h : Crv K H r qs) (e : Ag H H') : Crv K H' r qs:=let ⟨xs,a,b⟩:=h; ⟨xs,a.same e,b.same e⟩
theorem Crv.mv {K : Tq} {H H' : Hp} {r p : Addr} {qs : List Rat} (h : Crv K H r qs) (pn : Pen H p) (m : Mv p H H') : Crv K H' r qs:=let ⟨xs,a,b⟩:=h; ⟨xs,a.mv pn m,b.mv pn m⟩
def nD (q : Rat) : PyData:=.tuple [.int q.num,.int q.den]
theorem AA.rds {K : Tq} {H : Hp} {x : V} {q : Rat} (h : AA K H x q) : Rds K H x (nD q):=by
 obtain ⟨r,rfl,h⟩:=h
 refine .tup h rfl fun i x d e1 e2=>?_
 match i with
 | 0=>simp at e1 e2; subst e1; subst e2; exact .int _
 | 1=>simp at e1 e2; subst e1; subst e2; exact .int _
 | i + 2=>simp at e1
theorem ME (p q : Rat) : PyData.eqv (nD p) (nD q) = decide (p = q):=by
 show (p.num == q.num && (((p.den : Int) == (q.den : Int)) && true)) = _
 rw [Bool.and_true,Bool.eq_iff_iff]
 simp only [Bool.and_eq_true,beq_iff_eq,decide_eq_true_eq]
 constructor
 ·rintro ⟨h1,h2⟩
  exact Rat.ext h1 (Int.ofNat.inj h2)
 ·rintro rfl
  exact ⟨rfl,rfl⟩
theorem HW : ∀ ps qs : List Rat,PyData.eqvAll (ps.map nD) (qs.map nD) = decide (ps = qs)
 | [],[]=>rfl
 | [],_ :: _=>rfl
 | _ :: _,[]=>rfl
 | p :: ps,q :: qs=>by
   show (PyData.eqv (nD p) (nD q) && PyData.eqvAll (ps.map nD) (qs.map nD)) = _
   rw [ME,HW ps qs,Bool.eq_iff_iff]
   simp
theorem GN (q : Rat) : SeqAt.shaped (nD q) = true:=by rfl
theorem AS.rds {K : Tq} {H : Hp} {xs : List V} {qs : List Rat} (h : AS K H xs qs) : ∀ (i : Nat) x d,xs[i]? = some x → (qs.map nD)[i]? = some d → Rds K H x d:=fun i x d e1 e2=>by
 obtain ⟨q,hq,hn⟩:=Paired.get h e1
 rw [Uc,hq] at e2
 cases e2
 exact hn.rds
theorem AS.rdsT {K : Tq} {H : Hp} {r : Addr} {xs : List V} {qs : List Rat} (h : AS K H xs qs) (s : SqT K H r xs) : Rds K H (.ref r) (.tuple (qs.map nD)):=.tup s (by rw [h.length,Ug]) h.rds
theorem AS.rdsL {K : Tq} {H : Hp} {r : Addr} {xs : List V} {qs : List Rat} (h : AS K H xs qs) (s : SqL K H r xs) : Rds K H (.ref r) (.list (qs.map nD)):=.lst s (by rw [h.length,Ug]) h.rds
theorem Kh : ∀ qs : List Rat,PyData.canLayAll0 (qs.map nD) = true
 | []=>rfl
 | q :: r=>by
   show (PyData.canLay0 (nD q) && PyData.canLayAll0 (r.map nD)) = true
   rw [Kh r]; rfl
theorem GL : ∀ qs : List Rat,PyData.depthAll (qs.map nD) ≤ 1
 | []=>TQ _
 | q :: r=>by
   have ih:=GL r
   show max (PyData.depth (nD q)) (PyData.depthAll (r.map nD)) ≤ 1
   exact Nat.max_le.mpr ⟨TL _,ih⟩
theorem HV (qs : List Rat) : SeqAt.shaped (.list (qs.map nD)) = true:=by
 show (PyData.canLayAll0 (qs.map nD) && decide (PyData.depthAll (qs.map nD) + 1 ≤ 64)) = true
 rw [Kh,Bool.true_and]
 exact decide_eq_true (by have:=GL qs; lia)
theorem Kg (qs : List Rat) : SeqAt.shaped (.tuple (qs.map nD)) = true:=HV qs
theorem eqN {K : Tq} {H : Hp} {x y : V} {p q : Rat} {Q : VK} {neg : Bool} (h1 : AA K H x p) (h2 : AA K H y q) (h : Q (.bl (if neg then !decide (p = q) else decide (p = q))) H) : EW K neg x y H Q :=
 Ie ⟨_,_,h1.rds,h2.rds,GN _,GN _,by rw [ME]; exact h⟩
theorem eqT {K : Tq} {H : Hp} {a b : Addr} {ps qs : List Rat} {Q : VK} {neg : Bool} (h1 : Crv K H a ps) (h2 : Crv K H b qs) (h : Q (.bl (if neg then !decide (ps = qs) else decide (ps = qs))) H) : EW K neg (.ref a) (.ref b) H Q:=by
 obtain ⟨xs,s1,n1⟩:=h1
 obtain ⟨ys,s2,n2⟩:=h2
 refine Ie ⟨_,_,n1.rdsT s1,n2.rdsT s2,Kg _,Kg _,?_⟩
 have e : PyData.eqv (.tuple (ps.map nD)) (.tuple (qs.map nD)) = decide (ps = qs):=HW ps qs
 rw [e]; exact h
theorem eqL {K : Tq} {H : Hp} {a b : Addr} {xs ys : List V} {ps qs : List Rat} {Q : VK} {neg : Bool} (s1 : SqL K H a xs) (n1 : AS K H xs ps) (s2 : SqL K H b ys) (n2 : AS K H ys qs) (h : Q (.bl (if neg then !decide (ps = qs) else decide (ps = qs))) H) : EW K neg (.ref a) (.ref b) H Q:=by
 refine Ie ⟨_,_,n1.rdsL s1,n2.rdsL s2,HV _,HV _,?_⟩
 have e : PyData.eqv (.list (ps.map nD)) (.list (qs.map nD)) = decide (ps = qs):=HW ps qs
 rw [e]; exact h
theorem K1 {c : TT} {tb : TS} {D : Dl} {σ : St} {H : Hp} (Pv : St → Hp → Prop) (μ : St → Hp → Nat) (h0 : Pv σ H)
 (hs : ∀ σ H,Pv σ H → c σ H fun b H1=>if b = true then ∃ N : St → Hp → Prop,(∀ σ' H',N σ' H' → ∃ m',m' < μ σ H ∧ (m' = μ σ' H' ∧ Pv σ' H')) ∧ tb { D with nx:=N,ct:=N,bk:=D.nx } σ H1 else D.nx σ H1) : Jw c tb D σ H:=by
 refine ⟨fun m σ H=>m = μ σ H ∧ Pv σ H,⟨_,rfl,h0⟩,?_⟩
 rintro m σ H ⟨rfl,p⟩
 exact hs σ H p
theorem K0 {tb : TS} {D : Dl} {σ : St} {H1 : Hp} {m : Nat} {Pv : St → Hp → Prop} {μ : St → Hp → Nat}
 (h : tb { D with nx:=fun σ' H'=>Pv σ' H' ∧ μ σ' H' < m,ct:=fun σ' H'=>Pv σ' H' ∧ μ σ' H' < m,bk:=D.nx } σ H1) :
 ∃ N : St → Hp → Prop,(∀ σ' H',N σ' H' → ∃ m',m' < m ∧ (m' = μ σ' H' ∧ Pv σ' H')) ∧ tb { D with nx:=N,ct:=N,bk:=D.nx } σ H1 :=
 ⟨_,fun _ _ ⟨p,l⟩=>⟨_,l,rfl,p⟩,h⟩
def RB (n : Nat) (q : Rat) : Prop:=Bd n q.num ∧ Bd n (q.den : Int)
theorem Bd.mul {m n : Nat} {x y : Int} (h1 : Bd m x) (h2 : Bd n y) : Bd (m + n) (x * y):=by
 unfold Bd at *
 rw [Vc,Vd]
 exact Nat.mul_lt_mul'' h1 h2
theorem Bd.add {n : Nat} {x y : Int} (h1 : Bd n x) (h2 : Bd n y) : Bd (n + 1) (x + y):=by
 unfold Bd at *
 rw [Ve,Nat.mul_two]
 exact Uy (Vf x y) (Nat.add_lt_add h1 h2)
theorem Bd.sub {n : Nat} {x y : Int} (h1 : Bd n x) (h2 : Bd n y) : Bd (n + 1) (x - y):=by
 rw [Vg]
 exact Bd.add h1 (by unfold Bd; rw [Int.natAbs_neg]; exact h2)
theorem Bd.fdiv {n : Nat} {x y : Int} (h : Bd n x) : Bd n (x.fdiv y):=Uy (PySem.natAbs_fdiv_le x y) h
theorem Bq.bd {m n : Nat} {x y : Int} (h1 : Bd m x) (h2 : Bd n y) (h : m + n ≤ 134217728:=by lia) : Bq x y:=.inr (.inr ⟨m,n,h1,h2,h⟩)
theorem RB.mono {m n : Nat} {q : Rat} (h : RB m q) (hmn : m ≤ n) : RB n q:=⟨h.1.mono hmn,h.2.mono hmn⟩
theorem RB.div {m n : Nat} {t b : Int} (h1 : Bd n t) (h2 : Bd n b) (hb : b ≠ 0) : RB n (UE t b):=⟨Bd.num h1,Bd.den hb h2⟩
theorem Iy : ∀ {us : List Value} {xs : List V},us.map LN = xs.map some → (∀ u ∈ us,∀ x,LN u = some x → AZ x u) → AM xs us
 | [],[],_,_=>.nil
 | [],_ :: _,e,_=>by simp at e
 | _ :: _,[],e,_=>by simp at e
 | u :: us,x :: xs,e,h=>by
   simp only [Uw,List.cons.injEq] at e
   exact .cons (h u Tu x e.1) (Iy e.2 fun v hv=>h v (Tv _ hv))
theorem Nb {u : Value} {x : V} (h : LN u = some x) : AZ x u:=by
 cases u <;> first | (cases h; rfl) | (cases h; exact ⟨_,rfl⟩) | cases h
theorem LH {K : Tq} {H : Hp} {a : Addr} {o : Obj} {vs : Array Value} {n : Nat} {q : Rat} (hk : K.lookup a = some o) (hc : o.cls = .type "tuple") (hd : o.data = .seq vs n) (e : vs.toList.map LN = [some (.int q.num),some (.int (q.den : Int))]) : SqT K H a [.int q.num,.int q.den]:=by
 refine .inr ⟨o,vs,n,hk,hc,hd,?_,Iy e fun u _ x h=>Nb h⟩
 have hl:=congrArg U7 e
 simp at hl
 rw [hl]; decide
theorem RB.plus {m n : Nat} {p q : Rat} (h1 : RB m p) (h2 : RB n q) : RB (m + n + 1) (p + q):=by
 rw [← Nm.plus_eq]
 refine ⟨Bd.num (Bd.add (h1.1.mul h2.2) ((h2.1.mul h1.2).mono (by lia))),Bd.den (UL (Nm.den_ne p) (Nm.den_ne q)) ((h1.2.mul h2.2).mono (by lia))⟩
theorem RB.minus {m n : Nat} {p q : Rat} (h1 : RB m p) (h2 : RB n q) : RB (m + n + 1) (p - q):=by
 rw [← Nm.minus_eq]
 refine ⟨Bd.num (Bd.sub (h1.1.mul h2.2) ((h2.1.mul h1.2).mono (by lia))),Bd.den (UL (Nm.den_ne p) (Nm.den_ne q)) ((h1.2.mul h2.2).mono (by lia))⟩
theorem RB.times {m n : Nat} {p q : Rat} (h1 : RB m p) (h2 : RB n q) : RB (m + n) (p * q):=by
 rw [← Nm.times_eq]
 exact ⟨Bd.num (h1.1.mul h2.1),Bd.den (UL (Nm.den_ne p) (Nm.den_ne q)) (h1.2.mul h2.2)⟩
theorem RB.zero {n : Nat} (h : 1 ≤ n) : RB n 0:=⟨(show Bd 1 0 by unfold Bd; decide).mono h,(show Bd 1 1 by unfold Bd; decide).mono h⟩
theorem RB.one {n : Nat} (h : 1 ≤ n) : RB n 1:=⟨(show Bd 1 1 by unfold Bd; decide).mono h,(show Bd 1 1 by unfold Bd; decide).mono h⟩
inductive Cs (K : Tq) (g : Rat → Rat → Rat) (vs : List V) (H : Hp) (Q : VK) (E_3 : XK) : Prop
 | mk (x y : V) (p q : Rat) (m n : Nat) (h1 : vs = [x,y]) (h2 : AA K H x p) (h3 : AA K H y q) (h4 : RB m p) (h5 : RB n q) (h6 : m + n ≤ 100000000) (h7 : ∀ r,H r = none → Q (.ref r) (upd H r (nT (g p q)))) : Cs K g vs H Q E_3
end L2
namespace L2
open PySem PySem.Spec PyProof.Rows
def Sq (b : Bool) (K : Tq) (H : Hp) (a : Addr) (xs : List V) : Prop:=match b with
 | true=>SqL K H a xs
 | false=>SqT K H a xs
theorem Le {X : Cx} {tg l : Expr} {w1 w2 : TI} (h1 : PI X tg l w1) (h2 : PI X tg l w2) : PI X tg l (fun σ H R=>w1 σ H R ∨ w2 σ H R):=fun pins s σ H R I h=>by
 rcases h with h | h
 ·exact h1 pins s σ H R I h
 ·exact h2 pins s σ H R I h
abbrev PR (K : Tq) (tl : TE) : TI:=fun σ H R=>GV K tl σ H R ∨ QE K tl σ H R
theorem O1 {K : Tq} {b : Bool} {a : Addr} {n : Nat} {xs : List V} {g : TG} {tb : TS} {D : Dl} {σ : St} {H : Hp} (hσ : σ[n]? = some (some (.ref a))) (Pv : Nat → St → Hp → Prop) (h0 : Pv 0 σ H) (hl : ∀ i σ H,i ≤ xs.length → Pv i σ H → Sq b K H a xs)
 (hs : ∀ i x σ H,xs[i]? = some x → Pv i σ H → g x σ H fun σ2 H2=>tb { D with nx:=Pv (i + 1),ct:=Pv (i + 1),bk:=D.nx } σ2 H2) (hd : ∀ σ H,Pv xs.length σ H → D.nx σ H) :
 ON (PR K (FA n)) g tb D σ H:=by
 have q:=hl 0 σ H (TQ _) h0
 cases b with
 | true=>exact .inl ⟨_,hσ,a,rfl,⟨xs,q⟩,J1 Pv h0 hl hs hd⟩
 | false=>exact .inr ⟨_,hσ,a,rfl,⟨xs,q⟩,O0 Pv h0 hl hs hd⟩
theorem JL {K : Tq} {b : Bool} {a : Addr} {n : Nat} {js : List Nat} {xs : List V} {te : TE} {σ : St} {H : Hp} {Q : VK} (hσ : σ[n]? = some (some (.ref a))) (Pv : Nat → List V → Hp → Prop) (h0 : Pv 0 [] H)
 (hl : ∀ i zs H,i ≤ xs.length → Pv i zs H → Sq b K H a xs ∧ zs.length = i) (hz : xs.length ≤ sizeLine)
 (hs : ∀ i x zs H,xs[i]? = some x → Pv i zs H → te ((cS 1 js σ).set 0 (some x)) H fun y H4=>Pv (i + 1) (zs ++ [y]) H4) (fin : ∀ zs H',Pv xs.length zs H' → ∀ p,H' p = none → Q (.ref p) (upd H' p (.lst zs))) :
 tLC (PR K (FA n)) 1 js (C6 0) LY te σ H Q:=by
 have q:=(hl 0 [] H (TQ _) h0).1
 cases b with
 | true =>
   refine Ca (.inl ⟨_,hσ,a,rfl,⟨xs,q⟩,xs.length,Pv,h0,⟨?_,?_,?_⟩⟩)
   ·intro i zs H' hi p
    have hle:=Ts hi
    obtain ⟨h1,h2⟩:=hl i zs H' hle p
    exact ⟨⟨xs,xs[i],h1,by simp [hi]⟩,by lia⟩
   ·rintro i zs H' x H1 hi p ⟨rfl,y⟩
    have hle:=Ts hi
    have hx:=y xs (hl i zs _ hle p).1
    exact hs i x zs _ hx p
   ·intro zs H' p
    have hle:=TL xs.length
    obtain ⟨h1,h2⟩:=hl _ zs H' hle p
    exact ⟨⟨xs,h1,TL _⟩,by lia,fin zs H' p⟩
 | false =>
   refine Ca (.inr ⟨_,hσ,a,rfl,⟨xs,q⟩,xs.length,Pv,h0,⟨?_,?_,?_⟩⟩)
   ·intro i zs H' hi p
    have hle:=Ts hi
    obtain ⟨h1,h2⟩:=hl i zs H' hle p
    exact ⟨⟨xs,xs[i],h1,by simp [hi]⟩,by lia⟩
   ·rintro i zs H' x H1 hi p ⟨rfl,y⟩
    have hle:=Ts hi
    have hx:=y xs (hl i zs _ hle p).1
    exact hs i x zs _ hx p
   ·intro zs H' p
    have hle:=TL xs.length
    obtain ⟨h1,h2⟩:=hl _ zs H' hle p
    exact ⟨⟨xs,h1,TL _⟩,by lia,fin zs H' p⟩
section
variable {X : Cx} (K : Tq)
theorem ixT (e : X.K = K:=by rfl) : IxR X (OX K):=by subst e; exact PN
theorem ixL (e : X.K = K:=by rfl) : IxR X (OY K):=by subst e; exact NR
theorem eqD (hu : X.A.units + 64 < cLine) (e : X.K = K:=by rfl) : OpR X (compareOp .Eq) (EW K false):=by subst e; exact Pl hu
theorem neD (hu : X.A.units + 64 < cLine) (e : X.K = K:=by rfl) : OpR X (compareOp .NotEq) (EW K true):=by subst e; exact Pk hu
theorem slL (e : X.K = K:=by rfl) : SlR X (OW K):=by subst e; exact Nw
inductive TyX (K : Tq) (H : Hp) : V → Value → Prop where
 | of {x : V} {t : Value} (h : ES K H x t) : TyX K H x t
 | tup {a : Addr} {xs : List V} (h : SqT K H a xs) : TyX K H (.ref a) (.type "tuple")
 | lst {a : Addr} {xs : List V} (h : SqL K H a xs) : TyX K H (.ref a) (.type "list")
inductive QR (xs : List V) (H : Hp) (Q : VK) : Prop
 | mk (x : _) (T : _) (t : _) (b : _) (h1 : xs = [x,.ty T]) (h2 : TyX K H x t) (h3 : TY K t (.type T) = some b) (h4 : Q (.bl b) H) : QR xs H Q
theorem PQ (e : X.K = K:=by rfl) : Dg X (.builtin "isinstance") (QR K):=by
 subst e
 intro pins s σ H xs us Q I r h
 obtain ⟨x,T,t,b,rfl,ty,e,q⟩:=h
 obtain ⟨u,w',rfl,rx,rT⟩:=Og r
 cases rT
 cases ty with
 | of ty=>exact Lv I rx ty e fun tk=>⟨.bl b,H,I.tok _,rfl,q⟩
 | tup hq =>
   cases rx
   obtain ⟨its,rv,⟨o,e1,c,_⟩,_⟩:=I.tuple hq
   exact TZ PySem.W.kitx_tuple I.kIn ⟨o,e1,c⟩ e (fun z=>nomatch z) fun tk=>⟨.bl b,H,I.tok _,rfl,q⟩
 | lst hq =>
   cases rx
   obtain ⟨its,rv,⟨o,n,e1,c,_⟩,_⟩:=I.list hq
   exact TZ U0 I.kIn ⟨o,e1,c⟩ e (fun z=>nomatch z) fun tk=>⟨.bl b,H,I.tok _,rfl,q⟩
inductive QQ (xs : List V) (H : Hp) (Q : VK) : Prop
 | mk (p : _) (ys : _) (h1 : xs = [.ref p]) (h2 : (SqL K H p ys ∨ SqT K H p ys)) (h3 : Q (.int ys.length) H) : QQ xs H Q
theorem Bt (e : X.K = K:=by rfl) : Dg X (.builtin "len") (QQ K):=by subst e; exact fun pins s σ H xs us Q I r ⟨p,ys,h1,h2,h3⟩=>Ik pins s σ H xs us Q I r ⟨p,ys,h1,h2,h3⟩
inductive OE (xs : List V) (H : Hp) (Q : VK) : Prop
 | mk (p : _) (ys : _) (h1 : xs = [.ref p]) (h2 : (SqL K H p ys ∨ SqT K H p ys)) (h3 : ∀ l,H l = none → Q (.ref l) (upd H l (.lst ys))) : OE xs H Q
theorem Oq (e : X.K = K:=by rfl) : Dg X (.type "list") (OE K):=by subst e; exact fun pins s σ H xs us Q I r ⟨p,ys,h1,h2,h3⟩=>Ij pins s σ H xs us Q I r ⟨p,ys,h1,h2,h3⟩
inductive N5 (xs : List V) (H : Hp) (Q : VK) : Prop
 | mk (p : _) (ys : _) (h1 : xs = [.ref p]) (h2 : ((SqL K H p ys ∧ ∀ l,H l = none → Q (.ref l) (upd H l (.tup ys))) ∨ (SqT K H p ys ∧ Q (.ref p) H))) : N5 xs H Q
theorem Ju (e : X.K = K:=by rfl) : Dg X (.type "tuple") (N5 K):=by subst e; exact fun pins s σ H xs us Q I r ⟨p,ys,h1,h2⟩=>GA pins s σ H xs us Q I r ⟨p,ys,h1,h2⟩
variable {tg l : Expr} {tl : TE}
theorem piL (hl : PE X l tl) (e : X.K = K:=by rfl) : PI X tg l (GV K tl):=by subst e; exact Kc hl
theorem piS (hl : PE X l tl) (e : X.K = K:=by rfl) : PI X tg l (PR K tl):=by subst e; exact Le (Kc hl) (P7 hl)
theorem Ol {p pos : Pos} (hg : Gl X "reversed") (hm : X.mg "reversed" = none) (hl : PE X l tl) (hs : starEach [l] X.env = [(false,eval l X.env)]:=by rfl) (e : X.K = K:=by rfl) : PI X tg (.Call (.Name "reversed" p) [l] [] pos) (QH K tl):=by subst e; exact P8 hg hm hl hs
theorem pgT {es : List Expr} {k : Nat} {t : TGs} {n : Nat} {pos : Pos} (hc : X.calm = true) (h : PGs X es t) (hn : (assignEach es X.env).length = n:=by rfl) (hst : (assignEach es X.env).findIdx? (·.1) = none:=by rfl) (e : X.K = K:=by rfl) : PG X (.Tuple es k pos) (LD K n t):=by subst e; exact P9 hc h hn hst
end
end L2
namespace L2
open PySem PySem.Spec PyProof.Rows
inductive KS (K : Tq) (H : Hp) : V → Bool → Prop where
 | int (i : Int) : KS K H (.int i) true
 | bl (b : Bool) : KS K H (.bl b) false
 | oth {x : V} {t : Value} (ty : TyX K H x t) (h : TY K t (.type "int") = some false) : KS K H x false
inductive Hi (K : Tq) (vs : List V) (H : Hp) (Q : VK) (E_3 : XK) : Prop
 | mk (x : _) (b : _) (h1 : vs = [x]) (h2 : KS K H x b) (h3 : Q (.bl b) H) : Hi K vs H Q E_3
theorem Pw (K : Tq) : TY K (.type "int") (.type "int") = some true:=by kernel_rfl
theorem Px (K : Tq) : TY K (.type "int") (.type "bool") = some false:=by kernel_rfl
theorem Py (K : Tq) : TY K (.type "bool") (.type "int") = some true:=by kernel_rfl
theorem Pz (K : Tq) : TY K (.type "bool") (.type "bool") = some true:=by kernel_rfl
theorem JM {lo : Int} {n : Nat} {js : List Nat} {te : TE} {σ : St} {H : Hp} {Fin : List V → Hp → Prop} (Pv : Nat → List V → Hp → Prop) (h0 : Pv 0 [] H) (hl : ∀ i zs H,i ≤ n → Pv i zs H → zs.length = i) (hz : n ≤ sizeLine)
 (hs : ∀ i zs H,i < n → Pv i zs H → te ((cS 1 js σ).set 0 (some (.int (lo + i)))) H fun y H4=>Pv (i + 1) (zs ++ [y]) H4) (fin : ∀ zs H',Pv n zs H' → Fin zs H') :
 ∃ (n' : Nat) (W : Nat → List V → Hp → Prop),W 0 [] H ∧ LcW (Itr lo n) n' 1 js σ (C6 0) LY te Fin W:=by
 refine ⟨n,Pv,h0,⟨?_,?_,?_⟩⟩
 ·intro i zs H' hi p
  have:=hl i zs H' (Ts hi) p
  exact ⟨hi,by lia⟩
 ·rintro i zs H' x H1 hi p ⟨rfl,rfl⟩
  exact hs i zs _ hi p
 ·intro zs H' p
  have:=hl n zs H' (TL _) p
  exact ⟨TL _,by lia,fin zs H' p⟩
theorem Df {α : Type} {xs : List α} {v : α} (h : xs[xs.length - 1]? = some v) : atI xs (-1) = some v:=by
 have hl : xs.length - 1 < xs.length:=(TC.mp h).1
 have e : ixN xs.length (-1) = some (xs.length - 1):=by
  unfold ixN
  rw [if_neg (by decide),if_pos (by lia)]
  congr 1
  lia
 unfold atI
 rw [e]
 exact h
def AO (qs : List Rat) : Prop:=qs = [] ∨ ∃ q,qs[qs.length - 1]? = some q ∧ q ≠ 0
theorem Bb (qs : List Rat) : AO (Cv.strip qs):=by
 by_cases h : Cv.strip qs = []
 ·exact .inl h
 ·have hl : 0 < (Cv.strip qs).length:=UQ.mpr h
  have e:=V9 (l:=Cv.strip qs) (i:=(Cv.strip qs).length - 1) (by lia)
  refine .inr ⟨_,e,fun z=>Cv.strip_last qs h ?_⟩
  rw [e,z]
theorem Pen.sm {H H' : Hp} {p : Addr} (h : Pen H p) (e : Ag H H') : Pen H' p:=let ⟨c0,c1,c2,z⟩:=h; ⟨c0,c1,c2,e _ _ z⟩
theorem IC {K : Tq} {H : Hp} {x : V} {q : Rat} (h : AA K H x q) : ∀ n : Nat,AS K H (U5 n [x]).flatten (U5 n q)
 | 0=>.nil
 | n + 1=>by
   rw [Uq,Ur,Uq]
   exact .cons h (IC h n)
theorem Ce {ns : List Int} {i : Nat} {t : Int} {k : Int} (h : ns[i]? = some t) (e : k = (i : Int)) : atI (ns.map V.int) k = some (.int t):=by
 subst e
 exact AR (by rw [Uc,h]; rfl)
theorem Ei {n i : Nat} {k : Int} (h : i < n) (e : k = (i : Int)) : ixN n k = some i:=by
 subst e
 unfold ixN
 rw [if_pos (by lia),if_pos (by lia),Uk]
theorem Ag.put {H H' : Hp} {p : Addr} {o : HO} (h : Ag H H') (hp : H p = none) : Ag H (upd H' p o):=fun b u q=>by rw [Aw (AB q hp)]; exact h b u q
def Up (c M : Nat) (t : Int) : Prop:=t.natAbs ≤ c * 2 ^ M
theorem Up.bd {c k M : Nat} {t : Int} (h : Up c M t) (hc : c < 2 ^ k) : Bd (M + k) t:=by
 unfold Up at h
 unfold Bd
 rw [Vd,Uv (2 ^ M)]
 exact Uy h (Nat.mul_lt_mul_of_pos_right hc (Nat.pow_pos (by decide)))
theorem Up.add {c M : Nat} {t d : Int} (h : Up c M t) (hd : Bd M d) : Up (c + 1) M (t + d):=by
 unfold Up at *
 unfold Bd at hd
 rw [Vh,Vi]
 exact Tr (Vf t d) (Nat.add_le_add h (Ts hd))
theorem Up.mono {c c' M : Nat} {t : Int} (h : Up c M t) (hc : c ≤ c') : Up c' M t:=Tr h (Vj _ hc)
end L2
namespace L2
open PySem PySem.Spec PyProof.Rows
def CX1 (P : Program) (w : World) : CXT:=fun outer H s E e s'=>∃ (ea : Addr) (cls a0 : Value) (B : Heap) (H' : Hp),e = .ref ea ∧ s'.os = s.os ∧ AllBare s'.gens ∧ Un (frs outer) [] H H' s.heap s'.heap ∧ HOk P w H' s'.heap ∧
 Heap.FlyingW B outer ea cls a0 s'.heap ∧ (∀ b o,s.heap.get? b = some o → b ∉ frs outer → ∃ o',B.get? b = some o') ∧ (∀ b u,H' b = some u → ∃ o',B.get? b = some o') ∧ E cls none H'
theorem Bh.got {P : Program} {w : World} {H : Hp} {h : Heap} {a : Addr} {o : HO} (x : Bh P w H h a o) : ∃ ob,h.get? a = some ob:=by
 induction o with
 | lst xs=>obtain ⟨_,_,_,_,e⟩:=x; exact ⟨_,e⟩
 | tup xs=>obtain ⟨_,_,_,ob,e,_⟩:=x; exact ⟨_,e⟩
 | dK kvs=>obtain ⟨_,_,_,_,ob,_,_,e,_⟩:=x; exact ⟨_,e⟩
 | dT kvs=>obtain ⟨_,_,_,_,ob,_,_,e,_⟩:=x; exact ⟨_,e⟩
 | set S n=>obtain ⟨ob,_,_,_,e,_⟩:=x; exact ⟨_,e⟩
 | ins C dx fs=>obtain ⟨_,_,_,e,_⟩:=x; exact ⟨_,e⟩
 | own y=>exact x
 | xd fs=>obtain ⟨_,⟨ob,_,_,e,_⟩,_⟩:=x; exact ⟨_,e⟩
 | met f y=>exact ⟨_,x⟩
 | rng lo hi=>obtain ⟨_,_,_,e⟩:=x; exact ⟨_,e⟩
 | frz ob u ih=>exact ⟨_,x.1⟩
 | tbl ps=>exact ⟨_,x⟩
 | ext φ=>exact x.2.1
section
variable {X : Cx} {pins : List (Addr × Obj)} {σ : St} {H H' : Hp} {s s' : Shared} {B : Heap}
theorem Inv.flown {h2 : Heap} {toks : Nat} (I : Inv X pins σ H s) (un : Un (frs X.stack) [] H H' s.heap s'.heap) (hok : HOk X.prog X.w H' s'.heap) (os : s'.os = s.os) (bare : AllBare s'.gens)
 (hs : ∀ b o,B.get? b = some o → s'.heap.get? b = some o) (k1 : ∀ b o,s.heap.get? b = some o → b ∉ frs X.stack → ∃ o',B.get? b = some o') (k2 : ∀ b u,H' b = some u → ∃ o',B.get? b = some o')
 (h2s : ∀ b o,B.get? b = some o → h2.get? b = some o) (sl : ∀ b o,b ∈ frs X.stack → s'.heap.get? b = some o → ∃ z,h2.get? b = some { o with slots:=z }) : Inv X pins σ H' { s' with heap:=h2,toks:=toks }:=by
 have key : ∀ b o,s'.heap.get? b = some o → (∃ o',B.get? b = some o') → h2.get? b = some o:=fun b o e ⟨o',q⟩=>by
  have:=hs b o' q
  rw [e] at this
  cases this
  exact h2s b o q
 refine I.call' (ch:=[]) os ⟨fun b o e n nb nx=>key b o (un.keep b o e n nb nx) (k1 b o e nb),fun b o e n nb nx=>?_,un.free,fun b o e nx=>?_,un.tups,un.frzs,un.tbls⟩ (fun b u e=>?_) bare (fun _ z=>nomatch z)
 ·obtain ⟨z,q⟩:=un.slot b o e n nb nx
  obtain ⟨z',q'⟩:=sl b _ nb q
  exact ⟨z',q'⟩
 ·obtain ⟨o',q⟩:=un.there b o e nx
  by_cases hb : b ∈ frs X.stack
  ·obtain ⟨z',q'⟩:=sl b _ hb q
   exact ⟨_,q'⟩
  ·exact ⟨_,key b o' q (k1 b o e hb)⟩
 ·refine (hok b u e).stay (fun c v hc q=>key c v q ?_) (fun _ q=>q) fun _ _ q=>q
  rcases hc with rfl | z
  ·exact k2 _ u e
  ·exact k2 c _ z
theorem NY (h : Heap) (l : List Env) : ∀ env ∈ l,∀ b,env.frame = some b → b ∈ frs l:=fun env he b hb=>TM.mpr ⟨env,he,hb⟩
theorem Inv.slots {h2 : Heap} (hf : s'.heap.FunFrames B X.stack) (u : s'.heap.UpToSlots h2) : ∀ b o,b ∈ frs X.stack → s'.heap.get? b = some o → ∃ z,h2.get? b = some { o with slots:=z }:=fun b o hb e=>by
 obtain ⟨_,o',e',nf⟩:=hf.mem hb
 rw [e] at e'
 cases e'
 exact u b o e nf
end
section
variable {P : Program} {w : World} {K : Tq} {mg : Str → Option Value} {base : Heap} {N : List Str} {qual : Str} {scope : Scope} {f : Addr} {cd : Value} {A : Around} {outer : List Env} {s : Shared} {H : Hp} {E : XK}
end
structure Oe (K : Tq) (x : Str) (C : Addr) : Prop where
 ns : Vk K mainGlobals x = some (some (.ref C))
 ob : ∃ bm N nm q bs hdct sn sub ab col dd k0 k1 k2 k3 k5,K.lookup C = some (excClassObj nm q C N bs bm hdct sn sub ab col dd k0 k1 k2 k3 k5 "ValueError.__new__")
 ex : PySem.W.excIn K C [.type "ValueError",.type "Exception",.type "BaseException",.type "object"] "ValueError.__new__" = true
def OL (E : XK) (C : Addr) (t : TA) : TS:=fun _ σ H=>t σ H fun xs H1=>xs.length ≤ sizeLine ∧ E (.ref C) none H1
def OH (X : Cx) (E : XK) : Prop:=∀ (pins : List (Addr × Obj)) (σ : St) (H1 : Hp) (s1 : Shared) (h2 : Heap) (ea : Addr) (cls : Value) (vs : List Value),Inv X pins σ H1 s1 → Heap.MadeExcOf s1.heap h2 ea cls vs → E cls none H1 → X.xe (.ref ea) { s1 with heap:=h2 }
theorem Pj {K : Tq} {h : Heap} {mg : Str → Option Value} {x : Str} {C : Addr} (X : K.In h) (g : h.Ns mainGlobals mg) (c : Oe K x C) : OwnCls x C [.type "ValueError",.type "Exception",.type "BaseException",.type "object"] "ValueError.__new__" mg h:=by
 obtain ⟨bm,N,nm,q,bs,hdct,sn,sub,ab,col,dd,k0,k1,k2,k3,k5,l⟩:=c.ob
 have ex:=c.ex
 unfold PySem.W.excIn at ex
 rw [l] at ex
 simp only [excClassObj,Bool.and_eq_true,beq_iff_eq] at ex
 exact ⟨Vl X g c.ns,bm,N,nm,q,bs,hdct,sn,sub,ab,col,dd,k0,k1,k2,k3,k5,_,X _ _ l,.of_isNs (PySem.W.isNs_of_in X ex.1.2),PySem.W.nsMap_none_of_in X ex.1.2 ex.2,PySem.W.tail_of_in X ex.1.1.2⟩
theorem Mm {X : Cx} {E : XK} {x : Str} {C : Addr} {np cpos pos : Pos} {e₀ : Expr} {rest : List Expr} {t : TA} (c : Oe X.K x C) (hg : Gl X x) (hM : OH X E) (hc : X.calm = true) (ha : PA X (e₀ :: rest) t)
 (hdb : (x == ("__debug__" : Str)) = false:=by decide) (he : starEach (e₀ :: rest) X.env = (false,eval e₀ X.env) :: starEach rest X.env:=by rfl) (hpl : (backTo cpos (starEach rest X.env)).any (·.1) = false:=by rfl) :
 PS X (.Raise (some (.Call (.Name x np) (e₀ :: rest) [] cpos)) none pos) (OL E C t):=by
 intro pins s σ H D I h
 have O:=Pj I.mod.kin I.mod.glob c
 obtain ⟨tl,N,nm,q,bs,hdct,sn,sub,ab,col,dd,k0,k1,k2,k3,k5,mN,hC,hN,hni,T⟩:=O.obj
 have FB:=PySem.F.excBase_ValueError
 refine wpAny_Raise_call_subT (C:=C) (nm:=nm) (q:=q) (N:=N) (bs:=bs) (bm:=tl) (hdct:=hdct) (sn:=sn) (sub:=sub) (ab:=ab) (col:=col) (dd:=dd) (k0:=k0) (k1:=k1) (k2:=k2) (k3:=k3) (k5:=k5)
  FB (mN:=mN) (T.hasType FB.hasBase) (I.ok.hd hc) (by rw [he]; show (false || (backTo cpos (starEach rest X.env)).any (·.1)) = false; rw [hpl]; rfl) hni (DL I hg O.bound ⟨rfl,?_⟩ hdb)
 rw [he]
 refine Calls.evalArgs_plain ?_
 have z:=ha cpos pins s σ H _ I h
 rw [he] at z
 refine thn z fun us s2 ⟨xs,H1,I1,r,hz,hE⟩=>⟨rfl,by rw [← r.length]; exact hz,I1.bk _ _ hC,hN.keeps I1.bk,T.keeps I1.bk,fun h' e hx=>hM pins σ H1 s2 h' e _ _ I1 hx hE⟩
abbrev Cx.marked (X : Cx) (ea : Addr) : Cx:={ X with A:=X.A.mark (some (.ref ea)),calm:=false,xe:=fun _ _=>False }
section
variable {X : Cx} {pins : List (Addr × Obj)} {σ : St} {H H' : Hp} {s s' : Shared} {B : Heap}
theorem Cx.Ok.marked (ok : X.Ok) (ea : Addr) : (X.marked ea).Ok :=
 ⟨ok.mod,ok.kind,ok.glob,ok.blt,ok.above,ok.inj,ok.has,ok.cab,(fun z=>nomatch z),ok.frames,ok.stk,ok.exf,ok.bs,ok.bsz,ok.noex,ok.exfs,ok.funs,ok.frf⟩
theorem Inv.marked (I : Inv X pins σ H s) (ea : Addr) : Inv (X.marked ea) pins σ H s:=⟨I.ok.marked ea,I.os,I.bare,I.base,I.loc,I.cell,I.free,I.freeC,I.pin,I.hok,I.len⟩
theorem Inv.gone {h2 : Heap} {toks : Nat} {i : Nat} {n : Str} {v : Option Value} {m : Str → Option Value} (I : Inv X pins σ H s) (hN : X.N.Nodup) (hi : X.N[i]? = some n)
 (hl : ∀ (j : Nat) (x : Str) (v : V),X.N[j]? = some x → σ[j]? = some (some v) → Vis X.env.scope x → ∃ u,AZ v u ∧ QV X.env s.heap m x u)
 (hn : h2.Ns X.env.locals fun x=>if x = n then v else m x) (sb : Heap.SameBut X.env.locals s.heap h2) : Inv X pins (σ.set i none) H { s with heap:=h2,toks:=toks }:=by
 have kp : ∀ b o,b ≠ X.env.locals → s.heap.get? b = some o → h2.get? b = some o:=fun b o nb e=>(sb.2 b nb).trans e
 have neL : ∀ b o,X.s₀.heap.get? b = some o → b ≠ X.env.locals:=fun b o e=>Tg (Te (Heap.lt_size e) I.ok.above)
 have cellK : ∀ x c,X.env.cells.lookup x = some c → ∀ v,s.heap.IsCell c v → h2.IsCell c v:=fun x c e v ⟨o,ho,hd⟩=>⟨o,kp c o (I.cne x c e) ho,hd⟩
 refine ⟨I.ok,I.os,I.bare,⟨fun b o e nn hb hx=>kp b o (neL b o e) (I.base.keep b o e nn hb hx),fun b o e nn hb hx=>?_,I.base.free,fun b o e hx=>?_,I.base.tups,I.base.frzs,I.base.tbls⟩,⟨_,hn,fun j x v' e1 e2 e3=>?_⟩,fun x c e=>?_,I.free,I.freeC,fun p hp=>?_,fun b u e=>?_,by rw [Uo]; exact I.len⟩
 ·obtain ⟨sl,q⟩:=I.base.slot b o e nn hb hx
  exact ⟨sl,kp b _ (neL b o e) q⟩
 ·obtain ⟨o',q⟩:=I.base.there b o e hx
  exact ⟨o',kp b _ (neL b o e) q⟩
 ·by_cases hij : i = j
  ·subst hij
   rw [List.getElem?_set] at e2
   split at e2
   ·split at e2 <;> cases e2
   ·exact absurd rfl (by assumption)
  ·rw [TH hij] at e2
   obtain ⟨u,r,l⟩:=hl j x v' e1 e2 e3
   have hx : x ≠ n:=fun z=>hij (FQ hN hi (by rw [← z]; exact e1))
   refine ⟨u,r,?_⟩
   rcases l with ⟨k,l⟩ | ⟨k,c,e,z⟩
   ·exact .inl ⟨k,by show (if x = n then v else m x) = _; rw [if_neg hx]; exact l⟩
   ·exact .inr ⟨k,c,e,cellK x c e _ z⟩
 ·obtain ⟨v,z⟩:=I.cell x c e
  exact ⟨v,cellK x c e v z⟩
 ·obtain ⟨e,nn,ne,nf,d⟩:=I.pin p hp
  exact ⟨kp _ _ ne e,nn,ne,nf,d⟩
 ·refine (I.hok b u e).stay (fun c v hc q=>kp c v ?_ q) (fun _ q=>q) fun _ _ q=>q
  rcases hc with rfl | z
  ·intro y; rw [y,I.free] at e; cases e
  ·intro y; rw [y,I.free] at z; cases z
end
section
open PySem.W PySem.Builtin PySem.Builtin.ObjectAttr PySem.Builtin.Getset_descriptor
variable {prog : Program} {w : World} {A : Around} {E : Value → Shared → Prop} {s : Shared} {K : Tq} {x D : Addr}
structure XTy (K : Tq) (D : Addr) : Prop where
 ga : findIn K (.ref D) "__getattribute__" = some (some (.builtin "BaseException.__getattribute__"))
 gt : findIn K (.ref D) "__getattr__" = some none
 ca : findIn K (.ref D) "__class__" = some (some (.builtin "object.__class__"))
 gg : specialIn K (.builtin "object.__class__") "__get__" = some (some (.builtin "getset_descriptor.__get__"))
 tk : takesIn K (.builtin "object.__class__") = some true
 ob : mroIn K D (.type "object") = some true
 be : mroIn K D (.type "BaseException") = some true
 cl : ∃ c d cd sl,K.lookup D = some ⟨c,d,.cls cd,sl⟩
theorem Ln (X : K.In s.heap) (T : XTy K D) : Looks (model prog w) s.heap (find (.ref x) (.ref D) "__class__") (.bind (.builtin "getset_descriptor.__get__") (.builtin "object.__class__")):=by
 have L1:=looks_findIn (M:=model prog w) X T.ca
 have L2 : Looks (model prog w) s.heap (getOf (some (.builtin "object.__class__"))) (some (.builtin "getset_descriptor.__get__")):=looks_specialIn X T.gg
 have L3:=looks_takesIn (M:=model prog w) X T.tk
 exact L1.andThen (L2.andThen ((show Looks (model prog w) s.heap (dataDescriptor? (some (.builtin "object.__class__")) (some (.builtin "getset_descriptor.__get__"))) (some (.builtin "getset_descriptor.__get__",.builtin "object.__class__")) from L3.andThen .now).andThen (Looks.tag .now)))
theorem LF {Q : Option Value → Shared → Prop} (X : K.In s.heap) (L0 : Looks (model prog w) s.heap (typeOf (.ref x)) (.ref D)) (T : XTy K D) (h : Q (some (.ref D)) { s with toks:=s.toks + 1 }) : wpAny (model prog w) A (getAttr? (.ref x) "__class__") Q E s:=by
 have L1:=looks_findIn (M:=model prog w) X T.ga
 have L2:=Ln (prog:=prog) (w:=w) (x:=x) X T
 have L3:=looks_findIn (M:=model prog w) X T.gt
 have L4:=looks_mroIn (M:=model prog w) X T.ob
 obtain ⟨hh,g,d,t,os⟩:=s
 unfold getAttr? getAttrBy? getAttrBy
 have L5:=looks_mroIn (M:=model prog w) X T.be
 refine wpAny_bind (wpAny_mkText (wpAny_bind (wpAny_attempt (wpAny_holding (wpAny_bind (L0.at (wpAny_bind (L1.at ?_))))))))
 have hx2 : (Value.builtin "BaseException.__getattribute__" == Value.builtin "object.__getattribute__") = false:=by decide +kernel
 dsimp only
 rw [hx2,Bool.and_false,if_neg (by decide)]
 have hk : builtinKind "BaseException.__getattribute__" = some .slot:=by decide +kernel
 have hsplit : splitId "BaseException.__getattribute__" = some ("BaseException","__getattribute__"):=by decide +kernel
 have ha:=F.args_bexc_ga (.ref x) (.str "__class__" t)
 unfold getAttrByItsOwn hookBefore
 refine wpAny_bind ?_
 show wpAny _ _ (typeLookup (.ref D) "__getattr__") _ _ _
 refine L3.at (wpAny_bind (wpAny_attempt (wpAny_holding ?_)))
 show wpAny _ _ (boundAndCalled (.builtin "BaseException.__getattribute__") (.ref x) _) _ _ _
 unfold boundAndCalled
 rw [F.excAttr_ValueError.ga.bind (.ref x)]
 refine wpAny_bind (wpAny_pure ?_)
 first | refine wpAny_call (codeAny_call_builtin F.excAttr_ValueError.ga.plain F.entry_bexc_ga ?_) | refine wpAny_holding (wpAny_call (codeAny_call_builtin F.excAttr_ValueError.ga.plain F.entry_bexc_ga ?_))
 simp only [checkBuiltinCall,hk,hsplit]
 unfold isInstance
 show wpAny _ _ (do let b ← (do let tp ← typeOf (.ref x); isSubtype tp (.type "BaseException")); _) _ _ _
 refine wpAny_bind (wpAny_bind (L0.at (L5.at ?_)))
 rw [if_neg (by decide)]
 unfold argsOk at ha
 refine wpAny_of_eq ha ?_
 show wpAny _ _ (Builtin.«object.__getattribute__» ⟨[.ref x,.str "__class__" t],[]⟩) _ _ _
 unfold Builtin.«object.__getattribute__»
 refine wpAny_bind (wpAny_of_eq (show slotArgs "__getattribute__" 1 ⟨[.ref x,.str "__class__" t],[]⟩ = pure (.ref x,[.str "__class__" t]) from by kernel_rfl) ?_)
 refine wpAny_bind (wpAny_of_eq (show attrName (.str "__class__" t) = pure "__class__" from by kernel_rfl) ?_)
 refine wpAny_bind (L0.at (wpAny_bind (L2.at ?_)))
 unfold bindTo
 show wpAny _ _ (holding [Value.builtin "object.__class__"] (call (.builtin "getset_descriptor.__get__") [.builtin "object.__class__",.ref x,.ref D]) >>= ret) _ _ _
 refine wpAny_bind (wpAny_holding (wpAny_call ?_))
 refine codeAny_call_builtin KF.slot_gs.plain KF.entry_gs (KF.slot_gs.check _ _ _ _ _ _ _ _ KF.type_class (KF.args_gs _ _ _) ?_)
 unfold Builtin.«getset_descriptor.__get__» descrGet
 rw [dga_obj]
 refine wpAny_bind (wpAny_pure ?_)
 unfold descrGetter descrCheckInstance descrNameAndClass isInstance
 simp only [KF.owner_class]
 repeat lk
 refine ⟨Code.quiet_builtin _ (by decide +kernel),codeAny_builtin KF.entry_class ?_⟩
 unfold Builtin.«object.__class__» shownTypeOf
 repeat lk
 exact h
def Qd (x D : Addr) (h : Heap) : Prop:=∃ o,h.get? x = some o ∧ o.cls = .ref D
theorem Ku {M : Model} {h : Heap} (p : Qd x D h) : Looks M h (typeOf (.ref x)) (.ref D):=by
 obtain ⟨o,h1,h2⟩:=p
 exact h2 ▸ (Looks.ld h1).andThen .now
theorem MM (T : XTy K D) : KitX K (.ref x) (.ref D) (Qd x D) where
 ty:=fun _ _ _ p=>Ku p
 it:=fun _ _ X _=>by
  obtain ⟨c,d,cd,sl,ho⟩:=T.cl
  intro A' Q' E' s' k q
  unfold isType loadHead
  exact wpAny_bind (wpAny_loadPart (k _ _ (X _ _ ho)) (wpAny_pure q))
 ne:=fun h tp dd its n sl X htp=>by
  obtain ⟨c,d,cd,sl',ho⟩:=T.cl
  refine Bool.eq_false_iff.mpr fun q=>?_
  have e : D = tp:=Value.ref.inj (beq_iff_eq.mp q)
  subst e
  have z:=(X _ _ ho).symm.trans htp
  cases z
 ca:=fun X p k=>LF X (Ku p) T k
def QN : V → Option Value
 | .ref a=>some (.ref a)
 | .ty T=>some (.type T)
 | _=>none
theorem N4 {y : V} {u c : Value} (r : AZ y u) (e : QN y = some c) : u = c:=by
 cases y <;> cases e <;> exact r
end
section
open PySem.W
variable {X : Cx} (K : Tq)
end
section
variable {P : Program} {w : World} {K : Tq} {mg : Str → Option Value} {base : Heap}
end
structure FdX (P : Program) (w : World) (K : Tq) (mg : Str → Option Value) (base : Heap) (n : Nat) (x : Str) (ps : List Str) (sp : Sp) : Prop where
 ex : ∃ (f : Addr) (fd : FuncData),AN P w K mg base (CX1 P w) n f fd ps sp ∧ CQ K fd ps [] ∧ TX K (.ref f) = true ∧ mg x = some (.ref f)
end L2
namespace L2
open PySem PySem.Spec PyProof.Rows
def Itd (lo : Int) (n : Nat) : It:=⟨fun i _=>i < n,fun i H x H'=>H' = H ∧ x = .int (lo - i),fun i _=>n ≤ i⟩
theorem KZ {P : Program} {w : World} {K : Tq} {tg : Expr} (it : Addr) (lo : Int) (n : Nat) : Ip P w K tg (Itd lo n) [it] it (fun i h=>IsRangeIter h it (lo + (i : Nat) * (-1)) ((n : Int) - (i : Nat)) (-1)) where
 mem:=by simp
 obj:=fun i h st b hb=>by
  have e : b = it:=by simpa using hb
  subst e
  exact ⟨_,st,fun v z=>by
   have z' : Data.fields _ = Data.cell v:=z
   cases z'⟩
 keep:=fun i h h' st k=>k it (by simp) _ st
 item:=by
  intro X hP hw hK hc i pins s σ H E I hf st hg
  subst hP hw hK
  obtain ⟨f0,f1,f2,f3,f4,f5⟩:=hf it (by simp)
  refine (Walks.range (prog:=X.prog) (w:=X.w) (I.ok.hd hc) it lo (-1) n).item i s _ _ hg st fun v h' tk hv st' kk=>?_
  obtain ⟨t,rfl⟩:=hv
  have I1 : Inv X pins σ H { s with heap:=h',toks:=tk }:=I.turned (fun b o hb e=>kk b o (by simpa using hb) e) f0 f1 f3 f4 f5
  refine ⟨_,rfl,FV (s:={ s with heap:=h',toks:=tk }) (n:="range_iterator") st' rfl rfl (by decide) ⟨.int (lo - i),H,I1,⟨t,?_⟩,⟨rfl,rfl⟩,st',fun b hb=>(hf b hb).1⟩⟩
  rw [show lo + (i : Int) * -1 = lo - i by lia]
 done:=by
  intro X hP hw hK hc i pins s σ H E I hf st hg
  subst hP hw hK
  obtain ⟨f0,f1,f2,f3,f4,f5⟩:=hf it (by simp)
  exact wpAny_pyNext_range_end (I.ok.hd hc) st (by have : n ≤ i:=hg; lia) fun h' eb=>⟨rfl,I.turned (t':=s.toks) (fun b o hb e=>eb b o hb e) f0 f1 f3 f4 f5⟩
 self:=fun _ _ _ _ _ st h=>wpAny_pyIter_rangeiter st h
theorem GH (a b : Int) : Builtin.Range.rangeSize a b (-1) = (((a - b).toNat : Nat) : Int):=by
 unfold Builtin.Range.rangeSize
 rw [if_neg (by decide)]
 split
 ·rw [show -(-1 : Int) = 1 by decide,Int.ediv_one]; lia
 ·lia
section
variable {X : Cx} {tg : Expr}
def QI (ta : TA) : TI:=fun σ H R=>ta σ H fun vs H1=>∃ i j : Int,vs = [.int i,.int j,.int (-1)] ∧ (-1000000 ≤ i ∧ i ≤ 1000000 ∧ -1000000 ≤ j ∧ j ≤ 1000000) ∧ R (Itd i (i - j).toNat) H1
theorem NC {a b c : Expr} {ta : TA} {p pos : Pos} (hg : Gl X "range") (hm : X.mg "range" = none) (ha : PA X [a,b,c] ta) (hs : starEach [a,b,c] X.env = [(false,eval a X.env),(false,eval b X.env),(false,eval c X.env)]:=by rfl)
 (hs2 : starEach [b,c] X.env = [(false,eval b X.env),(false,eval c X.env)]:=by rfl) : PI X tg (.Call (.Name "range" p) [a,b,c] [] pos) (QI ta):=by
 intro pins s σ H R I h
 refine Call_ (DB I hg hm boot_range (PyProof.Rows.callWith_type1 (thn (ha pos pins s σ H _ I h) fun us s1 ⟨vs,H1,I1,r1,q1⟩=>?_) (by rw [hs,hs2]) (by rw [hs2]; rfl)))
 obtain ⟨i,j,e,⟨q1,q2,q3,q4⟩,q⟩:=q1
 subst e
 cases r1 with
 | cons r rr =>
   cases rr with
   | cons r' rr =>
     cases rr with
     | cons r3 rr =>
       cases rr
       obtain ⟨t,rfl⟩:=r
       obtain ⟨t',rfl⟩:=r'
       obtain ⟨t3,rfl⟩:=r3
       have sm : Builtin.Range.small i j (-1) = true:=by
        unfold Builtin.Range.small
        rw [GH]
        simp only [Builtin.Range.rangeFitsLong,Bool.and_eq_true,Bool.or_eq_true,decide_eq_true_eq,beq_iff_eq]
        rw [if_neg (by decide)]
        simp only [Bool.and_eq_true,decide_eq_true_eq]
        lia
       refine call_range_3 (by decide) ?_ (.inl (PyProof.noPylong_small (by lia)))
       refine wpAny_pyIter_range (IsRange.new ..) sm ?_
       have I2 : Inv X pins σ H1 { s1 with heap:=s1.heap.push { cls:=.type "range",data:=.fields #[.int i t,.int j t',.int (-1) t3] },toks:=s1.toks }:=I1.kept fun b o e=>Heap.get?_push_of_some _ e
       refine ⟨_,[_],_,_,H1,rfl,I2.kept (t':=s1.toks) fun b o e=>Heap.get?_push_of_some _ e,KZ _ i (i - j).toNat,?_,fun b hb=>?_,q⟩
       ·show IsRangeIter _ _ (i + ((0 : Nat) : Int) * (-1)) ((((i - j).toNat : Nat) : Int) - ((0 : Nat) : Int)) (-1)
        rw [show i + ((0 : Nat) : Int) * (-1) = i by lia,show (((i - j).toNat : Nat) : Int) - ((0 : Nat) : Int) = Builtin.Range.rangeSize i j (-1) by rw [GH]; lia]
        exact Heap.get?_push_size _ rfl
       ·have e:=V7.mp hb
        subst e
        exact I2.fpOk (TL _) (I2.hok.fresh (TL _))
end
theorem MT {lo : Int} {n : Nat} {g : TG} {tb : TS} {D : Dl} {σ : St} {H : Hp} (Pv : Nat → St → Hp → Prop) (h0 : Pv 0 σ H)
 (hs : ∀ i σ H,i < n → Pv i σ H → g (.int (lo - i)) σ H fun σ2 H2=>tb { D with nx:=Pv (i + 1),ct:=Pv (i + 1),bk:=D.nx } σ2 H2) (hd : ∀ σ H,Pv n σ H → D.nx σ H) :
 ∃ W : Nat → Nat → St → Hp → Prop,(∃ m,W 0 m σ H) ∧ ∀ i m σ H,W i m σ H →
   ((Itd lo n).stop i H ∧ D.nx σ H) ∨ ((Itd lo n).go i H ∧ ∃ N : St → Hp → Prop,(∀ σ' H',N σ' H' → ∃ m',m' < m ∧ W (i + 1) m' σ' H') ∧ ∀ x H',(Itd lo n).yld i H x H' → g x σ H' fun σ2 H2=>tb { D with nx:=N,ct:=N,bk:=D.nx } σ2 H2):=by
 refine ⟨fun i m σ H=>m = n - i ∧ i ≤ n ∧ Pv i σ H,⟨n,by simp,TQ _,h0⟩,?_⟩
 rintro i m σ H ⟨rfl,hi,p⟩
 by_cases hlt : i < n
 ·refine .inr ⟨hlt,Pv (i + 1),fun σ' H' p'=>⟨n - (i + 1),by lia,rfl,hlt,p'⟩,fun x H' y=>?_⟩
  obtain ⟨rfl,rfl⟩:=y
  exact hs i σ _ hlt p
 ·have e : i = n:=by lia
  subst e
  exact .inl ⟨TL _,hd σ H p⟩
theorem DW {K : Tq} {a : Addr} {js : List Nat} {xs : List V} {te : TE} {σ : St} {H : Hp} {Fin : List V → Hp → Prop} (Pv : Nat → List V → Hp → Prop) (h0 : Pv 0 [] H)
 (hl : ∀ i zs H,i ≤ xs.length → Pv i zs H → SqL K H a xs ∧ zs.length = i) (hz : xs.length ≤ sizeLine)
 (hs : ∀ i x zs H,xs[i]? = some x → Pv i zs H → te ((cS 1 js σ).set 0 (some x)) H fun y H4=>Pv (i + 1) (zs ++ [y]) H4) (fin : ∀ zs H',Pv xs.length zs H' → Fin zs H') :
 ∃ (n' : Nat) (W : Nat → List V → Hp → Prop),W 0 [] H ∧ LcW (Itl K a) n' 1 js σ (C6 0) LY te Fin W:=by
 refine ⟨xs.length,Pv,h0,⟨?_,?_,?_⟩⟩
 ·intro i zs H' hi p
  obtain ⟨h1,h2⟩:=hl i zs H' (Ts hi) p
  exact ⟨⟨xs,xs[i],h1,by simp [hi]⟩,by lia⟩
 ·rintro i zs H' x H1 hi p ⟨rfl,y⟩
  exact hs i x zs _ (y xs (hl i zs _ (Ts hi) p).1) p
 ·intro zs H' p
  obtain ⟨h1,h2⟩:=hl _ zs H' (TL _) p
  exact ⟨⟨xs,h1,TL _⟩,by lia,fin zs H' p⟩
theorem N1 (xs : List V) : Du xs none (some (-1)) = xs.take (xs.length - 1):=by
 unfold Du
 have e1 : HT.sIx xs.length 0 none = 0:=rfl
 have e2 : HT.sIx xs.length xs.length (some (-1)) = xs.length - 1:=by
  show (if (-1 : Int) < 0 then ((-1 : Int) + (xs.length : Int)).toNat else min (-1 : Int).toNat xs.length) = xs.length - 1
  rw [if_pos (by decide)]
  lia
 rw [e1,e2,Vm,Vn]
theorem Bd.pow {L : Nat} {b : Int} (h : Bd L b) : ∀ n : Nat,Bd (L * n + 1) (b ^ n)
 | 0=>by rw [Vo]; exact (show Bd 1 1 by unfold Bd; decide).mono (by lia)
 | n + 1=>by
   rw [Vp]
   exact ((Bd.pow h n).mul h).mono (by rw [Vq]; lia)
theorem FU {lead : Int} {ts : List Int} (i : Nat) {t : Int} (h : ts[i]? = some t) : (((ts.take i).map (lead * ·)).map V.int) ++ [V.int (lead * t)] = ((ts.take (i + 1)).map (lead * ·)).map V.int:=by
 rw [UT,h,UU,UU]
 rfl
theorem GB : bootBuiltins "ValueError" = some (.type "ValueError"):=by decide +kernel
end L2
namespace L2
open PySem PySem.Spec PyProof.Rows
theorem FE {s rest : TS} {D : Dl} {σ : St} {H : Hp} (Pv : St → Hp → Prop) (h : ∀ nx : St → Hp → Prop,(∀ σ' H',Pv σ' H' → nx σ' H') → s { D with nx:=nx } σ H) (k : ∀ σ' H',Pv σ' H' → rest D σ' H') : Nr s rest D σ H:=h _ k
theorem D6 {i : Nat} {v : V} {c : TT} {t u rest : TS} {D : Dl} {σ : St} {H : Hp} (Pv : St → Hp → Prop) (h : ∀ nx : St → Hp → Prop,(∀ σ' H',Pv σ' H' → nx σ' H') → Jx c t u { D with nx:=nx } (σ.set i (some v)) H) (k : ∀ σ' H',Pv σ' H' → rest D σ' H') : C6 i v σ H (Nr (Jx c t u) rest D):=h _ k
theorem Bd.neg {n : Nat} {x : Int} (h : Bd n x) : Bd n (-x):=by unfold Bd at *; rw [Int.natAbs_neg]; exact h
theorem FW {b : Int} (hb : b ≠ 0) (t : Int) : UE t b * (b : Rat) = (t : Rat):=by
 rw [UJ]
 exact UK (Nm.cast_ne hb)
theorem O3 {α : Type} {l : List α} {n i : Nat} {v : α} (hn : l.length = n) (hi : i < n) (h : l[n - 1 - i]? = some v) : l.drop (n - (i + 1)) = v :: l.drop (n - i):=by
 have hlt : n - (i + 1) < l.length:=by rw [hn]; exact Nat.sub_lt (Uy (TQ _) hi) (Nat.succ_pos i)
 rw [Vr hlt,show n - (i + 1) + 1 = n - i from Nat.succ_pred_eq_of_pos (Nat.sub_pos_of_lt hi)]
 congr 1
 have e : l[n - (i + 1)]? = some v:=by rw [show n - (i + 1) = n - 1 - i by rw [Nat.sub_sub,Nat.add_comm]]; exact h
 rw [V9 hlt] at e
 exact Tb.inj e
theorem Mv.free {a l : Addr} {H H' : Hp} (m : Mv a H H') (la : l ≠ a) (h : H' l = none) : H l = none:=by
 cases z : H l with
 | none=>rfl
 | some u=>rw [m l u la z] at h; cases h
theorem Pen.put' {H : Hp} {a l : Addr} {o : HO} (h : Pen H a) (la : l ≠ a) : Pen (upd H l o) a:=let ⟨x0,x1,x2,ex⟩:=h; ⟨x0,x1,x2,by rw [Aw (Ne.symm la)]; exact ex⟩
theorem Pen.ne' {H : Hp} {a l : Addr} (h : Pen H a) (hl : H l = none) : l ≠ a:=let ⟨_,_,_,ex⟩:=h; (AB ex hl).symm
def Rj (K : Tq) (H : Hp) (x : V) (rs : List Rat) : Prop:=∃ a ys,x = .ref a ∧ SqL K H a ys ∧ AS K H ys rs
abbrev Rows (K : Tq) (H : Hp) : List V → List (List Rat) → Prop:=Paired (Rj K H)
end L2
namespace L2
open PySem PySem.Spec PyProof.Rows
section
variable {X : Cx}
@[irreducible] def Qu (K : Tq) (neg : Bool) : R2:=fun x y H Q=>∃ p ds d,y = .ref p ∧ Rds K H (.ref p) (.list ds) ∧ Rds K H x d ∧ SeqAt.shaped (.list ds) = true ∧ SeqAt.shaped d = true ∧ Q (.bl (if neg then !(ds.any fun y=>PyData.eqv y d) else ds.any fun y=>PyData.eqv y d)) H
theorem R9 {K : Tq} {neg : Bool} {x y : V} {H : Hp} {Q : VK} (h : ∃ p ds d,y = .ref p ∧ Rds K H (.ref p) (.list ds) ∧ Rds K H x d ∧ SeqAt.shaped (.list ds) = true ∧ SeqAt.shaped d = true ∧ Q (.bl (if neg then !(ds.any fun y=>PyData.eqv y d) else ds.any fun y=>PyData.eqv y d)) H) : Qu K neg x y H Q:=by
 unfold Qu; exact h
end
structure QT where
 x : Rat
 k : Int
 n : Rat
deriving DecidableEq
end L2
namespace L2
open PySem PySem.Spec PyProof.Rows
section
variable {X : Cx} {e : Expr} {te : TE}
end
def Iq (t : TGs) (nt : Nat) : Prop:=∀ (vs : List V) (σ : St) (H : Hp) (Q : St → Hp → Prop) (σ0 : St),(σ.length = σ0.length ∧ σ.drop nt = σ0.drop nt) → t vs σ H Q → t vs σ H fun σ2 H2=>(σ2.length = σ0.length ∧ σ2.drop nt = σ0.drop nt) ∧ Q σ2 H2
theorem Jy {nt : Nat} : Iq PV nt:=fun _ _ _ _ _ r ⟨e,q⟩=>⟨e,r,q⟩
theorem ET {i nt : Nat} {u : TGs} (h : i < nt) (hu : Iq u nt) : Iq (J0 (C6 i) u) nt:=fun vs σ H Q σ0 r ⟨v,rs,e,q⟩=>⟨v,rs,e,hu rs (σ.set i (some v)) H Q σ0 ⟨by rw [Uo]; exact r.1,by
 rw [← r.2]
 apply V3
 intro k
 rw [V4,V4,TH (by lia)]⟩ q⟩
theorem La {K : Tq} {n nt : Nat} {t : TGs} (h : Iq t nt) : Gb (LD K n t) nt:=fun _ σ H Q ⟨a,xs,e,s,l,q⟩=>⟨a,xs,e,s,l,h xs σ H Q σ ⟨rfl,rfl⟩ q⟩
end L2
namespace L2
def AU : List Rat → List Rat → List Rat
 | [],m=>m
 | a :: l,[]=>a :: l
 | a :: l,b :: m=>(a + b) :: AU l m
theorem Jl (l : List Rat) : AU l [] = l:=by cases l <;> rfl
theorem Bc (x : Rat) : ∀ l m,Cv.ev (AU l m) x = Cv.ev l x + Cv.ev m x
 | [],m=>by show _ = 0 + _; grind [AU]
 | a :: l,[]=>by show _ = _ + 0; rw [AU]; grind
 | a :: l,b :: m=>by
   have ih:=Bc x l m
   show (a + b) + x * Cv.ev (AU l m) x = (a + x * Cv.ev l x) + (b + x * Cv.ev m x)
   rw [ih]; grind
theorem Cm : ∀ l m,(AU l m).length = max l.length m.length
 | [],m=>by show m.length = max 0 m.length; lia
 | a :: l,[]=>by show l.length + 1 = max (l.length + 1) 0; lia
 | a :: l,b :: m=>by
   have ih:=Cm l m
   show (AU l m).length + 1 = max (l.length + 1) (m.length + 1)
   lia
theorem Jm : ∀ (l m : List Rat) (i : Nat),l.length ≤ i → (AU l m)[i]? = m[i]?
 | [],m,i,_=>rfl
 | a :: l,[],i,h=>by rw [Jl,Vs h]; rfl
 | a :: l,b :: m,0,h=>by simp at h
 | a :: l,b :: m,i + 1,h=>by
   have ih:=Jm l m i (by simpa using h)
   show (AU l m)[i]? = m[i]?
   exact ih
def AW : List Rat → List Rat → List Rat
 | [],_=>[]
 | a :: l,m=>AU (m.map (· * a)) (0 :: AW l m)
theorem Az (x : Rat) (m : List Rat) : ∀ l,Cv.ev (AW l m) x = Cv.ev l x * Cv.ev m x
 | []=>by show (0 : Rat) = 0 * _; grind
 | a :: l=>by
   have ih:=Az x m l
   show Cv.ev (AU (m.map (· * a)) (0 :: AW l m)) x = (a + x * Cv.ev l x) * _
   rw [Bc,Cv.ev_scale]
   show _ + (0 + x * Cv.ev (AW l m) x) = _
   rw [ih]; grind
theorem Bx (m : List Rat) (hm : 1 ≤ m.length) : ∀ l,1 ≤ l.length → (AW l m).length = l.length + m.length - 1
 | [],h=>by simp at h
 | [a],_=>by
   show (AU (m.map (· * a)) [0]).length = 1 + m.length - 1
   rw [Cm,Ug]
   show max m.length 1 = _
   lia
 | a :: b :: l,_=>by
   have ih:=Bx m hm (b :: l) (by simp)
   show (AU (m.map (· * a)) (0 :: AW (b :: l) m)).length = l.length + 1 + 1 + m.length - 1
   rw [Cm,Ug]
   show max m.length ((AW (b :: l) m).length + 1) = _
   rw [ih]
   show max m.length (l.length + 1 + m.length - 1 + 1) = _
   lia
theorem EM (m : List Rat) (u : Rat) (hu : m[m.length - 1]? = some u) : ∀ (l : List Rat) (v : Rat),l[l.length - 1]? = some v → (AW l m)[l.length + m.length - 2]? = some (u * v)
 | [],v,h=>by simp at h
 | [a],v,h=>by
   have hm : m.length - 1 < m.length:=(TC.mp hu).1
   have e : a = v:=by simpa using h
   subst e
   show (AU (m.map (· * a)) [0])[1 + m.length - 2]? = _
   cases m with
   | nil=>simp at hm
   | cons b m' =>
     rw [show 1 + (b :: m').length - 2 = m'.length by simp only [UA]; lia]
     have hu' : (b :: m')[m'.length]? = some u:=hu
     cases m' with
     | nil =>
       have e : b = u:=by simpa using hu'
       subst e
       show some (b * a + 0) = some (b * a)
       congr 1; grind
     | cons c m'' =>
       show (AU ((c :: m'').map (· * a)) [])[m''.length]? = _
       rw [Jl,Uc]
       have hu2 : (c :: m'')[m''.length]? = some u:=hu'
       rw [hu2]; rfl
 | a :: b :: l,v,h=>by
   have hm : m.length - 1 < m.length:=(TC.mp hu).1
   have ih:=EM m u hu (b :: l) v h
   show (AU (m.map (· * a)) (0 :: AW (b :: l) m))[l.length + 1 + 1 + m.length - 2]? = _
   rw [Jm _ _ _ (by rw [Ug]; lia)]
   rw [show l.length + 1 + 1 + m.length - 2 = (l.length + 1 + m.length - 2) + 1 by lia]
   exact ih
theorem Cj {l m : List Rat} (hl : AO l) (hm : AO m) (nl : l ≠ []) (nm : m ≠ []) : AO (AW l m):=by
 rcases hl with h | ⟨v,hv,v0⟩
 ·exact absurd h nl
 rcases hm with h | ⟨u,hu,u0⟩
 ·exact absurd h nm
 have l1 : 1 ≤ l.length:=UQ.mpr nl
 have m1 : 1 ≤ m.length:=UQ.mpr nm
 refine .inr ⟨u * v,?_,fun z=>?_⟩
 ·rw [Bx m m1 l l1,show l.length + m.length - 1 - 1 = l.length + m.length - 2 by lia]
  exact EM m u hu l v hv
 ·rcases UY.mp z with z | z
  ·exact u0 z
  ·exact v0 z
theorem Kr {l m : List Rat} (hm : AO m) (hle : l.length ≤ m.length) (h : ∀ x,Cv.ev l x = Cv.ev m x) : l = m:=by
 have e : l ++ U5 (m.length - l.length) 0 = m:=by
  refine Cv.same_of _ _ (by rw [Ue,Uh]; lia) fun x=>?_
  rw [← Cv.ev_strip,Cv.strip_zeros,Cv.ev_strip]
  exact h x
 by_cases hlt : l.length < m.length
 ·rcases hm with hm | ⟨q,hq,q0⟩
  ·rw [hm] at hlt; simp at hlt
  ·exfalso
   rw [← e,Ue,Uh,U9 (by lia),Ua,if_pos (by lia)] at hq
   exact q0 (Tb.inj hq).symm
 ·rw [show m.length - l.length = 0 by lia,List.replicate_zero,U1] at e
  exact e
theorem BB {l m : List Rat} (hl : AO l) (hm : AO m) (h : ∀ x,Cv.ev l x = Cv.ev m x) : l = m:=by
 by_cases hle : l.length ≤ m.length
 ·exact Kr hm hle h
 ·exact (Kr hl (by lia) fun x=>(h x).symm).symm
theorem O5 {ps os rs os' rs' : List Rat} (hp : AO ps) (np : ps ≠ []) (ho : AO os) (ho' : AO os') (hr : AO rs) (hr' : AO rs') (l : rs.length < ps.length) (l' : rs'.length < ps.length)
 (h : ∀ x,Cv.ev os x * Cv.ev ps x + Cv.ev rs x = Cv.ev os' x * Cv.ev ps x + Cv.ev rs' x) : os = os' ∧ rs = rs':=by
 have key : Cv.strip (AU os (os'.map (· * (-1)))) = []:=by
  by_cases hD : Cv.strip (AU os (os'.map (· * (-1)))) = []
  ·exact hD
  exfalso
  have gD:=Bb (AU os (os'.map (· * (-1))))
  have gM:=Cj gD hp hD np
  have gE:=Bb (AU rs' (rs.map (· * (-1))))
  have e:=BB gM gE fun x=>by
   rw [Az,Cv.ev_strip,Cv.ev_strip,Bc,Bc,Cv.ev_scale,Cv.ev_scale]
   have:=h x
   grind
  have p1 : 1 ≤ ps.length:=UQ.mpr np
  have d1 : 1 ≤ (Cv.strip (AU os (os'.map (· * (-1))))).length:=UQ.mpr hD
  have len:=Bx ps p1 _ d1
  rw [e] at len
  have le:=Cv.strip_length (AU rs' (rs.map (· * (-1))))
  rw [Cm,Ug] at le
  lia
 have eo : os = os':=BB ho ho' fun x=>by
  have z : Cv.ev (Cv.strip (AU os (os'.map (· * (-1))))) x = 0:=by rw [key]; rfl
  rw [Cv.ev_strip,Bc,Cv.ev_scale] at z
  grind
 subst eo
 refine ⟨rfl,BB hr hr' fun x=>?_⟩
 have:=h x
 grind
open PySem PySem.Spec PyProof.Rows
end L2
namespace L2
def ch : Nat → Nat → Nat
 | _,0=>1
 | 0,_ + 1=>0
 | n + 1,k + 1=>ch n k + ch n (k + 1)
theorem CP (n : Nat) : ch n 0 = 1:=by cases n <;> rfl
theorem Fp : ∀ n k,(k + 1) * ch n (k + 1) + k * ch n k = n * ch n k
 | 0,0=>rfl
 | 0,k + 1=>by show (k + 2) * 0 + (k + 1) * 0 = 0 * 0; lia
 | n + 1,0=>by
   have ih:=Fp n 0
   rw [show ch (n + 1) (0 + 1) = ch n 0 + ch n (0 + 1) from rfl,CP,CP]
   rw [CP] at ih
   lia
 | n + 1,k + 1=>by
   have i1:=Fp n (k + 1)
   have i0:=Fp n k
   show (k + 1 + 1) * (ch n (k + 1) + ch n (k + 1 + 1)) + (k + 1) * (ch n k + ch n (k + 1)) = (n + 1) * (ch n k + ch n (k + 1))
   generalize ch n k = a at *
   generalize ch n (k + 1) = b at *
   generalize ch n (k + 1 + 1) = c at *
   simp only [Vh,Vq,Vi] at *
   lia
theorem FX : ∀ n k,k ≤ n → 0 < ch n k
 | n,0,_=>by rw [CP]; decide
 | 0,k + 1,h=>by lia
 | n + 1,k + 1,h=>by
   have:=FX n k (by lia)
   show 0 < ch n k + ch n (k + 1)
   lia
theorem Ih : ∀ n k,n < k → ch n k = 0
 | n,0,h=>by lia
 | 0,k + 1,_=>rfl
 | n + 1,k + 1,h=>by
   have h1:=Ih n k (by lia)
   have h2:=Ih n (k + 1) (by lia)
   show ch n k + ch n (k + 1) = 0
   lia
theorem O8 {n k : Nat} (hk : k ≤ n) : (((ch n k : Nat) : Int) * ((n : Int) - (k : Int))).fdiv ((k : Int) + 1) = ((ch n (k + 1) : Nat) : Int):=by
 have h:=Fp n k
 have h2 : ch n k * (n - k) = ch n (k + 1) * (k + 1):=by
  rw [Nat.mul_sub]
  have e1 : ch n k * n = n * ch n k:=Uv _ _
  have e2 : ch n k * k = k * ch n k:=Uv _ _
  have e3 : ch n (k + 1) * (k + 1) = (k + 1) * ch n (k + 1):=Uv _ _
  lia
 have h3 : ((ch n k : Nat) : Int) * ((n : Int) - (k : Int)) = ((ch n (k + 1) : Nat) : Int) * ((k : Int) + 1):=by
  have:=congrArg (fun z : Nat=>(z : Int)) h2
  simp only [Int.natCast_mul] at this
  rw [show ((n - k : Nat) : Int) = (n : Int) - (k : Int) by lia] at this
  rw [this]; rfl
 rw [h3]
 exact Int.mul_fdiv_cancel _ (by lia)
theorem KJ : ∀ n k,ch n k ≤ 2 ^ n
 | n,0=>by rw [CP]; exact Vt
 | 0,k + 1=>TQ _
 | n + 1,k + 1=>by
   have h1:=KJ n k
   have h2:=KJ n (k + 1)
   show ch n k + ch n (k + 1) ≤ 2 ^ (n + 1)
   rw [Ve]; lia
def An : Nat → (Nat → Rat) → Nat → Rat
 | 0,f,i=>f i
 | k + 1,f,i=>An k f i + An k f (i + 1)
def Cn (t : Rat) : Nat → (Nat → Rat) → Nat → Rat
 | 0,f,i=>f i
 | k + 1,f,i=>Cn t k f i * (1 - t) + Cn t k f (i + 1) * t
def Bn (t : Rat) : Nat → (Nat → Rat) → Nat → Rat
 | 0,f,i=>f i
 | k + 1,f,i=>Bn t k f i + t * Bn t k f (i + 1)
theorem JY (t : Rat) (f : Nat → Rat) : ∀ k n,An k (fun m=>f m + t * f (m + 1)) n = An k f n + t * An k f (n + 1)
 | 0,_=>rfl
 | k + 1,n=>by
   show An k _ n + An k _ (n + 1) = (An k f n + An k f (n + 1)) + t * (An k f (n + 1) + An k f (n + 1 + 1))
   rw [JY t f k n,JY t f k (n + 1)]
   grind
theorem Eh (t : Rat) (f : Nat → Rat) : ∀ k i,Cn t k (fun j=>An j f 0) i = An i (fun m=>Bn t k f m) 0
 | 0,_=>rfl
 | k + 1,i=>by
   show Cn t k _ i * (1 - t) + Cn t k _ (i + 1) * t = An i (fun m=>Bn t k f m + t * Bn t k f (m + 1)) 0
   rw [Eh t f k i,Eh t f k (i + 1),JY t (fun m=>Bn t k f m) i 0]
   show An i _ 0 * (1 - t) + (An i (fun m=>Bn t k f m) 0 + An i (fun m=>Bn t k f m) (0 + 1)) * t = _
   grind
def evF (f : Nat → Rat) (t : Rat) : Nat → Rat
 | 0=>0
 | k + 1=>evF f t k + f k * t ^ k
theorem DE (f : Nat → Rat) (t : Rat) : ∀ k,evF f t (k + 1) = f 0 + t * evF (fun i=>f (i + 1)) t k
 | 0=>by show 0 + f 0 * t ^ 0 = f 0 + t * 0; rw [UO]; grind
 | k + 1=>by
   have ih:=DE f t k
   show evF f t (k + 1) + f (k + 1) * t ^ (k + 1) = f 0 + t * (evF (fun i=>f (i + 1)) t k + f (k + 1) * t ^ k)
   rw [ih,UP]
   grind
theorem Kx (f g : Nat → Rat) (t : Rat) : ∀ k,evF (fun i=>f i + g i) t k = evF f t k + evF g t k
 | 0=>by show (0 : Rat) = 0 + 0; grind
 | k + 1=>by
   show evF _ t k + (f k + g k) * t ^ k = (evF f t k + f k * t ^ k) + (evF g t k + g k * t ^ k)
   rw [Kx f g t k]; grind
theorem CH {f g : Nat → Rat} (t : Rat) : ∀ k,(∀ i,i < k → f i = g i) → evF f t k = evF g t k
 | 0,_=>rfl
 | k + 1,h=>by
   show evF f t k + f k * t ^ k = evF g t k + g k * t ^ k
   rw [CH t k fun i hi=>h i (by lia),h k (by lia)]
theorem PY (t : Rat) : ∀ l : List Rat,Cv.ev l t = evF (fun i=>l.getD i 0) t l.length
 | []=>rfl
 | a :: l=>by
   show a + t * Cv.ev l t = evF _ t (l.length + 1)
   rw [DE,PY t l]
   rfl
theorem Jn (t : Rat) (f : Nat → Rat) : ∀ n m,Bn t n f m = evF (fun i=>((ch n i : Nat) : Rat) * f (m + i)) t (n + 1)
 | 0,m=>by
   show f m = 0 + ((1 : Nat) : Rat) * f (m + 0) * t ^ 0
   have z : ((1 : Nat) : Rat) = 1:=rfl
   rw [UO,Nat.add_zero,z]; grind
 | n + 1,m=>by
   have h1:=Jn t f n m
   have h2:=Jn t f n (m + 1)
   have z : ((1 : Nat) : Rat) = 1:=rfl
   show Bn t n f m + t * Bn t n f (m + 1) = _
   have e1 : evF (fun i=>((ch n i : Nat) : Rat) * f (m + i)) t (n + 1) = evF (fun i=>((ch n i : Nat) : Rat) * f (m + i)) t (n + 1 + 1):=by
    show _ = evF (fun i=>((ch n i : Nat) : Rat) * f (m + i)) t (n + 1) + ((ch n (n + 1) : Nat) : Rat) * f (m + (n + 1)) * t ^ (n + 1)
    rw [Ih n (n + 1) (by lia)]
    have z0 : ((0 : Nat) : Rat) = 0:=rfl
    rw [z0]; grind
   rw [e1,DE] at h1
   rw [DE (fun i=>((ch (n + 1) i : Nat) : Rat) * f (m + i))]
   have e2 : evF (fun i=>((ch (n + 1) (i + 1) : Nat) : Rat) * f (m + (i + 1))) t (n + 1) = evF (fun i=>((ch n i : Nat) : Rat) * f (m + 1 + i)) t (n + 1) + evF (fun i=>((ch n (i + 1) : Nat) : Rat) * f (m + (i + 1))) t (n + 1):=by
    rw [← Kx]
    refine CH t _ fun i _=>?_
    show ((ch n i + ch n (i + 1) : Nat) : Rat) * f (m + (i + 1)) = _
    rw [Vu,show m + 1 + i = m + (i + 1) by lia]
    grind
   rw [e2,h1,h2,CP,CP]
   grind
def aI (l : List Int) : List Int:=(Th (l.length - 1)).map fun j=>l.getD j 0 + l.getD (j + 1) 0
def aIN : Nat → List Int → List Int
 | 0,l=>l
 | n + 1,l=>aI (aIN n l)
def aQ (l : List Rat) : List Rat:=(Th (l.length - 1)).map fun j=>l.getD j 0 + l.getD (j + 1) 0
def aQN : Nat → List Rat → List Rat
 | 0,l=>l
 | n + 1,l=>aQ (aQN n l)
def cQ (t : Rat) (l : List Rat) : List Rat:=(Th (l.length - 1)).map fun j=>l.getD j 0 * (1 - t) + l.getD (j + 1) 0 * t
def cQN (t : Rat) : Nat → List Rat → List Rat
 | 0,l=>l
 | n + 1,l=>cQ t (cQN t n l)
theorem DO (l : List Int) : ∀ n,(aIN n l).length = l.length - n
 | 0=>rfl
 | n + 1=>by
   show (aI (aIN n l)).length = _
   unfold aI
   rw [Ug,Vv,DO l n]; lia
theorem Hd (l : List Rat) : ∀ n,(aQN n l).length = l.length - n
 | 0=>rfl
 | n + 1=>by
   show (aQ (aQN n l)).length = _
   unfold aQ
   rw [Ug,Vv,Hd l n]; lia
theorem H0 (t : Rat) (l : List Rat) : ∀ n,(cQN t n l).length = l.length - n
 | 0=>rfl
 | n + 1=>by
   show (cQ t (cQN t n l)).length = _
   unfold cQ
   rw [Ug,Vv,H0 t l n]; lia
theorem Nc (l : List Rat) : ∀ k j,j + k < l.length → (aQN k l).getD j 0 = An k (fun n=>l.getD n 0) j
 | 0,_,_=>rfl
 | k + 1,j,h=>by
   have h1:=Nc l k (j + 1) (by lia)
   have h0:=Nc l k j (by lia)
   show (aQ (aQN k l)).getD j 0 = An k _ j + An k _ (j + 1)
   rw [← h1,← h0]
   have hl:=Hd l k
   unfold aQ
   rw [V2,Uc,Vw (by lia)]
   rfl
theorem KL (t : Rat) (l : List Rat) : ∀ k j,j + k < l.length → (cQN t k l).getD j 0 = Cn t k (fun n=>l.getD n 0) j
 | 0,_,_=>rfl
 | k + 1,j,h=>by
   have h1:=KL t l k (j + 1) (by lia)
   have h0:=KL t l k j (by lia)
   show (cQ t (cQN t k l)).getD j 0 = Cn t k _ j * (1 - t) + Cn t k _ (j + 1) * t
   rw [← h1,← h0]
   have hl:=H0 t l k
   unfold cQ
   rw [V2,Uc,Vw (by lia)]
   rfl
theorem C8 (t : Rat) {f g : Nat → Rat} : ∀ k n,(∀ j,j ≤ k → f (n + j) = g (n + j)) → Cn t k f n = Cn t k g n
 | 0,n,h=>h 0 (TL _)
 | k + 1,n,h=>by
   show Cn t k f n * (1 - t) + Cn t k f (n + 1) * t = Cn t k g n * (1 - t) + Cn t k g (n + 1) * t
   rw [C8 t (f:=f) (g:=g) k (n + 1) fun j hj=>by
    have:=h (j + 1) (by lia)
    rw [show n + 1 + j = n + (j + 1) by lia]; exact this,
    C8 t (f:=f) (g:=g) k n fun j hj=>h j (by lia)]
def Cc (al : List Rat) : List Rat:=(Th al.length).map fun k=>al.getD k 0 / ((ch (al.length - 1) k : Nat) : Rat)
def Gx (al : List Rat) : List Rat:=(Th al.length).map fun j=>(aQN j (Cc al)).getD 0 0
theorem DC (al : List Rat) : (Gx al).length = al.length:=by unfold Gx; rw [Ug,Vv]
theorem DS (al : List Rat) : (Cc al).length = al.length:=by unfold Cc; rw [Ug,Vv]
theorem MG (al : List Rat) (h1 : 1 ≤ al.length) (t : Rat) : (cQN t (al.length - 1) (Gx al)).getD 0 0 = Cv.ev al t:=by
 rw [KL t _ _ _ (by rw [DC]; lia)]
 have e : Cn t (al.length - 1) (fun n=>(Gx al).getD n 0) 0 = Cn t (al.length - 1) (fun j=>An j (fun n=>(Cc al).getD n 0) 0) 0:=by
  refine C8 t _ _ fun j hj=>?_
  show (Gx al).getD (0 + j) 0 = An (0 + j) _ 0
  rw [Vx,← Nc _ _ _ (by rw [DS]; lia)]
  unfold Gx
  rw [V2,Uc,Vw (by lia)]
  rfl
 rw [e,Eh]
 show Bn t (al.length - 1) (fun n=>(Cc al).getD n 0) 0 = _
 rw [Jn,PY,show al.length - 1 + 1 = al.length by lia]
 refine CH t _ fun i hi=>?_
 show ((ch (al.length - 1) i : Nat) : Rat) * (Cc al).getD (0 + i) 0 = al.getD i 0
 have g : (Cc al).getD (0 + i) 0 = al.getD i 0 / ((ch (al.length - 1) i : Nat) : Rat):=by
  unfold Cc
  rw [Vx,V2,Uc,Vw hi]
  rfl
 have c0 : ((ch (al.length - 1) i : Nat) : Rat) ≠ 0:=fun z=>by
  have hp:=FX (al.length - 1) i (by lia)
  have : ch (al.length - 1) i = 0:=by exact_mod_cast z
  lia
 rw [g,Vy]
 exact UK c0
def goL (a b : Rat) : Rat → List Rat → List Rat
 | p,[]=>[a * p]
 | p,c :: r=>(a * p + b * c) :: goL a b c r
def Dd (a b : Rat) : List Rat → List Rat
 | []=>[]
 | q :: r=>match Dd a b r with
   | []=>[q]
   | c :: s=>(q + b * c) :: goL a b c s
theorem Oz (a b x : Rat) : ∀ (l : List Rat) (p : Rat),Cv.ev (goL a b p l) x = a * p + (a * x + b) * Cv.ev l x
 | [],p=>by show a * p + x * 0 = a * p + (a * x + b) * 0; grind
 | c :: r,p=>by
   show (a * p + b * c) + x * Cv.ev (goL a b c r) x = a * p + (a * x + b) * (c + x * Cv.ev r x)
   rw [Oz a b x r c]; grind
theorem ER (a b : Rat) : ∀ (l : List Rat) (p : Rat),(goL a b p l).length = l.length + 1
 | [],_=>rfl
 | c :: r,p=>by show (goL a b c r).length + 1 = r.length + 1 + 1; rw [ER a b r c]
theorem Ks (a b : Rat) : ∀ (l : List Rat) (p u : Rat),(p :: l)[l.length]? = some u → (goL a b p l)[l.length]? = some (a * u)
 | [],p,u,h=>by
   have e : p = u:=by simpa using h
   subst e; rfl
 | c :: r,p,u,h=>Ks a b r c u h
theorem Ib (a b x : Rat) : ∀ l,Cv.ev (Dd a b l) x = Cv.ev l (a * x + b)
 | []=>rfl
 | q :: r=>by
   have ih:=Ib a b x r
   show Cv.ev (match Dd a b r with | []=>[q] | c :: s=>(q + b * c) :: goL a b c s) x = q + (a * x + b) * Cv.ev r (a * x + b)
   rw [← ih]
   cases Dd a b r with
   | nil=>show q + x * 0 = q + (a * x + b) * 0; grind
   | cons c s =>
     show (q + b * c) + x * Cv.ev (goL a b c s) x = q + (a * x + b) * (c + x * Cv.ev s x)
     rw [Oz]; grind
theorem Ck (a b : Rat) : ∀ l,(Dd a b l).length = l.length
 | []=>rfl
 | q :: r=>by
   have ih:=Ck a b r
   show (match Dd a b r with | []=>[q] | c :: s=>(q + b * c) :: goL a b c s).length = r.length + 1
   rw [← ih]
   cases Dd a b r with
   | nil=>rfl
   | cons c s=>show (goL a b c s).length + 1 = s.length + 1 + 1; rw [ER]
theorem GZ {a b : Rat} (ha : a ≠ 0) : ∀ {l},AO l → AO (Dd a b l)
 | [],_=>.inl rfl
 | [q],h=>h
 | q :: p :: r,h=>by
   have g : AO (p :: r):=by
    rcases h with h | ⟨u,hu,u0⟩
    ·cases h
    ·exact .inr ⟨u,hu,u0⟩
   have ih:=GZ (b:=b) ha g
   have len:=Ck a b (p :: r)
   show AO (match Dd a b (p :: r) with | []=>[q] | c :: s=>(q + b * c) :: goL a b c s)
   cases e : Dd a b (p :: r) with
   | nil=>rw [e] at len; simp at len
   | cons c s =>
     rw [e] at ih
     rcases ih with ih | ⟨u,hu,u0⟩
     ·cases ih
     ·refine .inr ⟨a * u,?_,fun z=>?_⟩
      ·show ((q + b * c) :: goL a b c s)[(goL a b c s).length + 1 - 1]? = _
       rw [ER]
       exact Ks a b s c u hu
      ·rcases UY.mp z with z | z
       ·exact ha z
       ·exact u0 z
def hts (cs : List Rat) (lo hi : Rat) : List Rat:=if cs = [] then [0] else Gx (Dd (hi - lo) lo cs)
theorem Lz (cs : List Rat) (lo hi t : Rat) : (cQN t ((hts cs lo hi).length - 1) (hts cs lo hi)).getD 0 0 = Cv.ev cs (lo + (hi - lo) * t):=by
 unfold hts
 by_cases h : cs = []
 ·rw [if_pos h,h]; rfl
 ·rw [if_neg h,DC,MG _ (by rw [Ck]; exact UQ.mpr h),Ib]
  congr 1; grind
theorem BR (cs : List Rat) (lo hi : Rat) : (hts cs lo hi).length = max 1 cs.length:=by
 unfold hts
 by_cases h : cs = []
 ·rw [if_pos h,h]; rfl
 ·rw [if_neg h,DC,Ck]
  have:=UQ.mpr h
  lia
end L2
namespace L2
def sd : List Rat → List Rat
 | []=>[]
 | [_]=>[]
 | _ :: p :: r=>AU (0 :: sd (p :: r)) (Dd 1 1 (p :: r))
theorem LK (n : Nat) : ((n + 1 : Nat) : Rat) = ((n : Nat) : Rat) + 1:=by rw [Vu]; rfl
def nw (c : Nat → Rat) (x : Rat) : Nat → Nat → Rat
 | _,0=>0
 | j,n + 1=>c j + (x - ((j : Nat) : Rat)) * nw c x (j + 1) n
end L2
namespace L2
open PySem PySem.Spec PyProof.Rows PySem.SeqAt
theorem IZ : ∀ {ns : List Int} {its : List Value},AM (ns.map V.int) its → IntsAre its ns
 | [],_,.nil=>.nil
 | n :: ns,_,.cons r rs=>by
   obtain ⟨t,rfl⟩:=r
   exact .cons n t (IZ rs)
end L2
namespace L2
def dL : List Rat → List Rat
 | []=>[]
 | _ :: r=>AU r (0 :: dL r)
theorem Em (q : Rat) (r : List Rat) (x : Rat) : Cv.ev (dL (q :: r)) x = Cv.ev r x + x * Cv.ev (dL r) x:=by
 show Cv.ev (AU r (0 :: dL r)) x = _
 rw [Bc]
 show _ + (0 + x * Cv.ev (dL r) x) = _
 grind
def wL (l : List Rat) (c : Nat) : List Rat:=(Th l.length).map fun j=>l.getD j 0 * ((j + c : Nat) : Rat)
theorem Nl (a : Rat) (r : List Rat) (c : Nat) : wL (a :: r) c = a * ((c : Nat) : Rat) :: wL r (c + 1):=by
 unfold wL
 show (Th (r.length + 1)).map _ = _
 rw [List.range_succ_eq_map,Uw,Vz]
 refine congr (congrArg List.cons ?_) ?_
 ·show a * ((0 + c : Nat) : Rat) = _
  rw [Vx]
 ·refine VA fun j _=>?_
  show r.getD j 0 * ((j + 1 + c : Nat) : Rat) = r.getD j 0 * ((j + (c + 1) : Nat) : Rat)
  rw [show j + 1 + c = j + (c + 1) by lia]
theorem Oy (x : Rat) : ∀ (l : List Rat) (c : Nat),Cv.ev (wL l c) x = ((c : Nat) : Rat) * Cv.ev l x + x * Cv.ev (dL l) x
 | [],c=>by show (0 : Rat) = _ * 0 + x * 0; grind
 | a :: r,c=>by
   rw [Nl,Em]
   show a * ((c : Nat) : Rat) + x * Cv.ev (wL r (c + 1)) x = ((c : Nat) : Rat) * (a + x * Cv.ev r x) + _
   rw [Oy x r (c + 1),LK]
   grind
theorem Md (x : Rat) : ∀ l : List Rat,Cv.ev ((Th (l.length - 1)).map fun j=>l.getD (j + 1) 0 * ((j + 1 : Nat) : Rat)) x = Cv.ev (dL l) x
 | []=>rfl
 | q :: r=>by
   rw [Em]
   have h:=Oy x r 1
   have e : ((1 : Nat) : Rat) = 1:=rfl
   rw [e,VB] at h
   rw [← h]
   rfl
def ty (x : Rat) : List Rat → List Rat
 | []=>[]
 | q :: r=>AU (q :: ty x r) ((ty x r).map (· * x))
theorem GY (x h : Rat) : ∀ l,Cv.ev (ty x l) h = Cv.ev l (x + h)
 | []=>rfl
 | q :: r=>by
   have ih:=GY x h r
   show Cv.ev (AU (q :: ty x r) ((ty x r).map (· * x))) h = q + (x + h) * Cv.ev r (x + h)
   rw [Bc,Cv.ev_scale]
   show (q + h * Cv.ev (ty x r) h) + _ = _
   rw [ih]; grind
theorem BC : ∀ (l m : List Rat) (k : Nat),(AU l m).getD k 0 = l.getD k 0 + m.getD k 0
 | [],m,k=>by show m.getD k 0 = 0 + m.getD k 0; grind
 | a :: l,[],k=>by show (a :: l).getD k 0 = (a :: l).getD k 0 + 0; grind
 | a :: l,b :: m,0=>rfl
 | a :: l,b :: m,k + 1=>BC l m k
theorem BG (y : Rat) (l : List Rat) (k : Nat) : (l.map (· * y)).getD k 0 = l.getD k 0 * y:=by
 rw [V2,V2,Uc]
 cases l[k]? with
 | none=>show (0 : Rat) = 0 * y; grind
 | some t=>rfl
theorem Ff (x : Rat) : ∀ l,(ty x l).getD 0 0 = Cv.ev l x
 | []=>rfl
 | q :: r=>by
   have ih:=Ff x r
   show (AU (q :: ty x r) ((ty x r).map (· * x))).getD 0 0 = q + x * Cv.ev r x
   rw [BC,BG,ih]
   show q + _ = _
   grind
theorem Ex (x : Rat) : ∀ l,(ty x l).getD 1 0 = Cv.ev (dL l) x
 | []=>rfl
 | q :: r=>by
   have ih:=Ex x r
   have i0:=Ff x r
   rw [Em]
   show (AU (q :: ty x r) ((ty x r).map (· * x))).getD 1 0 = _
   rw [BC,BG,ih]
   show (ty x r).getD 0 0 + _ = _
   rw [i0]; grind
theorem De {l m : List Rat} (h : ∀ k : Nat,Cv.ev l ((k : Nat) : Rat) = Cv.ev m ((k : Nat) : Rat)) (k : Nat) : l.getD k 0 = m.getD k 0:=by
 have z:=Cv.ident _ (AU l (m.map (· * (-1)))) (TL _) 0 fun k _=>by
  rw [Bc,Cv.ev_scale,h k]; grind
 have e : (AU l (m.map (· * (-1)))).getD k 0 = 0:=by
  rw [V2]
  cases q : (AU l (m.map (· * (-1))))[k]? with
  | none=>rfl
  | some t=>exact z t (Ud q)
 rw [BC,BG] at e
 grind
theorem Lc {l m : List Rat} (h : ∀ x,Cv.ev l x = Cv.ev m x) (x : Rat) : Cv.ev (dL l) x = Cv.ev (dL m) x:=by
 rw [← Ex,← Ex]
 exact De (fun k=>by rw [GY,GY,h]) 1
theorem LC (a b : List Rat) : (AW a b).getD 0 0 = a.getD 0 0 * b.getD 0 0:=by
 cases a with
 | nil=>show (0 : Rat) = 0 * _; grind
 | cons a l =>
   show (AU (b.map (· * a)) (0 :: AW l b)).getD 0 0 = a * _
   rw [BC,BG]
   show _ + 0 = _
   grind
theorem LB (a b : List Rat) : (AW a b).getD 1 0 = a.getD 0 0 * b.getD 1 0 + a.getD 1 0 * b.getD 0 0:=by
 cases a with
 | nil=>show (0 : Rat) = 0 * _ + 0 * _; grind
 | cons a l =>
   show (AU (b.map (· * a)) (0 :: AW l b)).getD 1 0 = a * _ + l.getD 0 0 * _
   rw [BC,BG]
   show _ + (AW l b).getD 0 0 = _
   rw [LC]; grind
theorem EE {l a b : List Rat} (h : ∀ x,Cv.ev l x = Cv.ev a x * Cv.ev b x) (x : Rat) : Cv.ev (dL l) x = Cv.ev a x * Cv.ev (dL b) x + Cv.ev (dL a) x * Cv.ev b x:=by
 rw [← Ex,← Ex,← Ex,← Ff,← Ff,← LB]
 exact De (fun k=>by rw [GY,Az,GY,GY,h]) 1
theorem EU (c x : Rat) : Cv.ev (dL [c]) x = 0:=by
 rw [Em]; show (0 : Rat) + x * 0 = 0; grind
def quo (c : Rat) : List Rat → List Rat
 | []=>[]
 | _ :: r=>AU r ((quo c r).map (· * c))
theorem Mg (c x : Rat) : ∀ l,Cv.ev l x = Cv.ev l c + (x - c) * Cv.ev (quo c l) x
 | []=>by show (0 : Rat) = 0 + _ * 0; grind
 | q :: r=>by
   have ih:=Mg c x r
   show q + x * Cv.ev r x = (q + c * Cv.ev r c) + (x - c) * Cv.ev (AU r ((quo c r).map (· * c))) x
   rw [Bc,Cv.ev_scale]
   have h : (x - c) * (Cv.ev r x + Cv.ev (quo c r) x * c) = x * Cv.ev r x - c * (Cv.ev r x - (x - c) * Cv.ev (quo c r) x):=by grind
   rw [h,show Cv.ev r x - (x - c) * Cv.ev (quo c r) x = Cv.ev r c by grind]
   grind
end L2
namespace L2
end L2
namespace L2
open PySem PySem.Spec PyProof.Rows
theorem Kl {K : Tq} {a : Addr} {js : List Nat} {xs : List V} {tc : TT} {te : TE} {σ : St} {H : Hp} {Fin : List V → Hp → Prop} (Pv : Nat → List V → Hp → Prop) (h0 : Pv 0 [] H)
 (hl : ∀ i zs H,i ≤ xs.length → Pv i zs H → SqL K H a xs ∧ zs.length ≤ i) (hz : xs.length ≤ sizeLine)
 (hs : ∀ i x zs H,xs[i]? = some x → Pv i zs H → tc ((cS 1 js σ).set 0 (some x)) H fun b H3=>if b = true then te ((cS 1 js σ).set 0 (some x)) H3 fun y H4=>Pv (i + 1) (zs ++ [y]) H4 else Pv (i + 1) zs H3) (fin : ∀ zs H',Pv xs.length zs H' → Fin zs H') :
 ∃ (n' : Nat) (W : Nat → List V → Hp → Prop),W 0 [] H ∧ LcW (Itl K a) n' 1 js σ (C6 0) tc te Fin W:=by
 refine ⟨xs.length,Pv,h0,⟨?_,?_,?_⟩⟩
 ·intro i zs H' hi p
  obtain ⟨h1,h2⟩:=hl i zs H' (Ts hi) p
  exact ⟨⟨xs,xs[i],h1,by simp [hi]⟩,by lia⟩
 ·rintro i zs H' x H1 hi p ⟨rfl,y⟩
  exact hs i x zs _ (y xs (hl i zs _ (Ts hi) p).1) p
 ·intro zs H' p
  obtain ⟨h1,h2⟩:=hl _ zs H' (TL _) p
  exact ⟨⟨xs,h1,TL _⟩,by lia,fin zs H' p⟩
end L2
namespace PySem
open Sem (wp)
open Builtin
set_option maxRecDepth 100000
end PySem
namespace L2
open PySem PySem.Spec PyProof.Rows
variable {X : Cx}
end L2
namespace L2
open PySem PySem.Spec PyProof.Rows
end L2
namespace L2
open PySem PySem.Spec PyProof.Rows
theorem C7.units1 {k : Nat} {A : Around} (r : C7 k A) : A.units + 1 < cLine:=by have:=r.un; lia
def kQ (q : Rat) : List Key:=[.inl q.num,.inl (q.den : Int)]
section
variable {K : Tq} {H H' : Hp} {x : V} {ps : List Rat} {xs : List V} {pss : List (List Rat)} {p : Addr} {ys : List V} {o : HO}
end
section
variable {K : Tq} {H H' : Hp} {x : V} {t : QT} {xs : List V} {ts : List QT} {p : Addr} {ys : List V} {o : HO}
end
end L2
namespace L2
end L2
namespace HT
open PySem PyProof.Rows
open PySem.SeqAt
open PySem.AutoSeq1 (wpAny_loadPart')
open PySem.MeetsSeq PySem.MeetsSeq2 PySem.MeetsSeq3
end HT
namespace L2
open PySem PySem.Spec PyProof.Rows
section
variable {X : Cx} {K : Tq}
end
theorem N0 (xs : List V) (v : Nat) : Du xs none (some (v : Int)) = xs.take v:=by
 unfold Du
 have e1 : HT.sIx xs.length 0 none = 0:=rfl
 have e2 : HT.sIx xs.length xs.length (some (v : Int)) = min v xs.length:=HT.sIx_nat _ _ v
 rw [e1,e2,Vm,Vn]
 by_cases h : v ≤ xs.length
 ·rw [Ul h]
 ·rw [Nat.min_eq_right (by lia),VC (TL _),VC (by lia)]
end L2
namespace L2
open PySem PySem.Spec PyProof.Rows PySem.SeqAt
theorem LL {X : Cx} (hc : X.calm = true) : Dg X (.builtin "sum") (fun xs H Q=>∃ (l : Addr) (ns : List Int),xs = [.ref l] ∧ H l = some (.lst (ns.map V.int)) ∧ Q (.int ns.sum) H):=by
 intro pins s σ H xs us Q I r h
 obtain ⟨l,ns,rfl,hH,q⟩:=h
 obtain ⟨u,rfl,rfl⟩:=Fv r
 obtain ⟨z,its,n,rv,hl,e⟩:=I.lstM hH
 have hi:=IZ rv
 have hL : s.heap.IsList l its.toArray:=⟨_,e,rfl,n,rfl⟩
 obtain ⟨xs,e⟩:=hi.allInts.items
 have hns : ns = xs.toList.map (·.1):=by rw [← hi.numsOf,← nums_intItems,← e]
 rw [e] at hL
 refine sum_intListG (I.ok.hd hc) hL fun h' tk t' hk=>?_
 refine ⟨.int _,H,I.kept hk,⟨_,rfl⟩,?_⟩
 rw [preSum_eq,VC (by simp),← hns]; exact q
section
variable {X : Cx}
end
end L2
namespace L2
open PySem PySem.Spec PyProof.Rows
section
variable {X : Cx} {pins : List (Addr × Obj)} {σ : List (Option V)} {H : Hp} {s : Shared} {h' : Heap}
end
section
variable {X : Cx}
end
end L2
namespace L2
open PySem PySem.Spec PyProof.Rows
namespace St
open SetTable
def it (mask : Nat) : Nat → Nat → Nat
 | 0,i=>i
 | n + 1,i=>it mask n ((i * 5 + 1) % (mask + 1))
def bs (mask : Nat) (b : Nat) : Nat → Nat × Nat
 | 0=>(b % (mask + 1),b)
 | n + 1=>leap mask (bs mask b n).1 (bs mask b n).2
def base (mask i pert : Nat) : Probe:={ j:=i,more:=runEnd mask i - i,i,perturb:=pert,dummy:=none }
end St
end L2
namespace L2
open PySem PySem.Spec PyProof.Rows
namespace St
open SetTable
section
variable {prog : Program} {w : World} {K : Type} [DecidableEq K] (knd : KeyKind prog w K)
def IsN (h : Heap) (ks : List K) (a : Addr) : Prop:=∃ o items n,h.get? a = some o ∧ o.cls = .type "tuple" ∧ o.data = .seq items n ∧ ItemsAre knd ks items.toList ∧ ∀ v ∈ items.toList,∃ k t,v = .int k t
variable {knd}
variable {A : Around} {E : Value → Shared → Prop} {s : Shared}
def Ns (knd : KeyKind prog w K) (h : Heap) (l : List Value) (ks : List K) : Prop:=∀ v ∈ l,∃ b k',v = .ref b ∧ IsN knd h k' b ∧ k' ≠ ks
end
end St
end L2
namespace L2
open PySem PySem.Spec PyProof.Rows
namespace St
open SetTable
end St
end L2
namespace L2
open PySem PySem.Spec PyProof.Rows
namespace St
open SetTable
section
variable {prog : Program} {w : World} {K : Type} [DecidableEq K] (knd : KeyKind prog w K) (G : Addr → Prop)
variable {knd} {G}
variable {A : Around} {E : Value → Shared → Prop} {s : Shared}
end
end St
end L2
namespace L2
open PySem PySem.Spec PyProof.Rows
namespace St
section
variable {prog : Program} {w : World} {K : Type} [DecidableEq K] {knd : KeyKind prog w K} {G : Addr → Prop} {A : Around} {R : Result → Shared → Prop} {I : Addr} {fp wr : List Addr} {GG : Array GenState → Array GenState → Prop} {n : Nat} {P : Nat → Value → Prop} {St : Nat → Shared → Prop}
end
section
variable {prog : Program} {w : World} {K : Type} [DecidableEq K] {knd : KeyKind prog w K} {A : Around} {E : Value → Shared → Prop} {s : Shared}
end
end St
end L2
namespace L2
open PySem PySem.Spec PyProof.Rows
section
variable {X : Cx}
end
end L2
namespace L2
open PySem PySem.Spec PyProof.Rows
section
open PySem.W
variable {X : Cx} (K : Tq)
end
end L2
namespace L2
open PySem PySem.Spec PyProof.Rows
structure QX (X : Cx) (N : List Str) (nt : Nat) (js : List Nat) (scope : Scope) (x : Str) : Prop where
 kind : scope.kind = .function
 split : ∃ pre post,scope.names = pre ++ (x,.cell) :: post ∧ (∀ y ∈ pre,y.2 ≠ .cell) ∧ ∀ y ∈ post,y.2 ≠ .cell
 only : ∀ y ∈ scope.names,y.2 = .cell → y.1 = x
 lx : scope.names.lookup x = some .cell
 names : ∀ y ∈ scope.names,y.2 = .local → scope.names.lookup y.1 = some .local
 free : ∀ y ∈ scope.names,y.2 = .free → X.env.kindOf y.1 = some .cell ∨ X.env.kindOf y.1 = some .free
 len : N.length = nt + js.length
 outer : ∀ j i,js[j]? = some i → ∃ x,N[nt + j]? = some x ∧ X.N[i]? = some x ∧ scope.names.lookup x = some .free
section
variable {X : Cx} {N : List Str} {nt : Nat} {js : List Nat} {scope : Scope} {cl : List (Str × Addr)} {x : Str} {c : Addr}
end
section
variable {X : Cx} {N : List Str} {nt : Nat} {js : List Nat} {scope : Scope} {elt iter tg : Expr} {ifs : List Expr} {pos : Pos} {g : TG} {tc : TT} {te : TE} {wi : TI} {xn : Str}
end
end L2
namespace L2
open PySem PySem.Spec PyProof.Rows
@[reducible] def Cl (u : Tq → TS) (K : Tq) : TS:=u K
theorem Ac {X : Cx} {st : Stmt} {rest : List Stmt} {t v : TS} {K : Tq} {u : Tq → TS} (h1 : PS X st t) (h2 : PSs X rest v) (e : v = u K) : PSs X (st :: rest) (Nr t (Cl u K)):=by
 subst e; exact IE h1 h2
section
variable {X : Cx} {o e : Expr} {es : List Expr} {to : TE} {t : TA} {name : Str} {apos cpos : Pos} {T id : String} {r : V → List V → Hp → VK → Prop}
theorem ND (K : Tq) (pa : PlainAttrs T) (slot : Slot T name id) (hty : typeOf (.builtin id) = pure (.type "method_descriptor")) (hm : MtR X id r) (ho : PE X o to)
 (hbase : attributeBase o name X.env (eval o X.env) = eval o X.env:=by rfl) (hline : (apos.endLine == cpos.line) = true:=by rfl) (eK : X.K = K:=by rfl) : PE X (.Call (.Attribute o name apos) [] [] cpos) (Qn K T r to):=Pg pa slot hty hm ho hbase hline eK
theorem HE (K : Tq) (pa : PlainAttrs T) (slot : Slot T name id) (hty : typeOf (.builtin id) = pure (.type "method_descriptor")) (hm : MtR X id r) (ho : PE X o to) (ha : PA X (e :: es) t)
 (hbase : attributeBase o name X.env (eval o X.env) = eval o X.env:=by rfl)
 (hfew : ((backTo cpos (starEach (e :: es) X.env)).all (fun x=>!x.1) && (backToKw cpos (keywordEach [] X.env)).all (fun x=>x.1.isSome)
  && decide ((e :: es).length + ([] : List Keyword).length + (if ([] : List Keyword).isEmpty then 0 else 1) < 30)) = true:=by rfl)
 (hline : (apos.endLine == cpos.line) = true:=by rfl) (hs : starEach (e :: es) X.env = (false,eval e X.env) :: starEach es X.env:=by rfl) (hplain : (backTo cpos (starEach es X.env)).any (·.1) = false:=by rfl) (eK : X.K = K:=by rfl) :
 PE X (.Call (.Attribute o name apos) (e :: es) [] cpos) (tBM K T r to t):=Qy pa slot hty hm ho ha hbase hfew hline hs hplain eK
end
theorem BA {c : Bool} {A B : Prop} (e : c = true) (h : A) : if c = true then A else B:=by
 rw [if_pos e]; exact h
theorem Bg {c : Bool} {A B : Prop} (e : c = false) (h : B) : if c = true then A else B:=by
 rw [if_neg (by rw [e]; decide)]; exact h
theorem BV {α : Type} {l : List α} {n : Nat} (h : l.length = n + 1) : ∃ a r,l = a :: r ∧ r.length = n:=by
 cases l with
 | nil=>cases h
 | cons a r=>exact ⟨a,r,rfl,Nat.succ.inj h⟩
theorem Fun.binds1 {K : Tq} {x qual : Str} {st : Stmt} {f : Addr} {fd : FuncData} (p1 : Str) (F : Fun K x qual st f fd)
 (h : ∀ (kV doc pm : Value) (an : Option Addr) (cdv ct a1 : Value),bindArgs (Ui x qual (Ap st) (Ao st) (Af st) .none kV doc pm an cdv ct) ⟨[a1],[]⟩ = pure [(p1,a1)]) : CQ K fd [p1] [] :=
 F.binds fun kV doc pm an cdv ct us l0=>by
  obtain ⟨a1,r1,rfl,l1⟩:=BV l0
  cases VD.mp l1
  exact h kV doc pm an cdv ct a1
theorem Fun.binds2 {K : Tq} {x qual : Str} {st : Stmt} {f : Addr} {fd : FuncData} (p1 p2 : Str) (F : Fun K x qual st f fd)
 (h : ∀ (kV doc pm : Value) (an : Option Addr) (cdv ct a1 a2 : Value),bindArgs (Ui x qual (Ap st) (Ao st) (Af st) .none kV doc pm an cdv ct) ⟨[a1,a2],[]⟩ = pure [(p1,a1),(p2,a2)]) : CQ K fd [p1,p2] [] :=
 F.binds fun kV doc pm an cdv ct us l0=>by
  obtain ⟨a1,r1,rfl,l1⟩:=BV l0
  obtain ⟨a2,r2,rfl,l2⟩:=BV l1
  cases VD.mp l2
  exact h kV doc pm an cdv ct a1 a2
theorem Fun.binds3 {K : Tq} {x qual : Str} {st : Stmt} {f : Addr} {fd : FuncData} (p1 p2 p3 : Str) (F : Fun K x qual st f fd)
 (h : ∀ (kV doc pm : Value) (an : Option Addr) (cdv ct a1 a2 a3 : Value),bindArgs (Ui x qual (Ap st) (Ao st) (Af st) .none kV doc pm an cdv ct) ⟨[a1,a2,a3],[]⟩ = pure [(p1,a1),(p2,a2),(p3,a3)]) : CQ K fd [p1,p2,p3] [] :=
 F.binds fun kV doc pm an cdv ct us l0=>by
  obtain ⟨a1,r1,rfl,l1⟩:=BV l0
  obtain ⟨a2,r2,rfl,l2⟩:=BV l1
  obtain ⟨a3,r3,rfl,l3⟩:=BV l2
  cases VD.mp l3
  exact h kV doc pm an cdv ct a1 a2 a3
theorem Fun.binds4 {K : Tq} {x qual : Str} {st : Stmt} {f : Addr} {fd : FuncData} (p1 p2 p3 p4 : Str) (F : Fun K x qual st f fd)
 (h : ∀ (kV doc pm : Value) (an : Option Addr) (cdv ct a1 a2 a3 a4 : Value),bindArgs (Ui x qual (Ap st) (Ao st) (Af st) .none kV doc pm an cdv ct) ⟨[a1,a2,a3,a4],[]⟩ = pure [(p1,a1),(p2,a2),(p3,a3),(p4,a4)]) : CQ K fd [p1,p2,p3,p4] [] :=
 F.binds fun kV doc pm an cdv ct us l0=>by
  obtain ⟨a1,r1,rfl,l1⟩:=BV l0
  obtain ⟨a2,r2,rfl,l2⟩:=BV l1
  obtain ⟨a3,r3,rfl,l3⟩:=BV l2
  obtain ⟨a4,r4,rfl,l4⟩:=BV l3
  cases VD.mp l4
  exact h kV doc pm an cdv ct a1 a2 a3 a4
@[reducible] def L1 {α1 : Type} {δ : Type} (x1 : α1) (u : α1 → δ) : δ:=u x1
@[reducible] def L2 {α1 α2 : Type} {δ : Type} (x1 : α1) (x2 : α2) (u : α1 → α2 → δ) : δ:=u x1 x2
@[reducible] def L3 {α1 α2 α3 : Type} {δ : Type} (x1 : α1) (x2 : α2) (x3 : α3) (u : α1 → α2 → α3 → δ) : δ:=u x1 x2 x3
@[reducible] def L4 {α1 α2 α3 α4 : Type} {δ : Type} (x1 : α1) (x2 : α2) (x3 : α3) (x4 : α4) (u : α1 → α2 → α3 → α4 → δ) : δ:=u x1 x2 x3 x4
@[reducible] def L5 {α1 α2 α3 α4 α5 : Type} {δ : Type} (x1 : α1) (x2 : α2) (x3 : α3) (x4 : α4) (x5 : α5) (u : α1 → α2 → α3 → α4 → α5 → δ) : δ:=u x1 x2 x3 x4 x5
@[reducible] def L6 {α1 α2 α3 α4 α5 α6 : Type} {δ : Type} (x1 : α1) (x2 : α2) (x3 : α3) (x4 : α4) (x5 : α5) (x6 : α6) (u : α1 → α2 → α3 → α4 → α5 → α6 → δ) : δ:=u x1 x2 x3 x4 x5 x6
@[reducible] def L7 {α1 α2 α3 α4 α5 α6 α7 : Type} {δ : Type} (x1 : α1) (x2 : α2) (x3 : α3) (x4 : α4) (x5 : α5) (x6 : α6) (x7 : α7) (u : α1 → α2 → α3 → α4 → α5 → α6 → α7 → δ) : δ:=u x1 x2 x3 x4 x5 x6 x7
@[reducible] def L8 {α1 α2 α3 α4 α5 α6 α7 α8 : Type} {δ : Type} (x1 : α1) (x2 : α2) (x3 : α3) (x4 : α4) (x5 : α5) (x6 : α6) (x7 : α7) (x8 : α8) (u : α1 → α2 → α3 → α4 → α5 → α6 → α7 → α8 → δ) : δ:=u x1 x2 x3 x4 x5 x6 x7 x8
@[reducible] def L9 {α1 α2 α3 α4 α5 α6 α7 α8 α9 : Type} {δ : Type} (x1 : α1) (x2 : α2) (x3 : α3) (x4 : α4) (x5 : α5) (x6 : α6) (x7 : α7) (x8 : α8) (x9 : α9) (u : α1 → α2 → α3 → α4 → α5 → α6 → α7 → α8 → α9 → δ) : δ:=u x1 x2 x3 x4 x5 x6 x7 x8 x9
@[reducible] def L10 {α1 α2 α3 α4 α5 α6 α7 α8 α9 α10 : Type} {δ : Type} (x1 : α1) (x2 : α2) (x3 : α3) (x4 : α4) (x5 : α5) (x6 : α6) (x7 : α7) (x8 : α8) (x9 : α9) (x10 : α10) (u : α1 → α2 → α3 → α4 → α5 → α6 → α7 → α8 → α9 → α10 → δ) : δ:=u x1 x2 x3 x4 x5 x6 x7 x8 x9 x10
@[reducible] def L11 {α1 α2 α3 α4 α5 α6 α7 α8 α9 α10 α11 : Type} {δ : Type} (x1 : α1) (x2 : α2) (x3 : α3) (x4 : α4) (x5 : α5) (x6 : α6) (x7 : α7) (x8 : α8) (x9 : α9) (x10 : α10) (x11 : α11) (u : α1 → α2 → α3 → α4 → α5 → α6 → α7 → α8 → α9 → α10 → α11 → δ) : δ:=u x1 x2 x3 x4 x5 x6 x7 x8 x9 x10 x11
@[reducible] def L12 {α1 α2 α3 α4 α5 α6 α7 α8 α9 α10 α11 α12 : Type} {δ : Type} (x1 : α1) (x2 : α2) (x3 : α3) (x4 : α4) (x5 : α5) (x6 : α6) (x7 : α7) (x8 : α8) (x9 : α9) (x10 : α10) (x11 : α11) (x12 : α12) (u : α1 → α2 → α3 → α4 → α5 → α6 → α7 → α8 → α9 → α10 → α11 → α12 → δ) : δ:=u x1 x2 x3 x4 x5 x6 x7 x8 x9 x10 x11 x12
@[reducible] def L13 {α1 α2 α3 α4 α5 α6 α7 α8 α9 α10 α11 α12 α13 : Type} {δ : Type} (x1 : α1) (x2 : α2) (x3 : α3) (x4 : α4) (x5 : α5) (x6 : α6) (x7 : α7) (x8 : α8) (x9 : α9) (x10 : α10) (x11 : α11) (x12 : α12) (x13 : α13) (u : α1 → α2 → α3 → α4 → α5 → α6 → α7 → α8 → α9 → α10 → α11 → α12 → α13 → δ) : δ:=u x1 x2 x3 x4 x5 x6 x7 x8 x9 x10 x11 x12 x13
@[reducible] def L14 {α1 α2 α3 α4 α5 α6 α7 α8 α9 α10 α11 α12 α13 α14 : Type} {δ : Type} (x1 : α1) (x2 : α2) (x3 : α3) (x4 : α4) (x5 : α5) (x6 : α6) (x7 : α7) (x8 : α8) (x9 : α9) (x10 : α10) (x11 : α11) (x12 : α12) (x13 : α13) (x14 : α14) (u : α1 → α2 → α3 → α4 → α5 → α6 → α7 → α8 → α9 → α10 → α11 → α12 → α13 → α14 → δ) : δ:=u x1 x2 x3 x4 x5 x6 x7 x8 x9 x10 x11 x12 x13 x14
@[reducible] def L15 {α1 α2 α3 α4 α5 α6 α7 α8 α9 α10 α11 α12 α13 α14 α15 : Type} {δ : Type} (x1 : α1) (x2 : α2) (x3 : α3) (x4 : α4) (x5 : α5) (x6 : α6) (x7 : α7) (x8 : α8) (x9 : α9) (x10 : α10) (x11 : α11) (x12 : α12) (x13 : α13) (x14 : α14) (x15 : α15) (u : α1 → α2 → α3 → α4 → α5 → α6 → α7 → α8 → α9 → α10 → α11 → α12 → α13 → α14 → α15 → δ) : δ:=u x1 x2 x3 x4 x5 x6 x7 x8 x9 x10 x11 x12 x13 x14 x15
@[reducible] def L16 {α1 α2 α3 α4 α5 α6 α7 α8 α9 α10 α11 α12 α13 α14 α15 α16 : Type} {δ : Type} (x1 : α1) (x2 : α2) (x3 : α3) (x4 : α4) (x5 : α5) (x6 : α6) (x7 : α7) (x8 : α8) (x9 : α9) (x10 : α10) (x11 : α11) (x12 : α12) (x13 : α13) (x14 : α14) (x15 : α15) (x16 : α16) (u : α1 → α2 → α3 → α4 → α5 → α6 → α7 → α8 → α9 → α10 → α11 → α12 → α13 → α14 → α15 → α16 → δ) : δ:=u x1 x2 x3 x4 x5 x6 x7 x8 x9 x10 x11 x12 x13 x14 x15 x16
@[reducible] def L17 {α1 α2 α3 α4 α5 α6 α7 α8 α9 α10 α11 α12 α13 α14 α15 α16 α17 : Type} {δ : Type} (x1 : α1) (x2 : α2) (x3 : α3) (x4 : α4) (x5 : α5) (x6 : α6) (x7 : α7) (x8 : α8) (x9 : α9) (x10 : α10) (x11 : α11) (x12 : α12) (x13 : α13) (x14 : α14) (x15 : α15) (x16 : α16) (x17 : α17) (u : α1 → α2 → α3 → α4 → α5 → α6 → α7 → α8 → α9 → α10 → α11 → α12 → α13 → α14 → α15 → α16 → α17 → δ) : δ:=u x1 x2 x3 x4 x5 x6 x7 x8 x9 x10 x11 x12 x13 x14 x15 x16 x17
@[reducible] def L18 {α1 α2 α3 α4 α5 α6 α7 α8 α9 α10 α11 α12 α13 α14 α15 α16 α17 α18 : Type} {δ : Type} (x1 : α1) (x2 : α2) (x3 : α3) (x4 : α4) (x5 : α5) (x6 : α6) (x7 : α7) (x8 : α8) (x9 : α9) (x10 : α10) (x11 : α11) (x12 : α12) (x13 : α13) (x14 : α14) (x15 : α15) (x16 : α16) (x17 : α17) (x18 : α18) (u : α1 → α2 → α3 → α4 → α5 → α6 → α7 → α8 → α9 → α10 → α11 → α12 → α13 → α14 → α15 → α16 → α17 → α18 → δ) : δ:=u x1 x2 x3 x4 x5 x6 x7 x8 x9 x10 x11 x12 x13 x14 x15 x16 x17 x18
@[reducible] def L19 {α1 α2 α3 α4 α5 α6 α7 α8 α9 α10 α11 α12 α13 α14 α15 α16 α17 α18 α19 : Type} {δ : Type} (x1 : α1) (x2 : α2) (x3 : α3) (x4 : α4) (x5 : α5) (x6 : α6) (x7 : α7) (x8 : α8) (x9 : α9) (x10 : α10) (x11 : α11) (x12 : α12) (x13 : α13) (x14 : α14) (x15 : α15) (x16 : α16) (x17 : α17) (x18 : α18) (x19 : α19) (u : α1 → α2 → α3 → α4 → α5 → α6 → α7 → α8 → α9 → α10 → α11 → α12 → α13 → α14 → α15 → α16 → α17 → α18 → α19 → δ) : δ:=u x1 x2 x3 x4 x5 x6 x7 x8 x9 x10 x11 x12 x13 x14 x15 x16 x17 x18 x19
@[reducible] def L20 {α1 α2 α3 α4 α5 α6 α7 α8 α9 α10 α11 α12 α13 α14 α15 α16 α17 α18 α19 α20 : Type} {δ : Type} (x1 : α1) (x2 : α2) (x3 : α3) (x4 : α4) (x5 : α5) (x6 : α6) (x7 : α7) (x8 : α8) (x9 : α9) (x10 : α10) (x11 : α11) (x12 : α12) (x13 : α13) (x14 : α14) (x15 : α15) (x16 : α16) (x17 : α17) (x18 : α18) (x19 : α19) (x20 : α20) (u : α1 → α2 → α3 → α4 → α5 → α6 → α7 → α8 → α9 → α10 → α11 → α12 → α13 → α14 → α15 → α16 → α17 → α18 → α19 → α20 → δ) : δ:=u x1 x2 x3 x4 x5 x6 x7 x8 x9 x10 x11 x12 x13 x14 x15 x16 x17 x18 x19 x20
@[reducible] def L21 {α1 α2 α3 α4 α5 α6 α7 α8 α9 α10 α11 α12 α13 α14 α15 α16 α17 α18 α19 α20 α21 : Type} {δ : Type} (x1 : α1) (x2 : α2) (x3 : α3) (x4 : α4) (x5 : α5) (x6 : α6) (x7 : α7) (x8 : α8) (x9 : α9) (x10 : α10) (x11 : α11) (x12 : α12) (x13 : α13) (x14 : α14) (x15 : α15) (x16 : α16) (x17 : α17) (x18 : α18) (x19 : α19) (x20 : α20) (x21 : α21) (u : α1 → α2 → α3 → α4 → α5 → α6 → α7 → α8 → α9 → α10 → α11 → α12 → α13 → α14 → α15 → α16 → α17 → α18 → α19 → α20 → α21 → δ) : δ:=u x1 x2 x3 x4 x5 x6 x7 x8 x9 x10 x11 x12 x13 x14 x15 x16 x17 x18 x19 x20 x21
@[reducible] def L22 {α1 α2 α3 α4 α5 α6 α7 α8 α9 α10 α11 α12 α13 α14 α15 α16 α17 α18 α19 α20 α21 α22 : Type} {δ : Type} (x1 : α1) (x2 : α2) (x3 : α3) (x4 : α4) (x5 : α5) (x6 : α6) (x7 : α7) (x8 : α8) (x9 : α9) (x10 : α10) (x11 : α11) (x12 : α12) (x13 : α13) (x14 : α14) (x15 : α15) (x16 : α16) (x17 : α17) (x18 : α18) (x19 : α19) (x20 : α20) (x21 : α21) (x22 : α22) (u : α1 → α2 → α3 → α4 → α5 → α6 → α7 → α8 → α9 → α10 → α11 → α12 → α13 → α14 → α15 → α16 → α17 → α18 → α19 → α20 → α21 → α22 → δ) : δ:=u x1 x2 x3 x4 x5 x6 x7 x8 x9 x10 x11 x12 x13 x14 x15 x16 x17 x18 x19 x20 x21 x22
@[reducible] def L23 {α1 α2 α3 α4 α5 α6 α7 α8 α9 α10 α11 α12 α13 α14 α15 α16 α17 α18 α19 α20 α21 α22 α23 : Type} {δ : Type} (x1 : α1) (x2 : α2) (x3 : α3) (x4 : α4) (x5 : α5) (x6 : α6) (x7 : α7) (x8 : α8) (x9 : α9) (x10 : α10) (x11 : α11) (x12 : α12) (x13 : α13) (x14 : α14) (x15 : α15) (x16 : α16) (x17 : α17) (x18 : α18) (x19 : α19) (x20 : α20) (x21 : α21) (x22 : α22) (x23 : α23) (u : α1 → α2 → α3 → α4 → α5 → α6 → α7 → α8 → α9 → α10 → α11 → α12 → α13 → α14 → α15 → α16 → α17 → α18 → α19 → α20 → α21 → α22 → α23 → δ) : δ:=u x1 x2 x3 x4 x5 x6 x7 x8 x9 x10 x11 x12 x13 x14 x15 x16 x17 x18 x19 x20 x21 x22 x23
@[reducible] def L24 {α1 α2 α3 α4 α5 α6 α7 α8 α9 α10 α11 α12 α13 α14 α15 α16 α17 α18 α19 α20 α21 α22 α23 α24 : Type} {δ : Type} (x1 : α1) (x2 : α2) (x3 : α3) (x4 : α4) (x5 : α5) (x6 : α6) (x7 : α7) (x8 : α8) (x9 : α9) (x10 : α10) (x11 : α11) (x12 : α12) (x13 : α13) (x14 : α14) (x15 : α15) (x16 : α16) (x17 : α17) (x18 : α18) (x19 : α19) (x20 : α20) (x21 : α21) (x22 : α22) (x23 : α23) (x24 : α24) (u : α1 → α2 → α3 → α4 → α5 → α6 → α7 → α8 → α9 → α10 → α11 → α12 → α13 → α14 → α15 → α16 → α17 → α18 → α19 → α20 → α21 → α22 → α23 → α24 → δ) : δ:=u x1 x2 x3 x4 x5 x6 x7 x8 x9 x10 x11 x12 x13 x14 x15 x16 x17 x18 x19 x20 x21 x22 x23 x24
theorem AV {X : Cx} {c : Expr} {a b : List Stmt} {pos : Pos} {tc : TT} {v1 v2 : TS} {K : Tq} {u1 u2 : Tq → TS} (hc : PT X c tc) (ha : PSs X a v1) (hb : PSs X b v2) (e1 : v1 = u1 K) (e2 : v2 = u2 K) : PS X (.If c a b pos) (Jx tc (Cl u1 K) (Cl u2 K)):=by
 subst e1; subst e2; exact Qx hc ha hb
theorem BE {X : Cx} {tg iter : Expr} {body : List Stmt} {wi : TI} {g : TG} {v : TS} {pos : Pos} {K : Tq} {u : Tq → TS} (hp : PassesOwn (model X.prog X.w) X.A X.env X.xe) (hc : X.calm = true) (hi : PI X tg iter wi) (hg : PG X tg g) (hb : PSs X body v) (e : v = u K)
 (hs : ∀ x,foldedSetIterable iter X.env x = pure x:=by intro _; rfl) : PS X (.For tg iter body [] pos) (ON wi g (Cl u K)):=by
 subst e; exact P6 hp hc hi hg hb hs
theorem MC {a b c d : Nat} (h1 : a = c) (h2 : b = d) : ((a : Int) - (b : Int)).toNat = c - d:=by rw [h1,h2]; exact Int.toNat_sub c d
theorem IP {a b : Nat} (h : a = b) : ((a : Int) - 1).toNat = b - 1:=MC (b:=1) h rfl
theorem Lk {a b c d : Nat} (h1 : a = c) (h2 : b = d) (_h : 1 ≤ d) : ((a : Int) + (b : Int) - 1).toNat = c + d - 1:=by
 rw [h1,h2,← Int.natCast_add]
 exact IP rfl
theorem MB {a b : Nat} (h : 1 ≤ b) : ((a : Int) + (b : Int) - 1).toNat = a + b - 1:=Lk rfl rfl h
theorem Lj {a b m : Nat} (h1 : a ≤ m) (h2 : b ≤ m) : ((a : Int) + (b : Int) - 1).toNat ≤ 2 * m:=by
 rw [← Int.natCast_add,IP rfl,Nat.two_mul]
 exact Tr (Nat.sub_le _ _) (Nat.add_le_add h1 h2)
theorem Po {i j a b n : Nat} (hi : i < a) (hj : j < b) (h : n = a + b - 1) : i + j < n:=by
 rw [h]
 refine Nat.lt_sub_of_add_lt ?_
 rw [Nat.add_right_comm]
 exact Nat.add_lt_add_of_le_of_lt hi hj
end L2
namespace Dt
def skip (i a : Nat) : Nat:=if a < i then a else a + 1
def sg (i : Nat) : Int:=if i % 2 = 0 then 1 else -1
def sumN (f : Nat → Int) : Nat → Int
 | 0=>0
 | n + 1=>sumN f n + f n
def det : Nat → (Nat → Nat → Int) → Nat → Int
 | 0,M,j=>M 0 j
 | n + 1,M,j=>sumN (fun i=>sg i * (M i 0 * det n (fun a b=>M (skip i a) (b + 1)) j)) (n + 2)
theorem sg_succ (i : Nat) : sg (i + 1) = - sg i:=by
 unfold sg
 rcases Nat.mod_two_eq_zero_or_one i with h | h
 ·rw [if_neg (by lia),if_pos h]
 ·rw [if_pos (by lia),if_neg (by lia)]; rfl
theorem sum_congr {f g : Nat → Int} : ∀ {n},(∀ i,i < n → f i = g i) → sumN f n = sumN g n
 | 0,_=>rfl
 | n + 1,h=>by
   show sumN f n + f n = sumN g n + g n
   rw [sum_congr (fun i hi=>h i (by lia)),h n (by lia)]
theorem sum_zero {f : Nat → Int} : ∀ {n},(∀ i,i < n → f i = 0) → sumN f n = 0
 | 0,_=>rfl
 | n + 1,h=>by
   show sumN f n + f n = 0
   rw [sum_zero (fun i hi=>h i (by lia)),h n (by lia)]; rfl
theorem sum_lin {f g h : Nat → Int} {x y : Int} : ∀ {n},(∀ i,i < n → f i = x * g i + y * h i) → sumN f n = x * sumN g n + y * sumN h n
 | 0,_=>by show (0 : Int) = x * 0 + y * 0; grind
 | n + 1,e=>by
   show sumN f n + f n = x * (sumN g n + g n) + y * (sumN h n + h n)
   rw [sum_lin (fun i hi=>e i (by lia)),e n (by lia)]; grind
theorem sum_two {f : Nat → Int} {p : Nat} (h2 : f p + f (p + 1) = 0) : ∀ {n},p + 1 < n → (∀ i,i < n → i ≠ p → i ≠ p + 1 → f i = 0) → sumN f n = 0
 | 0,h,_=>absurd h (by lia)
 | n + 1,h,hz=>by
   show sumN f n + f n = 0
   by_cases e : p + 1 = n
   ·subst e
    show sumN f p + f p + f (p + 1) = 0
    rw [sum_zero (fun i hi=>hz i (by lia) (by lia) (by lia))]; grind
   ·rw [sum_two h2 (n:=n) (by lia) (fun i hi=>hz i (by lia)),hz n (by lia) (by lia) (by lia)]; rfl
theorem sum_first {f : Nat → Int} : ∀ {n},(∀ i,1 ≤ i → i < n + 1 → f i = 0) → sumN f (n + 1) = f 0
 | 0,_=>by show 0 + f 0 = f 0; grind
 | n + 1,h=>by
   show sumN f (n + 1) + f (n + 1) = f 0
   rw [sum_first (n:=n) (fun i h1 h2=>h i h1 (by lia)),h (n + 1) (by lia) (by lia)]; grind
theorem skip_le {i a n : Nat} (h : a ≤ n) : skip i a ≤ n + 1:=by unfold skip; split <;> lia
theorem skip_ne (i a : Nat) : skip i a ≠ i:=by unfold skip; split <;> lia
theorem det_congr : ∀ {n : Nat} {M M' : Nat → Nat → Int} {j : Nat},(∀ a,a ≤ n → ∀ b,M a b = M' a b) → det n M j = det n M' j
 | 0,M,M',j,h=>h 0 (TL _) j
 | n + 1,M,M',j,h=>sum_congr fun i hi=>by
   rw [h i (by lia) 0,det_congr (n:=n) fun a ha b=>h _ (skip_le ha) (b + 1)]
def put (M : Nat → Nat → Int) (p : Nat) (u : Nat → Int) : Nat → Nat → Int:=fun a b=>if a = p then u b else M a b
theorem put_at (M : Nat → Nat → Int) (p : Nat) (u : Nat → Int) (b : Nat) : put M p u p b = u b:=if_pos rfl
theorem put_ne {M : Nat → Nat → Int} {p a : Nat} {u : Nat → Int} (h : a ≠ p) (b : Nat) : put M p u a b = M a b:=if_neg h
def low (i p : Nat) : Nat:=if p < i then p else p - 1
theorem skip_iff {i p a : Nat} (h : i ≠ p) : skip i a = p ↔ a = low i p:=by unfold skip low; split <;> split <;> lia
theorem low_le {i p n : Nat} (h : i ≠ p) (hp : p ≤ n + 1) (hi : i ≤ n + 1) : low i p ≤ n:=by unfold low; split <;> lia
theorem minor_put {M : Nat → Nat → Int} {i p : Nat} {u : Nat → Int} (h : i ≠ p) : (fun a b=>put M p u (skip i a) (b + 1)) = put (fun a b=>M (skip i a) (b + 1)) (low i p) fun b=>u (b + 1):=by
 funext a b
 unfold put
 by_cases e : skip i a = p
 ·rw [if_pos e,if_pos ((skip_iff h).mp e)]
 ·rw [if_neg e,if_neg (fun z=>e ((skip_iff h).mpr z))]
theorem minor_own {M : Nat → Nat → Int} {p : Nat} {u : Nat → Int} : (fun a b=>put M p u (skip p a) (b + 1)) = fun a b=>M (skip p a) (b + 1):=by
 funext a b
 exact put_ne (skip_ne p a) _
theorem det_lin : ∀ {n : Nat} {M : Nat → Nat → Int} {p : Nat} {u v : Nat → Int} {x y : Int} {j : Nat},p ≤ n → det n (put M p fun b=>x * u b + y * v b) j = x * det n (put M p u) j + y * det n (put M p v) j
 | 0,M,p,u,v,x,y,j,h=>by
   obtain rfl : p = 0:=by lia
   rfl
 | n + 1,M,p,u,v,x,y,j,h=>sum_lin fun i hi=>by
   by_cases e : i = p
   ·subst e
    rw [put_at,put_at,put_at,minor_own,minor_own,minor_own]; grind
   ·rw [put_ne e,put_ne e,put_ne e,minor_put e,minor_put e,minor_put e,det_lin (low_le e h (by lia))]; grind
theorem det_adj : ∀ {n : Nat} {M : Nat → Nat → Int} {p j : Nat},p + 1 ≤ n → (∀ b,M p b = M (p + 1) b) → det n M j = 0
 | 0,_,_,_,h,_=>absurd h (by lia)
 | n + 1,M,p,j,h,he=>by
   refine sum_two (p:=p) ?_ (by lia) fun i hi h1 h2=>?_
   ·rw [sg_succ,← he 0]
    have e : det n (fun a b=>M (skip (p + 1) a) (b + 1)) j = det n (fun a b=>M (skip p a) (b + 1)) j:=det_congr fun a ha b=>by
     unfold skip
     by_cases h1 : a < p
     ·rw [if_pos h1,if_pos (by lia)]
     ·by_cases h2 : a = p
      ·subst h2
       rw [if_pos (by lia),if_neg (by lia)]; exact he _
      ·rw [if_neg (by lia),if_neg h1]
    rw [e]; grind
   ·have z : det n (fun a b=>M (skip i a) (b + 1)) j = 0:=by
     by_cases hlt : i < p
     ·obtain ⟨q,rfl⟩ : ∃ q,p = q + 1:=⟨p - 1,by lia⟩
      refine det_adj (p:=q) (by lia) fun b=>?_
      show M (skip i q) _ = M (skip i (q + 1)) _
      have e1 : skip i q = q + 1:=by unfold skip; rw [if_neg (by lia)]
      have e2 : skip i (q + 1) = q + 1 + 1:=by unfold skip; rw [if_neg (by lia)]
      rw [e1,e2]; exact he _
     ·refine det_adj (p:=p) (by lia) fun b=>?_
      show M (skip i p) _ = M (skip i (p + 1)) _
      have e1 : skip i p = p:=by unfold skip; rw [if_pos (by lia)]
      have e2 : skip i (p + 1) = p + 1:=by unfold skip; rw [if_pos (by lia)]
      rw [e1,e2]; exact he _
    rw [z]; grind
def swp (M : Nat → Nat → Int) (p : Nat) : Nat → Nat → Int:=put (put M p (M (p + 1))) (p + 1) (M p)
theorem put_comm (M : Nat → Nat → Int) {p q : Nat} (h : p ≠ q) (u v : Nat → Int) : put (put M p u) q v = put (put M q v) p u:=by
 funext a b; unfold put; split <;> split <;> first | rfl | lia
theorem put_self (M : Nat → Nat → Int) (p : Nat) : put M p (M p) = M:=by
 funext a b; unfold put; split
 ·subst_vars; rfl
 ·rfl
theorem det_add {n : Nat} {M : Nat → Nat → Int} {p : Nat} {u v : Nat → Int} {j : Nat} (h : p ≤ n) : det n (put M p fun b=>u b + v b) j = det n (put M p u) j + det n (put M p v) j:=by
 have:=det_lin (M:=M) (u:=u) (v:=v) (x:=1) (y:=1) (j:=j) h
 rw [UH,UH] at this
 rw [← this]
 congr 2
 funext b
 rw [UH,UH]
theorem det_swp {n : Nat} {M : Nat → Nat → Int} {p j : Nat} (h : p + 1 ≤ n) : det n (swp M p) j = - det n M j:=by
 have z : ∀ u : Nat → Int,det n (put (put M p u) (p + 1) u) j = 0:=fun u=>det_adj h fun b=>by
  rw [put_at,put_ne (by lia),put_at]
 have bi : ∀ u v u' v' : Nat → Int,det n (put (put M p fun b=>u b + v b) (p + 1) fun b=>u' b + v' b) j =
  det n (put (put M p u) (p + 1) u') j + det n (put (put M p v) (p + 1) u') j + (det n (put (put M p u) (p + 1) v') j + det n (put (put M p v) (p + 1) v') j):=fun u v u' v'=>by
  have c : ∀ u w,put (put M p u) (p + 1) w = put (put M (p + 1) w) p u:=fun u w=>put_comm M (by lia) u w
  rw [det_add h,c _ u',c _ v',det_add (by lia),det_add (by lia),c,c,c,c]
 have key:=z fun b=>M p b + M (p + 1) b
 rw [bi,z,z] at key
 have e : put (put M p (M p)) (p + 1) (M (p + 1)) = M:=by rw [put_self,put_self]
 rw [e] at key
 unfold swp
 grind
theorem det_two : ∀ (d : Nat) {n : Nat} {M : Nat → Nat → Int} {p j : Nat},p + 1 + d ≤ n → (∀ b,M p b = M (p + 1 + d) b) → det n M j = 0
 | 0,n,M,p,j,h,he=>det_adj h he
 | d + 1,n,M,p,j,h,he=>by
   have s:=det_swp (M:=M) (p:=p + 1 + d) (j:=j) (n:=n) (by lia)
   have z : det n (swp M (p + 1 + d)) j = 0:=det_two d (p:=p) (by lia) fun b=>by
    unfold swp
    rw [put_ne (by lia),put_ne (by lia),put_ne (by lia),put_at]
    exact he b
   lia
theorem det_eq {n : Nat} {M : Nat → Nat → Int} {p q j : Nat} (hp : p ≤ n) (hq : q ≤ n) (hpq : p ≠ q) (he : ∀ b,M p b = M q b) : det n M j = 0:=by
 rcases Nat.lt_or_gt_of_ne hpq with h | h
 ·obtain ⟨d,rfl⟩ : ∃ d,q = p + 1 + d:=⟨q - p - 1,by lia⟩
  exact det_two d hq he
 ·obtain ⟨d,rfl⟩ : ∃ d,p = q + 1 + d:=⟨p - q - 1,by lia⟩
  exact det_two d hp fun b=>(he b).symm
theorem det_scale {n : Nat} {M : Nat → Nat → Int} {p : Nat} {u : Nat → Int} {c : Int} {j : Nat} (h : p ≤ n) : det n (put M p fun b=>c * u b) j = c * det n (put M p u) j:=by
 have:=det_lin (M:=M) (u:=u) (v:=u) (x:=c) (y:=0) (j:=j) h
 have e : (fun b=>c * u b + 0 * u b) = fun b=>c * u b:=by funext b; grind
 rw [e] at this
 rw [this]; grind
theorem det_more {n : Nat} {M : Nat → Nat → Int} {p q : Nat} {u : Nat → Int} {c : Int} {j : Nat} (hp : p ≤ n) (hq : q ≤ n) (h : p ≠ q) : det n (put M p fun b=>u b + c * M q b) j = det n (put M p u) j:=by
 rw [det_add hp,det_scale hp,det_eq (M:=put M p (M q)) hp hq h (fun b=>by rw [put_at,put_ne (Ne.symm h)])]; grind
theorem det_mores {n : Nat} {M : Nat → Nat → Int} {p : Nat} {u : Nat → Int} {c : Nat → Int} {r : Nat → Nat} {j : Nat} (hp : p ≤ n) : ∀ t,(∀ i,i < t → r i ≤ n ∧ r i ≠ p) → det n (put M p fun b=>u b + sumN (fun i=>c i * M (r i) b) t) j = det n (put M p u) j
 | 0,_=>by
   have e : (fun b=>u b + sumN (fun i=>c i * M (r i) b) 0) = u:=by funext b; show u b + 0 = u b; lia
   rw [e]
 | t + 1,h=>by
   have e : (fun b=>u b + sumN (fun i=>c i * M (r i) b) (t + 1)) = fun b=>(u b + sumN (fun i=>c i * M (r i) b) t) + c t * M (r t) b:=by
    funext b; show u b + (_ + _) = _; grind
   rw [e,det_more hp (h t (by lia)).1 (Ne.symm (h t (by lia)).2)]
   exact det_mores hp t fun i hi=>h i (by lia)
theorem det_peel {n : Nat} {M : Nat → Nat → Int} {j : Nat} (h : ∀ i,1 ≤ i → i ≤ n + 1 → M i 0 = 0) : det (n + 1) M j = M 0 0 * det n (fun a b=>M (a + 1) (b + 1)) j:=by
 show sumN _ (n + 1 + 1) = _
 rw [sum_first fun i h1 h2=>by rw [h i h1 (by lia)]; grind]
 have e : det n (fun a b=>M (skip 0 a) (b + 1)) j = det n (fun a b=>M (a + 1) (b + 1)) j:=rfl
 rw [e]
 show sg 0 * _ = _
 have : sg 0 = 1:=rfl
 rw [this]; grind
def sh (i : Nat) (v : Nat → Int) : Nat → Int:=fun b=>if b < i then 0 else v (b - i)
def syl (p : Nat) (g f : Nat → Int) : Nat → Nat → Int:=fun a=>if a < p then sh a g else sh (a - p) f
theorem syl_less {p q : Nat} {g f r : Nat → Int} {c : Int} {e : Nat → Int} {d j : Nat} (hd : d + q ≤ p + 1) (hf : ∀ b,c * f b = r b + sumN (fun t=>e t * sh t g b) d) (hq : 0 < q) :
 c ^ q * det (p + q - 1) (syl p g f) j = det (p + q - 1) (syl p g r) j:=by
 -- the first t rows of f are changed
 have key : ∀ t,t ≤ q → c ^ t * det (p + q - 1) (syl p g f) j = det (p + q - 1) (fun a=>if a < p then sh a g else if a - p < t then sh (a - p) r else sh (a - p) f) j:=by
  intro t
  induction t with
  | zero =>
    intro _
    rw [Vo,UH]
    refine det_congr fun a _ b=>?_
    unfold syl
    by_cases h : a < p
    ·rw [if_pos h,if_pos h]
    ·rw [if_neg h,if_neg h,if_neg (by lia)]
  | succ t ih =>
    intro ht
    have ih:=ih (by lia)
    rw [Vp,VE (c ^ t) c,VF,ih]
    generalize hM : (fun a=>if a < p then sh a g else if a - p < t then sh (a - p) r else sh (a - p) f) = M
    have hMp : M (p + t) = sh t f:=by rw [← hM]; show (if p + t < p then _ else if p + t - p < t then _ else sh (p + t - p) f) = _; rw [if_neg (by lia),if_neg (by lia),Nat.add_sub_cancel_left]
    have hMg : ∀ i,i < p → M i = sh i g:=fun i hi=>by rw [← hM]; exact if_pos hi
    have e1 : det (p + q - 1) M j = det (p + q - 1) (put M (p + t) (sh t f)) j:=by rw [← hMp,put_self]
    rw [e1,← det_scale (by lia)]
    have e2 : (fun b=>c * sh t f b) = fun b=>sh t r b + sumN (fun i=>e i * M (i + t) b) d:=by
     funext b
     have e3 : sumN (fun i=>e i * M (i + t) b) d = sumN (fun i=>e i * sh (i + t) g b) d:=sum_congr fun i hi=>by rw [hMg _ (by lia)]
     rw [e3]
     unfold sh
     by_cases hb : b < t
     ·rw [if_pos hb,if_pos hb,sum_zero fun i _=>by rw [if_pos (by lia)]; grind]; grind
     ·rw [if_neg hb,if_neg hb,hf (b - t)]
      congr 1
      refine sum_congr fun i _=>?_
      unfold sh
      by_cases h2 : b - t < i
      ·rw [if_pos h2,if_pos (by lia)]
      ·rw [if_neg h2,if_neg (by lia),show b - t - i = b - (i + t) by lia]
    rw [e2,det_mores (r:=fun i=>i + t) (c:=e) (by lia) d fun i hi=>⟨by lia,by lia⟩]
    refine det_congr fun a _ b=>?_
    unfold put
    by_cases ha : a = p + t
    ·rw [if_pos ha,if_neg (by lia),if_pos (by lia),show a - p = t by lia]
    ·rw [if_neg ha,← hM]
     dsimp only
     by_cases h : a < p
     ·rw [if_pos h,if_pos h]
     ·rw [if_neg h,if_neg h]
      by_cases h2 : a - p < t
      ·rw [if_pos h2,if_pos (by lia)]
      ·rw [if_neg h2,if_neg (by lia)]
 rw [key q (TL _)]
 refine det_congr fun a ha b=>?_
 unfold syl
 by_cases h : a < p
 ·rw [if_pos h,if_pos h]
 ·rw [if_neg h,if_neg h,if_pos (by lia)]
theorem syl_peel {p q : Nat} {g f : Nat → Int} {j : Nat} (hf : f 0 = 0) (hn : 1 ≤ p + q) : det (p + q) (syl (p + 1) g f) j = g 0 * det (p + q - 1) (syl p g fun b=>f (b + 1)) j:=by
 obtain ⟨n,hn'⟩ : ∃ n,p + q = n + 1:=⟨p + q - 1,by lia⟩
 rw [hn',VG]
 rw [det_peel fun i h1 h2=>?_]
 ·have e0 : syl (p + 1) g f 0 0 = g 0:=by unfold syl; rw [if_pos (by lia)]; rfl
  rw [e0]
  congr 1
  refine det_congr fun a _ b=>?_
  unfold syl
  by_cases h : a < p
  ·rw [if_pos h,if_pos (by lia)]
   unfold sh
   by_cases h2 : b < a
   ·rw [if_pos h2,if_pos (by lia)]
   ·rw [if_neg h2,if_neg (by lia),show b + 1 - (a + 1) = b - a by lia]
  ·rw [if_neg h,if_neg (by lia),show a + 1 - (p + 1) = a - p by lia]
   unfold sh
   by_cases h2 : b < a - p
   ·rw [if_pos h2]
    by_cases h3 : b + 1 < a - p
    ·rw [if_pos h3]
    ·rw [if_neg h3,show b + 1 - (a - p) = 0 by lia]; exact hf
   ·rw [if_neg h2,if_neg (by lia),show b + 1 - (a - p) = b - (a - p) + 1 by lia]
 ·unfold syl
  by_cases h : i < p + 1
  ·rw [if_pos h]; unfold sh; rw [if_pos (by lia)]
  ·rw [if_neg h]; unfold sh
   by_cases h3 : 0 < i - (p + 1)
   ·rw [if_pos h3]
   ·rw [if_neg h3,Nat.zero_sub]; exact hf
theorem syl_peels {q : Nat} {g : Nat → Int} {j : Nat} : ∀ (t p : Nat) {f : Nat → Int},(∀ i,i < t → f i = 0) → 1 ≤ p + q → det (p + t + q - 1) (syl (p + t) g f) j = g 0 ^ t * det (p + q - 1) (syl p g fun b=>f (b + t)) j
 | 0,p,f,_,_=>by
   rw [Vo,UH]; rfl
 | t + 1,p,f,h,hn=>by
   have e:=syl_peel (p:=p + t) (q:=q) (g:=g) (f:=f) (j:=j) (h 0 (by lia)) (by lia)
   rw [show p + (t + 1) + q - 1 = p + t + q by lia,show p + (t + 1) = p + t + 1 by lia,e]
   rw [syl_peels t p (f:=fun b=>f (b + 1)) (fun i hi=>h (i + 1) (by lia)) hn,Vp]
   have e2 : (fun b=>f (b + t + 1)) = fun b=>f (b + (t + 1)):=rfl
   rw [e2]; grind
theorem det_down {n : Nat} : ∀ (d : Nat) {M : Nat → Nat → Int} {p : Nat},p + d ≤ n → ∃ s : Int,(s = 1 ∨ s = -1) ∧ ∀ j,det n (fun a=>if a < p then M a else if a < p + d then M (a + 1) else if a = p + d then M p else M a) j = s * det n M j
 | 0,M,p,h=>⟨1,.inl rfl,fun j=>by
   rw [UH]
   refine det_congr fun a _ b=>?_
   by_cases h1 : a < p
   ·rw [if_pos h1]
   ·rw [if_neg h1,if_neg (by lia)]
    by_cases h2 : a = p + 0
    ·rw [if_pos h2,h2]; rfl
    ·rw [if_neg h2]⟩
 | d + 1,M,p,h=>by
   obtain ⟨s,hs,e⟩:=det_down (n:=n) d (M:=M) (p:=p) (by lia)
   refine ⟨-s,by lia,fun j=>?_⟩
   have sw:=det_swp (M:=fun a=>if a < p then M a else if a < p + d then M (a + 1) else if a = p + d then M p else M a) (p:=p + d) (j:=j) (n:=n) (by lia)
   rw [e] at sw
   rw [Int.neg_mul,← sw]
   refine det_congr fun a _ b=>?_
   unfold swp put
   dsimp only
   by_cases h1 : a = p + d + 1
   ·rw [if_pos h1,if_neg (by lia),if_neg (by lia),if_pos (by lia),if_neg (by lia),if_neg (by lia),if_pos rfl]
   ·rw [if_neg h1]
    by_cases h2 : a = p + d
    ·rw [if_pos h2,if_neg (by lia),if_pos (by lia),if_neg (by lia),if_neg (by lia),if_neg (by lia),h2]
    ·rw [if_neg h2]
     by_cases h3 : a < p
     ·rw [if_pos h3,if_pos h3]
     ·rw [if_neg h3,if_neg h3]
      by_cases h4 : a < p + d
      ·rw [if_pos h4,if_pos (by lia)]
      ·rw [if_neg h4,if_neg (by lia),if_neg (by lia),if_neg h2]
theorem det_round {n : Nat} {M : Nat → Nat → Int} : ∀ t,t ≤ n + 1 → ∃ s : Int,(s = 1 ∨ s = -1) ∧ ∀ j,det n (fun a=>if a + t ≤ n then M (a + t) else M (a + t - (n + 1))) j = s * det n M j
 | 0,_=>⟨1,.inl rfl,fun j=>by
   rw [UH]
   refine det_congr fun a ha b=>?_
   rw [if_pos (by lia)]; rfl⟩
 | t + 1,h=>by
   obtain ⟨s,hs,e⟩:=det_round (n:=n) (M:=M) t (by lia)
   obtain ⟨s',hs',e'⟩:=det_down n (M:=fun a=>if a + t ≤ n then M (a + t) else M (a + t - (n + 1))) (p:=0) (n:=n) (by lia)
   refine ⟨s' * s,by rcases hs with rfl | rfl <;> rcases hs' with rfl | rfl <;> decide,fun j=>?_⟩
   rw [VF,← e,← e']
   refine det_congr fun a ha b=>?_
   rw [if_neg (show ¬ a < 0 by lia)]
   by_cases h1 : a < 0 + n
   ·rw [if_pos h1]
    by_cases h2 : a + (t + 1) ≤ n
    ·rw [if_pos h2,if_pos (by lia),show a + 1 + t = a + (t + 1) by lia]
    ·rw [if_neg h2,if_neg (by lia),show a + 1 + t = a + (t + 1) by lia]
   ·obtain rfl : a = n:=by lia
    rw [if_neg h1,if_pos (show a = 0 + a by lia),if_pos (show 0 + t ≤ a by lia),if_neg (show ¬ a + (t + 1) ≤ a by lia),show a + (t + 1) - (a + 1) = 0 + t by lia]
theorem syl_round {p q : Nat} {g f : Nat → Int} (h : 1 ≤ p + q) : ∃ s : Int,(s = 1 ∨ s = -1) ∧ ∀ j,det (p + q - 1) (syl q f g) j = s * det (p + q - 1) (syl p g f) j:=by
 obtain ⟨s,hs,e⟩:=det_round (n:=p + q - 1) (M:=syl p g f) p (by lia)
 refine ⟨s,hs,fun j=>?_⟩
 rw [← e]
 refine det_congr fun a ha b=>?_
 unfold syl
 by_cases h1 : a < q
 ·rw [if_pos h1,if_pos (by lia),if_neg (by lia),VG]
 ·rw [if_neg h1,if_neg (by lia),if_pos (by lia),show a + p - (p + q - 1 + 1) = a - q by lia]
def sub (m n k : Nat) (f g : Nat → Int) (j : Nat) : Int:=det (m - k + (n - k) - 1) (syl (m - k) g f) j
theorem sub_step {m n l k : Nat} {f g r : Nat → Int} {e : Nat → Int} (hnm : n ≤ m) (hln : l < n) (hkl : k ≤ l) (hr0 : ∀ i,i < m - l → r i = 0)
 (hf : ∀ b,g 0 ^ (m - n + 1) * f b = r b + sumN (fun t=>e t * sh t g b) (m - n + 1)) :
 ∃ s : Int,(s = 1 ∨ s = -1) ∧ ∀ j,(g 0 ^ (m - n + 1)) ^ (n - k) * sub m n k f g j = s * (g 0 ^ (m - l) * sub n l k g (fun b=>r (b + (m - l))) j):=by
 obtain ⟨s,hs,e1⟩:=syl_round (p:=l - k) (q:=n - k) (g:=g) (f:=fun b=>r (b + (m - l))) (by lia)
 refine ⟨s,hs,fun j=>?_⟩
 unfold sub
 rw [syl_less (q:=n - k) (by lia) hf (by lia)]
 have e2:=syl_peels (q:=n - k) (g:=g) (j:=j) (m - l) (l - k) (f:=r) hr0 (by lia)
 rw [show l - k + (m - l) + (n - k) - 1 = m - k + (n - k) - 1 by lia,show l - k + (m - l) = m - k by lia] at e2
 rw [e2,show n - k + (l - k) - 1 = l - k + (n - k) - 1 by lia,e1]
 rcases hs with rfl | rfl <;> grind
theorem sub_rest {m n : Nat} {f g r : Nat → Int} {e : Nat → Int} {j : Nat} (hnm : n ≤ m) (hn : 0 < n) (hg : g 0 ≠ 0) (hr0 : ∀ i,i < m - n + 1 → r i = 0)
 (hf : ∀ b,g 0 ^ (m - n + 1) * f b = r b + sumN (fun t=>e t * sh t g b) (m - n + 1)) : sub m n (n - 1) f g j = r (j + (m - n + 1)):=by
 have e1:=syl_less (p:=m - (n - 1)) (q:=n - (n - 1)) (j:=j) (by lia) hf (by lia)
 have e2:=syl_peels (q:=n - (n - 1)) (g:=g) (j:=j) (m - n + 1) 0 (f:=r) hr0 (by lia)
 rw [show 0 + (m - n + 1) = m - (n - 1) by lia] at e2
 rw [e2,show n - (n - 1) = 1 by lia,Int.pow_one] at e1
 have e3 : det (0 + 1 - 1) (syl 0 g fun b=>r (b + (m - n + 1))) j = r (j + (m - n + 1)):=rfl
 rw [e3] at e1
 unfold sub
 rw [show n - (n - 1) = 1 by lia]
 exact VH (VI hg) e1
theorem sub_one {m n : Nat} {f g : Nat → Int} {j : Nat} (h : n < m) : sub m n n f g j = g 0 ^ (m - n - 1) * g j:=by
 unfold sub
 rw [VJ,Nat.add_zero]
 have key : ∀ t,det t (syl (t + 1) g f) j = g 0 ^ t * g j:=by
  intro t
  induction t with
  | zero =>
    rw [Vo,UH]
    show syl 1 g f 0 j = _
    unfold syl sh
    rw [if_pos (by lia)]; rfl
  | succ t ih =>
    rw [det_peel fun i h1 h2=>by unfold syl; rw [if_pos (by lia)]; unfold sh; rw [if_pos (by lia)]]
    have e0 : syl (t + 1 + 1) g f 0 0 = g 0:=by unfold syl; rw [if_pos (by lia)]; rfl
    have e1 : det t (fun a b=>syl (t + 1 + 1) g f (a + 1) (b + 1)) j = det t (syl (t + 1) g f) j:=det_congr fun a ha b=>by
     unfold syl
     rw [if_pos (by lia),if_pos (by lia)]
     unfold sh
     by_cases h2 : b < a
     ·rw [if_pos h2,if_pos (by lia)]
     ·rw [if_neg h2,if_neg (by lia),show b + 1 - (a + 1) = b - a by lia]
    rw [e0,e1,ih,Vp]; grind
 have:=key (m - n - 1)
 rw [show m - n - 1 + 1 = m - n by lia] at this
 exact this
theorem sub_scale {m n k : Nat} {f g : Nat → Int} {c : Int} {j : Nat} (h : k < m) : sub m n k f (fun b=>c * g b) j = c ^ (m - k) * sub m n k f g j:=by
 unfold sub
 have key : ∀ t,t ≤ m - k → det (m - k + (n - k) - 1) (fun a=>if a < t then sh a (fun b=>c * g b) else syl (m - k) g f a) j = c ^ t * det (m - k + (n - k) - 1) (syl (m - k) g f) j:=by
  intro t
  induction t with
  | zero =>
    intro _
    rw [Vo,UH]
    exact det_congr fun a _ b=>by rw [if_neg (by lia)]
  | succ t ih =>
    intro ht
    rw [Vp,VE (c ^ t) c,VF,← ih (by lia)]
    generalize hM : (fun a=>if a < t then sh a (fun b=>c * g b) else syl (m - k) g f a) = M
    have hMt : M t = sh t g:=by rw [← hM]; show (if t < t then _ else syl (m - k) g f t) = _; rw [if_neg (by lia)]; exact if_pos (by lia)
    have e1 : det (m - k + (n - k) - 1) M j = det (m - k + (n - k) - 1) (put M t (sh t g)) j:=by rw [← hMt,put_self]
    rw [e1,← det_scale (by lia)]
    refine det_congr fun a _ b=>?_
    unfold put
    by_cases h1 : a = t
    ·rw [if_pos (by lia),if_pos h1,h1]
     unfold sh; split <;> grind
    ·rw [if_neg h1,← hM]
     dsimp only
     by_cases h2 : a < t
     ·rw [if_pos h2,if_pos (by lia)]
     ·rw [if_neg h2,if_neg (by lia)]
 rw [← key (m - k) (TL _)]
 refine det_congr fun a _ b=>?_
 unfold syl
 by_cases h1 : a < m - k
 ·rw [if_pos h1,if_pos h1]
 ·rw [if_neg h1,if_neg h1,if_neg h1]
end Dt
namespace Dt
structure Srs (S : Nat → Nat → Int) (m n : Nat) (f g : Nat → Int) (lead held : Int) : Prop where
 le : n ≤ m
 g0 : g 0 ≠ 0
 l0 : lead ≠ 0
 h0 : held ≠ 0
 one : n < m ∨ (lead = 1 ∧ held = 1)
 is : ∀ k,k ≤ n → ∃ s : Int,(s = 1 ∨ s = -1) ∧ ∀ j,lead ^ (n - k) * held ^ (m - k - 1) * S k j = s * sub m n k f g j
theorem Srs.first {m n : Nat} {f g : Nat → Int} (h : n ≤ m) (hg : g 0 ≠ 0) : Srs (fun k j=>sub m n k f g j) m n f g 1 1 :=
 ⟨h,hg,by decide,by decide,.inr ⟨rfl,rfl⟩,fun k _=>⟨1,.inl rfl,fun j=>by rw [VL,VL]; grind⟩⟩
section
variable {S : Nat → Nat → Int} {m n : Nat} {f g r : Nat → Int} {e : Nat → Int} {lead held : Int}
theorem Srs.next {l : Nat} {h : Nat → Int} {held' : Int} (I : Srs S m n f g lead held) (hln : l < n) (hr0 : ∀ i,i < m - l → r i = 0)
 (hf : ∀ b,g 0 ^ (m - n + 1) * f b = r b + sumN (fun t=>e t * sh t g b) (m - n + 1)) (hr : ∀ b,r (b + (m - l)) = lead * held ^ (m - n) * h b) (h00 : h 0 ≠ 0)
 (hh : (n < m ∧ g 0 ^ (m - n) = held ^ (m - n - 1) * held') ∨ (m = n ∧ held' = held)) (hh0 : held' ≠ 0) : Srs S n l g h (g 0) held':=by
 refine ⟨by lia,h00,I.g0,hh0,.inl hln,fun k hk=>?_⟩
 have hle:=I.le
 obtain ⟨s1,hs1,e1⟩:=I.is k (by lia)
 obtain ⟨s2,hs2,e2⟩:=sub_step hle hln hk hr0 hf
 refine ⟨s1 * s2,by rcases hs1 with rfl | rfl <;> rcases hs2 with rfl | rfl <;> decide,fun j=>?_⟩
 replace e1:=e1 j
 replace e2:=e2 j
 have er : (fun b=>r (b + (m - l))) = fun b=>lead * held ^ (m - n) * h b:=funext hr
 rw [er,sub_scale (by lia)] at e2
 obtain ⟨a,ha⟩ : ∃ a,n - k = a + 1:=⟨n - k - 1,by lia⟩
 obtain ⟨d,hd⟩ : ∃ d,m = n + d:=⟨m - n,by lia⟩
 have e1' : lead ^ (a + 1) * held ^ (a + d) * S k j = s1 * sub m n k f g j:=by
  rw [ha,show m - k - 1 = a + d by lia] at e1; exact e1
 have e2' : (g 0 ^ (d + 1)) ^ (a + 1) * sub m n k f g j = s2 * (g 0 ^ (m - l) * ((lead * held ^ d) ^ (a + 1) * sub n l k g h j)):=by
  rw [ha,show m - n = d by lia] at e2; exact e2
 generalize sub m n k f g j = D at e1' e2'
 generalize sub n l k g h j = D' at e2'
 generalize S k j = T at e1'
 -- together
 have e3 : (g 0 ^ (d + 1)) ^ (a + 1) * (lead ^ (a + 1) * held ^ (a + d) * T) = s1 * s2 * (g 0 ^ (m - l) * ((lead * held ^ d) ^ (a + 1) * D')):=by
  rw [e1']
  have : (g 0 ^ (d + 1)) ^ (a + 1) * (s1 * D) = s1 * ((g 0 ^ (d + 1)) ^ (a + 1) * D):=by grind
  rw [this,e2']; grind
 rw [show n - k - 1 = a by lia]
 have z1 : lead ^ (a + 1) ≠ 0:=VI I.l0
 have z2 : g 0 ^ (m - l) ≠ 0:=VI I.g0
 have z3 : held ^ (d * (a + 1)) ≠ 0:=VI I.h0
 have eF : (lead * held ^ d) ^ (a + 1) = lead ^ (a + 1) * held ^ (d * (a + 1)):=by rw [Int.mul_pow,← VM]
 rw [eF] at e3
 refine VH (a:=lead ^ (a + 1)) z1 (VH (a:=g 0 ^ (m - l)) z2 (VH (a:=held ^ (d * (a + 1))) z3 ?_))
 have eG : (g 0 ^ (d + 1)) ^ (a + 1) = g 0 ^ (m - l) * g 0 ^ (l - k) * g 0 ^ (d * a):=by
  rw [← VM,← VN,← VN]
  congr 1
  have : (d + 1) * (a + 1) = d * a + d + a + 1:=by rw [Vh,Vq]; lia
  lia
 rw [eG] at e3
 have eH : held ^ (d * (a + 1)) * held' ^ a = held ^ (a + d) * g 0 ^ (d * a):=by
  rcases hh with ⟨hlt,hh⟩ | ⟨he,hh⟩
  ·obtain ⟨d',rfl⟩ : ∃ d',d = d' + 1:=⟨d - 1,by lia⟩
   rw [show m - n = d' + 1 by lia,show d' + 1 - 1 = d' by lia] at hh
   rw [VM (a:=g 0),hh,Int.mul_pow,← VM]
   have x1 : (d' + 1) * (a + 1) = (a + (d' + 1)) + d' * a:=by rw [Vh,Vq]; lia
   rw [x1,VN]; grind
  ·obtain rfl : d = 0:=by lia
   subst hh
   rcases I.one with z | ⟨_,z⟩
   ·lia
   ·rw [z,VL,VL,VL,Nat.zero_mul,Vo]
 have : held ^ (d * (a + 1)) * (g 0 ^ (m - l) * (lead ^ (a + 1) * (g 0 ^ (l - k) * held' ^ a * T))) = g 0 ^ (m - l) * lead ^ (a + 1) * g 0 ^ (l - k) * T * (held ^ (d * (a + 1)) * held' ^ a):=by grind
 rw [this,eH]
 have : held ^ (d * (a + 1)) * (g 0 ^ (m - l) * (lead ^ (a + 1) * (s1 * s2 * D'))) = s1 * s2 * (g 0 ^ (m - l) * (lead ^ (a + 1) * held ^ (d * (a + 1)) * D')):=by grind
 rw [this,← e3]; grind
end
theorem sum_abs {f : Nat → Int} {X : Nat} : ∀ {n},(∀ i,i < n → (f i).natAbs ≤ X) → (sumN f n).natAbs ≤ n * X
 | 0,_=>by show (0 : Int).natAbs ≤ 0 * X; simp
 | n + 1,h=>by
   have ih:=sum_abs (f:=f) (X:=X) (n:=n) fun i hi=>h i (by lia)
   have hn:=h n (by lia)
   show (sumN f n + f n).natAbs ≤ _
   have:=Vf (sumN f n) (f n)
   rw [Vh,Vi]
   lia
end Dt
namespace L2
open Dt
theorem Ey (f : Nat → Int) : ∀ n,sumN f (n + 1) = f 0 + sumN (fun t=>f (t + 1)) n
 | 0=>by show 0 + f 0 = f 0 + 0; lia
 | n + 1=>by
   have ih:=Ey f n
   show sumN f (n + 1) + f (n + 1) = f 0 + (sumN (fun t=>f (t + 1)) n + f (n + 1))
   rw [ih]; lia
theorem K3 (f : Nat → Int) : ∀ n,sumN f n = sumN (fun t=>f (n - 1 - t)) n
 | 0=>rfl
 | n + 1=>by
   have ih:=K3 f n
   rw [Ey (fun t=>f (n + 1 - 1 - t)) n]
   show sumN f n + f n = f (n + 1 - 1 - 0) + _
   rw [ih,show n + 1 - 1 - 0 = n by lia]
   have e : sumN (fun t=>f (n + 1 - 1 - (t + 1))) n = sumN (fun t=>f (n - 1 - t)) n:=sum_congr fun t _=>by rw [show n + 1 - 1 - (t + 1) = n - 1 - t by lia]
   rw [e]; lia
theorem Dc (l : List Int) (i : Nat) : (l.map fun t : Int=>(t : Rat)).getD i 0 = ((l.getD i 0 : Int) : Rat):=by
 rw [V2,V2,Uc]
 cases l[i]? <;> rfl
def cvI (l m : List Int) (i : Nat) : Int:=sumN (fun t=>l.getD t 0 * (if t ≤ i then m.getD (i - t) 0 else 0)) l.length
theorem MZ (m : List Int) : ∀ (l : List Int) (i : Nat),(AW (l.map fun t : Int=>(t : Rat)) (m.map fun t : Int=>(t : Rat))).getD i 0 = ((cvI l m i : Int) : Rat)
 | [],i=>by
   show ([] : List Rat).getD i 0 = _
   cases i <;> rfl
 | a :: l,i=>by
   have ih:=MZ m l
   have e1 : cvI (a :: l) m i = a * m.getD i 0 + (match i with | 0=>0 | j + 1=>cvI l m j):=by
    unfold cvI
    rw [UA,Ey]
    congr 1
    match i with
    | 0=>exact sum_zero fun t _=>by rw [if_neg (by lia)]; exact VO _
    | j + 1 =>
      refine sum_congr fun t _=>?_
      show l.getD t 0 * _ = l.getD t 0 * _
      by_cases h : t ≤ j
      ·rw [if_pos h,if_pos (by lia),show j + 1 - (t + 1) = j - t by lia]
      ·rw [if_neg h,if_neg (by lia)]
   show (AU ((m.map fun t : Int=>(t : Rat)).map (· * (a : Rat))) (0 :: AW (l.map fun t : Int=>(t : Rat)) (m.map fun t : Int=>(t : Rat)))).getD i 0 = _
   rw [BC,BG,Dc,e1,UM,UN]
   match i with
   | 0 =>
     show _ + (0 : Rat) = _ + ((0 : Int) : Rat)
     rw [VP]; grind
   | j + 1 =>
     show _ + (AW _ _).getD j 0 = _ + ((cvI l m j : Int) : Rat)
     rw [ih j]; grind
theorem MX {fs gs os rs : List Int} {c : Int} (h : ∀ x,Cv.evI fs x * ((c : Int) : Rat) = Cv.evI os x * Cv.evI gs x + Cv.evI rs x) (i : Nat) : c * fs.getD i 0 = cvI os gs i + rs.getD i 0:=by
 have e:=De (l:=(fs.map fun t : Int=>(t : Rat)).map (· * ((c : Int) : Rat))) (m:=AU (AW (os.map fun t : Int=>(t : Rat)) (gs.map fun t : Int=>(t : Rat))) (rs.map fun t : Int=>(t : Rat))) (fun k=>by
  rw [Cv.ev_scale,Bc,Az]; exact h _) i
 rw [BG,BC,MZ,Dc,Dc,← UN,← UM] at e
 have:=Rat.intCast_inj.mp e
 rw [← this]; exact VE _ _
def tf (l : List Int) : Nat → Int:=fun b=>if b < l.length then l.getD (l.length - 1 - b) 0 else 0
def rf (m : Nat) (rs : List Int) : Nat → Int:=fun b=>if b ≤ m then rs.getD (m - b) 0 else 0
theorem J8 {fs gs os rs : List Int} {c : Int} {m n : Nat} (hm : fs.length = m + 1) (hn : gs.length = n + 1) (hnm : n ≤ m) (ho : os.length = m - n + 1) (hr : rs.length = n)
 (h : ∀ x,Cv.evI fs x * ((c : Int) : Rat) = Cv.evI os x * Cv.evI gs x + Cv.evI rs x) (b : Nat) :
 c * tf fs b = rf m rs b + sumN (fun t=>os.getD (m - n - t) 0 * sh t (tf gs) b) (m - n + 1):=by
 by_cases hb : b ≤ m
 ·have e:=MX h (m - b)
  unfold cvI at e
  rw [ho,K3] at e
  have e1 : tf fs b = fs.getD (m - b) 0:=by unfold tf; rw [if_pos (by lia),hm,show m + 1 - 1 - b = m - b by lia]
  have e2 : rf m rs b = rs.getD (m - b) 0:=if_pos hb
  rw [e1,e2,e,Int.add_comm]
  congr 1
  refine sum_congr fun t ht=>?_
  rw [show m - n + 1 - 1 - t = m - n - t by lia]
  congr 1
  unfold sh tf
  by_cases h1 : b < t
  ·rw [if_pos h1,if_pos (by lia),V2,Vs (by lia)]; rfl
  ·rw [if_neg h1]
   by_cases h2 : b - t < gs.length
   ·rw [if_pos h2,if_pos (by lia),show gs.length - 1 - (b - t) = m - b - (m - n - t) by lia]
   ·rw [if_neg h2,if_neg (by lia)]
 ·have e1 : tf fs b = 0:=if_neg (by lia)
  have e2 : rf m rs b = 0:=if_neg hb
  rw [e1,e2,sum_zero fun t ht=>?_]
  ·lia
  ·unfold sh tf
   rw [if_neg (by lia),if_neg (by lia)]; lia
theorem OT {m n : Nat} {rs : List Int} (hr : rs.length = n) {i : Nat} (hi : i < m - n + 1) (hnm : n ≤ m) : rf m rs i = 0:=by
 unfold rf
 rw [if_pos (by lia),V2,Vs (by lia)]; rfl
structure LR (S : Nat → Nat → Int) (fs gs : List Int) (lead held : Int) : Prop where
 fp : 1 ≤ fs.length
 srs : 1 ≤ gs.length → Srs S (fs.length - 1) (gs.length - 1) (tf fs) (tf gs) lead held
theorem Fz {l : List Int} {t : Int} (h : l[l.length - 1]? = some t) : tf l 0 = t:=by
 have hl:=(TC.mp h).1
 unfold tf
 rw [if_pos (by lia),Vn,V2,h]; rfl
theorem LR.first {fs gs : List Int} (hf : 1 ≤ fs.length) (hle : gs.length ≤ fs.length) (hg : ∀ t,gs[gs.length - 1]? = some t → t ≠ 0) : LR (fun k j=>sub (fs.length - 1) (gs.length - 1) k (tf fs) (tf gs) j) fs gs 1 1 :=
 ⟨hf,fun h1=>Srs.first (by lia) (by
  have e : gs[gs.length - 1]? = some (gs[gs.length - 1]'(by lia)):=V9 _
  rw [Fz e]; exact hg _ e)⟩
theorem LR.next {S : Nat → Nat → Int} {fs gs os rs hs : List Int} {lead held held' g : Int} {w : Nat} (I : LR S fs gs lead held) (hg : gs[gs.length - 1]? = some g) (hle : gs.length ≤ fs.length) (ho : os.length = fs.length + 1 - gs.length) (hr : rs.length = gs.length - 1)
 (h : ∀ x,Cv.evI fs x * ((g ^ os.length : Int) : Rat) = Cv.evI os x * Cv.evI gs x + Cv.evI rs x) (hw : w ≤ rs.length) (hz : ∀ j,w ≤ j → rs.getD j 0 = 0) (hlast : 1 ≤ w → rs.getD (w - 1) 0 ≠ 0)
 (hh : hs.length = w) (he : ∀ j,rs.getD j 0 = lead * held ^ (fs.length - gs.length) * hs.getD j 0)
 (hd : (gs.length < fs.length ∧ g ^ (fs.length - gs.length) = held ^ (fs.length - gs.length - 1) * held') ∨ (fs.length = gs.length ∧ held' = held)) (hd0 : held' ≠ 0) : LR S gs hs g held':=by
 have hl:=(TC.mp hg).1
 refine ⟨by lia,fun h1=>?_⟩
 obtain ⟨m,hm⟩ : ∃ m,fs.length = m + 1:=⟨fs.length - 1,by lia⟩
 obtain ⟨n,hn⟩ : ∃ n,gs.length = n + 1:=⟨gs.length - 1,by lia⟩
 obtain ⟨l,hl'⟩ : ∃ l,hs.length = l + 1:=⟨hs.length - 1,by lia⟩
 have s:=I.srs (by lia)
 rw [hm,hn,VG,VG] at s
 rw [hn,hl',VG,VG]
 have rows:=J8 hm hn (by lia) (by lia) (by lia) h
 have e0:=Fz hg
 have key:=s.next (l:=l) (h:=tf hs) (held':=held') (r:=rf m rs) (e:=fun t=>os.getD (m - n - t) 0) (by lia) (fun i hi=>?_) (fun b=>?_) (fun b=>?_) ?_ ?_ hd0
 ·rw [e0] at key; exact key
 ·unfold rf
  by_cases him : i ≤ m
  ·rw [if_pos him,hz _ (by lia)]
  ·exact if_neg him
 ·have:=rows b
  rw [show os.length = m - n + 1 by lia] at this
  rw [e0]; exact this
 ·rw [hm,hn,show m + 1 - (n + 1) = m - n by lia] at he
  unfold rf tf
  by_cases hb : b ≤ l
  ·rw [if_pos (by lia),if_pos (by lia),he,show hs.length - 1 - b = m - (b + (m - l)) by lia]
  ·rw [if_neg (by lia),if_neg (by lia),VO]
 ·intro z
  unfold tf at z
  rw [if_pos (by lia),Vn] at z
  have:=hlast (by lia)
  rw [he,show w - 1 = hs.length - 1 by lia,z,VO] at this
  exact this rfl
 ·rw [e0]
  rcases hd with ⟨d1,d2⟩ | ⟨d1,d2⟩
  ·left
   rw [hm,hn,show m + 1 - (n + 1) = m - n by lia] at d2
   exact ⟨by lia,d2⟩
  ·exact .inr ⟨by lia,d2⟩
theorem Jv {l : List Int} {X : Nat} (h : ∀ t ∈ l,t.natAbs ≤ X) (b : Nat) : (tf l b).natAbs ≤ X:=by
 unfold tf
 split
 ·rw [V2,V9 (by lia)]; exact h _ (Va _)
 ·exact TQ _
end L2
namespace L2
def Ba (d p : List Rat) : Prop:=∃ q : List Rat,∀ x,Cv.ev p x = Cv.ev q x * Cv.ev d x
theorem Ba.refl (d : List Rat) : Ba d d:=⟨[1],fun x=>by show _ = (1 + x * 0) * _; grind⟩
theorem Ba.nil (d : List Rat) : Ba d []:=⟨[],fun x=>by show (0 : Rat) = 0 * _; grind⟩
theorem Ba.of {d p q r a b : List Rat} (h1 : Ba d p) (h2 : Ba d q) (h : ∀ x,Cv.ev r x = Cv.ev a x * Cv.ev p x + Cv.ev b x * Cv.ev q x) : Ba d r:=by
 obtain ⟨u,hu⟩:=h1
 obtain ⟨v,hv⟩:=h2
 exact ⟨AU (AW a u) (AW b v),fun x=>by rw [h,hu,hv,Bc,Az,Az]; grind⟩
theorem Ba.less {d p r : List Rat} {c : Rat} (hc : c ≠ 0) (h1 : Ba d p) (h : ∀ x,Cv.ev r x * c = Cv.ev p x) : Ba d r:=by
 obtain ⟨u,hu⟩:=h1
 refine ⟨u.map (· * c⁻¹),fun x=>?_⟩
 have e:=VR _ hc
 have : Cv.ev r x = Cv.ev r x * c * c⁻¹:=by rw [VS,e,VT]
 rw [this,h,hu,Cv.ev_scale]; grind
theorem Ba.trans {d e p : List Rat} (h1 : Ba d e) (h2 : Ba e p) : Ba d p:=by
 obtain ⟨u,hu⟩:=h1
 obtain ⟨v,hv⟩:=h2
 exact ⟨AW v u,fun x=>by rw [hv,hu,Az]; grind⟩
theorem Ba.rest {d p os rs : List Rat} (h : Ba d p) (gd : AO d) (nd : d ≠ []) (go : AO os) (gr : AO rs) (hl : rs.length < d.length) (he : ∀ x,Cv.ev p x = Cv.ev os x * Cv.ev d x + Cv.ev rs x) : rs = []:=by
 obtain ⟨u,hu⟩:=h
 exact (O5 gd nd go (Bb u) gr (.inl rfl) hl (by have:=UQ.mpr nd; simpa using this) fun x=>by
  rw [← he,Cv.ev_strip,hu]; show _ = _ + (0 : Rat); grind).2
theorem MF {p q : List Rat} (gp : AO p) (gq : AO q) (lp : p[p.length - 1]? = some 1) (lq : q[q.length - 1]? = some 1) (h1 : Ba p q) (h2 : Ba q p) : p = q:=by
 have np : p ≠ []:=fun z=>by rw [z] at lp; cases lp
 have nq : q ≠ []:=fun z=>by rw [z] at lq; cases lq
 have key : ∀ {p q : List Rat},AO p → AO q → p ≠ [] → q ≠ [] → Ba p q → ∃ a : List Rat,AO a ∧ a ≠ [] ∧ q = AW a p ∧ q.length = a.length + p.length - 1:=by
  intro p q gp gq np nq h
  obtain ⟨u,hu⟩:=h
  have na : Cv.strip u ≠ []:=fun z=>by
   have : q = []:=BB gq (.inl rfl) fun x=>by rw [hu,← Cv.ev_strip,z]; show (0 : Rat) * _ = 0; grind
   exact nq this
  have eq : q = AW (Cv.strip u) p:=BB gq (Cj (Bb u) gp na np) fun x=>by rw [Az,Cv.ev_strip,hu]
  refine ⟨_,Bb u,na,eq,?_⟩
  have l1:=UQ.mpr na
  have l2:=UQ.mpr np
  rw [eq,Bx p l2 _ l1]
 obtain ⟨a,ga,na,ea,la⟩:=key gp gq np nq h1
 obtain ⟨b,_,nb,_,lb⟩:=key gq gp nq np h2
 have l1:=UQ.mpr na
 have l2:=UQ.mpr nb
 have l3:=UQ.mpr np
 match a,l1,la,lb,ea with
 | [c],_,la,_,ea =>
   have e:=EM p 1 lp [c] c rfl
   have hl : q.length - 1 = [c].length + p.length - 2:=by rw [la]; simp only [UA,UB]; lia
   rw [← ea,← hl,lq] at e
   have hc : c = 1:=by have:=Tb.inj e; grind
   refine BB gp gq fun x=>?_
   rw [ea,Az,hc]
   show _ = (1 + x * 0) * _
   grind
 | c :: c' :: a,_,la,lb,_=>exact absurd lb (by simp only [UA] at la; lia)
def Com (A B F G : List Rat) : Prop:=∀ d,(Ba d A ∧ Ba d B) ↔ (Ba d F ∧ Ba d G)
theorem Com.refl (A B : List Rat) : Com A B A B:=fun _=>Iff.rfl
theorem Com.turn (A B : List Rat) : Com A B B A:=fun _=>And.comm
theorem Com.trans {A B F G P Q : List Rat} (h1 : Com A B F G) (h2 : Com F G P Q) : Com A B P Q:=fun d=>(h1 d).trans (h2 d)
abbrev cst (l : List Int) : List Rat:=l.map fun t : Int=>(t : Rat)
theorem Com.step {fs gs os rs hs : List Int} {c φ : Int} (hc : c ≠ 0) (hφ : φ ≠ 0) (h : ∀ x,Cv.evI fs x * ((c : Int) : Rat) = Cv.evI os x * Cv.evI gs x + Cv.evI rs x) (hr : ∀ x,Cv.evI rs x = ((φ : Int) : Rat) * Cv.evI hs x) : Com (cst fs) (cst gs) (cst gs) (cst hs):=fun d=>by
 have hc':=Nm.cast_ne hc
 have hφ':=Nm.cast_ne hφ
 constructor
 ·rintro ⟨h1,h2⟩
  refine ⟨h2,?_⟩
  have i1 : Ba d (cst rs):=Ba.of (a:=[(c : Rat)]) (b:=(cst os).map (· * (-1))) h1 h2 fun x=>by
   have:=h x
   show Cv.evI rs x = ((c : Rat) + x * 0) * Cv.evI fs x + _
   rw [Cv.ev_scale]
   show Cv.evI rs x = ((c : Rat) + x * 0) * Cv.evI fs x + Cv.evI os x * -1 * Cv.evI gs x
   grind
  exact Ba.less hφ' i1 fun x=>by
   have:=hr x
   show Cv.evI hs x * (φ : Rat) = Cv.evI rs x
   grind
 ·rintro ⟨h1,h2⟩
  refine ⟨?_,h1⟩
  have i1 : Ba d (AW [(c : Rat)] (cst fs)):=Ba.of (a:=cst os) (b:=[(φ : Rat)]) h1 h2 fun x=>by
   have e1:=h x
   have e2:=hr x
   rw [Az]
   show ((c : Rat) + x * 0) * Cv.evI fs x = Cv.evI os x * Cv.evI gs x + ((φ : Rat) + x * 0) * Cv.evI hs x
   grind
  exact Ba.less hc' i1 fun x=>by
   rw [Az]
   show Cv.evI fs x * (c : Rat) = ((c : Rat) + x * 0) * Cv.evI fs x
   grind
theorem Com.scale {A A' B B' : List Rat} {a b : Rat} (ha : a ≠ 0) (hb : b ≠ 0) (h1 : ∀ x,Cv.ev A' x = Cv.ev A x * a) (h2 : ∀ x,Cv.ev B' x = Cv.ev B x * b) : Com A B A' B':=fun d=>by
 have up : ∀ {P P' : List Rat} {c : Rat},(∀ x,Cv.ev P' x = Cv.ev P x * c) → Ba d P → Ba d P':=fun {P P' c} h ⟨u,hu⟩=>⟨u.map (· * c),fun x=>by rw [h,hu,Cv.ev_scale]; grind⟩
 exact ⟨fun ⟨x,y⟩=>⟨up h1 x,up h2 y⟩,fun ⟨x,y⟩=>⟨Ba.less ha x fun z=>(h1 z).symm,Ba.less hb y fun z=>(h2 z).symm⟩⟩
structure DQ (A B p : List Rat) : Prop where
 good : AO p
 mono : p[p.length - 1]? = some 1
 is : ∀ d,(Ba d A ∧ Ba d B) ↔ Ba d p
theorem DQ.into {A B p : List Rat} (h : DQ A B p) : Ba p A ∧ Ba p B:=(h.is p).mpr (Ba.refl p)
theorem DQ.one {A B A' B' p q : List Rat} (h1 : DQ A B p) (h2 : DQ A' B' q) (c : Com A B A' B') : p = q :=
 MF h1.good h2.good h1.mono h2.mono ((h2.is p).mp ((c p).mp h1.into)) ((h1.is q).mp ((c q).mpr h2.into))
theorem DQ.ne {A B p : List Rat} (h : DQ A B p) : p ≠ []:=fun z=>by have:=h.mono; rw [z] at this; cases this
theorem DQ.of {A B F p : List Rat} {c : Rat} (hc : c ≠ 0) (h : Com A B F []) (g : AO p) (m : p[p.length - 1]? = some 1) (e : ∀ x,Cv.ev p x * c = Cv.ev F x) : DQ A B p :=
 ⟨g,m,fun d=>(h d).trans ⟨fun ⟨x,_⟩=>Ba.less hc x e,fun x=>⟨Ba.of (a:=[c]) (b:=[]) x (Ba.nil d) fun z=>by
  rw [← e]
  show _ = (c + z * 0) * _ + 0 * _
  grind,Ba.nil d⟩⟩⟩
end L2
namespace L2
open Dt
def Et (l : List Int) : Prop:=∀ t,l[l.length - 1]? = some t → t ≠ 0
def PD (l : List Int) : Prop:=∃ D : Nat → Int,D 0 ≠ 0 ∧ (∀ j,Bd 45100 (D j)) ∧ ∀ j,tf l j * D 0 = D j * tf l 0
structure LRI (S : Nat → Nat → Int) (fs gs fs' gs' : List Int) (lead held : Int) (B d0 : Nat) : Prop where
 lr : LR S fs' gs' lead held
 le : gs'.length ≤ fs'.length
 l8 : fs'.length ≤ 8
 t1 : Et fs'
 t2 : Et gs'
 com : Com (cst fs) (cst gs) (cst fs') (cst gs')
 bf : ∀ t ∈ fs',Bd B t
 bg : ∀ t ∈ gs',Bd B t
 bl : Bd (B + 1) lead
 bh : Bd (B * d0 + 1) held
 d8 : d0 + fs'.length ≤ 8
 bb : B + 1 ≤ 3 ^ (9 - fs'.length) * 3001
 b3 : fs'.length = gs'.length → B ≤ 3000
 pd : PD fs'
section
variable {S : Nat → Nat → Int} {fs gs fs' gs' : List Int} {lead held : Int} {B d0 : Nat}
theorem HZ (x : Rat) : ∀ (l m : List Rat),(∀ j,l.getD j 0 = m.getD j 0) → Cv.ev l x = Cv.ev m x
 | [],[],_=>rfl
 | [],b :: m,h=>by
   have ih:=HZ x [] m fun j=>by have:=h (j + 1); simpa using this
   have h0:=h 0
   have e : (0 : Rat) = b:=by simpa using h0
   show (0 : Rat) = b + x * Cv.ev m x
   rw [← ih,← e]; show (0 : Rat) = 0 + x * 0; grind
 | a :: l,[],h=>by
   have ih:=HZ x l [] fun j=>by have:=h (j + 1); simpa using this
   have h0:=h 0
   have e : a = (0 : Rat):=by simpa using h0
   show a + x * Cv.ev l x = 0
   rw [ih,e]; show (0 : Rat) + x * 0 = 0; grind
 | a :: l,b :: m,h=>by
   have ih:=HZ x l m fun j=>by have:=h (j + 1); simpa using this
   have h0:=h 0
   have e : a = b:=by simpa using h0
   show a + x * Cv.ev l x = b + x * Cv.ev m x
   rw [ih,e]
end
end L2
namespace L2
open Dt
theorem Ja : ∀ {n : Nat} {M : Nat → Nat → Int} {W j : Nat},n + 1 ≤ 31 → (∀ a b,(M a b).natAbs ≤ 2 ^ W) → (det n M j).natAbs ≤ 2 ^ ((n + 1) * (W + 5))
 | 0,M,W,j,_,h=>by
   show (M 0 j).natAbs ≤ _
   exact Tr (h 0 j) (Vb (by decide) (by lia))
 | n + 1,M,W,j,hn,h=>by
   have e : (det (n + 1) M j).natAbs ≤ (n + 2) * (2 ^ W * 2 ^ ((n + 1) * (W + 5))):=sum_abs fun i hi=>by
    have ih:=Ja (n:=n) (M:=fun a b=>M (skip i a) (b + 1)) (W:=W) (j:=j) (by lia) fun a b=>h _ _
    have s1 : (sg i).natAbs = 1:=by unfold sg; split <;> rfl
    rw [Vc,Vc,s1,Vi]
    exact VU (h i 0) ih
   refine Tr e ?_
   have p : (n + 1 + 1) * (W + 5) = 5 + (W + (n + 1) * (W + 5)):=by rw [Vh (n + 1) 1]; lia
   rw [p,Vd,← Vd 2 W]
   exact Vj _ (by lia)
theorem OP {fs gs : List Int} {W X : Nat} (h : fs.length ≤ 10) (hle : gs.length ≤ fs.length) (bf : ∀ t ∈ fs,Bd W t) (bg : ∀ t ∈ gs,Bd W t) (hX : 18 * (W + 5) + 1 ≤ X) (k j : Nat) : Bd X (sub (fs.length - 1) (gs.length - 1) k (tf fs) (tf gs) j):=by
 unfold sub
 have p0 : (0 : Int).natAbs ≤ 2 ^ W:=TQ _
 have hf:=Jv (l:=fs) (X:=2 ^ W) fun t ht=>Ts (bf t ht)
 have hg:=Jv (l:=gs) (X:=2 ^ W) fun t ht=>Ts (bg t ht)
 have e:=Ja (n:=fs.length - 1 - k + (gs.length - 1 - k) - 1) (M:=syl (fs.length - 1 - k) (tf gs) (tf fs)) (W:=W) (j:=j) (by lia) fun a b=>by
  unfold syl
  split
  ·unfold sh; split
   ·exact p0
   ·exact hg _
  ·unfold sh; split
   ·exact p0
   ·exact hf _
 have q : (fs.length - 1 - k + (gs.length - 1 - k) - 1 + 1) * (W + 5) ≤ 18 * (W + 5):=Vj _ (by lia)
 exact Uy e (Nat.pow_lt_pow_right (by decide) (by lia))
def PDX (X : Nat) (l : List Int) : Prop:=∃ D : Nat → Int,D 0 ≠ 0 ∧ (∀ j,Bd X (D j)) ∧ ∀ j,tf l j * D 0 = D j * tf l 0
structure LRJ (S : Nat → Nat → Int) (fs gs fs' gs' : List Int) (lead held : Int) (X : Nat) : Prop where
 lr : LR S fs' gs' lead held
 le : gs'.length ≤ fs'.length
 l10 : fs'.length ≤ 10
 t1 : Et fs'
 t2 : Et gs'
 com : Com (cst fs) (cst gs) (cst fs') (cst gs')
 bf : ∀ t ∈ fs',Bd X t
 bg : ∀ t ∈ gs',Bd X t
 bl : Bd X lead
 bh : Bd X held
theorem NF {l : List Int} {X : Nat} (h1 : 1 ≤ l.length) (ht : Et l) (hb : ∀ t ∈ l,Bd X t) : PDX X l:=by
 have e : l[l.length - 1]? = some (l[l.length - 1]'(by lia)):=V9 _
 refine ⟨tf l,by rw [Fz e]; exact ht _ e,fun j=>?_,fun j=>rfl⟩
 have p0 : 0 < 2 ^ X:=Nat.pow_pos (by decide)
 have:=Jv (l:=l) (X:=2 ^ X - 1) (fun t ht=>by have:=hb t ht; unfold Bd at this; lia) j
 unfold Bd
 lia
theorem LRJ.first {fs gs : List Int} {W X : Nat} (h1 : 1 ≤ fs.length) (hle : gs.length ≤ fs.length) (h8 : fs.length ≤ 10) (t1 : Et fs) (t2 : Et gs) (bf : ∀ t ∈ fs,Bd W t) (bg : ∀ t ∈ gs,Bd W t) (hX : 18 * (W + 5) + 1 ≤ X) :
 LRJ (fun k j=>sub (fs.length - 1) (gs.length - 1) k (tf fs) (tf gs) j) fs gs fs gs 1 1 X :=
 ⟨LR.first h1 hle t2,hle,h8,t1,t2,Com.refl _ _,(fun t ht=>(bf t ht).mono (by lia)),(fun t ht=>(bg t ht).mono (by lia)),(show Bd 1 1 by unfold Bd; decide).mono (by lia),(show Bd 1 1 by unfold Bd; decide).mono (by lia)⟩
section
variable {S : Nat → Nat → Int} {fs gs fs' gs' : List Int} {lead held : Int} {X : Nat}
theorem _root_.Dt.Srs.rest_is {S : Nat → Nat → Int} {m n : Nat} {f g r : Nat → Int} {e : Nat → Int} {lead held : Int} (I : Srs S m n f g lead held) (hn : 0 < n) (hr0 : ∀ i,i < m - n + 1 → r i = 0) (hf : ∀ b,g 0 ^ (m - n + 1) * f b = r b + sumN (fun t=>e t * sh t g b) (m - n + 1)) (j : Nat) :
 ∃ c : Int,r (j + (m - n + 1)) = lead * held ^ (m - n) * c ∧ (c = S (n - 1) j ∨ c = - S (n - 1) j):=by
 obtain ⟨s,hs,h⟩:=I.is (n - 1) (by lia)
 replace h:=h j
 rw [sub_rest I.le hn I.g0 hr0 hf,show n - (n - 1) = 1 by lia,Int.pow_one,show m - (n - 1) - 1 = m - n by have:=I.le; lia] at h
 rcases hs with rfl | rfl
 ·exact ⟨S (n - 1) j,by grind,.inl rfl⟩
 ·exact ⟨- S (n - 1) j,by grind,.inr rfl⟩
theorem _root_.Dt.Srs.more_is {S : Nat → Nat → Int} {m n : Nat} {f g : Nat → Int} {lead held : Int} (I : Srs S m n f g lead held) (h : n < m) : ∃ q : Int,g 0 ^ (m - n) = held ^ (m - n - 1) * q ∧ q ≠ 0 ∧ (q = S n 0 ∨ q = - S n 0):=by
 obtain ⟨s,hs,e⟩:=I.is n (TL _)
 replace e:=e 0
 rw [sub_one h,VJ,Vo,UH,← Vp,show (m - n - 1).succ = m - n by lia] at e
 have e' : g 0 ^ (m - n) = held ^ (m - n - 1) * (s * S n 0):=by rcases hs with rfl | rfl <;> grind
 refine ⟨_,e',fun z=>?_,by rcases hs with rfl | rfl <;> grind⟩
 rw [z,VO] at e'
 exact absurd e' (VI I.g0)
theorem KO {X : Nat} {c d : Int} (h : Bd X d) (e : c = d ∨ c = -d) : Bd X c:=by
 unfold Bd at *
 rcases e with rfl | rfl
 ·exact h
 ·rw [Int.natAbs_neg]; exact h
theorem LRJ.next {os rs : List Int} {g held' : Int} {w : Nat} (I : LRJ S fs gs fs' gs' lead held X) (hS : ∀ k j,Bd X (S k j)) (hg : gs'[gs'.length - 1]? = some g) (ho : os.length = fs'.length + 1 - gs'.length) (hr : rs.length = gs'.length - 1)
 (hev : ∀ x,Cv.evI fs' x * ((g ^ os.length : Int) : Rat) = Cv.evI os x * Cv.evI gs' x + Cv.evI rs x) (hw : w ≤ rs.length) (hz : ∀ j,w ≤ j → rs.getD j 0 = 0) (hlast : 1 ≤ w → rs.getD (w - 1) 0 ≠ 0)
 (hh : (gs'.length < fs'.length ∧ held' = VW (g ^ (fs'.length - gs'.length)) (held ^ (fs'.length - gs'.length - 1))) ∨ (fs'.length = gs'.length ∧ held' = held)) :
 lead * held ^ (fs'.length - gs'.length) ≠ 0 ∧ LRJ S fs gs gs' ((rs.take w).map fun t=>VW t (lead * held ^ (fs'.length - gs'.length))) g held' X ∧ (gs'.length < fs'.length → PDX X gs'):=by
 have hl:=(TC.mp hg).1
 have s:=I.lr.srs (by lia)
 have hle:=I.le
 have l10:=I.l10
 have hφ : lead * held ^ (fs'.length - gs'.length) ≠ 0:=UL s.l0 (VI s.h0)
 refine ⟨hφ,?_⟩
 -- each number of the rest
 have dv : ∀ i,i < rs.length → ∃ c : Int,rs.getD i 0 = lead * held ^ (fs'.length - gs'.length) * c ∧ Bd X c:=fun i hi=>by
  obtain ⟨m,hm⟩ : ∃ m,fs'.length = m + 1:=⟨fs'.length - 1,by lia⟩
  obtain ⟨n,hn⟩ : ∃ n,gs'.length = n + 1:=⟨gs'.length - 1,by lia⟩
  rw [hm,hn,VG,VG] at s
  have rows:=J8 hm hn (by lia) (by lia) (by lia) hev
  have e0:=Fz hg
  obtain ⟨c,hc,hcs⟩:=s.rest_is (r:=rf m rs) (e:=fun t=>os.getD (m - n - t) 0) (by lia) (fun i hi=>OT (n:=n) (by lia) hi (by lia)) (fun b=>by
   have:=rows b
   rw [show os.length = m - n + 1 by lia] at this
   rw [e0]; exact this) (n - 1 - i)
  have e1 : rf m rs (n - 1 - i + (m - n + 1)) = rs.getD i 0:=by
   unfold rf
   rw [if_pos (by lia),show m - (n - 1 - i + (m - n + 1)) = i by lia]
  rw [e1] at hc
  refine ⟨c,?_,KO (hS _ _) hcs⟩
  rw [hm,hn,show m + 1 - (n + 1) = m - n by lia]
  exact hc
 generalize hF : lead * held ^ (fs'.length - gs'.length) = φ at *
 have hsB : ∀ t ∈ (rs.take w).map fun t=>VW t φ,Bd X t:=fun t ht=>by
  obtain ⟨u,hu,rfl⟩:=VX.mp ht
  obtain ⟨i,hi⟩:=VY (VZ hu)
  obtain ⟨c,hc,bc⟩:=dv i (TC.mp hi).1
  rw [V2,hi] at hc
  have hc : u = φ * c:=hc
  rw [hc,UD _ hφ]
  exact bc
 have hs : ∀ j,rs.getD j 0 = φ * ((rs.take w).map fun t=>VW t φ).getD j 0:=fun j=>by
  by_cases hj : j < w
  ·have e1 : rs[j]? = some (rs[j]'(by lia)):=V9 _
   obtain ⟨c,hc,_⟩:=dv j (by lia)
   have hc':=hc
   rw [V2,e1] at hc'
   have hc' : rs[j]'(by lia) = φ * c:=hc'
   rw [hc,V2,Uc,List.getElem?_take_of_lt hj,e1,hc']
   show φ * c = φ * VW (φ * c) φ
   rw [UD _ hφ]
  ·rw [hz j (by lia),V2,Vs (by rw [Ug,U8]; lia)]
   show (0 : Int) = φ * 0
   lia
 generalize hH : ((rs.take w).map fun t=>VW t φ) = hs' at hs hsB
 have hhl : hs'.length = w:=by rw [← hH,Ug,U8]; lia
 have hg0 : g ≠ 0:=I.t2 g hg
 have bg : Bd X g:=I.bg _ (Ud hg)
 have hd : ((gs'.length < fs'.length ∧ g ^ (fs'.length - gs'.length) = held ^ (fs'.length - gs'.length - 1) * held') ∨ (fs'.length = gs'.length ∧ held' = held)) ∧ held' ≠ 0 ∧ Bd X held':=by
  rcases hh with ⟨h1,h2⟩ | ⟨h1,h2⟩
  ·obtain ⟨q,hq,hq0,hqs⟩:=s.more_is (by lia)
   rw [Fz hg,show fs'.length - 1 - (gs'.length - 1) = fs'.length - gs'.length by lia] at hq
   have : held' = q:=by rw [h2,hq,UD _ (VI s.h0)]
   rw [this]
   exact ⟨.inl ⟨h1,hq⟩,hq0,KO (hS _ _) hqs⟩
  ·exact ⟨.inr ⟨h1,h2⟩,by rw [h2]; exact s.h0,by rw [h2]; exact I.bh⟩
 have nx : LR S gs' hs' g held':=I.lr.next hg hle ho hr hev hw hz hlast hhl (fun j=>by rw [hF]; exact hs j) hd.1 hd.2.1
 have com : Com (cst fs') (cst gs') (cst gs') (cst hs'):=Com.step (c:=g ^ os.length) (φ:=φ) (VI hg0) hφ hev fun x=>by
  have e : Cv.ev (cst rs) x = Cv.ev ((cst hs').map (· * (φ : Rat))) x:=HZ x _ _ fun j=>by
   rw [BG,Dc,Dc,hs j,UN,Vy]
  show Cv.ev (cst rs) x = _
  rw [e,Cv.ev_scale,Vy]; rfl
 have t2 : Et hs':=fun t ht z=>by
  have hjl:=(TC.mp ht).1
  have:=hlast (by lia)
  rw [hs,V2,← hhl,ht,z] at this
  exact this (VO _)
 exact ⟨⟨nx,by lia,by lia,I.t2,t2,I.com.trans com,I.bg,hsB,bg,hd.2.2⟩,fun _=>NF (by lia) I.t2 I.bg⟩
end
end L2
namespace L2
theorem IW {A B : List Rat} {p : Rat} (h : ∀ x,(x - p) * Cv.ev A x = (x - p) * Cv.ev B x) (x : Rat) : Cv.ev A x = Cv.ev B x:=by
 have key : Cv.strip (AU A (B.map (· * (-1)))) = []:=by
  by_cases hD : Cv.strip (AU A (B.map (· * (-1)))) = []
  ·exact hD
  exfalso
  have gM : AO (AW [-p,1] (Cv.strip (AU A (B.map (· * (-1)))))):=Cj (.inr ⟨1,rfl,by decide⟩) (Bb _) (by simp) hD
  have e:=BB gM (.inl rfl : AO []) fun x=>by
   rw [Az,Cv.ev_strip,Bc,Cv.ev_scale]
   have:=h x
   show (-p + x * (1 + x * 0)) * _ = 0
   grind
  have l:=Bx (Cv.strip (AU A (B.map (· * (-1))))) (UQ.mpr hD) [-p,1] (by simp)
  rw [e] at l
  have:=UQ.mpr hD
  simp only [UB,UA] at l
  lia
 have z : Cv.ev (Cv.strip (AU A (B.map (· * (-1))))) x = 0:=by rw [key]; rfl
 rw [Cv.ev_strip,Bc,Cv.ev_scale] at z
 grind
theorem Ba.cancel {d G A : List Rat} {p : Rat} (h : Ba d G) (hG : ∀ x,Cv.ev G x = (x - p) * Cv.ev A x) (hd : Cv.ev d p ≠ 0) : Ba d A:=by
 obtain ⟨u,hu⟩:=h
 have z : Cv.ev u p = 0:=by
  have:=hu p
  rw [hG,show p - p = (0 : Rat) by grind,W0] at this
  rcases UY.mp this.symm with y | y
  ·exact y
  ·exact absurd y hd
 have hv : ∀ x,Cv.ev u x = (x - p) * Cv.ev (quo p u) x:=fun x=>by rw [Mg p x u,z]; grind
 refine ⟨quo p u,fun x=>?_⟩
 have e:=IW (A:=A) (B:=AW (quo p u) d) (p:=p) (fun x=>by rw [Az,← hG,hu,hv]; grind) x
 rw [e,Az]
end L2
namespace L2
open PySem PySem.Spec PyProof.Rows
def Eu (B : Heap) (l : List Env) (e : Addr) (c a0 m : Value) (h : Heap) : Prop :=
 B.StaysIn h ∧ B.get? e = none ∧ h.FunFrames B l ∧ ∃ (o : Obj) (v : Array Value) (T : Addr) (oT : Obj) (ts : Array Value),h.get? e = some o ∧ o.cls = c ∧ o.data = .fields v ∧ v[0]? = some a0 ∧ v[2]? = some .none ∧
  v[1]? = some (.ref T) ∧ B.get? T = none ∧ T ≠ e ∧ h.get? T = some oT ∧ oT.data = .fields ts ∧ ts[3]? = some m
def GD (o : Obj) : Prop:=∃ v,o.data = .fields v ∧ v[2]? = some .none
theorem Eu.obj {B h : Heap} {l : List Env} {e : Addr} {c a0 m : Value} (x : Eu B l e c a0 m h) : ∃ o,h.get? e = some o ∧ o.cls = c ∧ GD o:=by
 obtain ⟨_,_,_,o,v,_,_,_,q1,q2,q3,_,q5,_⟩:=x
 exact ⟨o,q1,q2,v,q3,q5⟩
section
variable {M : Model} {A : Around} {E : Value → Shared → Prop} {s : Shared} {B : Heap} {env : Env} {outer : List Env} {L e : Addr}
theorem FP {o : Obj} {v : Array Value} {hd0 a0 : Value} {had : Bool} {Q : Unit → Shared → Prop} (hA : A.frames = some (env :: outer)) (hF : s.heap.FunFrames B (env :: outer)) (hL : env.frame = some L)
 (he : s.heap.get? e = some o) (hB : B.StaysIn s.heap) (hn : B.get? e = none) (hv : o.data = .fields v) (z1 : 1 < v.size) (z0 : v[0]? = some a0) (z2 : v[2]? = some .none)
 (k : ∀ h',Eu B (env :: outer) e o.cls a0 (rawInt L) h' → s.heap.UpToSlots h' → Q () { s with heap:=h' }) :
 wpAny M A (do let fr ← frameOf env; let ps ← entryPlaceOf L had; let en ← EntryCells.newEntry hd0 fr .none (rawInt L) .none ps; setField (.ref e) 1 en) Q E s:=by
 have out : e ∉ (env :: outer).filterMap (·.frame):=fun z=>by
  obtain ⟨_,o',e',nf⟩:=hF.mem z
  rw [he] at e'
  cases e'
  exact nf v hv
 refine wpAny_bind (wpAny_frameOf_fun hA hF hL fun g sg=>wpAny_bind (wpAny_entryPlaceOf fun ps hp=>?_))
 unfold EntryCells.newEntry newFields
 refine wpAny_bind (wpAny_newObj_type ?_ (hp.sizeOk5 _ _ _ _ _))
 generalize hob : ({ cls:=.type "traceback",dict:=none,data:=.fields ([hd0,.ref L,.none,rawInt L,.none] ++ (if ps.isEmpty then U5 6 Value.none else ps)).toArray } : Obj) = ob
 have hg : g.get? e = some o:=(sg.2.1 e out).trans he
 have gB : B.StaysIn g:=fun b u q=>(sg.2.1 b fun z=>by rw [(hF.mem z).1] at q; cases q).trans (hB b u q)
 have nT : g.objs.size ≠ e:=TK (Heap.lt_size hg)
 have hp1 : (g.push ob).get? e = some o:=Heap.get?_push_of_some _ hg
 refine wpAny_setField hp1 hv z1 (k _ ?_ ?_)
 ·have d1:=Obj.data_mapFields hv (·.setIfInBounds 1 (Value.ref g.objs.size))
  have old : ∀ b u,b ≠ e → g.get? b = some u → ((g.push ob).update e (Obj.mapFields (·.setIfInBounds 1 (Value.ref g.objs.size)))).get? b = some u:=fun b u n q=>by
   rw [Heap.get?_update_other _ _ (Ne.symm n)]
   exact Heap.get?_push_of_some _ q
  have fresh : ob.isFreed = false:=by rw [← hob]; rfl
  refine ⟨fun b u q=>old b u (fun z=>by rw [z,hn] at q; cases q) (gB b u q),hn,hF.of_keeps fun b u q nf=>?_,_,_,g.objs.size,ob,_,Heap.get?_update_self _ hp1 (Obj.isFreed_of_fields d1),Obj.cls_mapFields _ _,d1,?_,?_,?_,gB.fresh,nT,?_,by rw [← hob],?_⟩
  ·obtain ⟨sl,q'⟩:=sg.2.2 b u q
   exact ⟨_,old b _ (fun z=>by rw [z,he] at q; cases q; exact nf v hv) q',rfl⟩
  ·rw [W2 (by decide)]; exact z0
  ·rw [W2 (by decide)]; exact z2
  ·simp [z1]
  ·rw [Heap.get?_update_other _ _ (Ne.symm nT)]
   exact Heap.get?_push_size g fresh
  ·rcases hp with rfl | ⟨_,_,_,_,_,_,_,rfl⟩ <;> simp
 ·intro b u q nf
  obtain ⟨sl,q'⟩:=sg.2.2 b u q
  refine ⟨sl,?_⟩
  rw [Heap.get?_update_other _ _ (fun z=>by rw [← z,he] at q; cases q; exact nf v hv)]
  exact Heap.get?_push_of_some _ q'
theorem Oo {c a0 : Value} {Q : Unit → Shared → Prop} (hA : A.frames = some (env :: outer)) (hL : env.frame = some L) (x : Eu B (env :: outer) e c a0 .none s.heap)
 (k : ∀ h',Eu B (env :: outer) e c a0 (rawInt L) h' → s.heap.UpToSlots h' → Q () { s with heap:=h' }) : wpAny M A (noteFrame (.ref e) env) Q E s:=by
 obtain ⟨b1,b2,b3,o,v,T,oT,ts,q1,q2,q3,q4,q5,q6,q7,q8,q9,q10,q11⟩:=x
 subst q2
 unfold noteFrame
 simp only [hL]
 refine wpAny_bind (wpAny_field q1 q3 q6 ?_)
 rw [if_pos (by simp)]
 refine wpAny_bind (wpAny_field q9 q10 q11 ?_)
 rw [if_neg (by simp [rawInt])]
 refine wpAny_bind (wpAny_setField q9 q10 (W3.mp q11).1 ?_)
 have no : ∀ b u,s.heap.get? b = some u → (∀ w,u.data ≠ .fields w) → b ≠ T:=fun b u q nf z=>by
  rw [z,q9] at q
  cases q
  exact nf ts q10
 have ot : ∀ b u,b ≠ T → s.heap.get? b = some u → (s.heap.update T (Obj.mapFields (·.setIfInBounds 3 Value.none))).get? b = some u:=fun b u n q=>(Heap.get?_update_other _ _ (Ne.symm n)).trans q
 refine FP hA (b3.of_keeps fun b u q nf=>⟨u,ot b u (no b u q nf) q,rfl⟩) hL (ot e o (Ne.symm q8) q1) (fun b u q=>ot b u (fun z=>by rw [z,q7] at q; cases q) (b1 b u q)) b2 q3 (W3.mp q6).1 q4 q5 fun h' f us=>k h' f fun b u q nf=>?_
 exact us b u (ot b u (no b u q nf) q) nf
theorem Ko {l : List Env} {c a0 m : Value} {Q : Unit → Shared → Prop} (x : Eu B l e c a0 m s.heap) (k : ∀ h',Eu B l e c a0 .none h' → s.heap.UpToSlots h' → Q () { s with heap:=h' }) : wpAny M A (setFlight (.ref e) none) Q E s:=by
 obtain ⟨b1,b2,b3,o,v,T,oT,ts,q1,q2,q3,q4,q5,q6,q7,q8,q9,q10,q11⟩:=x
 have z3 : 3 < ts.size:=(W3.mp q11).1
 unfold setFlight
 refine wpAny_bind (wpAny_field q1 q3 q6 ?_)
 rw [if_pos (by simp)]
 refine wpAny_setField q9 q10 z3 ?_
 have no : ∀ b u,s.heap.get? b = some u → (∀ w,u.data ≠ .fields w) → b ≠ T:=fun b u q nf z=>by
  rw [z,q9] at q
  cases q
  exact nf ts q10
 have ot : ∀ b u,b ≠ T → s.heap.get? b = some u → (s.heap.update T (Obj.mapFields (·.setIfInBounds 3 ((none : Option Addr).elim Value.none fun f=>rawInt f)))).get? b = some u:=fun b u n q=>(Heap.get?_update_other _ _ (Ne.symm n)).trans q
 have d1:=Obj.data_mapFields q10 (·.setIfInBounds 3 ((none : Option Addr).elim Value.none fun f=>rawInt f))
 exact k _ ⟨fun b u q=>ot b u (fun z=>by rw [z,q7] at q; cases q) (b1 b u q),b2,b3.of_keeps fun b u q nf=>⟨u,ot b u (no b u q nf) q,rfl⟩,o,v,T,_,_,ot e o (Ne.symm q8) q1,q2,q3,q4,q5,q6,q7,q8,Heap.get?_update_self _ q9 (Obj.isFreed_of_fields d1),d1,by simp [z3]⟩
  fun b u q nf=>⟨u.slots,ot b u (no b u q nf) q⟩
theorem Eu.up {c a0 m : Value} {h : Heap} (x : Eu B (env :: outer) e c a0 m h) : Eu B outer e c a0 m h:=by
 obtain ⟨b1,b2,⟨_,_,b3⟩,r⟩:=x
 exact ⟨b1,b2,b3,r⟩
theorem Pu {c a0 : Value} {Q : Unit → Shared → Prop} (hA : A.frames = some (env :: outer)) (hL : env.frame = some L) (x : Eu B (env :: outer) e c a0 .none s.heap)
 (k : ∀ h',Eu B outer e c a0 .none h' → s.heap.UpToSlots h' → Q () { s with heap:=h' }) : wpAny M A (leaving env (.ref e)) Q E s:=by
 unfold leaving
 exact wpAny_bind (Oo hA hL x fun h1 f1 u1=>Ko (s:={ s with heap:=h1 }) f1 fun h2 f2 u2=>k h2 f2.up (u1.trans u2))
theorem QD {h : Heap} {c : Value} {vs : List Value} {Q : Unit → Shared → Prop} (hA : A.frames = some (env :: outer)) (hL : env.frame = some L) (hB : B.StaysIn h) (hF : h.FunFrames B (env :: outer)) (hx : Heap.MadeExcOf h s.heap e c vs)
 (k : ∀ h' a0,Eu B outer e c a0 .none h' → s.heap.UpToSlots h' → Q () { s with heap:=h' }) : wpAny M A (leaving env (.ref e)) Q E s:=by
 obtain ⟨t,he,_,_⟩:=hx.there
 have fresh : B.get? e = none:=by
  cases q : B.get? e with
  | none=>rfl
  | some u=>have:=hB e u q; rw [hx.new] at this; cases this
 unfold leaving noteFrame
 simp only [hL]
 refine wpAny_bind (wpAny_bind (wpAny_field he rfl (x:=.none) rfl ?_))
 rw [if_neg (by decide)]
 exact FP hA (hF.of_keeps fun b u q _=>⟨u,hx.keeps b u q,rfl⟩) hL he (fun b u q=>hx.keeps b u (hB b u q)) fresh rfl (show 1 < 6 by decide) rfl rfl
  fun h1 f1 u1=>Ko (s:={ s with heap:=h1 }) f1 fun h2 f2 u2=>k h2 _ f2.up (u1.trans u2)
end
theorem Gz : entryFor table "proto.unchain" = some Builtin.«proto.unchain»:=entryFor_of_fast (by kernel_rfl)
section
variable {prog : Program} {w : World} {A : Around} {E : Value → Shared → Prop} {s : Shared} {ea : Addr} {oe : Obj}
theorem OV {α : Type} {a : Addr} {o : Obj} {v : Array Value} {Q : α → Shared → Prop} (hh : A.handled = some (.ref ea)) (he : s.heap.get? ea = some oe) (hc : GD oe) (ha : s.heap.get? a = some o) (hv : o.data = .fields v) (hz : 2 < v.size) (ne : ea ≠ a)
 (k : E (.ref a) { s with heap:=s.heap.update a (Obj.mapFields (·.setIfInBounds 2 (.ref ea))) }) : wpAny (model prog w) A (raiseNew (.ref a) : Sem α) Q E s:=by
 obtain ⟨ve,hd,h2⟩:=hc
 unfold raiseNew
 refine wpAny_bind (wpAny_handled ?_)
 rw [hh]
 dsimp only
 rw [if_pos (by simp [ne])]
 refine wpAny_bind (wpAny_holding (wpAny_runValue (codeAny_builtin Gz ?_)))
 show wpAny _ _ (field (.ref ea) 2 >>= _) _ _ s
 refine wpAny_bind (wpAny_field he hd h2 ?_)
 rw [if_pos (by decide)]
 refine wpAny_bind (wpAny_pure (wpAny_pure ?_))
 refine wpAny_bind ?_
 unfold updateField
 refine wpAny_bind (wpAny_load ha ?_)
 rw [hv]
 dsimp only
 rw [if_pos hz]
 exact wpAny_update ha (wpAny_throw k)
theorem Oh {it : Addr} {h0 : Heap} {α : Type} {P : α → Shared → Prop} {G : Value → Shared → Prop} (hh : A.handled = some (.ref ea)) (he : s.heap.get? ea = some oe) (hc : GD oe) (hb : Heap.ExtBut it h0 s.heap)
 (k : ∀ a h',Shared.TypeIs { s with heap:=h' } (.ref a) "StopIteration" → Heap.ExtBut it h0 h' → G (.ref a) { s with heap:=h' }) : wpAny (model prog w) A (newExc (.type "StopIteration") [] >>= fun x=>(raiseNew x : Sem α)) P G s:=by
 refine wpAny_bind ?_
 simp only [newExc,newTuple]
 refine wpAny_bind (wpAny_newObj_type ?_ (by size_fits))
 refine wpAny_bind (m:=firstArgMember _ _) (wpAny_of_eq (a:=Value.none) (by first | rfl | (simp only [firstArgMember]; rfl)) ?_)
 refine wpAny_newObj_type ?_ (by size_fits)
 have old : ∀ (b : Addr) (u o1 o2 : Obj),s.heap.get? b = some u → ((s.heap.push o1).push o2).get? b = some u:=fun b u o1 o2 q=>Heap.get?_push_of_some _ (Heap.get?_push_of_some _ q)
 have lt : ∀ (b : Addr) (u o1 : Obj),s.heap.get? b = some u → (s.heap.push o1).objs.size ≠ b:=fun b u o1 q z=>by
  have:=Heap.lt_size q
  rw [← z,Heap.size_push] at this
  exact absurd this (V1.mpr (V6 _))
 refine OV hh (old ea oe _ _ he) hc (Heap.get?_push_size _ rfl) rfl (show 2 < 6 by decide) (fun z=>lt ea oe _ he z.symm) (k _ _ ⟨_,Heap.get?_update_self _ (Heap.get?_push_size _ rfl) rfl,rfl⟩ fun b u n q=>?_)
 rw [Heap.get?_update_other _ _ (lt b u _ (hb b u n q))]
 exact old b u _ _ (hb b u n q)
theorem Lq {it l : Addr} {i : Nat} {items : Array Value} {Q : Option Value → Shared → Prop} (hh : A.handled = some (.ref ea)) (he : s.heap.get? ea = some oe) (hc : GD oe) (ni : ea ≠ it) (st : s.heap.IsListIter it l i) (hl : s.heap.IsList l items) (hx : items[i]? = none)
 (k : ∀ h',Heap.ExtBut it s.heap h' → Q none { s with heap:=h' }) : wpAny (model prog w) A (pyNext (.ref it)) Q E s:=by
 obtain ⟨o,q1,q2,q3⟩:=id st
 obtain ⟨ol,p1,_,nl,p2⟩:=hl
 unfold pyNext
 refine wpAny_bind (wpAny_attempt (wpAny_callSpecial?_slot (name:=Str.ofString "__next__") st.typeIs slot_listiter_next (wpAny_call_entry slot_listiter_next st.typeIs entry_listiter_next ?_ (args_listiter_next _))))
 show wpAny _ A.in1 (field (.ref it) 0 >>= _) _ _ s
 refine wpAny_bind (wpAny_field q1 q3 (x:=.ref l) rfl ?_)
 show wpAny _ _ (if (Value.ref l == Value.none) = true then _ else _) _ _ s
 rw [if_neg (fun z=>nomatch z)]
 refine wpAny_bind (wpAny_field q1 q3 (x:=.int i 0) rfl (wpAny_bind (wpAny_seqItems p1 p2 ?_)))
 simp only [Uk,hx]
 refine wpAny_bind (wpAny_rule (wpAny_bind (wpAny_setField q1 q3 (by simp) ?_)))
 refine Oh (A:=A.in1) (it:=it) (h0:=s.heap) hh ((Heap.get?_update_other _ _ (Ne.symm ni)).trans he) hc (Heap.SameBut.update ..).extBut fun a h' ty eb=>?_
 exact wpAny_bind (wpAny_isInstance (T:="StopIteration") (b:=true) ty isSubtype_stop (wpAny_pure (k h' eb)))
theorem LW {it l : Addr} {i : Nat} {items : Array Value} {Q : Option Value → Shared → Prop} (hh : A.handled = some (.ref ea)) (he : s.heap.get? ea = some oe) (hc : GD oe) (ni : ea ≠ it) (st : IsTupIter s.heap it l i) (hl : IsTup s.heap l items) (hx : items[i]? = none)
 (k : ∀ h',Heap.ExtBut it s.heap h' → Q none { s with heap:=h' }) : wpAny (model prog w) A (pyNext (.ref it)) Q E s:=by
 obtain ⟨o,q1,q2,q3⟩:=id st
 obtain ⟨ol,p1,_,nl,p2⟩:=hl
 unfold pyNext
 refine wpAny_bind (wpAny_attempt (wpAny_callSpecial?_slot (name:=Str.ofString "__next__") st.typeIs slot_tupleiter_next (wpAny_call_entry slot_tupleiter_next st.typeIs entry_tupleiter_next ?_ (args_tupleiter_next _))))
 show wpAny _ A.in1 (field (.ref it) 0 >>= _) _ _ s
 refine wpAny_bind (wpAny_field q1 q3 (x:=.ref l) rfl ?_)
 show wpAny _ _ (if (Value.ref l == Value.none) = true then _ else _) _ _ s
 rw [if_neg (fun z=>nomatch z)]
 refine wpAny_bind (wpAny_field q1 q3 (x:=.int i 0) rfl (wpAny_bind (wpAny_seqItems p1 p2 ?_)))
 simp only [Uk,hx]
 refine wpAny_bind (wpAny_rule (wpAny_bind (wpAny_setField q1 q3 (by simp) ?_)))
 refine Oh (A:=A.in1) (it:=it) (h0:=s.heap) hh ((Heap.get?_update_other _ _ (Ne.symm ni)).trans he) hc (Heap.SameBut.update ..).extBut fun a h' ty eb=>?_
 exact wpAny_bind (wpAny_isInstance (T:="StopIteration") (b:=true) ty isSubtype_stop (wpAny_pure (k h' eb)))
theorem Nq {env : Env} {es : List Expr} {kk} {pos : Pos} {t : Addr} {items : Array Value} {Q : Unit → Shared → Prop} (hh : A.handled = some (.ref ea)) (he : s.heap.get? ea = some oe) (hc : GD oe) (ht : IsTup s.heap t items) (hn : (assignEach es env).length = items.size)
 (hs : (assignEach es env).findIdx? (·.1) = none) (k : ∀ h',Heap.ExtBut s.heap.objs.size s.heap h' → wpAny (model prog w) A (assignInOrder ((assignEach es env).map (·.2)) items.toList) Q E { s with heap:=h' }) :
 wpAny (model prog w) A (assign (.Tuple es kk pos) env (.ref t)) Q E s:=by
 have nt : t ≠ s.heap.objs.size:=by obtain ⟨o,q,_⟩:=ht; exact Tg (Heap.lt_size q)
 rw [assign_Tuple]
 refine wpAny_bind (wpAny_standAt ?_)
 unfold unpack
 rw [hn,hs]
 refine wpAny_bind (wpAny_holding ?_)
 unfold unpackItems notIterableAtAll
 refine wpAny_bind (wpAny_bind (wpAny_specialOf ht.typeIs slot_tuple_iter.lookup (wpAny_pure ?_)))
 simp only [Bool.false_eq_true,if_false]
 refine wpAny_bind (wpAny_holding (iter_tuple ht (wpAny_bind (wpAny_holding (draw_tuple nt items.size 0 _ _ ⟨_,Heap.get?_push_size _ rfl,rfl,rfl⟩ (ht.push _) (by lia) fun h1 i1 s1=>?_)))))
 rw [show List.take items.size (List.drop 0 items.toList) = items.toList by rw [Vm]; exact VC (by simp),if_neg (by simp)]
 have ne : ea ≠ s.heap.objs.size:=Tg (Heap.lt_size he)
 refine wpAny_bind (wpAny_holding (LW (s:={ s with heap:=h1 }) hh (s1.extBut ea oe ne (Heap.get?_push_of_some _ he)) hc ne i1 ((ht.push _).extBut s1.extBut nt) (by simp) fun h2 e2=>?_))
 simp only [Option.isSome_none,Bool.false_eq_true,if_false]
 exact wpAny_pure (k h2 fun b u n q=>e2 b u n (s1.extBut b u n (Heap.get?_push_of_some _ q)))
end
end L2
namespace L2
open PySem PySem.Spec PyProof.Rows
structure Hx (X : Cx) (ea : Addr) (oe : Obj) : Prop where
 hd : X.A.handled = some (.ref ea)
 ct : GD oe
 ob : X.s₀.heap.get? ea = some oe
 fr : X.H₀ ea = none
 nf : ea ∉ X.fs
 nx : ea ∉ X.ex
section
variable {X : Cx} {pins : List (Addr × Obj)} {σ : St} {H : Hp} {s : Shared} {ea : Addr} {oe : Obj}
theorem Hx.at (x : Hx X ea oe) (I : Inv X pins σ H s) : s.heap.get? ea = some oe:=I.base.keep ea oe x.ob x.fr x.nf x.nx
theorem Hx.no (x : Hx X ea oe) (I : Inv X pins σ H s) : H ea = none:=I.base.free ea oe x.ob x.fr x.nx
theorem Hx.lt (x : Hx X ea oe) : ea < X.s₀.heap.objs.size:=Heap.lt_size x.ob
theorem Hx.ns (x : Hx X ea oe) (I : Inv X pins σ H s) : ea ∉ frs X.stack:=fun z=>by
 rcases Tw.mp (I.stkSub ea z) with e | z
 ·exact Tg (Te x.lt I.ok.above) e
 ·exact x.nf z
theorem hxC {N : List Str} {scope : Scope} {fp : List Addr} (x : Hx X ea oe) (I : Inv X pins σ H s) (hf : ∀ b ∈ fp,DZ X pins H b) (cl : List (Str × Addr)) (C : Addr) : Hx (AQ X N scope cl C s H fp) ea oe :=
 ⟨x.hd,x.ct,x.at I,x.no I,x.ns I,fun z=>by
  rcases (hf ea z).2.2.2.1 with y | y
  ·exact x.nx y
  ·exact absurd x.lt (V1.mpr y)⟩
theorem JK {a it : Addr} (x : Hx X ea oe) (i : Nat) (pins : List (Addr × Obj)) (s : Shared) (σ : St) (H : Hp) (E : Value → Shared → Prop) (I : Inv X pins σ H s) (hf : ∀ b ∈ [it],DZ X pins H b) (st : s.heap.IsListIter it a i) (hg : (Itl X.K a).stop i H) :
 wpAny (model X.prog X.w) X.A (pyNext (.ref it)) (fun r s1=>r = none ∧ Inv X pins σ H s1) E s:=by
 obtain ⟨xs,hq,hx⟩:=hg
 obtain ⟨its,rv,p,hz⟩:=I.list hq
 obtain ⟨f0,f1,f2,f3,f4,f5⟩:=hf it (V7.mpr rfl)
 have hl:=rv.length
 have ni : ea ≠ it:=fun z=>by
  rcases f3 with y | y
  ·exact x.nx (z ▸ y)
  ·exact absurd x.lt (V1.mpr (z ▸ y))
 exact Lq x.hd (x.at I) x.ct ni st p.isList (by simp; lia) fun h' eb=>⟨rfl,I.turned (t':=s.toks) (fun b o hb e=>eb b o hb e) f0 f1 f3 f4 f5⟩
theorem JJ {tg : Expr} {a it : Addr} (i : Nat) (pins : List (Addr × Obj)) (s : Shared) (σ : St) (H : Hp) (E : Value → Shared → Prop) (I : Inv X pins σ H s) (hf : ∀ b ∈ [it],DZ X pins H b) (st : s.heap.IsListIter it a i) (hg : (Itl X.K a).go i H) :
 wpAny (model X.prog X.w) X.A (pyNext (.ref it)) (fun r s1=>∃ u,r = some u ∧
  wpAny (model X.prog X.w) X.A (letOwnedTupleGo tg (.ref it) u) (fun _ s2=>∃ x H',Inv X pins σ H' s2 ∧ AZ x u ∧ (Itl X.K a).yld i H x H' ∧ s2.heap.IsListIter it a (i + 1) ∧ ∀ b ∈ [it],H' b = none) E s1) E s:=by
 obtain ⟨xs,x,hq,hx⟩:=hg
 obtain ⟨its,rv,p,hz⟩:=I.list hq
 obtain ⟨u,hu,ru⟩:=rv.get hx
 obtain ⟨f0,f1,f2,f3,f4,f5⟩:=hf it (V7.mpr rfl)
 refine wpAny_pyNext_list_item st p.isList (x:=u) (by simpa using hu) fun h' st' sb=>?_
 have I1 : Inv X pins σ H { s with heap:=h' }:=I.turned (t':=s.toks) (fun b o hb e=>(sb.2 b hb).trans e) f0 f1 f3 f4 f5
 obtain ⟨o,e,c,d⟩:=id st'
 exact ⟨u,rfl,FV (s:={ s with heap:=h' }) e c d (by decide) ⟨x,H,I1,ru,⟨rfl,fun ys hy=>by rw [I.list_inj hy hq]; exact hx⟩,st',fun b hb=>(hf b hb).1⟩⟩
theorem R7 {K : Tq} {es : List Expr} {k : Nat} {t : TGs} {n : Nat} {pos : Pos} (x : Hx X ea oe) (h : PGs X es t) (hn : (assignEach es X.env).length = n:=by rfl) (hst : (assignEach es X.env).findIdx? (·.1) = none:=by rfl) (e : X.K = K:=by rfl) : PG X (.Tuple es k pos) (LD K n t):=by
 subst e
 intro pins s σ H v u Q I r hw
 obtain ⟨a,xs,e1,hq,hl,hw⟩:=hw
 subst e1
 cases r
 obtain ⟨its,rv,ht,hz⟩:=I.tuple hq
 refine Nq x.hd (x.at I) x.ct ht (by simp [hn,← hl,rv.length]) hst fun h' hx=>?_
 have I1 : Inv X pins σ H { s with heap:=h' }:=I.kept (t':=s.toks) fun b o e=>hx b o (Tg (Heap.lt_size e)) e
 exact h pins _ σ H xs _ Q I1 (by simpa using rv) hw
end
section
variable {X : Cx} {N : List Str} {nt : Nat} {js : List Nat} {scope : Scope} {elt iter tg : Expr} {ifs : List Expr} {pos : Pos} {g : TG} {tc : TT} {te tl : TE} {ea : Addr} {oe : Obj}
set_option maxHeartbeats 4000000 in
theorem LI {pins : List (Addr × Obj)} {σ : St} {H : Hp} {s₂ : Shared} {cl : List (Str × Addr)} {it a : Addr} {E : Value → Shared → Prop} {Fin : List V → Hp → Prop} {W : Nat → List V → Hp → Prop} {nn : Nat}
 {RR : Value → Addr → Result → Shared → Prop} (hx : Hx X ea oe) (ok : Bf X N nt js scope)
 (hcl : ∀ x c,cl.lookup x = some c → X.env.cells.lookup x = some c) (hcl2 : ∀ x ∈ scope.names,x.2 = .free → ∃ c,cl.lookup x.1 = some c)
 (hg : ∀ cl C s H fp,Hx (AQ X N scope cl C s H fp) ea oe → PG (AQ X N scope cl C s H fp) tg g) (hk : Gb g nt) (hc : ∀ cl C s H fp,PTs (AQ X N scope cl C s H fp) ifs tc) (he : ∀ cl C s H fp,PE (AQ X N scope cl C s H fp) elt te)
 (I : Inv X pins σ H s₂) (st : s₂.heap.IsListIter it a 0) (hf : ∀ b ∈ [it],DZ X pins H b) (w0 : W 0 [] H) (lw : LcW (Itl X.K a) nn nt js σ g tc te Fin W)
 (hRR : ∀ D C s' H' zs m,Inv X pins σ (upd H' D (.lst zs)) s' → s'.heap.Ns C m → H' D = none → (upd H' D (.lst zs)) C = none → C ≠ X.env.locals → X.s₀.heap.objs.size ≤ C → (∀ x c,X.env.cells.lookup x = some c → c ≠ C) →
  (∀ p ∈ X.pn ++ pins,p.1 ≠ C) → Fin zs H' → RR (.ref D) C (.ok .next) s') :
 wpAny (model X.prog X.w) X.A (newList []) (fun acc s₃=>wpAny (model X.prog X.w) X.A (newFunctionEnv scope X.env.globals cl [] X.env.qual none .none (some X.env)) (fun cenv s₄ =>
  codeAny (model X.prog X.w) X.A (.compStart (.ListComp elt [⟨tg,iter,ifs,0⟩] scope pos) 0 (.ref it) acc { cenv with scope:=relabel scope X.env }) (RR acc cenv.locals) s₄) E s₃) E s₂:=by
 have T : Ip X.prog X.w X.K tg (Itl X.K a) [it] it (fun i h=>h.IsListIter it a i):=GF a it
 refine wpAny_newObj_type (wpAny_newFunctionEnv ok.nocell (by intro y hy; simp at hy) (fun h₁ hns₁ hsb₁=>?_) ok.kind)
 dsimp only at hns₁ hsb₁ ⊢
 generalize hH2 : s₂.heap.push { cls:=.type "list",dict:=none,data:=.seq ([] : List Value).toArray } = H2 at hns₁ hsb₁ ⊢
 have hC : H2.objs.size = s₂.heap.objs.size + 1:=by rw [← hH2,Heap.size_push]
 have hDC : s₂.heap.objs.size ≠ H2.objs.size:=by rw [hC]; exact Tg (V5 _)
 have hCle : s₂.heap.objs.size ≤ H2.objs.size:=by rw [hC]; exact V6 _
 have below : ∀ b,b < s₂.heap.objs.size → b ≠ H2.objs.size ∧ b ≠ s₂.heap.objs.size:=fun b hb=>⟨by rw [hC]; exact Tg (Nat.lt_succ_of_lt hb),Tg hb⟩
 have old : ∀ b o,s₂.heap.get? b = some o → h₁.get? b = some o:=fun b o e=>hsb₁.extBut b o (below b (Heap.lt_size e)).1 (Heap.get?_push_of_some _ (hH2 ▸ Heap.get?_push_of_some _ e))
 have hacc : h₁.get? s₂.heap.objs.size = some (CB []):=hsb₁.extBut _ _ hDC (Heap.get?_push_of_some _ (hH2 ▸ Heap.get?_push_size _ rfl))
 have ho:=T.obj 0 _ st
 have lt : ∀ b ∈ [it],b < s₂.heap.objs.size:=fun b hb=>by obtain ⟨o,e,_⟩:=ho b hb; exact Heap.lt_size e
 have loop : ∀ s₃ : Shared,s₃ = { s₂ with heap:=h₁,toks:=s₂.toks + ([] : List (Str × Value)).length } →
  codeAny (model X.prog X.w) X.A (.compLoop (.ListComp elt [⟨tg,iter,ifs,0⟩] scope pos) 0 (.ref it) (.ref s₂.heap.objs.size) (compEnvC scope cl H2.objs.size X.env)) (RR (.ref s₂.heap.objs.size) H2.objs.size) s₃:=by
  rintro s₃ rfl
  have I0 : Inv (AQ X N scope cl H2.objs.size s₂ H [it]) [(s₂.heap.objs.size,CB [])] (cS nt js σ) H { s₂ with heap:=h₁,toks:=s₂.toks + ([] : List (Str × Value)).length } :=
   IY I ok hcl hcl2 hf ho (TL _) hCle hDC old hns₁ hacc
  have fpy : ∀ {H' : Hp} {ys : List Value},(∀ b ∈ [it],H' b = none) → ∀ b ∈ [it],DZ (AQ X N scope cl H2.objs.size s₂ H [it]) [(s₂.heap.objs.size,CB ys)] H' b:=fun {H' ys} hn b hb =>
   ⟨hn b hb,(below b (lt b hb)).1,I0.ok.exfs b hb,.inl hb,(I0.ok.exf b hb).2,fun p hp=>by
    have hp' : p ∈ [(s₂.heap.objs.size,CB ys)]:=hp
    have e : p = (s₂.heap.objs.size,CB ys):=by simpa using hp'
    rw [e]; exact Ne.symm (below b (lt b hb)).2⟩
  refine Eo (fun n s'=>∃ i zs ys H',n = nn - i ∧ i ≤ nn ∧ Inv (AQ X N scope cl H2.objs.size s₂ H [it]) [(s₂.heap.objs.size,CB ys)] (cS nt js σ) H' s' ∧ AM zs ys ∧ s'.heap.IsListIter it a i ∧ (∀ b ∈ [it],H' b = none) ∧ W i zs H') ?_ nn
   ⟨0,[],[],H,rfl,TQ _,I0,.nil,T.keep 0 _ _ st (fun b _ o e=>old b o e),fun b hb=>(hf b hb).1,w0⟩
  rintro n s' ⟨i,zs,ys,H',hn0,hile,I',rv,st',fr',w'⟩
  by_cases hlt : i < nn
  case neg =>
   have hie : i = nn:=Nat.le_antisymm hile (V1.mp hlt)
   rw [hie] at w' st'
   obtain ⟨stop,zl,fin⟩:=lw.stop zs H' w'
   refine thn (JK (hxC hx I hf cl H2.objs.size) nn _ s' _ H' (fun _ _=>False) I' (fpy fr') st' stop) fun r s4 ⟨hr,I4⟩=>?_
   subst hr
   have zD:=(I4.pin (s₂.heap.objs.size,CB ys) (TN _ (V7.mpr rfl)))
   have u:=I4.base
   have u2 : Un (frs X.stack) [it] H (upd H' s₂.heap.objs.size (.lst zs)) s₂.heap s4.heap :=
    ⟨u.keep,u.slot,fun b o q n hx=>by rw [Aw (Tg (Heap.lt_size q))]; exact u.free b o q n hx,u.there,fun b xs q=>by rw [Aw (AB (u.tups b xs q) zD.2.1)]; exact u.tups b xs q,
     fun b o xs q=>by rw [Aw (AB (u.frzs b o xs q) zD.2.1)]; exact u.frzs b o xs q,fun b ps q=>by
      obtain ⟨more,e⟩:=u.tbls b ps q
      exact ⟨more,by rw [Aw (AB e zD.2.1)]; exact e⟩⟩
   have hok2 : HOk X.prog X.w (upd H' s₂.heap.objs.size (.lst zs)) s4.heap:=HOk.track I4.hok zD.2.1 ⟨zl,ys,_,rv,zD.1⟩
   have I5 : Inv X pins σ (upd H' s₂.heap.objs.size (.lst zs)) s4:=I.call' I4.os u2 hok2 I4.bare fun b hb=>⟨(hf b hb).2.2.2.1,(hf b hb).2.1,(hf b hb).2.2.2.2.1,(hf b hb).2.2.2.2.2⟩
   obtain ⟨m,hn,_⟩:=I4.loc
   refine hRR _ _ s4 H' zs m I5 hn zD.2.1 ?_ ?_ (Tr I.sz hCle) ?_ ?_ fin
   ·rw [Aw (Ne.symm hDC)]; exact I4.free
   ·exact TK (Te I.lt hCle)
   ·intro x c e z
    obtain ⟨v,q⟩:=I.cell x c e
    exact absurd (Te q.lt (by rw [z]; exact hCle)) (Tf _)
   ·intro p hp z
    exact absurd (Te (Heap.lt_size (I.pin p hp).1) (by rw [z]; exact hCle)) (Tf _)
  case pos =>
   obtain ⟨go,zl⟩:=lw.go i zs H' hlt w'
   have step:=lw.step i zs H'
   refine thn (JJ (tg:=tg) (X:=AQ X N scope cl H2.objs.size s₂ H [it]) i _ s' _ H' (fun _ _=>False) I' (fpy fr') st' go) fun r s4 ⟨u,hr,h4⟩=>?_
   subst hr
   refine thn h4 fun _ s5 ⟨x,H5,I5,r5,y5,st5,fr5⟩=>?_
   have I5':=I5.pinned (fpy fr5) (T.obj _ _ st5)
   refine thn (hg cl _ s₂ H [it] (hxC hx I hf cl _) _ s5 _ H5 x u _ I5' r5 (hk _ _ _ _ (step x H5 hlt w' y5))) fun _ s6 ⟨σ6,H6,I6,⟨hl6,hd6⟩,q6⟩=>?_
   refine thn (hc cl _ s₂ H [it] _ s6 σ6 H6 _ I6 q6) fun okb s7 ⟨H7,I7,q7⟩=>?_
   have frs' : ∀ {H8 : Hp} {σ8 : St} {s8 : Shared},Inv (AQ X N scope cl H2.objs.size s₂ H [it]) ([(s₂.heap.objs.size,CB ys)] ++ EG [it] s5.heap) σ8 H8 s8 → s8.heap.IsListIter it a (i + 1) ∧ ∀ b ∈ [it],H8 b = none:=fun {H8 σ8 s8} I8 =>
    ⟨T.keep _ _ _ st5 fun b hb o e=>(I8.pin (b,o) (TN _ (TN _ (Cd hb e)))).1,fun b hb=>by
     obtain ⟨o,e,d⟩:=T.obj _ _ st5 b hb
     exact (I8.pin (b,o) (TN _ (TN _ (Cd hb e)))).2.1⟩
   cases okb with
   | false =>
     rw [if_neg Bool.false_ne_true] at q7 ⊢
     obtain ⟨a1,a2⟩:=frs' I7
     exact ⟨nn - (i + 1),by rw [hn0]; exact V8 hlt (V5 i),i + 1,zs,ys,H7,rfl,hlt,I7.unpinned.weak (by rw [hl6]) (Fs hl6 hd6),rv,a1,a2,q7⟩
   | true =>
     rw [if_pos rfl] at q7 ⊢
     refine thn (he cl _ s₂ H [it] _ s7 σ6 H7 _ I7 q7) fun v s8 ⟨y,H8,I8,r8,q8⟩=>?_
     have zD:=(I8.pin (s₂.heap.objs.size,CB ys) (TN _ (Tz _ (V7.mpr rfl))))
     have ylen : ys.length < sizeLine:=by rw [← rv.length]; exact zl
     obtain ⟨a1,a2⟩:=frs' I8
     refine append_at (hsz:=by rw [Um]; exact Ts ylen) zD.1 fun h9 hs9 hD9=>?_
     have I8u : Inv (AQ X N scope cl H2.objs.size s₂ H [it]) [] (cS nt js σ) H8 s8:=(I8.pins_of (pins':=[]) fun p hp=>nomatch hp).weak (by rw [hl6]) (Fs hl6 hd6)
     have I9 : Inv (AQ X N scope cl H2.objs.size s₂ H [it]) [] (cS nt js σ) H8 { s8 with heap:=h9 }:=I8u.turned (t':=s8.toks) (it:=s₂.heap.objs.size) (fun b o hb e=>hs9.extBut b o hb e) zD.2.1 hDC (.inr (TL _))
      (fun x c e z=>by
       obtain ⟨v,q⟩:=I.cell x c (hcl x c e)
       exact absurd (Te q.lt (by rw [z]; exact TL _)) (Tf _)) (fun p hp=>nomatch hp)
     refine ⟨nn - (i + 1),by rw [hn0]; exact V8 hlt (V5 i),i + 1,zs ++ [y],ys ++ [v],H8,rfl,hlt,I9.pins_of (fun p hp=>?_),rv.snoc r8,T.keep _ _ _ a1 fun b hb o e=>hs9.extBut b o (below b (lt b hb)).2 e,a2,q8⟩
     have e : p = (s₂.heap.objs.size,CB (ys ++ [v])):=by simpa using hp
     subst e
     refine ⟨?_,zD.2.1,hDC,zD.2.2.2.1,fun v z=>by cases z⟩
     rw [hD9]
     show some ({ cls:=.type "list",data:=.seq (ys.toArray.push v) (ys.length + 1) } : Obj) = some { cls:=.type "list",data:=.seq (ys ++ [v]).toArray (ys ++ [v]).length }
     rw [Ue,Ut,List.push_toArray]
 exact codeAny_compStart_list (loop _ rfl) (T.self _ 0 _ _ _ (T.keep 0 _ _ st (fun b _ o e=>old b o e)) (loop _ rfl))
theorem P5 {K : Tq} {i : Nat} {y : Str} {py spos : Pos} (hx : Hx X ea oe) (hN : X.N.Nodup) (hi' : X.N[i]? = some y) (hy : X.env.kindOf y = some .local) (ok : Bf X N nt js scope) (hi : PE X iter tl) (hg : ∀ cl C s H fp,Hx (AQ X N scope cl C s H fp) ea oe → PG (AQ X N scope cl C s H fp) tg g) (hk : Gb g nt)
 (hc : ∀ cl C s H fp,PTs (AQ X N scope cl C s H fp) ifs tc) (he : ∀ cl C s H fp,PE (AQ X N scope cl C s H fp) elt te)
 (hsw : swapsWith (.ListComp elt [⟨tg,iter,ifs,0⟩] scope pos) (some (.Name y py)) spos.line X.env = pure true) (hs : ∀ x,foldedSetIterable iter X.env x = pure x:=by intro _; rfl) (eK : X.K = K:=by rfl) :
 PS X (.Assign [.Name y py] (.ListComp elt [⟨tg,iter,ifs,0⟩] scope pos) spos) (M4 (tLC (GV K tl) nt js g tc te) (C6 i)):=by
 subst eK
 intro pins s σ H D₀ I h
 obtain ⟨cl,hclos,hcl,hcl2⟩:=CV (scope:=scope) (env:=X.env) fun x hx hf=>I.ok.has x.1 (ok.free x hx hf)
 rw [exec_Assign_Name_used _ _ _ _ hsw]
 refine wpAny_bind (wpAny_standAt (wpAny_bind ?_))
 show wpAny _ X.A (do let _ ← comprehension (.ListComp elt [⟨tg,iter,ifs,0⟩] scope pos) scope X.env _ (newList []) false (eval iter X.env) (some (assign (.Name y py) X.env))) _ _ s
 refine wpAny_bind (wpAny_mono (wpAny_comprehension_free (use:=some (assign (.Name y py) X.env)) (Q:=fun _ s'=>SP X pins D₀ .next s') rfl hs hclos ok.kind ok.names
  (thn (hi pins s σ H _ I (MI (show tLC (GV X.K tl) nt js g tc te σ H fun x H1=>C6 i x σ H1 D₀.nx from h))) fun v s1 ⟨x,H1,I1,r1,q1⟩=>?_)) (fun _ s' hq=>wpAny_pure (wpAny_pure hq)) fun _ _ e=>e)
 obtain ⟨a,e,⟨xs,hq⟩,nn,W,w0,lw⟩:=q1
 subst e
 cases r1
 obtain ⟨its,rv,p,hz⟩:=I1.list hq
 refine wpAny_pyIter_list p.isList ?_
 have I2 : Inv X pins σ H1 { s1 with heap:=s1.heap.push { cls:=.type "list_iterator",data:=.fields #[.ref a,.int 0 0] } }:=I1.kept (t':=s1.toks) fun b o e=>Heap.get?_push_of_some _ e
 have f2 : ∀ b ∈ [s1.heap.objs.size],DZ X pins H1 b:=fun b hb=>by
  have e : b = s1.heap.objs.size:=V7.mp hb
  subst e
  exact I1.fpOk (TL _) (I1.hok.fresh (TL _))
 refine LI (RR:=fun acc C=>compPost (model X.prog X.w) X.A X.xe (some (assign (.Name y py) X.env)) (fun _ s'=>SP X pins D₀ .next s') acc C) hx ok hcl hcl2 hg hk hc he I2 ⟨_,Heap.get?_push_size _ rfl,rfl,rfl⟩ f2 w0 lw ?_
 intro D C s' H' zs m I3 hn hDn hCn hCL hC0 hCc hCp fin
 show wpAny _ X.A (assign (.Name y py) X.env (.ref D)) _ _ _
 refine wpAny_assign_Name (Ez (v:=.ref D) I3 hN hi' (.inl hy) rfl (fun s3 I4 hsb=>?_) (.inr hy))
 obtain ⟨a,hsb,ha⟩:=hsb
 have haC : C ≠ a:=by
  rcases ha with z | z
  ·rw [z]; exact hCL
  ·exact Ne.symm (hCc y a z)
 refine ⟨m,hn.sameBut hsb haC,fun h'' hs''=>?_⟩
 exact ⟨_,_,I4.turned (t':=s3.toks) (it:=C) (fun b o hb e=>hs''.extBut b o hb e) hCn hCL (.inr hC0) hCc hCp,fin D hDn⟩
end
end L2
namespace L2
open PySem PySem.Spec PyProof.Rows
def CX2 (P : Program) (w : World) : CXT:=fun outer H s E e s'=>∃ (ea : Addr) (cls a0 : Value) (B : Heap) (H' : Hp),e = .ref ea ∧ s'.os = s.os ∧ AllBare s'.gens ∧ Un (frs outer) [] H H' s.heap s'.heap ∧ HOk P w H' s'.heap ∧
 Eu B outer ea cls a0 .none s'.heap ∧ (∀ b o,s.heap.get? b = some o → b ∉ frs outer → ∃ o',B.get? b = some o') ∧ (∀ b u,H' b = some u → ∃ o',B.get? b = some o') ∧ E cls none H'
section
variable {P : Program} {w : World} {K : Tq} {mg : Str → Option Value} {base : Heap} {N : List Str} {qual : Str} {scope : Scope} {f : Addr} {cd : Value} {A : Around} {outer : List Env} {s : Shared} {H : Hp} {E : XK}
theorem Pt : OH (Ds (CX2 P w) P w K mg base N qual scope f cd A outer s H E) E:=by
 intro pins σ H1 s1 h2 ea cls vs I hx hE
 have k1 : ∀ b o,s1.heap.get? b = some o → b ∉ frs (Ds (CX2 P w) P w K mg base N qual scope f cd A outer s H E).stack → ∃ o',(Ti s1.heap (frs (Ds (CX2 P w) P w K mg base N qual scope f cd A outer s H E).stack)).get? b = some o':=fun b o e n=>⟨o,PySem.W.hideAll_get _ e n⟩
 have k2 : ∀ b u,H1 b = some u → ∃ o',(Ti s1.heap (frs (Ds (CX2 P w) P w K mg base N qual scope f cd A outer s H E).stack)).get? b = some o':=fun b u e=>by
  obtain ⟨o,q⟩:=(I.hok b u e).got
  exact k1 b o q fun z=>by rw [I.stkFree b z] at e; cases e
 refine QD (B:=Ti s1.heap (frs (Ds (CX2 P w) P w K mg base N qual scope f cd A outer s H E).stack)) (h:=s1.heap) (outer:=outer) I.ok.frames rfl (fun b o q=>Tn _ q) (PySem.W.funFrames_hide I.stack (NY s1.heap _)) hx fun h' t fly us=>?_
 have us1 : s1.heap.UpToSlots h':=(Heap.UpToSlots.of_keeps hx.keeps).trans us
 have J:=I.flown (s':=s1) (toks:=s1.toks) Un.refl I.hok rfl I.bare (fun b o q=>Tn _ q) k1 k2 fly.1 (Inv.slots I.stack us1)
 refine ⟨ea,cls,_,_,H1,rfl,I.os,I.bare,J.base,J.hok,fly,fun b o e n=>?_,k2,hE⟩
 obtain ⟨o1,q⟩:=I.base.there b o e (fun z=>nomatch z)
 refine k1 b o1 q fun z=>?_
 rcases Tw.mp (I.stkSub b z) with e1 | z
 ·exact Tg (Te (Heap.lt_size e) I.ok.above) e1
 ·exact n z
theorem Om : Gd (CX2 P w) (Ds (CX2 P w) P w K mg base N qual scope f cd A outer s H E) E:=by
 rintro pins σ H1 s1 e s2 I ⟨ea,cls,a0,B,H',rfl,os,bare,un,hok,fly,k1,k2,hE⟩
 refine Pu (B:=B) (outer:=outer) I.ok.frames rfl fly fun h' fly' us=>?_
 have J:=I.flown (toks:=s2.toks) un hok os bare fly.1 k1 k2 fly'.1 (Inv.slots fly.2.2.1 us)
 refine ⟨ea,cls,a0,B,H',rfl,os.trans I.os,bare,J.base,J.hok,fly',fun b o e n=>?_,k2,hE⟩
 obtain ⟨o1,q⟩:=I.base.there b o e (fun z=>nomatch z)
 refine k1 b o1 q fun z=>?_
 rcases Tw.mp (I.stkSub b z) with e1 | z
 ·exact Tg (Te (Heap.lt_size e) I.ok.above) e1
 ·exact n z
theorem Fun.okY {x : Str} {st : Stmt} {fd : FuncData} {ps : List Str} {k : Nat} {sp : Sp} (F : Fun K x qual st f fd) (S : Ar N ps (Af st)) (len : ∀ vs H Q E,sp vs H Q E → vs.length = ps.length)
 (hbody : ∀ (cdv : Value) (A : Around) (outer : List Env) (s : Shared) (H : Hp) (vs : List V) (Q : VK) (E : XK),C7 k (A.deeper (envOfC qual (Af st) s.heap.objs.size f cdv)) → sp vs H Q E →
  ∃ t,PSs (Ds (CX2 P w) P w K mg base N qual (Af st) f cdv A outer s H E) (Ao st) t ∧ t { nx:=fun _ H'=>Q .non H',rt:=Q } (start N vs) H) : AN P w K mg base (CX2 P w) (k + 1) f fd ps sp:=by
 obtain ⟨oc,od,kV,doc,pm,an,cdv,ct,osl,rfl,lk,hcd⟩:=F.ex
 exact Ov lk hcd S len fun A outer s H vs Q E hr hsp=>hbody cdv A outer s H vs Q E hr hsp
theorem AN.calm {fd : FuncData} {ps : List Str} {k : Nat} {sp : Sp} {CX : CXT} (F : AN P w K mg base CX0 k f fd ps sp) : AN P w K mg base CX k f fd ps sp :=
 ⟨F.len,fun A outer s H args us vs Q E hr he hb hv hs=>codeAny_mono (F.run A outer s H args us vs Q E hr he hb hv hs) fun r s' q=>by
  cases r with
  | ok fl=>cases fl <;> exact q
  | error e=>exact False.elim q⟩
theorem AN.or {fd : FuncData} {ps : List Str} {k : Nat} {sp sp' : Sp} {CX : CXT} (F : AN P w K mg base CX k f fd ps sp) (G : AN P w K mg base CX k f fd ps sp') : AN P w K mg base CX k f fd ps (fun vs H Q E=>sp vs H Q E ∨ sp' vs H Q E) :=
 ⟨fun vs H Q E h=>h.elim (F.len vs H Q E) (G.len vs H Q E),fun A outer s H args us vs Q E hr he hb hv hs=>hs.elim (F.run A outer s H args us vs Q E hr he hb hv) (G.run A outer s H args us vs Q E hr he hb hv)⟩
end
structure FdY (P : Program) (w : World) (K : Tq) (mg : Str → Option Value) (base : Heap) (n : Nat) (x : Str) (ps : List Str) (sp : Sp) : Prop where
 ex : ∃ (f : Addr) (fd : FuncData),AN P w K mg base (CX2 P w) n f fd ps sp ∧ CQ K fd ps [] ∧ TX K (.ref f) = true ∧ mg x = some (.ref f)
theorem Mr {X : Cx} {n k : Nat} {x : Str} {ps : List Str} {sp : Sp} {E : XK} {e : Expr} {es : List Expr} {t : TA} {p pos : Pos} (F : FdY X.prog X.w X.K X.mg X.base n x ps sp) (hr : C7 k X.A) (hg : Gl X x) (hp : Gd (CX2 X.prog X.w) X E) (ha : PA X (e :: es) t) (hn : n ≤ k:=by decide)
 (hdb : (x == ("__debug__" : Str)) = false:=by decide) (he : starEach (e :: es) X.env = (false,eval e X.env) :: starEach es X.env:=by rfl) (hpl : (backTo pos (starEach es X.env)).any (·.1) = false:=by rfl) :
 PE X (.Call (.Name x p) (e :: es) [] pos) (M3 sp [] E t):=by
 obtain ⟨f,fd,F1,F2,F3,F4⟩:=F.ex
 exact Kd F1 (hr.mono hn) hg F4 F3 F2 .nil hp ha hdb he hpl
abbrev TB:=(St → Hp → Prop) → XK → St → Hp → Prop
def PB (X : Cx) (body : List Stmt) (t : TB) : Prop:=∀ (pins : List (Addr × Obj)) (s : Shared) (σ : St) (H : Hp) (nx : St → Hp → Prop) (E : XK),Inv X pins σ H s → t nx E σ H →
 wpAny (model X.prog X.w) X.A (execs body X.env) (fun fl s1=>fl = .next ∧ ∃ σ' H',Inv X pins σ' H' s1 ∧ nx σ' H') (fun e s2=>∃ H1 s1,Inv X pins σ H1 s1 ∧ CX2 X.prog X.w X.stack H1 s1 E e s2) s
def tBa (sp : Sp) (t : TA) (j : Nat) : TB:=fun nx E σ H=>t σ H fun vs H1=>sp vs H1 (fun v H2=>nx (σ.set j (some v)) H2) E
section
variable {X : Cx} {n k : Nat} {x : Str} {ps : List Str} {sp : Sp} {e : Expr} {es : List Expr} {t : TA} {p pos : Pos}
theorem Qr {pins : List (Addr × Obj)} {σ : St} {H : Hp} {s : Shared} {Q : VK} {E : XK} (F : FdY X.prog X.w X.K X.mg X.base n x ps sp) (hr : C7 k X.A) (hg : Gl X x) (ha : PA X.nox (e :: es) t) (I : Inv X pins σ H s) (h : t σ H fun vs H1=>sp vs H1 Q E) (hn : n ≤ k)
 (hdb : (x == ("__debug__" : Str)) = false) (he : starEach (e :: es) X.env = (false,eval e X.env) :: starEach es X.env) (hpl : (backTo pos (starEach es X.env)).any (·.1) = false) :
 wpAny (model X.prog X.w) X.A (eval (.Call (.Name x p) (e :: es) [] pos) X.env) (EP X pins σ Q) (fun e s2=>∃ H1 s1,Inv X pins σ H1 s1 ∧ CX2 X.prog X.w X.stack H1 s1 E e s2) s:=by
 obtain ⟨f,fd,F1,F2,F3,F4⟩:=F.ex
 refine wpAny_Call_Name_kw (DL I hg F4 ?_ hdb)
 refine U2 (h₀:=X.base) I.ok.mod.kin F3 (wpAny_mono (ha pos pins s σ H _ (I.wish _) h) (fun us s1 ⟨vs,H1,I1,r,q⟩=>⟨I1.unwish.kIn,?_⟩) fun _ _ z=>False.elim z) he hpl
 have I1:=I1.unwish
 have hlen : us.length = ps.length:=by rw [← r.length]; exact F1.len _ _ _ _ q
 have hb':=F2 s1 us I1.kIn (by rw [U1]; exact hlen)
 rw [U1] at hb'
 refine wpAny_call (codeAny_mono (F1.run X.A X.stack s1 H1 ⟨us,[]⟩ us vs _ _ (hr.mono hn) I1.env0 hb' r q) fun r s2 hq=>?_)
 cases r with
 | error e=>exact ⟨H1,s1,I1,hq⟩
 | ok fl =>
   cases fl with
   | ret u=>exact I1.after hq
   | next=>exact False.elim hq
   | brk=>exact False.elim hq
   | cont=>exact False.elim hq
theorem Mt {j : Nat} {y : Str} {yp spos : Pos} (F : FdY X.prog X.w X.K X.mg X.base n x ps sp) (hr : C7 k X.A) (hg : Gl X x) (ha : PA X.nox (e :: es) t) (nd : X.N.Nodup) (hj : X.N[j]? = some y) (hy : Loc X.env.scope y) (hn : n ≤ k:=by decide)
 (hs : swapsWith (.Call (.Name x p) (e :: es) [] pos) (some (.Name y yp)) spos.line X.env = pure false:=by rfl) (hf : X.fn y = true ∨ X.env.scope.names.lookup y = some .local:=by first | exact .inl rfl | exact .inr rfl | assumption)
 (hdb : (x == ("__debug__" : Str)) = false:=by decide) (he : starEach (e :: es) X.env = (false,eval e X.env) :: starEach es X.env:=by rfl) (hpl : (backTo pos (starEach es X.env)).any (·.1) = false:=by rfl) :
 PB X [.Assign [.Name y yp] (.Call (.Name x p) (e :: es) [] pos) spos] (tBa sp t j):=by
 intro pins s σ H nx E I h
 exact wpAny_execs_cons (wpAny_Assign_Name (thn (Qr F hr hg ha I h hn hdb he hpl) fun v s1 ⟨z,H1,I1,r1,q1⟩=>CW I1 nd hj hy r1 (fun s2 I2=>wpAny_execs_nil ⟨rfl,_,H1,I2,q1⟩) hf) hs)
end
abbrev SpH:=Value → Addr → Hp → VK → Prop
structure FnH (P : Program) (w : World) (K : Tq) (mg : Str → Option Value) (base : Heap) (k : Nat) (f : Addr) (fd : FuncData) (x : Str) (sp : SpH) : Prop where
 run : ∀ (A : Around) (outer : List Env) (s : Shared) (H : Hp) (ea : Addr) (oe : Obj) (Q : VK),C7 k A → LO P w K mg base (A.mark (some (.ref ea))) outer s H → BindsTo s fd ⟨[.ref ea],[]⟩ [(x,.ref ea)] → s.heap.get? ea = some oe → GD oe → H ea = none → ea ∉ frs outer → sp oe.cls ea H Q →
  codeAny (model P w) (A.mark (some (.ref ea))) (.call (.ref f) ⟨[.ref ea],[]⟩) (CR CX0 outer P w H s Q E0) s
section
variable {P : Program} {w : World} {K : Tq} {mg : Str → Option Value} {base : Heap}
theorem Fun.okH {x qual y : Str} {st : Stmt} {f : Addr} {fd : FuncData} {N : List Str} {k : Nat} {sp : SpH} (F : Fun K x qual st f fd) (S : Ar N [y] (Af st))
 (hbody : ∀ (cdv : Value) (A : Around) (outer : List Env) (s : Shared) (H : Hp) (ea : Addr) (oe : Obj) (Q : VK),C7 k (A.deeper (envOfC qual (Af st) s.heap.objs.size f cdv)) → Hx ((Ds CX0 P w K mg base N qual (Af st) f cdv A outer s H E0).marked ea) ea oe → sp oe.cls ea H Q →
  ∃ t,PSs ((Ds CX0 P w K mg base N qual (Af st) f cdv A outer s H E0).marked ea) (Ao st) t ∧ t { nx:=fun _ H'=>Q .non H',rt:=Q } (start N [.ref ea]) H) : FnH P w K mg base (k + 1) f fd y sp:=by
 obtain ⟨oc,od,kV,doc,pm,an,cdv,ct,osl,rfl,lk,hcd⟩:=F.ex
 refine ⟨fun A outer s H ea oe Q hr e0 hb ho hc hn hf hsp=>?_⟩
 have e1 : LO P w K mg base A outer s H:=⟨e0.frames,e0.mod,e0.bs,e0.bsz,e0.funs,e0.frf,e0.hok,e0.bare⟩
 have KX : K.In s.heap:=e0.mod.kin.keeps fun b o e=>(e0.bs b o e).1
 have lim : s.heap.NoLimit:=e0.mod.nolimit.keeps fun b o e=>(e0.bs b o e).1
 have hkind : ∀ z ∈ [y].zip [Value.ref ea],(Af st).names.lookup z.1 = some .local ∨ ((Af st).names.lookup z.1 = some .cell ∧ ((cellsFrom (s.heap.objs.size + 1) (Af st).names []).lookup z.1).isSome = true):=fun ⟨n,v⟩ hy=>by
  rcases S.par n (U4 hy).1 with q | q
  ·exact .inl q
  ·exact .inr ⟨q,U6 _ _ _ (.inl q)⟩
 refine codeAny_call_function (show (A.mark (some (.ref ea))).depth < _ from hr.depth) (KX _ _ lk) rfl S.co S.gen rfl (PySem.W.codeRec_of KX hcd) (hb _ _ _ _ ?_)
 refine wpAny_newFunctionEnv_cells S.kind hkind fun env he s1 x=>?_
 subst he
 refine ⟨lim.keeps x.toInCall.keep,codeAny_func ?_⟩
 have hx : Hx ((Ds CX0 P w K mg base N qual (Af st) f cdv A outer s H E0).marked ea) ea oe:=⟨rfl,hc,ho,hn,hf,fun z=>nomatch z⟩
 obtain ⟨t,ht,hq⟩:=hbody cdv A outer s H ea oe Q (hr.deeper _) hx hsp
 have I : Inv (Ds CX0 P w K mg base N qual (Af st) f cdv A outer s H E0) [] (start N [.ref ea]) H s1:=GU S hr.hd e1 rfl (.cons rfl .nil) x
 refine wpAny_mono (ht [] s1 (start N [.ref ea]) H _ (I.marked ea) hq) (fun fl s' hs=>?_) fun e s' hs=>hs.elim
 have fin : ∀ {σ' : St} {H' : Hp} {v : V} {u : Value},Inv ((Ds CX0 P w K mg base N qual (Af st) f cdv A outer s H E0).marked ea) [] σ' H' s' → AZ v u → Q v H' → CE outer P w H s Q u s' :=
  fun {σ' H' v u} J rv q=>⟨v,H',J.os,J.bare,J.base,J.hok,rv,q⟩
 cases fl with
 | ret u =>
   obtain ⟨v,σ',H',J,rv,q⟩:=hs
   exact fin J rv q
 | next =>
   obtain ⟨σ',H',J,q⟩:=hs
   exact fin (v:=V.non) (u:=Value.none) J rfl q
 | brk=>obtain ⟨_,_,_,q⟩:=hs; exact False.elim q
 | cont=>obtain ⟨_,_,_,q⟩:=hs; exact False.elim q
end
structure FdH (P : Program) (w : World) (K : Tq) (mg : Str → Option Value) (base : Heap) (n : Nat) (x y : Str) (sp : SpH) : Prop where
 ex : ∃ (f : Addr) (fd : FuncData),FnH P w K mg base n f fd y sp ∧ CQ K fd [y] [] ∧ TX K (.ref f) = true ∧ mg x = some (.ref f)
abbrev Cx.kept (X : Cx) (ea : Addr) (oe : Obj) : Cx:={ X.marked ea with pn:=(ea,oe) :: X.pn }
section
variable {X : Cx} {pins : List (Addr × Obj)} {σ : St} {H : Hp} {s : Shared} {ea : Addr} {oe : Obj}
theorem Inv.kept2 (I : Inv X pins σ H s) (h1 : s.heap.get? ea = some oe) (h2 : H ea = none) (h3 : ea ≠ X.env.locals) (h4 : ea ∉ X.fs) (h5 : GD oe) : Inv (X.kept ea oe) pins σ H s :=
 ⟨⟨I.ok.mod,I.ok.kind,I.ok.glob,I.ok.blt,I.ok.above,I.ok.inj,I.ok.has,I.ok.cab,(fun z=>nomatch z),I.ok.frames,I.ok.stk,I.ok.exf,I.ok.bs,I.ok.bsz,I.ok.noex,I.ok.exfs,I.ok.funs,I.ok.frf⟩,I.os,I.bare,I.base,I.loc,I.cell,I.free,I.freeC,fun p hp=>by
   rcases Tw.mp (show p ∈ (ea,oe) :: (X.pn ++ pins) from hp) with e | z
   ·subst e
    obtain ⟨v,hv,_⟩:=h5
    exact ⟨h1,h2,h3,h4,fun w z=>by rw [hv] at z; cases z⟩
   ·exact I.pin p z,I.hok,I.len⟩
theorem Inv.unkept (J : Inv (X.kept ea oe) pins σ H s) (ok : X.Ok) : Inv X pins σ H s:=⟨ok,J.os,J.bare,J.base,J.loc,J.cell,J.free,J.freeC,fun p hp=>J.pin p (Tv _ hp),J.hok,J.len⟩
end
def Qi (sp : SpH) (ea : Addr) (cls : Value) (t : TA) : TE:=fun σ H Q=>t σ H fun vs H1=>vs = [.ref ea] ∧ sp cls ea H1 Q
theorem Pa {X : Cx} {ea : Addr} {oe : Obj} {k n : Nat} {x y : Str} {sp : SpH} {e : Expr} {t : TA} {p pos : Pos} (F : FdH X.prog X.w X.K X.mg X.base n x y sp) (hr : C7 k X.A) (hc : GD oe) (hst : X.stack = X.env :: X.outer) (hfr : X.env.frame = some X.env.locals) (hg : Gl X x) (ha : PA (X.kept ea oe) [e] t) (hn : n ≤ k)
 (hdb : (x == ("__debug__" : Str)) = false) (he : starEach [e] X.env = [(false,eval e X.env)]) : PE (X.kept ea oe) (.Call (.Name x p) [e] [] pos) (Qi sp ea oe.cls t):=by
 obtain ⟨f,fd,F1,F2,F3,F4⟩:=F.ex
 intro pins s σ H Q I h
 refine wpAny_Call_Name_kw (DL I hg F4 ?_ hdb)
 refine U2 (h₀:=X.base) I.ok.mod.kin F3 (thn (ha pos pins s σ H _ I h) fun us s1 ⟨vs,H1,I1,r,ev,q⟩=>⟨I1.kIn,?_⟩) he rfl
 subst ev
 obtain ⟨u,rfl,ru⟩:=r.one
 have ru : u = .ref ea:=ru
 subst ru
 obtain ⟨p1,p2,p3,p4,_⟩:=I1.pin (ea,oe) Tu
 have p5 : ea ∉ frs X.stack:=fun z=>by
  rw [hst] at z
  have z : ea ∈ (X.env :: X.outer).filterMap (·.frame):=z
  rw [Tt,hfr] at z
  rcases Tw.mp z with z | z
  ·exact p3 z
  ·exact p4 z
 have hb':=F2 s1 [.ref ea] I1.kIn rfl
 refine wpAny_call (codeAny_mono (F1.run X.A X.stack s1 H1 ea oe Q (hr.mono hn) I1.env0 hb' p1 hc p2 p5 q) fun r s2 hq=>?_)
 cases r with
 | error e=>exact False.elim hq
 | ok fl =>
   cases fl with
   | ret u=>exact I1.after hq
   | next=>exact False.elim hq
   | brk=>exact False.elim hq
   | cont=>exact False.elim hq
def Qg (K : Tq) (CE : Addr) (i j : Nat) (sp : SpH) (tb : TB) : TS:=fun D σ H=>tb D.nx (fun cls _ H2=>W4 K cls (.ref CE) = some true ∧ ∀ ea,H2 ea = none → sp cls ea H2 fun v H3=>D.nx (((σ.set i (some (.ref ea))).set j (some v)).set i none) H3) σ H
theorem NA {X : Cx} {k m : Nat} {CE : Addr} {sp : SpH} {g y n a c : Str} {i j : Nat} {gp np ap cpos spos yp hpos pos : Pos} {body : List Stmt} {tb : TB} (hb : PB X body tb) (F : FdH X.prog X.w X.K X.mg X.base m g c sp) (hr : C7 k X.A) (hg : Gl X g)
 (hgy : Gl X y) (hmy : X.mg y = some (.ref CE)) (nd : X.N.Nodup) (hi : X.N[i]? = some n) (hl : X.env.scope.names.lookup n = some .local) (hj : X.N[j]? = some a) (hla : X.env.scope.names.lookup a = some .local) (hst : X.stack = X.env :: X.outer) (hfr : X.env.frame = some X.env.locals) (hm : m ≤ k:=by decide)
 (hs : swapsWith (.Call (.Name g gp) [.Name n np] [] cpos) (some (.Name a ap)) spos.line X.env = pure false:=by rfl) (hdb : (g == ("__debug__" : Str)) = false:=by decide) (hdy : (y == ("__debug__" : Str)) = false:=by decide) (hdn : (n == ("__debug__" : Str)) = false:=by decide) (hcn : (n == ("__classdict__" : Str)) = false:=by decide)
 (he : starEach [.Name n np] X.env = [(false,eval (.Name n np) X.env)]:=by rfl) :
 PS X (.Try body [.ExceptHandler (some (.Name y yp)) (some n) [.Assign [.Name a ap] (.Call (.Name g gp) [.Name n np] [] cpos) spos] hpos] [] [] pos) (Qg X.K CE i j sp tb):=by
 intro pins s σ H D I h
 refine wpAny_Try_except (wpAny_mono (hb pins s σ H _ _ I h) (fun fl s1 ⟨ef,σ',H',I1,q⟩=>?_) fun ex s2 ⟨H1,s1,I1,hq⟩=>?_)
 ·subst ef
  exact wpAny_execs_nil ⟨σ',H',I1,q⟩
 obtain ⟨ea,cls,a0,B,H2,rfl,os,bare,un,hok,fly,k1,k2,hxm,hts⟩:=hq
 have hH2 : H2 ea = none:=by
  cases z : H2 ea with
  | none=>rfl
  | some u=>obtain ⟨o',q'⟩:=k2 ea u z; rw [fly.2.1] at q'; cases q'
 have hts:=hts ea hH2
 have hA : X.A.frames = some (X.env :: X.outer):=by rw [← hst]; exact I.ok.frames
 have ff:=fly.2.2.1
 rw [hst] at fly
 refine Oo (B:=B) hA hfr fly fun h3 held us3=>?_
 refine Ko (s:={ s2 with heap:=h3 }) held fun h4 fly4 us4=>?_
 have u4:=us3.trans us4
 have J4:=I1.flown (toks:=s2.toks) un hok os bare fly.1 k1 k2 fly4.1 (Inv.slots ff u4)
 refine wpAny_handleBy_cons (codeAny_handlers_test ?_) (by intro q; cases q)
 refine DL (X:=X.marked ea) (J4.marked ea) hgy hmy ?_ hdy
 obtain ⟨ob,hob,hcl,_⟩:=fly4.obj
 have LT : PySem.W.Looks (model X.prog X.w) h4 (typeOf (.ref ea)) cls:=by subst hcl; exact (PySem.W.Looks.ld hob).andThen .now
 refine (PySem.W.exm_one J4.kIn LT hxm).here ?_
 refine codeAny_handlers_suite_as ?_
 refine Ko (s:={ s2 with heap:=h4 }) fly4 fun h5 fly5 us5=>?_
 obtain ⟨oe,heo,hec,hct⟩:=fly5.obj
 have J5:=I1.flown (toks:=s2.toks) un hok os bare fly.1 k1 k2 fly5.1 (Inv.slots ff (u4.trans us5))
 have p5 : ea ∉ (X.env :: X.outer).filterMap (·.frame):=fun z=>by
  obtain ⟨_,o',e',nf⟩:=fly5.2.2.1.mem z
  rw [heo] at e'
  cases e'
  obtain ⟨v,hv,_⟩:=hct
  exact nf v hv
 rw [Tt,hfr] at p5
 have p3 : ea ≠ X.env.locals:=fun z=>p5 (z ▸ Tu)
 have p4 : ea ∉ X.fs:=fun z=>p5 (Tv _ z)
 have J6 : Inv (X.kept ea oe) pins σ H2 { s2 with heap:=h5 }:=J5.kept2 heo hH2 p3 p4 hct
 have il : i < σ.length:=by rw [I.len]; exact (TC.mp hi).1
 have pn : PE (X.kept ea oe) (.Name n np) (FA i):=Mp hi (.inl hl) hdn hcn
 have PC:=Pa (p:=gp) (pos:=cpos) F hr hct hst hfr hg (Aa pn Ab he) hm hdb he
 have PA1 : PS (X.kept ea oe) (.Assign [.Name a ap] (.Call (.Name g gp) [.Name n np] [] cpos) spos) _:=Ai nd hj (.inl hla) PC hs (.inr hla)
 refine CW (X:=X.kept ea oe) J6 nd hi (.inl hl) (v:=.ref ea) rfl (fun s6 I6=>?_) (.inr hl)
 have hq6 : M4 (Qi sp ea oe.cls (M0 (FA i) OM)) (C6 j) { nx:=fun σ' H3=>D.nx (σ'.set i none) H3,rt:=fun _ _=>False } (σ.set i (some (.ref ea))) H2 :=
  ⟨.ref ea,by rw [TF il],rfl,by rw [hec]; exact hts⟩
 refine wpAny_execs_cons (wpAny_mono (PA1 pins s6 _ _ _ I6 hq6) (fun fl s7 hs7=>?_) fun _ _ z=>False.elim z)
 cases fl with
 | next =>
   obtain ⟨σ',H7,I7,q7⟩:=hs7
   refine wpAny_execs_nil ?_
   obtain ⟨m,hn,hl7⟩:=id I7.loc
   refine wpAny_nameGoes_keeps hl hn (by rw [I.ok.kind]; rfl) fun h8 v hn8 sb=>?_
   exact ⟨_,_,(I7.unkept I.ok).gone nd hi hl7 hn8 sb,q7⟩
 | ret u=>obtain ⟨_,_,_,_,_,q7⟩:=hs7; exact q7.elim
 | brk=>obtain ⟨_,_,_,q7⟩:=hs7; exact q7.elim
 | cont=>obtain ⟨_,_,_,q7⟩:=hs7; exact q7.elim
section
open PySem.W
variable {X : Cx} (K : Tq)
inductive OF (ea : Addr) (cls : Value) (xs : List V) (H : Hp) (Q : VK) : Prop
 | mk (D : _) (y : _) (c : _) (b : _) (h1 : cls = .ref D) (h2 : XTy K D) (h3 : xs = [.ref ea,y]) (h4 : QN y = some c) (h5 : kitOne K (.ref D) c = some b) (h6 : Q (.bl b) H) : OF ea cls xs H Q
theorem FT {ea : Addr} {oe : Obj} (hx : Hx X ea oe) (e : X.K = K:=by rfl) : Dg X (.builtin "isinstance") (OF K ea oe.cls):=by
 subst e
 intro pins s σ H xs us Q I r h
 obtain ⟨D,y,c,b,hD,T,rfl,hy,hk,q⟩:=h
 have hp : Qd ea D s.heap:=⟨oe,hx.at I,hD⟩
 obtain ⟨u,w',rfl,rx,ry⟩:=Og r
 cases rx
 rw [N4 ry hy]
 exact kia_one (MM T) I.kIn hp hk (fun z=>nomatch z) fun tk=>⟨.bl b,H,I.tok _,rfl,q⟩
end
end L2
namespace L2
open PySem PySem.Spec PyProof.Rows PySem.W
def Dw : List Str:=["many","points","point","number","curve","stretch","deep","few","text","row"]
structure Qa (K : Frag) (D : Addr) (cs : List Addr) (n : Nat) : Prop where
 ty : XTy K D
 ve : kitOne K (.ref D) (.type "ValueError") = some true
 of : ∀ i c,cs[i]? = some c → kitOne K (.ref D) (.ref c) = some (i == n)
def Jz (K : Frag) (cs : List Addr) : SpH:=fun cls _ H Q=>∃ D n w,cls = .ref D ∧ Qa K D cs n ∧ Dw[n]? = some w ∧ ∀ H',Ag H H' → Q (.str w) H'
def WB (K : Frag) (H : Hp) (x : V) (p : Str × Bool) : Prop:=∃ a,x = .ref a ∧ SqT K H a [.str p.1,.bl p.2]
theorem WB.same {K : Frag} {H H' : Hp} {x : V} {p : Str × Bool} (h : WB K H x p) (e : Ag H H') : WB K H' x p:=let ⟨a,q,r⟩:=h; ⟨a,q,r.same e⟩
theorem WBs.same {K : Frag} {H H' : Hp} {xs : List V} {ps : List (Str × Bool)} (h : Paired (WB K H) xs ps) (e : Ag H H') : Paired (WB K H') xs ps:=Paired.mapP h fun _ _ q=>WB.same q e
theorem WBs.snoc {K : Frag} {H : Hp} {xs : List V} {ps : List (Str × Bool)} {x y : V} {p r : Str × Bool} (h : Paired (WB K H) xs ps) (h1 : WB K H x p) (h2 : WB K H y r) : Paired (WB K H) (xs ++ [x,y]) (ps ++ [p,r]):=by
 induction h with
 | nil=>exact .cons h1 (.cons h2 .nil)
 | cons a b ih=>exact .cons a ih
def CJ (ps : List (Str × Bool)) : List V:=(ps.filter (·.2)).map fun p=>.str p.1
theorem IG (ps : List (Str × Bool)) (p : Str × Bool) : CJ (ps ++ [p]) = if p.2 = true then CJ ps ++ [.str p.1] else CJ ps:=by
 unfold CJ
 rw [W5]
 by_cases h : p.2 = true
 ·rw [if_pos h,UU]
  simp [h]
 ·rw [if_neg h]
  simp [h]
theorem NO {K : Frag} {a : Addr} {xs : List V} {ps : List (Str × Bool)} {σ : St} {H : Hp} {Fin : List V → Hp → Prop} (hS : SqL K H a xs) (hP : Paired (WB K H) xs ps) (hz : xs.length ≤ sizeLine) (fin : Fin (CJ ps) H) :
 ∃ (n' : Nat) (W : Nat → List V → Hp → Prop),W 0 [] H ∧ LcW (Itl K a) n' 2 [] σ (LD K 2 (J0 (C6 0) (J0 (C6 1) PV))) (tB (FA 1)) (FA 0) Fin W:=by
 have hl:=hP.length
 have le : ∀ i,i ≤ xs.length → (CJ (ps.take i)).length ≤ i:=fun i hi=>by
  unfold CJ
  rw [Ug]
  exact Tr (W6 _ _) (by rw [U8]; exact Nat.min_le_left _ _)
 refine ⟨xs.length,fun i zs H'=>H' = H ∧ zs = CJ (ps.take i),⟨rfl,rfl⟩,⟨?_,?_,?_⟩⟩
 ·rintro i zs H' hi ⟨rfl,rfl⟩
  exact ⟨⟨xs,xs[i],hS,by simp [hi]⟩,Uy (le i (Ts hi)) (Te hi hz)⟩
 ·rintro i zs H' x H1 hi ⟨rfl,rfl⟩ ⟨rfl,y⟩
  have hx:=y xs hS
  have hi' : i < ps.length:=by rw [← hl]; exact hi
  obtain ⟨q,hq,c,rfl,hT⟩:=Paired.get hP hx
  have et : ps.take (i + 1) = ps.take i ++ [q]:=by rw [UT,hq]; rfl
  refine ⟨c,_,rfl,hT,rfl,.str q.1,_,rfl,.bl q.2,_,rfl,rfl,⟨.bl q.2,rfl,q.2,rfl,?_⟩⟩
  have e:=IG (ps.take i) q
  rw [← et] at e
  by_cases h : q.2 = true
  ·rw [if_pos h] at e
   show if q.2 = true then _ else _
   rw [if_pos h]
   exact ⟨.str q.1,rfl,rfl,e.symm⟩
  ·rw [if_neg h] at e
   show if q.2 = true then _ else _
   rw [if_neg h]
   exact ⟨rfl,e.symm⟩
 ·rintro zs H' ⟨rfl,rfl⟩
  refine ⟨⟨xs,hS,TL _⟩,Tr (le _ (TL _)) hz,?_⟩
  rw [hl,UW]
  exact fin
theorem My {n : Nat} {w : Str} (h : Dw[n]? = some w) : CJ (List.zip Dw ((Th 10).map fun i=>i == n)) = [.str w]:=by
 have hn : n < 10:=by
  have:=(TC.mp h).1
  exact this
 have key : ∀ n : Fin 10,∀ w,Dw[n.val]? = some w → CJ (List.zip Dw ((Th 10).map fun i=>i == n.val)) = [.str w]:=by
  intro n w h
  match n,h with
  | 0,h=>cases h; rfl
  | 1,h=>cases h; rfl
  | 2,h=>cases h; rfl
  | 3,h=>cases h; rfl
  | 4,h=>cases h; rfl
  | 5,h=>cases h; rfl
  | 6,h=>cases h; rfl
  | 7,h=>cases h; rfl
  | 8,h=>cases h; rfl
  | 9,h=>cases h; rfl
 exact key ⟨n,hn⟩ w h
end L2
namespace L2
open PySem PySem.Spec PyProof.Rows
section
variable {prog : Program} {w : World} {A : Around} {E : Value → Shared → Prop}
theorem JS {it l : Addr} {xs : Array Value} (ne : l ≠ it) : ∀ (k i : Nat) (s : Shared) (Q : List Value → Shared → Prop),s.heap.IsListIter it l i → s.heap.IsList l xs → i + k ≤ xs.size →
 (∀ g,g.IsListIter it l (i + k) → Heap.SameBut it s.heap g → Q ((xs.toList.drop i).take k) { s with heap:=g }) → wpAny (model prog w) A (draw (.ref it) k) Q E s:=by
 intro k
 induction k with
 | zero =>
   intro i s Q st _ _ kQ
   show wpAny _ _ (pure []) _ _ _
   refine wpAny_pure ?_
   have:=kQ s.heap st (Heap.SameBut.refl ..)
   simpa using this
 | succ k ih =>
   intro i s Q st hl hk kQ
   have hi : i < xs.size:=by lia
   show wpAny _ _ (pyNext (.ref it) >>= _) _ _ _
   refine wpAny_bind (wpAny_pyNext_list_item st hl (x:=xs[i]) (by simp [hi]) fun g1 st1 sb1=>?_)
   obtain ⟨ol,q1,q2⟩:=hl
   refine wpAny_bind (wpAny_holding (ih (i + 1) _ _ st1 ⟨ol,(sb1.2 l ne).trans q1,q2⟩ (by lia) fun g2 st2 sb2=>wpAny_pure ?_))
   have e : xs.toList.drop i = xs[i] :: xs.toList.drop (i + 1):=by simp [Vr,hi]
   have:=kQ g2 (by rw [show i + (k + 1) = i + 1 + k by lia]; exact st2) (sb1.trans sb2)
   rw [e,List.take_succ_cons] at this
   exact this
theorem NM {env : Env} {es : List Expr} {kk} {pos : Pos} {l : Addr} {xs : Array Value} {s : Shared} {Q : Unit → Shared → Prop} (hh : A.handled = none) (hl : s.heap.IsList l xs) (hn : (assignEach es env).length = xs.size) (hs : (assignEach es env).findIdx? (·.1) = none)
 (k : ∀ g,Heap.ExtBut s.heap.objs.size s.heap g → wpAny (model prog w) A (assignInOrder ((assignEach es env).map (·.2)) xs.toList) Q E { s with heap:=g }) : wpAny (model prog w) A (assign (.Tuple es kk pos) env (.ref l)) Q E s:=by
 obtain ⟨ol,q1,q2⟩:=id hl
 have nl : l ≠ s.heap.objs.size:=Tg (Heap.lt_size q1)
 rw [assign_Tuple]
 refine wpAny_bind (wpAny_standAt ?_)
 unfold unpack
 rw [hn,hs]
 refine wpAny_bind (wpAny_holding ?_)
 unfold unpackItems notIterableAtAll
 refine wpAny_bind (wpAny_bind (wpAny_specialOf hl.typeIs slot_list_iter.lookup (wpAny_pure ?_)))
 simp only [Bool.false_eq_true,if_false]
 refine wpAny_bind (wpAny_holding (wpAny_pyIter_list hl (wpAny_bind (wpAny_holding (JS nl xs.size 0 _ _ ⟨_,Heap.get?_push_size _ rfl,rfl,rfl⟩ ⟨ol,Heap.get?_push_of_some _ q1,q2⟩ (by lia) fun g1 st1 sb1=>?_)))))
 rw [show List.take xs.size (List.drop 0 xs.toList) = xs.toList by rw [Vm]; exact VC (by simp),if_neg (by simp)]
 refine wpAny_bind (wpAny_holding (wpAny_pyNext_list_end (s:={ s with heap:=g1 }) hh st1 ⟨ol,(sb1.2 l nl).trans (Heap.get?_push_of_some _ q1),q2⟩ (by simp) fun g2 e2=>?_))
 simp only [Option.isSome_none,Bool.false_eq_true,if_false]
 exact wpAny_pure (k g2 fun b u n q=>e2 b u n (sb1.extBut b u n (Heap.get?_push_of_some _ q)))
end
inductive QJ (K : Tq) (n : Nat) (t : TGs) (v : V) (σ : St) (H : Hp) (Q : (St → Hp → Prop)) : Prop
 | mk (a : _) (xs : _) (h1 : v = .ref a) (h2 : SqL K H a xs) (h3 : xs.length = n) (h4 : t xs σ H Q) : QJ K n t v σ H Q
theorem pgL {X : Cx} {K : Tq} {es : List Expr} {k : Nat} {t : TGs} {n : Nat} {pos : Pos} (hc : X.calm = true) (h : PGs X es t) (hn : (assignEach es X.env).length = n:=by rfl) (hst : (assignEach es X.env).findIdx? (·.1) = none:=by rfl) (e : X.K = K:=by rfl) : PG X (.Tuple es k pos) (QJ K n t):=by
 subst e
 intro pins s σ H v u Q I r hw
 obtain ⟨a,xs,e1,hq,hl,hw⟩:=hw
 subst e1
 cases r
 obtain ⟨its,rv,p,hz⟩:=I.list hq
 refine NM (I.ok.hd hc) p.isList (by simp [hn,← hl,rv.length]) hst fun h' hx=>?_
 have I1 : Inv X pins σ H { s with heap:=h' }:=I.kept (t':=s.toks) fun b o e=>hx b o (Tg (Heap.lt_size e)) e
 exact h pins _ σ H xs _ Q I1 (by simpa using rv) hw
end L2
namespace L2
theorem LX {L M : List Rat} {n : Nat} {c : Rat} (hL : L.length ≤ n + 1) (hM : M.length ≤ n + 1) (h : L.getD n 0 = c * M.getD n 0) : (Cv.strip (AU L (M.map (· * (-c))))).length ≤ n:=by
 have hle : (Cv.strip (AU L (M.map (· * (-c))))).length ≤ n + 1:=Tr (Cv.strip_length _) (by rw [Cm,Ug]; lia)
 refine Nat.le_of_not_lt fun hlt=>?_
 have e : (Cv.strip (AU L (M.map (· * (-c))))).length = n + 1:=by lia
 have hne : Cv.strip (AU L (M.map (· * (-c)))) ≠ []:=fun z=>by rw [z] at e; simp at e
 have h1:=Cv.strip_last _ hne
 have h2 : (Cv.strip (AU L (M.map (· * (-c))))).getD n 0 = 0:=by
  rw [De (m:=AU L (M.map (· * (-c)))) (fun k=>Cv.ev_strip _ _) n,BC]
  have h3 : (M.map (· * (-c))).getD n 0 = M.getD n 0 * (-c):=by
   rw [V2,V2,Uc]
   cases M[n]? with
   | none=>show (0 : Rat) = 0 * _; grind
   | some v=>rfl
  rw [h3,h]
  grind
 rw [e] at h1
 apply h1
 have hlt' : n < (Cv.strip (AU L (M.map (· * (-c))))).length:=by lia
 rw [show n + 1 - 1 = n by lia,V9 hlt']
 rw [V2,V9 hlt'] at h2
 exact congrArg some h2
theorem MW {B : List Rat} (gB : AO B) (nB : B ≠ []) : ∀ A : List Rat,∃ Q R,AO R ∧ R.length < B.length ∧ ∀ x,Cv.ev A x = Cv.ev Q x * Cv.ev B x + Cv.ev R x
 | []=>⟨[],[],.inl rfl,UQ.mpr nB,fun x=>by show (0 : Rat) = 0 * _ + 0; grind⟩
 | q :: r=>by
   obtain ⟨Q,R,gR,lR,e⟩:=MW gB nB r
   obtain ⟨v,hv,v0⟩:=gB.resolve_left nB
   have lB:=UQ.mpr nB
   have gv : B.getD (B.length - 1) 0 = v:=by rw [V2,hv]; rfl
   refine ⟨((q :: R).getD (B.length - 1) 0 / v) :: Q,Cv.strip (AU (q :: R) (B.map (· * (-((q :: R).getD (B.length - 1) 0 / v))))),Bb _,?_,fun x=>?_⟩
   ·have:=LX (L:=q :: R) (M:=B) (n:=B.length - 1) (c:=(q :: R).getD (B.length - 1) 0 / v) (by rw [UA]; lia) (by lia) (by
     rw [gv,UK v0])
    lia
   ·rw [Cv.ev_strip,Bc,Cv.ev_scale]
    show q + x * Cv.ev r x = ((q :: R).getD (B.length - 1) 0 / v + x * Cv.ev Q x) * Cv.ev B x + ((q + x * Cv.ev R x) + Cv.ev B x * (-((q :: R).getD (B.length - 1) 0 / v)))
    rw [e]
    grind
theorem N8 : ∀ (n : Nat) (A B : List Rat),AO A → AO B → B.length ≤ n → ∃ g u v,AO g ∧ Ba g A ∧ Ba g B ∧ ∀ x,Cv.ev g x = Cv.ev u x * Cv.ev A x + Cv.ev v x * Cv.ev B x
 | 0,A,B,gA,gB,h=>by
   obtain rfl : B = []:=UX (by lia)
   exact ⟨A,[1],[],gA,Ba.refl A,Ba.nil A,fun x=>by show _ = (1 + x * 0) * _ + 0 * _; grind⟩
 | n + 1,A,B,gA,gB,h=>by
   by_cases nB : B = []
   ·subst nB
    exact ⟨A,[1],[],gA,Ba.refl A,Ba.nil A,fun x=>by show _ = (1 + x * 0) * _ + 0 * _; grind⟩
   ·obtain ⟨Q,R,gR,lR,e⟩:=MW gB nB A
    obtain ⟨g,u,v,gg,i1,i2,eg⟩:=N8 n B R gB gR (by lia)
    refine ⟨g,v,AU u ((AW v Q).map (· * (-1))),gg,Ba.of (a:=Q) (b:=[1]) i1 i2 fun x=>?_,i1,fun x=>?_⟩
    ·rw [e]; show _ = _ + (1 + x * 0) * _; grind
    ·rw [eg,Bc,Cv.ev_scale,Az]
     have:=e x
     grind
def Cop (A B : List Rat) : Prop:=∃ u v,∀ x,Cv.ev u x * Cv.ev A x + Cv.ev v x * Cv.ev B x = 1
theorem Cop.turn {A B : List Rat} (h : Cop A B) : Cop B A:=let ⟨u,v,e⟩:=h; ⟨v,u,fun x=>by have:=e x; grind⟩
theorem Cop.like {A B A' B' : List Rat} (h : Cop A B) (e1 : ∀ x,Cv.ev A' x = Cv.ev A x) (e2 : ∀ x,Cv.ev B' x = Cv.ev B x) : Cop A' B':=let ⟨u,v,e⟩:=h; ⟨u,v,fun x=>by rw [e1,e2]; exact e x⟩
theorem Cop.mul {A B C M : List Rat} (h1 : Cop A C) (h2 : Cop B C) (e : ∀ x,Cv.ev M x = Cv.ev A x * Cv.ev B x) : Cop M C:=by
 obtain ⟨u,v,e1⟩:=h1
 obtain ⟨s,t,e2⟩:=h2
 refine ⟨AW u s,AU (AW (AW u A) t) (AU (AW v (AW s B)) (AW (AW v C) t)),fun x=>?_⟩
 rw [e,Bc,Bc,Az,Az,Az,Az,Az,Az,Az]
 have h1:=e1 x
 have h2:=e2 x
 have : (Cv.ev u x * Cv.ev A x + Cv.ev v x * Cv.ev C x) * (Cv.ev s x * Cv.ev B x + Cv.ev t x * Cv.ev C x) = 1:=by rw [h1,h2,VT]
 grind
theorem Q3 {A B : List Rat} (gA : AO A) (gB : AO B) (h : ∀ d,Ba d A → Ba d B → Ba d [1]) : Cop A B:=by
 obtain ⟨g,u,v,_,i1,i2,e⟩:=N8 B.length A B gA gB (TL _)
 obtain ⟨q,hq⟩:=h g i1 i2
 refine ⟨AW q u,AW q v,fun x=>?_⟩
 have h1:=hq x
 rw [e] at h1
 rw [Az,Az]
 have h2 : Cv.ev [1] x = 1:=by show (1 : Rat) + x * 0 = 1; grind
 grind
theorem O9 {D A B : List Rat} (hD : Cv.strip D ≠ []) (h : ∀ x,Cv.ev D x * Cv.ev A x = Cv.ev D x * Cv.ev B x) (x : Rat) : Cv.ev A x = Cv.ev B x:=by
 have key : Cv.strip (AU A (B.map (· * (-1)))) = []:=by
  by_cases hE : Cv.strip (AU A (B.map (· * (-1)))) = []
  ·exact hE
  exfalso
  have gM:=Cj (Bb D) (Bb (AU A (B.map (· * (-1))))) hD hE
  have e:=BB gM (.inl rfl : AO []) fun x=>by
   rw [Az,Cv.ev_strip,Cv.ev_strip,Bc,Cv.ev_scale]
   have:=h x
   show _ = (0 : Rat)
   grind
  have l:=Bx (Cv.strip (AU A (B.map (· * (-1))))) (UQ.mpr hE) (Cv.strip D) (UQ.mpr hD)
  rw [e] at l
  have:=UQ.mpr hE
  have:=UQ.mpr hD
  simp only [UB] at l
  lia
 have z : Cv.ev (Cv.strip (AU A (B.map (· * (-1))))) x = 0:=by rw [key]; rfl
 rw [Cv.ev_strip,Bc,Cv.ev_scale] at z
 grind
def pw (d : List Rat) : Nat → List Rat
 | 0=>[1]
 | n + 1=>AW (pw d n) d
theorem El (d : List Rat) (n : Nat) (x : Rat) : Cv.ev (pw d (n + 1)) x = Cv.ev (pw d n) x * Cv.ev d x:=Az x d (pw d n)
theorem IA (d : List Rat) (x : Rat) : ∀ n : Nat,Cv.ev (dL (pw d n)) x * Cv.ev d x = (n : Rat) * Cv.ev (pw d n) x * Cv.ev (dL d) x
 | 0=>by
   have : Cv.ev (dL (pw d 0)) x = 0:=EU 1 x
   rw [this]
   show (0 : Rat) * _ = (0 : Rat) * _ * _
   grind
 | n + 1=>by
   have ih:=IA d x n
   rw [EE (l:=pw d (n + 1)) (a:=pw d n) (b:=d) (fun x=>El d n x) x,El]
   have e : ((n + 1 : Nat) : Rat) = (n : Rat) + 1:=by rw [Vu]; rfl
   rw [e]
   grind
theorem FG {d : List Rat} (gd : AO d) (nd : d ≠ []) : ∀ n,AO (pw d n) ∧ (pw d n).length = n * (d.length - 1) + 1
 | 0=>⟨.inr ⟨1,rfl,by decide⟩,by rw [Nat.zero_mul]; rfl⟩
 | n + 1=>by
   obtain ⟨g,l⟩:=FG gd nd n
   have np : pw d n ≠ []:=fun z=>by rw [z] at l; simp at l
   have ld:=UQ.mpr nd
   refine ⟨Cj g gd np nd,?_⟩
   show (AW (pw d n) d).length = _
   rw [Bx d ld (pw d n) (by lia),l,Vh]
   lia
end L2
namespace L2
theorem Cop.add {A B B' C : List Rat} (h : Cop A B) (e : ∀ x,Cv.ev B' x = Cv.ev B x + Cv.ev C x * Cv.ev A x) : Cop A B':=by
 obtain ⟨u,v,h⟩:=h
 refine ⟨AU u ((AW v C).map (· * (-1))),v,fun x=>?_⟩
 rw [e,Bc,Cv.ev_scale,Az]
 have:=h x
 grind
theorem Cop.scale {A B B' : List Rat} {c : Rat} (h : Cop A B) (hc : c ≠ 0) (e : ∀ x,Cv.ev B' x = Cv.ev B x * c) : Cop A B':=by
 obtain ⟨u,v,h⟩:=h
 refine ⟨u,v.map (· * c⁻¹),fun x=>?_⟩
 rw [e,Cv.ev_scale]
 have:=h x
 have i:=VR _ hc
 grind
theorem Cop.mulR {A B C M : List Rat} (h1 : Cop A B) (h2 : Cop A C) (e : ∀ x,Cv.ev M x = Cv.ev B x * Cv.ev C x) : Cop A M:=(Cop.mul h1.turn h2.turn e).turn
structure Kn (f l g : List Rat) : Prop where
 gg : AO g
 mono : g[g.length - 1]? = some 1
 fe : ∀ x,Cv.ev f x = Cv.ev l x * Cv.ev g x
 un : ∃ u,(∀ x,Cv.ev (dL f) x = Cv.ev g x * Cv.ev u x) ∧ Cop l u
theorem ML {c : Rat} (hc : c ≠ 0) : Kn [c] [c] [1] :=
 ⟨.inr ⟨1,rfl,by decide⟩,rfl,fun x=>by show c + x * 0 = (c + x * 0) * ((1 : Rat) + x * 0); grind,[],fun x=>by rw [EU]; show (0 : Rat) = _ * 0; grind,[c⁻¹],[],fun x=>by
  show (c⁻¹ + x * 0) * (c + x * 0) + 0 * 0 = 1
  have:=VR _ hc
  grind⟩
theorem IS {p q m : List Rat} (gp : AO p) (gq : AO q) (lp : p[p.length - 1]? = some 1) (lq : q[q.length - 1]? = some 1) (gm : AO m) (e : ∀ x,Cv.ev m x = Cv.ev p x * Cv.ev q x) : m[m.length - 1]? = some 1:=by
 have np : p ≠ []:=fun z=>by rw [z] at lp; cases lp
 have nq : q ≠ []:=fun z=>by rw [z] at lq; cases lq
 have em : m = AW p q:=BB gm (Cj gp gq np nq) fun x=>by rw [e,Az]
 have lm:=Bx q (UQ.mpr nq) p (UQ.mpr np)
 have hp:=UQ.mpr np
 have hq:=UQ.mpr nq
 have key : ∀ (p q : List Rat) (a b : Nat) (s t : Rat),p.length = a + 1 → q.length = b + 1 → p[a]? = some s → q[b]? = some t → (AW p q).getD (a + b) 0 = s * t:=by
  intro p
  induction p with
  | nil=>intro q a b s t h; simp at h
  | cons c p ih =>
    intro q a b s t hp hq hs ht
    show (AU (q.map (· * c)) (0 :: AW p q)).getD (a + b) 0 = _
    rw [BC]
    cases a with
    | zero =>
      have hp0 : p = []:=UX (by simpa using hp)
      subst hp0
      have hs : c = s:=by simpa using hs
      subst hs
      rw [Vx]
      have h1 : (q.map (· * c)).getD b 0 = t * c:=by rw [V2,Uc,ht]; rfl
      have h2 : ((0 : Rat) :: AW [] q).getD b 0 = 0:=by
       show ([0] : List Rat).getD b 0 = 0
       cases b <;> simp
      rw [h1,h2]
      grind
    | succ a =>
      have h1 : (q.map (· * c)).getD (a + 1 + b) 0 = 0:=by
       rw [V2,Vs (by rw [Ug]; lia)]
       rfl
      have h2 : ((0 : Rat) :: AW p q).getD (a + 1 + b) 0 = (AW p q).getD (a + b) 0:=by
       rw [show a + 1 + b = (a + b) + 1 by lia]
       simp
      rw [h1,h2,ih q a b s t (by simpa using hp) hq (by simpa using hs) ht]
      grind
 have k:=key p q (p.length - 1) (q.length - 1) 1 1 (by lia) (by lia) lp lq
 rw [em,lm]
 have hlt : p.length + q.length - 1 - 1 < (AW p q).length:=by rw [lm]; lia
 rw [V9 hlt]
 have hi : p.length + q.length - 1 - 1 = (p.length - 1) + (q.length - 1):=by lia
 rw [V2,← hi,V9 hlt] at k
 rw [show (AW p q)[p.length + q.length - 1 - 1] = 1 * 1 from k,VT]
theorem Kn.more {f l g p : List Rat} (h : Kn f l g) (gp : AO p) (mp : p[p.length - 1]? = some 1) (c1 : Cop p l) (c2 : Cop p (dL p)) (m : Nat) : Kn (AW f (pw p (m + 1))) (AW l p) (Cv.strip (AW g (pw p m))):=by
 obtain ⟨u,hu,cu⟩:=h.un
 have np : p ≠ []:=fun z=>by rw [z] at mp; cases mp
 have pwm : ∀ n,(pw p n)[(pw p n).length - 1]? = some 1:=fun n=>by
  induction n with
  | zero=>rfl
  | succ n ih=>exact IS (FG gp np n).1 gp ih mp (FG gp np (n + 1)).1 fun x=>El p n x
 have hm0 : ((m + 1 : Nat) : Rat) ≠ 0:=fun z=>by
  have : m + 1 = 0:=by exact_mod_cast z
  lia
 refine ⟨Bb _,IS h.gg (FG gp np m).1 h.mono (pwm m) (Bb _) (fun x=>by rw [Cv.ev_strip,Az]),fun x=>?_,AU (AW u p) ((AW l (dL p)).map (· * ((m + 1 : Nat) : Rat))),fun x=>?_,?_⟩
 ·rw [Az,Az,Cv.ev_strip,Az,El,h.fe]
  grind
 ·rw [EE (l:=AW f (pw p (m + 1))) (a:=f) (b:=pw p (m + 1)) (fun x=>Az x _ f) x,Cv.ev_strip,Az,Bc,Az,Cv.ev_scale,Az,hu,h.fe]
  have e1:=EE (l:=pw p (m + 1)) (a:=pw p m) (b:=p) (fun x=>El p m x) x
  have e2:=IA p x m
  have e3:=El p m x
  have e4 : ((m + 1 : Nat) : Rat) = (m : Rat) + 1:=by rw [Vu]; rfl
  rw [e1,e3,e4]
  generalize Cv.ev (pw p m) x = W at e2 ⊢
  generalize Cv.ev (dL (pw p m)) x = W' at e2 ⊢
  generalize Cv.ev p x = p0 at e2 ⊢
  generalize Cv.ev (dL p) x = p1 at e2 ⊢
  generalize Cv.ev l x = l0
  generalize Cv.ev g x = g0
  generalize Cv.ev u x = u0
  have : l0 * g0 * (W * p1 + W' * p0) = l0 * g0 * (W * p1 + (m : Rat) * W * p1):=by rw [e2]
  rw [this]
  grind
 ·refine Cop.mul (A:=l) (B:=p) ?_ ?_ (fun x=>Az x p l)
  ·exact (Cop.mulR (M:=AW u p) cu c1.turn fun x=>Az x p u).add (C:=(dL p).map (· * ((m + 1 : Nat) : Rat))) fun x=>by
    rw [Bc,Cv.ev_scale,Cv.ev_scale,Az,Az]
    grind
  ·exact ((Cop.mulR (M:=AW l (dL p)) c1 c2 fun x=>Az x _ l).scale (B':=(AW l (dL p)).map (· * ((m + 1 : Nat) : Rat))) hm0 fun x=>Cv.ev_scale _ x _).add (C:=u) fun x=>by
    rw [Bc,Az]
    grind
theorem Kn.like {f l g f' l' : List Rat} (h : Kn f l g) (e1 : ∀ x,Cv.ev f' x = Cv.ev f x) (e2 : ∀ x,Cv.ev l' x = Cv.ev l x) : Kn f' l' g :=
 ⟨h.gg,h.mono,fun x=>by rw [e1,e2]; exact h.fe x,let ⟨u,hu,cu⟩:=h.un; ⟨u,fun x=>by rw [Lc e1]; exact hu x,cu.like e2 fun _=>rfl⟩⟩
theorem Kn.part {f fd l g : List Rat} (h : Kn f l g) (e : ∀ x,Cv.ev fd x = Cv.ev (dL f) x) : DQ f fd g:=by
 obtain ⟨u,hu,s,t,c⟩:=h.un
 refine ⟨h.gg,h.mono,fun d=>⟨fun ⟨h1,h2⟩=>?_,fun h1=>⟨h1.trans ⟨l,h.fe⟩,h1.trans ⟨u,fun x=>by rw [e,hu]; grind⟩⟩⟩⟩
 refine Ba.of (a:=s) (b:=t) h1 h2 fun x=>?_
 rw [e,hu,h.fe]
 have:=c x
 have z : Cv.ev g x = (Cv.ev s x * Cv.ev l x + Cv.ev t x * Cv.ev u x) * Cv.ev g x:=by rw [this]; grind
 rw [z]
 grind
theorem Kn.lone {f fd l g g' r : List Rat} (h : Kn f l g) (e : ∀ x,Cv.ev fd x = Cv.ev (dL f) x) (P : DQ f fd g') (hr : ∀ x,Cv.ev f x = Cv.ev r x * Cv.ev g' x) (gl : AO l) (gr : AO r) : r = l:=by
 have eg : g' = g:=P.one (h.part e) (Com.refl _ _)
 subst eg
 have ng:=P.ne
 have sg : Cv.strip g' ≠ []:=fun z=>ng (BB P.good (.inl rfl) fun x=>by rw [← Cv.ev_strip,z])
 exact BB gr gl fun x=>O9 sg (fun x=>by have h1:=hr x; have h2:=h.fe x; grind) x
theorem Jc {o : Rat} {B : List Rat} (h : Cv.ev B o ≠ 0) : Cop [-o,1] B:=by
 refine (Q3 (.inr ⟨1,rfl,by decide⟩) (Bb B) fun d h1 h2=>?_).like (fun _=>rfl) fun x=>(Cv.ev_strip x B).symm
 refine Ba.cancel (p:=o) (A:=[1]) h1 (fun x=>by show -o + x * ((1 : Rat) + x * 0) = (x - o) * ((1 : Rat) + x * 0); grind) fun z=>h ?_
 obtain ⟨q,hq⟩:=h2
 rw [← Cv.ev_strip,hq,z,W7]
theorem Lr (o : Rat) : Cop [-o,1] (dL [-o,1]):=Jc (by
 rw [Em,Em]
 show (1 : Rat) + o * 0 + o * (0 + o * 0) ≠ 0
 rw [show (1 : Rat) + o * 0 + o * (0 + o * 0) = 1 by grind]
 decide)
theorem N7 {b c : Rat} (h : b * b - 4 * c ≠ 0) : Cop [c,b,1] (dL [c,b,1]):=by
 have hd:=VR _ h
 refine ⟨[-4 * (b * b - 4 * c)⁻¹],[b * (b * b - 4 * c)⁻¹,2 * (b * b - 4 * c)⁻¹],fun x=>?_⟩
 have e : Cv.ev (dL [c,b,1]) x = b + 2 * x:=by
  rw [Em,Em,Em]
  show b + x * ((1 : Rat) + x * 0) + x * ((1 : Rat) + x * 0 + x * (0 + x * 0)) = _
  grind
 rw [e]
 show (-4 * (b * b - 4 * c)⁻¹ + x * 0) * (c + x * (b + x * ((1 : Rat) + x * 0))) + (b * (b * b - 4 * c)⁻¹ + x * (2 * (b * b - 4 * c)⁻¹ + x * 0)) * (b + 2 * x) = 1
 grind
end L2
namespace L2
open PySem PySem.Spec PyProof.Rows
section
variable {X : Cx} {e : Expr} {es : List Expr} {te : TE} {t : TA} {pos : Pos}
@[irreducible] def PEk (X : Cx) (e : Expr) (te : TE) : Prop:=PE X e te
@[irreducible] def PAk (X : Cx) (es : List Expr) (t : TA) : Prop:=PA X es t
theorem pek (h : PE X e te) : PEk X e te:=by unfold PEk; exact h
end
end L2
namespace L2
open PySem PySem.Spec PyProof.Rows
section
variable {prog : Program} {w : World} {A : Around} {E : Value → Shared → Prop} {s : Shared} {it d : Addr} {i ep : Nat} {od : Obj} {es : Array DictEntry}
theorem GR {Q : Value → Shared → Prop} (hd : (d == sysModules) = false) (ho : s.heap.get? d = some od) (hx : od.ExactDict) (hdat : od.data = .dict es ep) (hT : s.TypeIs (.ref d) "dict")
 (hQ : Q (.ref s.heap.objs.size) { s with heap:=s.heap.push { cls:=.type "dict_keyiterator",data:=.fields #[.ref d,.int 0 0,.int es.size 0,.int ep 0] } }) : wpAny (model prog w) A (pyIter (.ref d)) Q E s:=by
 refine wpAny_pyIter_slot hT F.slot_dict_iter (wpAny_call_entry F.slot_dict_iter hT F.entry_dict_iter ?_ (F.args_dict_iter_1 _))
 refine wpAny_bind (?_ : wpAny _ _ (Builtin.Dict.dictSlotNone _ _) _ _ s)
 refine wpAny_bind (wpAny_notOrdered_dict hT (wpAny_pure (wpAny_bind (wpAny_pure ?_))))
 refine wpAny_bind (?_ : wpAny _ _ (Builtin.Dict.showsAll d) _ _ s)
 unfold Builtin.Dict.showsAll
 rw [hd]
 refine wpAny_pure ?_
 refine wpAny_bind (wpAny_dictEntries ho hdat (wpAny_bind (wpAny_dictEpoch ho hdat ?_)))
 exact wpAny_bind (wpAny_newObj_type (wpAny_pure ⟨_,rfl,"dict_keyiterator",_,⟨_,Heap.get?_push_size _ rfl,rfl⟩,F.slot_dict_keyiterator_next.lookup,by simpa [rawInt] using hQ⟩))
theorem Eg {Q : Option Value → Shared → Prop} (hh : A.handled = none) (hit : s.heap.IsKeyIter it d i es.size ep) (hod : s.heap.get? d = some od) (hdd : od.data = .dict es ep)
 (hs : ∀ (hlt : i < es.size) h',h'.IsKeyIter it d (i + 1) es.size ep → Heap.SameBut it s.heap h' → Q (some es[i].key) { s with heap:=h' })
 (he : es.size ≤ i → ∀ h',Heap.ExtBut it s.heap h' → Q none { s with heap:=h' }) : wpAny (model prog w) A (pyNext (.ref it)) Q E s:=by
 have hT:=hit.typeIs
 obtain ⟨o,ho,hc,hd⟩:=id hit
 have named : ∀ {R : String → Shared → Prop} {E' : Value → Shared → Prop},R "dict_keyiterator" s → wpAny (model prog w) A.in1 (typeNameOfWhole (.ref it)) R E' s:=fun h=>wpAny_typeNameOfWhole_keyiter hT h
 unfold pyNext
 refine wpAny_bind (wpAny_attempt (wpAny_callSpecial?_slot (name:="__next__") hT F.slot_dict_keyiterator_next (wpAny_call_entry F.slot_dict_keyiterator_next hT F.entry_dict_keyiterator_next ?_ (F.args_dict_keyiterator_next_1 _))))
 refine wpAny_bind (wpAny_pure (wpAny_bind (wpAny_bind ?_)))
 refine wpAny_bind (named (wpAny_pure (wpAny_bind (wpAny_fieldsOf ho hd ?_))))
 have hown : Builtin.Dict_items.ownsTuple "dict_keyiterator" = false:=by decide
 simp only [hown,Bool.false_eq_true,if_false]
 refine wpAny_ite_split (fun z=>nomatch (show false = true from z)) fun _=>?_
 refine wpAny_bind (wpAny_pure (wpAny_bind (wpAny_dictEntries hod hdd ?_)))
 rw [if_neg (by simp)]
 refine wpAny_bind (wpAny_pure (wpAny_bind (wpAny_dictEpoch hod hdd ?_)))
 rw [if_neg (by simp)]
 refine wpAny_pure ?_
 simp only [show ¬ ((i : Int) < 0) from by lia,if_false,Uk]
 rcases Nat.lt_or_ge i es.size with hlt | hge
 ·rw [W8 hlt]
  refine wpAny_bind (wpAny_bind (named (wpAny_pure ?_)))
  refine wpAny_bind (wpAny_isOneOf_keyiter hT ?_)
  change wpAny _ _ (setField (.ref it) 1 (rawInt ((i : Int) + 1)) >>= _) _ _ s
  refine wpAny_bind (wpAny_setField ho hd (by simp) ?_)
  have st : (s.heap.update it (Obj.mapFields (·.setIfInBounds 1 (rawInt ((i : Int) + 1))))).IsKeyIter it d (i + 1) es.size ep:=by
   refine ⟨_,Heap.get?_update_self _ ho (Obj.isFreed_of_fields (Obj.data_mapFields hd _)),(Obj.cls_mapFields ..).trans hc,?_⟩
   rw [Obj.data_mapFields hd]
   simp [rawInt]
  have sb : Heap.SameBut it s.heap (s.heap.update it (Obj.mapFields (·.setIfInBounds 1 (rawInt ((i : Int) + 1))))):=Heap.SameBut.update ..
  have q:=hs hlt _ st sb
  generalize s.heap.update it (Obj.mapFields (·.setIfInBounds 1 (rawInt ((i : Int) + 1)))) = h' at st q ⊢
  refine wpAny_bind (wpAny_holding (wpAny_bind (wpAny_isOneOf_keyiter (s:={ s with heap:=h' }) st.typeIs ?_)))
  change wpAny _ _ (pure es[i].key) _ _ _
  exact wpAny_pure (wpAny_pure ⟨_,rfl,wpAny_pure q⟩)
 ·rw [Array.getElem?_eq_none hge]
  refine wpAny_bind (wpAny_bind (named (wpAny_pure ?_)))
  change wpAny _ _ (setField (.ref it) 0 .none >>= _) _ _ s
  refine wpAny_bind (wpAny_setField ho hd (by simp) ?_)
  have q:=fun h'=>he hge h'
  have sb : Heap.ExtBut it s.heap (s.heap.update it (Obj.mapFields (·.setIfInBounds 0 Value.none))):=(Heap.SameBut.update ..).extBut
  generalize s.heap.update it (Obj.mapFields (·.setIfInBounds 0 Value.none)) = h1 at sb ⊢
  refine wpAny_bind ?_
  simp only [newExc,newTuple]
  refine wpAny_bind (wpAny_newObj_type (wpAny_bind (m:=firstArgMember _ _) (wpAny_of_eq (a:=Value.none) (by first | rfl | (simp only [firstArgMember]; rfl)) (wpAny_newObj_type ?_ (by size_fits)))) (by size_fits))
  simp only [raiseNew]
  refine wpAny_bind (wpAny_handled ?_)
  rw [show A.in1.handled = none from hh]
  refine wpAny_bind (wpAny_pure (wpAny_throw ?_))
  refine wpAny_bind (wpAny_isInstance (T:="StopIteration") (b:=true) ⟨_,Heap.get?_push_size _ rfl,rfl⟩ isSubtype_stop ?_)
  exact wpAny_pure (q _ ((sb.push _).push _))
end
def Itk (d : Addr) (o : Obj) (kvs : List (List Key × V)) : It :=
 ⟨fun i H=>H d = some (.frz o (.dT kvs)) ∧ i < kvs.length,fun i H x H'=>H' = H ∧ ∃ b p,x = .ref b ∧ kvs[i]? = some p ∧ H b = some (.tup (p.1.map kV)),fun i H=>H d = some (.frz o (.dT kvs)) ∧ kvs.length ≤ i⟩
section
variable {X : Cx} {pins : List (Addr × Obj)} {σ : List (Option V)} {H : Hp} {s : Shared}
theorem KT.get {H : Hp} {kvs : List (List Key × V)} {xs : List (List Key × Addr × Value)} (r : KT H kvs xs) : ∀ {i : Nat} {p : List Key × V},kvs[i]? = some p → ∃ x,xs[i]? = some x ∧ H x.2.1 = some (.tup (p.1.map kV)):=by
 induction r with
 | nil=>intro i p e; cases e
 | @cons p q ps qs hq t ih =>
   intro i p' e
   cases i with
   | zero=>cases e; exact ⟨q,rfl,hq.2.1⟩
   | succ j=>exact ih e
theorem Fo {i : Nat} {d : Addr} {o : Obj} {kvs : List (List Key × V)} {es : Array DictEntry} {ep : Nat} (I : Inv X pins σ H s) (hd : H d = some (.frz o (.dT kvs))) (ho : o.data = .dict es ep) : s.heap.get? d = some o ∧ es.size = kvs.length ∧ ∀ p,kvs[i]? = some p → ∃ e b,es[i]? = some e ∧ e.key = .ref b ∧ H b = some (.tup (p.1.map kV)):=by
 obtain ⟨h0,z,y,xs,r,o',es',ep',h1,h2,h3,h4,h5⟩:=(show Bh X.prog X.w H s.heap d (.frz o (.dT kvs)) from I.hok d _ hd)
 rw [h0] at h1
 cases h1
 rw [ho] at h3
 cases h3
 have hl:=Paired.length r
 refine ⟨h0,by rw [← TJ,h4,Ug,hl],fun p hp=>?_⟩
 obtain ⟨x,hx,hb⟩:=KT.get r hp
 exact ⟨entryOfKey (tupleKind (BM X.prog X.w)) x,x.2.1,by rw [← Uu,h4,Uc,hx]; rfl,rfl,hb⟩
end
theorem KY {P : Program} {w : World} {K : Tq} {tg : Expr} {d it : Addr} {o : Obj} {es : Array DictEntry} {ep : Nat} (kvs : List (List Key × V)) (ho : o.data = .dict es ep) : Ip P w K tg (Itk d o kvs) [it] it (fun i h=>h.IsKeyIter it d i es.size ep) where
 mem:=by simp
 obj:=fun i h st b hb=>by
  have e : b = it:=by simpa using hb
  subst e
  obtain ⟨o,e,c,d⟩:=st
  exact ⟨o,e,fun v z=>by rw [d] at z; cases z⟩
 keep:=fun i h h' st k=>let ⟨o,e,r⟩:=st; ⟨o,k it (by simp) o e,r⟩
 item:=by
  intro X hP hw hK hc i pins s σ H E I hf st hg
  subst hP hw hK
  obtain ⟨hd,hi⟩:=hg
  obtain ⟨f0,f1,f2,f3,f4,f5⟩:=hf it (by simp)
  obtain ⟨h0,hsz,hk⟩:=Fo (i:=i) I hd ho
  refine Eg (I.ok.hd hc) st h0 ho (fun hlt h' st' sb=>?_) fun hge=>absurd hi (by lia)
  have I1 : Inv X pins σ H { s with heap:=h' }:=I.turned (t':=s.toks) (fun b o hb e=>(sb.2 b hb).trans e) f0 f1 f3 f4 f5
  obtain ⟨o',e,c,dd⟩:=id st'
  obtain ⟨en,b,he,hkey,hb⟩:=hk _ (V9 hi)
  rw [W8 hlt] at he
  cases he
  exact ⟨_,rfl,FV (s:={ s with heap:=h' }) e c dd (by decide) ⟨.ref b,H,I1,hkey,⟨rfl,b,_,rfl,V9 hi,hb⟩,st',fun b hb=>(hf b hb).1⟩⟩
 done:=by
  intro X hP hw hK hc i pins s σ H E I hf st hg
  subst hP hw hK
  obtain ⟨hd,hi⟩:=hg
  obtain ⟨f0,f1,f2,f3,f4,f5⟩:=hf it (by simp)
  obtain ⟨h0,hsz,_⟩:=Fo (i:=i) I hd ho
  exact Eg (I.ok.hd hc) st h0 ho (fun hlt=>absurd hlt (by lia)) fun _ h' eb=>⟨rfl,I.turned (t':=s.toks) (fun b o hb e=>eb b o hb e) f0 f1 f3 f4 f5⟩
 self:=fun _ _ _ _ _ st h=>wpAny_pyIter_keyiter st h
section
variable {X : Cx} {pins : List (Addr × Obj)} {σ : List (Option V)} {H : Hp} {s : Shared}
theorem Inv.freeze {d : Addr} {o : Obj} {kvs : List (List Key × V)} (I : Inv X pins σ H s) (hd : H d = some (.dT kvs)) (ho : s.heap.get? d = some o) : Inv X pins σ (upd H d (.frz o (.dT kvs))) s:=by
 have same : ∀ {b : Addr} {u : HO},H b = some u → u ≠ .dT kvs → upd H d (.frz o (.dT kvs)) b = some u:=fun {b u} h hu=>by rw [Aw (CL h hd hu)]; exact h
 have none' : ∀ {b : Addr},H b = none → upd H d (.frz o (.dT kvs)) b = none:=fun {b} h=>by rw [Aw (AB hd h).symm]; exact h
 have stay : ∀ {a : Addr} {u : HO},Bh X.prog X.w H s.heap a u → Bh X.prog X.w (upd H d (.frz o (.dT kvs))) s.heap a u:=fun x=>x.stay (fun _ _ _ q=>q) (fun _ q=>same q (fun z=>by cases z)) fun _ _ q=>same q (fun z=>by cases z)
 have r:=I.step (H':=upd H d (.frz o (.dT kvs))) (h':=s.heap) (g':=s.gens) (t':=s.toks) (d':=s.drawn) (ch:=[]) (fun _ z=>nomatch z) (fun _ _ _ _ _ q _=>q) (fun b ob _ _ _ q _=>⟨ob.slots,q⟩) (fun _ _ _ _ q=>none' q) (fun _ ob _ q=>⟨ob,q⟩)
  (fun _ _ q=>same q (fun z=>by cases z)) (fun _ _ _ q=>same q (fun z=>by cases z)) (fun _ ps q=>⟨#[],by rw [Array.append_empty]; exact same q (fun z=>by cases z)⟩) (fun _ q=>q) (fun a u e=>by
   by_cases ha : a = d
   ·subst ha
    rw [Ae] at e
    cases e
    exact ⟨ho,stay (I.hok _ _ hd)⟩
   ·rw [Aw ha] at e
    exact stay (I.hok _ _ e)) I.bare
 exact r
end
end L2
namespace L2
open PySem PySem.Spec PyProof.Rows
section
variable {prog : Program} {w : World} {A : Around} {E : Value → Shared → Prop} {s : Shared}
end
section
variable {X : Cx} {tg : Expr}
end
end L2
namespace L2
open PySem PySem.Spec PyProof.Rows
def tBi (c : TT) (t u : TB) : TB:=fun nx E σ H=>c σ H fun b H1=>if b = true then t nx E σ H1 else u nx E σ H1
theorem Qz {X : Cx} {c : Expr} {b1 b2 : List Stmt} {tc : TT} {t u : TB} {pos : Pos} (hc : PT X.nox c tc) (h1 : PB X b1 t) (h2 : PB X b2 u) : PB X [.If c b1 b2 pos] (tBi tc t u):=by
 intro pins s σ H nx E I h
 refine wpAny_execs_cons (wpAny_If (wpAny_mono (hc pins s σ H _ (I.wish _) h) (fun d s1 ⟨H1,I1,q1⟩=>?_) fun _ _ z=>False.elim z))
 have I1:=I1.unwish
 have fin : ∀ {b : List Stmt} {v : TB},PB X b v → v nx E σ H1 → wpAny (model X.prog X.w) X.A (execs b X.env) (fun f s'=>match f with | .next=>wpAny (model X.prog X.w) X.A (execs [] X.env) (fun fl s1=>fl = .next ∧ ∃ σ' H',Inv X pins σ' H' s1 ∧ nx σ' H') (fun e s2=>∃ H1 s1,Inv X pins σ H1 s1 ∧ CX2 X.prog X.w X.stack H1 s1 E e s2) s' | f=>f = .next ∧ ∃ σ' H',Inv X pins σ' H' s' ∧ nx σ' H') (fun e s2=>∃ H1 s1,Inv X pins σ H1 s1 ∧ CX2 X.prog X.w X.stack H1 s1 E e s2) s1:=fun {b v} hb hq=>by
  refine wpAny_mono (hb pins s1 σ H1 nx E I1 hq) (fun fl s2 ⟨ef,q⟩=>?_) fun _ _ z=>z
  subst ef
  exact wpAny_execs_nil ⟨rfl,q⟩
 cases d with
 | true=>exact fin h1 q1
 | false=>exact fin h2 q1
end L2
namespace L2
open PySem PySem.Spec PyProof.Rows
theorem LP {H : Hp} {a : Addr} {o : HO} (h : H a = some o) : upd H a o = H:=funext fun b=>by
 by_cases e : b = a
 ·subst e; rw [Ae,h]
 ·rw [Aw e]
section
variable {X : Cx} {pins : List (Addr × Obj)} {σ : List (Option V)} {H : Hp} {s : Shared}
inductive MP (tl : TE) (σ : St) (H : Hp) (R : It → Hp → Prop) : Prop
 | mk (h : tl σ H fun v H1=>∃ d kvs,v = .ref d ∧ Rd H1 d (.dT kvs) ∧ ∀ o,R (Itk d o kvs) (upd H1 d (.frz o (.dT kvs)))) : MP tl σ H R
theorem J9 {d : Addr} {kvs : List (List Key × V)} (I : Inv X pins σ H s) (hd : Rd H d (.dT kvs)) : ∃ o es ep,s.heap.get? d = some o ∧ (d == sysModules) = false ∧ o.ExactDict ∧ o.data = .dict es ep ∧ Inv X pins σ (upd H d (.frz o (.dT kvs))) s:=by
 rcases hd with hd | ⟨o',hd⟩
 ·obtain ⟨z,y,xs,r,o,es,ep,h1,h2,h3,h4,h5⟩:=(show Bh X.prog X.w H s.heap d (.dT kvs) from I.hok d _ hd)
  exact ⟨o,es,ep,h1,y,h2,h3,I.freeze hd h1⟩
 ·obtain ⟨h0,z,y,xs,r,o,es,ep,h1,h2,h3,h4,h5⟩:=(show Bh X.prog X.w H s.heap d (.frz o' (.dT kvs)) from I.hok d _ hd)
  rw [h0] at h1
  cases h1
  exact ⟨o',es,ep,h0,y,h2,h3,by rw [LP hd]; exact I⟩
theorem piR {tg l : Expr} {tl : TE} (hl : PE X l tl) : PI X tg l (MP tl):=by
 intro pins s σ H R I h
 obtain ⟨h⟩:=h
 refine thn (hl pins s σ H _ I h) fun v s1 ⟨x,H1,I1,r1,q1⟩=>?_
 obtain ⟨d,kvs,rfl,hd,q⟩:=q1
 cases (show v = Value.ref d from r1)
 obtain ⟨o,es,ep,h1,y,h2,h3,I2⟩:=J9 I1 hd
 refine GR y h1 h2 h3 ⟨o,h1,h2.1⟩ ?_
 refine ⟨s1.heap.objs.size,[s1.heap.objs.size],_,_,_,rfl,I2.kept (t':=s1.toks) fun b o e=>Heap.get?_push_of_some _ e,KY kvs h3,⟨_,Heap.get?_push_size _ rfl,rfl,rfl⟩,fun b hb=>?_,q o⟩
 have e : b = s1.heap.objs.size:=by simpa using hb
 subst e
 exact I2.fpOk (TL _) (I2.hok.fresh (TL _))
end
theorem IX {d : Addr} {o : Obj} {kvs : List (List Key × V)} {js : List Nat} {tc : TT} {te : TE} {σ : St} {H : Hp} {Fin : List V → Hp → Prop} (Pv : Nat → List V → Hp → Prop) (h0 : Pv 0 [] H)
 (hl : ∀ i zs H,i ≤ kvs.length → Pv i zs H → H d = some (.frz o (.dT kvs)) ∧ zs.length ≤ i) (hz : kvs.length ≤ sizeLine)
 (hs : ∀ i b p zs H,kvs[i]? = some p → H b = some (.tup (p.1.map kV)) → Pv i zs H → tc ((cS 1 js σ).set 0 (some (.ref b))) H fun c H3=>if c = true then te ((cS 1 js σ).set 0 (some (.ref b))) H3 fun y H4=>Pv (i + 1) (zs ++ [y]) H4 else Pv (i + 1) zs H3) (fin : ∀ zs H',Pv kvs.length zs H' → Fin zs H') :
 ∃ (n' : Nat) (W : Nat → List V → Hp → Prop),W 0 [] H ∧ LcW (Itk d o kvs) n' 1 js σ (C6 0) tc te Fin W:=by
 refine ⟨kvs.length,Pv,h0,⟨?_,?_,?_⟩⟩
 ·intro i zs H' hi p
  obtain ⟨h1,h2⟩:=hl i zs H' (Ts hi) p
  exact ⟨⟨h1,hi⟩,by lia⟩
 ·rintro i zs H' x H1 hi p ⟨rfl,b,pp,rfl,e,hb⟩
  exact hs i b pp zs _ e hb p
 ·intro zs H' p
  obtain ⟨h1,h2⟩:=hl _ zs H' (TL _) p
  exact ⟨⟨h1,TL _⟩,by lia,fin zs H' p⟩
section
variable {prog : Program} {w : World} {d : Addr} {od : Obj} {es : Array DictEntry} {ep : Nat}
theorem Jq {A : Around} (hh : A.handled = none) (I : Addr) (hne : d ≠ I) (hdat : od.data = .dict es ep) : Walks prog w A I [I,d] [I] es.size (fun i v=>∃ e,es[i]? = some e ∧ e.key = v) (fun i h=>h.IsKeyIter I d i es.size ep ∧ h.get? d = some od) where
 sub:=fun b hb=>by simp at hb; simp [hb]
 frame:=fun _ _ _ x hk=>⟨let ⟨o,e,r⟩:=x.1; ⟨o,hk I (by simp) o e,r⟩,hk d (by simp) od x.2⟩
 item:=fun i s Q E hi x hQ=>by
  refine Eg hh x.1 x.2 hdat (fun hlt h' st' sb=>?_) fun hge=>absurd hi (by lia)
  exact hQ _ h' s.toks ⟨es[i],W8 hlt,rfl⟩ ⟨st',(sb.2 d hne).trans x.2⟩ fun b o hb eo=>sb.extBut b o (fun h=>hb (by simp [h])) eo
 done:=fun s Q E x hQ=>by
  exact Eg hh x.1 x.2 hdat (fun hlt=>absurd hlt (Tf _)) fun _ h' eb=>hQ h' s.toks fun b o hb eo=>eb b o (fun h=>hb (by simp [h])) eo
 self:=fun _ _ _ _ x hQ=>wpAny_pyIter_keyiter x.1 hQ
theorem PM (hd : (d == sysModules) = false) (hx : od.ExactDict) (hdat : od.data = .dict es ep) : PySem.W.KdlSrc prog w "dict" d d es.size (fun i v=>∃ e,es[i]? = some e ∧ e.key = v) (fun h=>h.get? d = some od) where
 type:=fun s ho=>⟨od,ho,hx.1⟩
 there:=fun h ho=>⟨Heap.lt_size ho,Heap.lt_size ho⟩
 keep:=fun _ _ ho hk=>hk d (.inl rfl) od ho
 notList:=by decide
 notTuple:=by decide
 hint:=fun _ _ _ _ ho hq=>PySem.W.kdl_hint_dict ⟨od,ho,hx.1⟩ hq
 iter:=fun _ s hh ho=>⟨_,_,(fun _ _ hq=>GR hd ho hx hdat ⟨od,ho,hx.1⟩ hq),Jq hh _ (Tg (Heap.lt_size ho)) hdat,⟨⟨_,Heap.get?_push_size _ rfl,rfl,rfl⟩,Heap.get?_push_of_some _ ho⟩⟩
end
def KyV (H : Hp) (v : V) (p : List Key × V) : Prop:=∃ b,v = .ref b ∧ H b = some (.tup (p.1.map kV))
inductive tLD (tl : TE) (σ : St) (H : Hp) (Q : VK) : Prop
 | mk (h : tl σ H fun v H1=>∃ d kvs,v = .ref d ∧ Rd H1 d (.dT kvs) ∧ kvs.length ≤ 1000 ∧ ∀ l us,H1 l = none → Paired (KyV H1) us kvs → Q (.ref l) (upd H1 l (.lst us))) : tLD tl σ H Q
theorem EJ {α β : Type} {F : α → β → Prop} : ∀ {l₁ : List α} {l₂ : List β},l₁.length = l₂.length → (∀ (j : Nat) a b,l₁[j]? = some a → l₂[j]? = some b → F a b) → Paired F l₁ l₂
 | [],[],_,_=>.nil
 | [],_ :: _,h,_=>by simp at h
 | _ :: _,[],h,_=>by simp at h
 | a :: l,b :: m,h,f=>.cons (f 0 a b rfl rfl) (EJ (by simpa using h) fun j x y e1 e2=>f (j + 1) x y e1 e2)
def Nz : Value → V
 | .ref b=>.ref b
 | _=>.non
section
variable {X : Cx}
theorem Mq (hcalm : X.calm = true) {l : Expr} {tl : TE} {p pos : Pos} (hg : Gl X "list") (hm : X.mg "list" = none) (hl : PE X l tl) (hs : starEach [l] X.env = [(false,eval l X.env)]:=by rfl) : PE X (.Call (.Name "list" p) [l] [] pos) (tLD tl):=by
 intro pins s σ H Q I h
 obtain ⟨h⟩:=h
 refine Call_ (DB I hg hm Ft (PyProof.Rows.callWith_type1 ?_ hs rfl))
 rw [hs]
 refine Calls.spliced_cons (Q:=_) (thn (hl pins s σ H _ I h) fun v s1 ⟨x,H1,I1,r1,q1⟩=>?_)
 obtain ⟨d,kvs,rfl,hd,hk,q⟩:=q1
 cases (show v = Value.ref d from r1)
 refine Calls.spliced_nil ?_
 obtain ⟨o,es,ep,h1,y,h2,h3,I2⟩:=J9 I1 hd
 have hsz : es.size = kvs.length:=(Fo (i:=0) I2 Ae h3).2.1
 have hky : ∀ (i : Nat) (p : List Key × V),kvs[i]? = some p → ∃ (e : DictEntry) (b : Addr),es[i]? = some e ∧ e.key = .ref b ∧ H1 b = some (.tup (p.1.map kV)):=fun i p hp=>by
  obtain ⟨e,b,e1,e2,e3⟩:=(Fo (i:=i) I2 Ae h3).2.2 p hp
  refine ⟨e,b,e1,e2,?_⟩
  have hb : b ≠ d:=fun z=>by rw [z,Ae] at e3; cases e3
  rw [Aw hb] at e3
  exact e3
 have hl2:=sizeLine_eq
 refine PySem.W.kdl_call (PM y h2 h3) (I1.ok.hd hcalm) h1 (by lia) fun h' tk acc c hk' hS hacc=>?_
 obtain ⟨ha1,ha2⟩:=hacc
 have hal : acc.toList.length = kvs.length:=by rw [TJ,ha1,hsz]
 have hat : ∀ (j : Nat) (v : Value) (p : List Key × V),acc.toList[j]? = some v → kvs[j]? = some p → ∃ b : Addr,v = .ref b ∧ H1 b = some (.tup (p.1.map kV)):=fun j v p e1 e2=>by
  obtain ⟨e,b,e3,e4,e5⟩:=hky j p e2
  obtain ⟨e',e6,e7⟩:=ha2 j v (by rw [← Uu]; exact e1)
  rw [e3] at e6
  cases e6
  exact ⟨b,by rw [← e7,e4],e5⟩
 have hp : Paired (KyV H1) (acc.toList.map Nz) kvs:=EJ (by rw [Ug]; exact hal) fun j a b e1 e2=>by
  rw [Uc] at e1
  cases e : acc.toList[j]? with
  | none=>rw [e] at e1; cases e1
  | some v =>
    rw [e] at e1
    cases e1
    obtain ⟨x,rfl,hx⟩:=hat j v b e e2
    exact ⟨x,rfl,hx⟩
 have hv : AM (acc.toList.map Nz) acc.toList:=EJ (by rw [Ug]) fun j a u e1 e2=>by
  rw [Uc,e2] at e1
  cases e1
  have hj : j < kvs.length:=by rw [← hal]; exact (TC.mp e2).1
  obtain ⟨x,rfl,_⟩:=hat j u _ e2 (V9 hj)
  exact rfl
 have new : Bh X.prog X.w (upd H1 s1.heap.objs.size (.lst (acc.toList.map Nz))) h' s1.heap.objs.size (.lst (acc.toList.map Nz)):=⟨by rw [Ug]; lia,acc.toList,c,hv,by rw [Array.toArray_toList]; exact hS⟩
 exact ⟨.ref s1.heap.objs.size,_,I1.laid hk' (TL _) new,rfl,q _ _ (I1.hok.fresh (TL _)) hp⟩
end
end L2
namespace Pf
set_option maxHeartbeats 4000000
open PySem L2
def top (i : Nat) : Stmt:=PySem.Challenge.pw_onecurve_k42_noughts_counted.main.body.getD i (.Pass ⟨0,0,0,0⟩)
theorem O2 {a1 : Type} {p : a1 → Prop} {G : Prop} (h : ∃ x1,p x1) (f : ∀ x1,p x1 → G) : G:=Exists.elim h f
theorem DP {a1 a2 : Type} {p : a1 → a2 → Prop} {G : Prop} (h : ∃ x1 x2,p x1 x2) (f : ∀ x1 x2,p x1 x2 → G) : G:=Exists.elim h fun x1 h=>O2 h (f x1)
theorem DD {a1 a2 a3 : Type} {p : a1 → a2 → a3 → Prop} {G : Prop} (h : ∃ x1 x2 x3,p x1 x2 x3) (f : ∀ x1 x2 x3,p x1 x2 x3 → G) : G:=Exists.elim h fun x1 h=>DP h (f x1)
theorem J2 {a1 a2 a3 a4 : Type} {p : a1 → a2 → a3 → a4 → Prop} {G : Prop} (h : ∃ x1 x2 x3 x4,p x1 x2 x3 x4) (f : ∀ x1 x2 x3 x4,p x1 x2 x3 x4 → G) : G:=Exists.elim h fun x1 h=>DD h (f x1)
theorem Rf {a1 a2 a3 a4 a5 : Type} {p : a1 → a2 → a3 → a4 → a5 → Prop} {G : Prop} (h : ∃ x1 x2 x3 x4 x5,p x1 x2 x3 x4 x5) (f : ∀ x1 x2 x3 x4 x5,p x1 x2 x3 x4 x5 → G) : G:=Exists.elim h fun x1 h=>J2 h (f x1)
theorem Rc {a1 a2 a3 a4 a5 a6 : Type} {p : a1 → a2 → a3 → a4 → a5 → a6 → Prop} {G : Prop} (h : ∃ x1 x2 x3 x4 x5 x6,p x1 x2 x3 x4 x5 x6) (f : ∀ x1 x2 x3 x4 x5 x6,p x1 x2 x3 x4 x5 x6 → G) : G:=Exists.elim h fun x1 h=>Rf h (f x1)
theorem PX {a1 a2 a3 a4 a5 a6 a7 : Type} {p : a1 → a2 → a3 → a4 → a5 → a6 → a7 → Prop} {G : Prop} (h : ∃ x1 x2 x3 x4 x5 x6 x7,p x1 x2 x3 x4 x5 x6 x7) (f : ∀ x1 x2 x3 x4 x5 x6 x7,p x1 x2 x3 x4 x5 x6 x7 → G) : G:=Exists.elim h fun x1 h=>Rc h (f x1)
theorem Rb {a1 a2 a3 a4 a5 a6 a7 a8 : Type} {p : a1 → a2 → a3 → a4 → a5 → a6 → a7 → a8 → Prop} {G : Prop} (h : ∃ x1 x2 x3 x4 x5 x6 x7 x8,p x1 x2 x3 x4 x5 x6 x7 x8) (f : ∀ x1 x2 x3 x4 x5 x6 x7 x8,p x1 x2 x3 x4 x5 x6 x7 x8 → G) : G:=Exists.elim h fun x1 h=>PX h (f x1)
theorem QK {a1 a2 a3 a4 a5 a6 a7 a8 a9 : Type} {p : a1 → a2 → a3 → a4 → a5 → a6 → a7 → a8 → a9 → Prop} {G : Prop} (h : ∃ x1 x2 x3 x4 x5 x6 x7 x8 x9,p x1 x2 x3 x4 x5 x6 x7 x8 x9) (f : ∀ x1 x2 x3 x4 x5 x6 x7 x8 x9,p x1 x2 x3 x4 x5 x6 x7 x8 x9 → G) : G:=Exists.elim h fun x1 h=>Rb h (f x1)
theorem Ox {a1 a2 a3 a4 a5 a6 a7 a8 a9 a10 : Type} {p : a1 → a2 → a3 → a4 → a5 → a6 → a7 → a8 → a9 → a10 → Prop} {G : Prop} (h : ∃ x1 x2 x3 x4 x5 x6 x7 x8 x9 x10,p x1 x2 x3 x4 x5 x6 x7 x8 x9 x10) (f : ∀ x1 x2 x3 x4 x5 x6 x7 x8 x9 x10,p x1 x2 x3 x4 x5 x6 x7 x8 x9 x10 → G) : G:=Exists.elim h fun x1 h=>QK h (f x1)
theorem Ow {a1 a2 a3 a4 a5 a6 a7 a8 a9 a10 a11 : Type} {p : a1 → a2 → a3 → a4 → a5 → a6 → a7 → a8 → a9 → a10 → a11 → Prop} {G : Prop} (h : ∃ x1 x2 x3 x4 x5 x6 x7 x8 x9 x10 x11,p x1 x2 x3 x4 x5 x6 x7 x8 x9 x10 x11) (f : ∀ x1 x2 x3 x4 x5 x6 x7 x8 x9 x10 x11,p x1 x2 x3 x4 x5 x6 x7 x8 x9 x10 x11 → G) : G:=Exists.elim h fun x1 h=>Ox h (f x1)
theorem BZ {A1 A2 G : Prop} (h : A1 ∧ A2) (f : A1 → A2 → G) : G:=f h.1 h.2
theorem GC {A1 A2 A3 G : Prop} (h : A1 ∧ A2 ∧ A3) (f : A1 → A2 → A3 → G) : G:=BZ h.2 (f h.1)
theorem FZ {A1 A2 A3 A4 G : Prop} (h : A1 ∧ A2 ∧ A3 ∧ A4) (f : A1 → A2 → A3 → A4 → G) : G:=GC h.2 (f h.1)
theorem Io {A1 A2 A3 A4 A5 G : Prop} (h : A1 ∧ A2 ∧ A3 ∧ A4 ∧ A5) (f : A1 → A2 → A3 → A4 → A5 → G) : G:=FZ h.2 (f h.1)
theorem Es {A1 A2 A3 A4 A5 A6 G : Prop} (h : A1 ∧ A2 ∧ A3 ∧ A4 ∧ A5 ∧ A6) (f : A1 → A2 → A3 → A4 → A5 → A6 → G) : G:=Io h.2 (f h.1)
theorem Oc {A1 A2 A3 A4 A5 A6 A7 G : Prop} (h : A1 ∧ A2 ∧ A3 ∧ A4 ∧ A5 ∧ A6 ∧ A7) (f : A1 → A2 → A3 → A4 → A5 → A6 → A7 → G) : G:=Es h.2 (f h.1)
theorem Ri {A1 A2 A3 A4 A5 A6 A7 A8 G : Prop} (h : A1 ∧ A2 ∧ A3 ∧ A4 ∧ A5 ∧ A6 ∧ A7 ∧ A8) (f : A1 → A2 → A3 → A4 → A5 → A6 → A7 → A8 → G) : G:=Oc h.2 (f h.1)
theorem Rh {A1 A2 A3 A4 A5 A6 A7 A8 A9 G : Prop} (h : A1 ∧ A2 ∧ A3 ∧ A4 ∧ A5 ∧ A6 ∧ A7 ∧ A8 ∧ A9) (f : A1 → A2 → A3 → A4 → A5 → A6 → A7 → A8 → A9 → G) : G:=Ri h.2 (f h.1)
theorem OG {A1 A2 A3 A4 A5 A6 A7 A8 A9 A10 G : Prop} (h : A1 ∧ A2 ∧ A3 ∧ A4 ∧ A5 ∧ A6 ∧ A7 ∧ A8 ∧ A9 ∧ A10) (f : A1 → A2 → A3 → A4 → A5 → A6 → A7 → A8 → A9 → A10 → G) : G:=Rh h.2 (f h.1)
def As (B : Int) (q : Rat) : Int:=q.num * B.fdiv q.den
theorem CC {B : Int} {q : Rat} (h : (q.den : Int) ∣ B) : ((As B q : Int) : Rat) = q * (B : Rat):=by
 obtain ⟨k,rfl⟩:=h
 have e : (((q.den : Int) * k).fdiv (q.den : Int)) = k:=UD _ (Nm.den_ne q)
 unfold As
 rw [e,UN,UN,Nm.num_mul q]
 grind
theorem DG {B : Int} {qs : List Rat} (h : ∀ q ∈ qs,(q.den : Int) ∣ B) (x : Rat) : Cv.ev ((qs.map (As B)).map fun t : Int=>(t : Rat)) x = Cv.ev qs x * (B : Rat):=by
 rw [← Cv.ev_scale,Vz]
 congr 1
 exact VA fun q hq=>CC (h q hq)
inductive E4 (K : Tq) (vs : List V) (H : Hp) (Q : VK) (E_3 : XK) : Prop
 | mk (b : Bool) (r : Addr) (xs : List V) (qs : List Rat) (n : Nat) (h1 : vs = [.ref r]) (h2 : Sq b K H r xs) (h3 : AS K H xs qs) (h4 : (∀ q ∈ qs,Bd n (q.den : Int))) (h5 : n * (qs.length + 2) ≤ 60000000) (h6 : ∀ B : Int,0 < B → (∀ q ∈ qs,(q.den : Int) ∣ B) → Bd (n * qs.length + 1) B → Q (.int B) H) : E4 K vs H Q E_3
inductive Dh (K : Tq) (vs : List V) (H : Hp) (Q : VK) (E_3 : XK) : Prop
 | mk (b : Bool) (r : Addr) (xs : List V) (qs : List Rat) (B : Int) (m n : Nat) (h1 : vs = [.ref r,.int B]) (h2 : Sq b K H r xs) (h3 : AS K H xs qs) (h4 : Bd m B) (h5 : (∀ q ∈ qs,Bd n q.num)) (h6 : m + n ≤ 134217728) (h7 : qs.length ≤ 1000) (h8 : ∀ p,H p = none → Q (.ref p) (upd H p (.lst ((qs.map (As B)).map V.int)))) : Dh K vs H Q E_3
inductive ED (K : Tq) (vs : List V) (H : Hp) (Q : VK) (E_3 : XK) : Prop
 | mk (r : Addr) (xs : List V) (qs : List Rat) (h1 : vs = [.ref r]) (h2 : SqL K H r xs) (h3 : AS K H xs qs) (h4 : qs.length ≤ 1000) (h5 : ∀ p H',Ag H H' → Crv K H' p (Cv.strip qs) → Q (.ref p) H') : ED K vs H Q E_3
inductive OQ (K : Tq) (vs : List V) (H : Hp) (Q : VK) (E_3 : XK) : Prop
 | mk (l rx : Addr) (ts : List Int) (x : Rat) (m n : Nat) (h1 : vs = [.ref l,.ref rx]) (h2 : SqL K H l (ts.map V.int)) (h3 : AA K H (.ref rx) x) (h4 : (∀ t ∈ ts,Bd m t)) (h5 : RB n x) (h6 : m + (n + 1) * (ts.length + 4) ≤ 100000000) (h7 : ∀ (h s : Int) (p : Addr),s = (x.den : Int) ^ ts.length → s ≠ 0 → (h : Rat) = Cv.evI ts x * (s : Rat) → Bd (m + (n + 1) * (ts.length + 2)) h → Bd (n * ts.length + 1) s → H p = none → Q (.ref p) (upd H p (.tup [.int h,.int s]))) : OQ K vs H Q E_3
inductive E3 (K : Tq) (vs : List V) (H : Hp) (Q : VK) (E_3 : XK) : Prop
 | mk (r rx : Addr) (qs : List Rat) (x : Rat) (n : Nat) (h1 : vs = [.ref r,.ref rx]) (h2 : Crv K H r qs) (h3 : AA K H (.ref rx) x) (h4 : (∀ q ∈ qs,RB n q)) (h5 : RB n x) (h6 : (n + 1) * ((qs.length + 4) * (qs.length + 4)) ≤ 30000000) (h7 : qs.length ≤ 1000) (h8 : ∀ p H',Ag H H' → H' p = some (nT (Cv.ev qs x)) → Q (.ref p) H') : E3 K vs H Q E_3
theorem MH {b d : Int} (hb : 0 < b) (hd : 0 < d) : 0 < b * d.fdiv (UC b d : Int) ∧ b ∣ b * d.fdiv (UC b d : Int) ∧ d ∣ b * d.fdiv (UC b d : Int):=by
 have g0 : (0 : Int) < (UC b d : Int):=by have:=Nm.gcd_pos (a:=b) (b:=d) (by lia); lia
 obtain ⟨k,hk⟩ : (UC b d : Int) ∣ d:=Int.gcd_dvd_right ..
 obtain ⟨j,hj⟩ : (UC b d : Int) ∣ b:=Int.gcd_dvd_left ..
 generalize (UC b d : Int) = g at *
 subst hk
 subst hj
 have e : (g * k).fdiv g = k:=UD _ (by lia)
 rw [e]
 have hk0 : 0 < k:=by
  rcases Int.lt_trichotomy k 0 with z | z | z
  ·have : g * k < 0:=W9 g0 z
   lia
  ·rw [z,VO] at hd; lia
  ·exact z
 exact ⟨Wa hb hk0,⟨k,rfl⟩,⟨j,by grind⟩⟩
inductive JA (K : Tq) (vs : List V) (H : Hp) (Q : VK) (E_3 : XK) : Prop
 | mk (f g : Addr) (fs gs : List Int) (m n : Nat) (h1 : vs = [.ref f,.ref g]) (h2 : SqL K H f (fs.map V.int)) (h3 : SqL K H g (gs.map V.int)) (h4 : 1 ≤ gs.length) (h5 : fs.length ≤ 1000) (h6 : gs.length ≤ 1000) (h7 : (∀ t ∈ fs,Bd m t)) (h8 : (∀ t ∈ gs,Bd n t)) (h9 : m + n ≤ 60000000) (h10 : ∀ (p : Addr) (H' : Hp) (ps : List Int),Ag H H' → H p = none → H' p = some (.lst (ps.map V.int)) → ps.length = fs.length + gs.length - 1 → (∀ x,Cv.evI ps x = Cv.evI fs x * Cv.evI gs x) → (∀ t ∈ ps,Bd (m + n + 20) t) → Q (.ref p) H') : JA K vs H Q E_3
inductive Cf (K : Tq) (vs : List V) (H : Hp) (Q : VK) (E_3 : XK) : Prop
 | mk (l : Addr) (ts : List Int) (b : Int) (h1 : vs = [.ref l,.int b]) (h2 : SqL K H l (ts.map V.int)) (h3 : b ≠ 0) (h4 : ts.length ≤ 1000) (h5 : ∀ p H',Ag H H' → Crv K H' p (Cv.strip (ts.map fun t=>UE t b)) → Q (.ref p) H') : Cf K vs H Q E_3
def Co (qs : List Rat) : List Rat:=(Th (qs.length - 1)).map fun j=>qs.getD (j + 1) 0 * ((j + 1 : Nat) : Rat)
inductive Hk (K : Tq) (vs : List V) (H : Hp) (Q : VK) (E_3 : XK) : Prop
 | mk (r : Addr) (qs : List Rat) (n : Nat) (h1 : vs = [.ref r]) (h2 : Crv K H r qs) (h3 : qs.length ≤ 1000) (h4 : (∀ q ∈ qs,RB n q)) (h5 : n ≤ 10000000) (h6 : ∀ p H',Ag H H' → Crv K H' p (Co qs) → Q (.ref p) H') : Hk K vs H Q E_3
theorem Mv.put' {a l : Addr} {H H' : Hp} {o : HO} (m : Mv a H H') (hl : H l = none) : Mv a H (upd H' l o):=fun b u n q=>by rw [Aw (AB q hl)]; exact m b u n q
inductive JB (K : Tq) (vs : List V) (H : Hp) (Q : VK) (E_3 : XK) : Prop
 | mk (r ra rb : Addr) (qs : List Rat) (a b : Rat) (n : Nat) (h1 : vs = [.ref r,.ref ra,.ref rb]) (h2 : Crv K H r qs) (h3 : AA K H (.ref ra) a) (h4 : AA K H (.ref rb) b) (h5 : (∀ q ∈ qs,RB n q)) (h6 : RB n a) (h7 : RB n b) (h8 : n ≤ 1000) (h9 : qs.length ≤ 100) (h10 : ∀ p H' rs,Ag H H' → Crv K H' p rs → rs.length ≤ qs.length → AO rs → (∀ q ∈ rs,RB (4 * (n * qs.length) + 23 * qs.length + 5 * n + 12) q) → (∀ x,Cv.ev rs x = Cv.ev qs (a * x + b)) → Q (.ref p) H') : JB K vs H Q E_3
inductive E2 (vs : List V) (H : Hp) (Q : VK) (E_3 : XK) : Prop
 | mk (b : Int) (n L : Nat) (h1 : vs = [.int b,.int n]) (h2 : n ≤ 1000) (h3 : Bd L b) (h4 : L * n + L ≤ 100000000) (h5 : Q (.int (b ^ n)) H) : E2 vs H Q E_3
structure QW (fs gs os rs : List Int) (lead : Int) (B : Nat) : Prop where
 ol : os.length = fs.length + 1 - gs.length
 rl : rs.length = min fs.length (gs.length - 1)
 ev : ∀ x,Cv.evI fs x * ((lead ^ os.length : Int) : Rat) = Cv.evI os x * Cv.evI gs x + Cv.evI rs x
 ob : ∀ t ∈ os,Bd B t
 rb : ∀ t ∈ rs,Bd B t
 top : os ≠ [] → ∃ t,fs[fs.length - 1]? = some t ∧ os[os.length - 1]? = some (lead ^ (os.length - 1) * t)
inductive K7 (K : Tq) (vs : List V) (H : Hp) (Q : VK) (E_3 : XK) : Prop
 | mk (f g : Addr) (fs gs : List Int) (lead : Int) (M L : Nat) (h1 : vs = [.ref f,.ref g]) (h2 : SqL K H f (fs.map V.int)) (h3 : SqL K H g (gs.map V.int)) (h4 : gs[gs.length - 1]? = some lead) (h5 : fs.length ≤ 1000) (h6 : gs.length ≤ 1000) (h7 : (∀ t ∈ fs,Bd M t)) (h8 : (∀ t ∈ gs,Bd L t)) (h9 : M + fs.length * (L + 1) + L ≤ 100000000) (h10 : L ≤ 100000000) (h11 : ∀ (p pa pb : Addr) (H' : Hp) (os rs : List Int),Ag H H' → H' p = some (.tup [.ref pa,.ref pb]) → H' pa = some (.lst (os.map V.int)) → H' pb = some (.lst (rs.map V.int)) → QW fs gs os rs lead (M + os.length * (L + 1)) → Q (.ref p) H') : K7 K vs H Q E_3
theorem FC {l : List Rat} (h : AO l) : Cv.strip l = l:=by
 have e:=Cv.take_strip l l.length (fun j q hj e=>absurd (TC.mp e).1 (by lia)) (by
  rcases h with h | h
  ·left; rw [h]; rfl
  ·right; exact h)
 rw [UW] at e
 exact e.symm
theorem OK {B : Int} {q : Rat} (hB : 0 < B) (h : (q.den : Int) ∣ B) (hq : q ≠ 0) : As B q ≠ 0:=fun z=>by
 have e:=CC h
 rw [z,VP] at e
 rcases UY.mp e.symm with y | y
 ·exact hq y
 ·exact Nm.cast_ne (show B ≠ 0 by lia) y
theorem DF {B : Int} {qs : List Rat} (h : AO qs) (hne : qs ≠ []) (hB : 0 < B) (hd : ∀ q ∈ qs,(q.den : Int) ∣ B) : ∃ t,(qs.map (As B))[(qs.map (As B)).length - 1]? = some t ∧ t ≠ 0:=by
 rcases h with h | ⟨q,e,hq⟩
 ·exact absurd h hne
 ·exact ⟨As B q,by rw [Ug,Uc,e]; rfl,OK hB (hd q (Ud e)) hq⟩
theorem Q0 {t c : Int} (ht : t ≠ 0) (hc : c ≠ 0) : UE t c ≠ 0:=fun z=>by
 rw [UJ,Wb] at z
 rcases UY.mp z with y | y
 ·exact Nm.cast_ne ht y
 ·have h1:=VR _ (Nm.cast_ne hc)
  rw [y,W7] at h1
  exact absurd h1 (by decide)
theorem Ia (ts : List Int) (c : Int) (hc : c ≠ 0) (x : Rat) : Cv.ev (ts.map fun t=>UE t c) x * (c : Rat) = Cv.evI ts x:=by
 have e : (ts.map fun t=>UE t c) = (ts.map fun t : Int=>(t : Rat)).map (· * (c : Rat)⁻¹):=by
  rw [Vz]
  refine VA fun t _=>?_
  show UE t c = (t : Rat) * (c : Rat)⁻¹
  rw [UJ,Wb]
 rw [e,Cv.ev_scale,VS,Rat.inv_mul_cancel _ (Nm.cast_ne hc),VT]
 rfl
theorem GW {l : List Rat} {i : Nat} (h : i < l.length) : l[i]? = some (l.getD i 0):=by rw [V2,V9 h]; rfl
theorem Hv (cs : List Rat) : (Co cs).length = cs.length - 1:=by unfold Co; rw [Ug,Vv]
theorem OU {n : Nat} {q : Rat} (h : RB n q) : RB n (-q):=⟨by show Bd n (-q.num); exact h.1.neg,h.2⟩
def pb (n : Nat) : Nat → Nat
 | 0=>1
 | k + 1=>2 * pb n k + n + 1
theorem MD (k : Int) : nT ((k : Int) : Rat) = .tup [.int k,.int 1]:=by
 unfold nT
 rw [Rat.num_intCast,Rat.den_intCast]
 rfl
def ml (i : Nat) (σ : St) (H : Hp) : Nat:=match σ[i]? with
 | some (some (.ref r))=>(match H r with | some (.lst xs)=>xs.length | _=>0)
 | _=>0
inductive Ma (K : Tq) (vs : List V) (H : Hp) (Q : VK) (E_3 : XK) : Prop
 | mk (l : Addr) (ts : List Int) (h1 : vs = [.ref l]) (h2 : SqL K H l (ts.map V.int)) (h3 : ∀ (p : Addr) (H' : Hp) (w : Nat),w ≤ ts.length → (∀ j,w ≤ j → ts.getD j 0 = 0) → (1 ≤ w → ts.getD (w - 1) 0 ≠ 0) → Ag H H' → H' p = some (.lst ((ts.take w).map V.int)) → Q (.ref p) H') : Ma K vs H Q E_3
inductive Ho (K : Tq) (vs : List V) (H : Hp) (Q : VK) (E_3 : XK) : Prop
 | mk (f g : Addr) (fs gs : List Int) (W X : Nat) (h1 : vs = [.ref f,.ref g]) (h2 : SqL K H f (fs.map V.int)) (h3 : H g = some (.lst (gs.map V.int))) (h4 : 1 ≤ fs.length) (h5 : gs.length ≤ fs.length) (h6 : fs.length ≤ 10) (h7 : Et fs) (h8 : Et gs) (h9 : (∀ t ∈ fs,Bd W t)) (h10 : (∀ t ∈ gs,Bd W t)) (h11 : 18 * (W + 5) + 1 ≤ X) (h12 : X ≤ 8000000) (h13 : ∀ (p : Addr) (H' : Hp) (hs : List Int),Ag H H' → SqL K H' p (hs.map V.int) → 1 ≤ hs.length → hs.length ≤ fs.length → Et hs → Com (cst fs) (cst gs) (cst hs) [] → (∀ t ∈ hs,Bd X t) → Q (.ref p) H') : Ho K vs H Q E_3
theorem JP {qs : List Rat} (h : AO qs) : AO (Co qs):=by
 rcases h with h | ⟨q,e,hq⟩
 ·left; rw [h]; rfl
 ·have hl:=(TC.mp e).1
  by_cases h1 : qs.length = 1
  ·left; unfold Co; rw [h1]; rfl
  ·right
   refine ⟨q * ((qs.length - 1 : Nat) : Rat),?_,fun z=>?_⟩
   ·unfold Co
    rw [Ug,Vv,Uc,Vw (by lia)]
    show some (qs.getD (qs.length - 1 - 1 + 1) 0 * ((qs.length - 1 - 1 + 1 : Nat) : Rat)) = _
    rw [show qs.length - 1 - 1 + 1 = qs.length - 1 by lia,V2,e]; rfl
   ·rcases UY.mp z with y | y
    ·exact hq y
    ·have y0 : ((qs.length - 1 : Nat) : Rat) = ((0 : Nat) : Rat):=y
     have:=Rat.natCast_inj.mp y0
     lia
def DX (B : Int) : Rat:=if h : 0 < B then ⟨1,B.toNat,by lia,by simp⟩ else 0
theorem NU {B : Int} (h : 0 < B) : nT (DX B) = .tup [.int 1,.int B]:=by
 have e : DX B = ⟨1,B.toNat,by lia,by simp⟩:=by unfold DX; rw [dif_pos h]
 rw [e]
 show HO.tup [.int 1,.int ((B.toNat : Nat) : Int)] = _
 rw [Wc (by lia)]
theorem MO {B : Int} (h : 0 < B) : DX B * ((B : Int) : Rat) = 1:=by
 have e : DX B = ⟨1,B.toNat,by lia,by simp⟩:=by unfold DX; rw [dif_pos h]
 have h1:=Nm.num_mul (DX B)
 have h2 : (DX B).num = 1:=by rw [e]
 have h3 : ((DX B).den : Int) = B:=by rw [e]; exact Wc (by lia)
 rw [h2,h3] at h1
 exact h1.symm
theorem NS {n : Nat} {B : Int} (h : 0 < B) (hb : Bd n B) : RB n (DX B):=by
 have e : DX B = ⟨1,B.toNat,by lia,by simp⟩:=by unfold DX; rw [dif_pos h]
 have h3 : ((DX B).den : Int) = B:=by rw [e]; exact Wc (by lia)
 refine ⟨?_,by rw [h3]; exact hb⟩
 rw [e]
 show Bd n 1
 unfold Bd at *
 lia
theorem NT {B : Int} (h : 0 < B) : DX B ≠ 0:=fun z=>by
 have:=MO h
 rw [z] at this
 have e : (0 : Rat) * ((B : Int) : Rat) = 0:=W0 _
 rw [e] at this
 exact absurd this (by decide)
theorem atV {xs : List V} {i : Nat} {x : V} {k : Int} (h : xs[i]? = some x) (e : k = (i : Int)) : atI xs k = some x:=by subst e; exact AR h
theorem Ek (x : Rat) (l : List Rat) (i : Nat) (v : Rat) (h : l[i]? = some v) : Cv.ev (l.take (i + 1)) x = Cv.ev (l.take i) x + v * x ^ i:=by
 have hi : i < l.length:=(TC.mp h).1
 rw [UT,h]
 show Cv.ev (l.take i ++ [v]) x = _
 rw [Cv.ev_snoc,U8,Ul (by lia)]
inductive JD (K : Tq) (vs : List V) (H : Hp) (Q : VK) (E_3 : XK) : Prop
 | mk (r u : Addr) (qs ps : List Rat) (n N : Nat) (h1 : vs = [.ref r,.ref u]) (h2 : Crv K H r qs) (h3 : Crv K H u ps) (h4 : AO qs) (h5 : AO ps) (h6 : (qs ≠ [] ∨ ps ≠ [])) (h7 : (∀ q ∈ qs,RB n q)) (h8 : (∀ q ∈ ps,RB n q)) (h9 : n ≤ 40000) (h10 : N ≤ 10) (h11 : qs.length ≤ N) (h12 : ps.length ≤ N) (h13 : ∀ (p : Addr) (H' : Hp) (cs : List Rat),Ag H H' → Crv K H' p cs → DQ qs ps cs → cs.length ≤ N → (∀ q ∈ cs,RB (18 * (n * N + n + 6) + 1) q) → Q (.ref p) H') : JD K vs H Q E_3
inductive Hs (K : Tq) (vs : List V) (H : Hp) (Q : VK) (E_3 : XK) : Prop
 | mk (r u : Addr) (qs ps : List Rat) (m L C : Nat) (h1 : vs = [.ref r,.ref u]) (h2 : Crv K H r qs) (h3 : Crv K H u ps) (h4 : AO qs) (h5 : ps ≠ []) (h6 : AO ps) (h7 : (∀ q ∈ qs,RB m q)) (h8 : (∀ q ∈ ps,RB L q)) (h9 : m ≤ 100000) (h10 : L ≤ 1000000) (h11 : m * qs.length + m + (qs.length + 1 - ps.length) * (L * ps.length + L + 1 + 1) + L * ps.length + 20 ≤ C) (h12 : qs.length ≤ 8) (h13 : ps.length ≤ 8) (h14 : ∀ (p a b : Addr) (H' : Hp) (os rs : List Rat),Ag H H' → H' p = some (.tup [.ref a,.ref b]) → Crv K H' a os → Crv K H' b rs → AO os → AO rs → os.length = qs.length + 1 - ps.length → rs.length < ps.length → (∀ x,Cv.ev qs x = Cv.ev os x * Cv.ev ps x + Cv.ev rs x) → (∀ q ∈ os,RB C q) → Q (.ref p) H') : Hs K vs H Q E_3
theorem Lb {cs : List Rat} {n : Nat} (hl : cs.length ≤ 8) (hn : 1 ≤ n) (h : ∀ q ∈ cs,RB n q) : ∀ q ∈ Co cs,RB (n + 3) q:=fun q hq=>by
 unfold Co at hq
 obtain ⟨j,hj,rfl⟩:=VX.mp hq
 have hj':=To.mp hj
 have g : RB n (cs.getD (j + 1) 0):=by
  rw [V2]
  cases e : cs[j + 1]? with
  | none=>exact RB.zero hn
  | some t=>exact h t (Ud e)
 exact g.times ⟨by rw [Wd]; unfold Bd; lia,by rw [We]; unfold Bd; decide⟩
theorem Lp {n : Nat} (hn : n ≤ 1000) : ∃ n' C,n + 3 ≤ n' ∧ n' ≤ 1003 ∧ (n ≤ 8 → C ≤ 36000) ∧ C ≤ 4000000 ∧ ∀ a l : Nat,1 ≤ l → l ≤ 6 → a ≤ 6 → n * a + n + (a + 1 - l) * ((18 * (n' * 6 + n' + 6) + 1) * l + (18 * (n' * 6 + n' + 6) + 1) + 1 + 1) + (18 * (n' * 6 + n' + 6) + 1) * l + 20 ≤ C:=by
 have go : ∀ n' C : Nat,(18 * (n' * 6 + n' + 6) + 1) * 6 + n * 7 + 20 + 6 * (18 * (n' * 6 + n' + 6) + 1) + 12 + 12 * (18 * (n' * 6 + n' + 6) + 1) ≤ C → ∀ a l : Nat,1 ≤ l → l ≤ 6 → a ≤ 6 → n * a + n + (a + 1 - l) * ((18 * (n' * 6 + n' + 6) + 1) * l + (18 * (n' * 6 + n' + 6) + 1) + 1 + 1) + (18 * (n' * 6 + n' + 6) + 1) * l + 20 ≤ C:=by
  intro n' C h a l h1 h6 ha
  generalize 18 * (n' * 6 + n' + 6) + 1 = L at h ⊢
  have e1 : n * a ≤ n * 6:=Wf _ ha
  have e2 : (a + 1 - l) * (L * l + L + 1 + 1) ≤ (7 - l) * (L * l + L + 1 + 1):=Vj _ (by lia)
  have e3 : l = 1 ∨ l = 2 ∨ l = 3 ∨ l = 4 ∨ l = 5 ∨ l = 6:=by lia
  rcases e3 with rfl | rfl | rfl | rfl | rfl | rfl <;> lia
 by_cases h8 : n ≤ 8
 ·obtain ⟨C,hC⟩ : ∃ C,C = 36000:=⟨_,rfl⟩
  obtain ⟨m,hm⟩ : ∃ m,m = 11:=⟨_,rfl⟩
  exact ⟨m,C,by lia,by lia,by lia,by lia,go m C (by lia)⟩
 ·obtain ⟨C,hC⟩ : ∃ C,C = 4000000:=⟨_,rfl⟩
  obtain ⟨m,hm⟩ : ∃ m,m = 1003:=⟨_,rfl⟩
  exact ⟨m,C,by lia,by lia,by lia,by lia,go m C (by lia)⟩
inductive Hn (K : Tq) (vs : List V) (H : Hp) (Q : VK) (E_3 : XK) : Prop
 | mk (r : Addr) (qs : List Rat) (n : Nat) (h1 : vs = [.ref r]) (h2 : Crv K H r qs) (h3 : AO qs) (h4 : qs ≠ []) (h5 : (∀ q ∈ qs,RB n q)) (h6 : 1 ≤ n) (h7 : n ≤ 1000) (h8 : qs.length ≤ 6) (h9 : ∀ (p : Addr) (H' : Hp) (g os : List Rat),Ag H H' → Crv K H' p os → AO os → DQ qs (Co qs) g → (∀ x,Cv.ev qs x = Cv.ev os x * Cv.ev g x) → os.length ≤ qs.length → (n ≤ 8 → ∀ q ∈ os,RB 36000 q) → Q (.ref p) H') : Hn K vs H Q E_3
def CDg (l : List Rat) (D : Int) (B : Nat) : Prop:=∀ j,∃ p : Int,l.getD j 0 * (D : Rat) = (p : Rat) ∧ p.natAbs ≤ B
theorem CDg.nil {D : Int} : CDg [] D 0:=fun j=>⟨0,by show (0 : Rat) * _ = _; rw [W0]; rfl,TL _⟩
theorem CDg.add {a b : List Rat} {D : Int} {A B : Nat} (h1 : CDg a D A) (h2 : CDg b D B) : CDg (AU a b) D (A + B):=fun j=>by
 obtain ⟨p,e1,b1⟩:=h1 j
 obtain ⟨q,e2,b2⟩:=h2 j
 exact ⟨p + q,by rw [BC,Rat.add_mul,e1,e2,UM],by lia⟩
theorem CDg.scale {a : List Rat} {D E k : Int} {A M : Nat} {c : Rat} (h : CDg a D A) (e : c * (E : Rat) = (k : Rat)) (hk : k.natAbs ≤ M) : CDg (a.map (· * c)) (D * E) (A * M):=fun j=>by
 obtain ⟨p,e1,b1⟩:=h j
 refine ⟨p * k,?_,?_⟩
 ·rw [BG,UN,UN,← e1,← e]; grind
 ·rw [Vc]; exact VU b1 hk
theorem CDg.shift {a : List Rat} {D : Int} {A : Nat} (h : CDg a D A) : CDg (0 :: a) D A:=fun j=>by
 cases j with
 | zero=>exact ⟨0,by show (0 : Rat) * _ = _; rw [W0]; rfl,TQ _⟩
 | succ j=>exact h j
theorem CDg.mono {a : List Rat} {D : Int} {A B : Nat} (h : CDg a D A) (hb : A ≤ B) : CDg a D B:=fun j=>by
 obtain ⟨p,e1,b1⟩:=h j
 exact ⟨p,e1,by lia⟩
def CD (l : List Rat) : Prop:=∃ D : Int,0 < D ∧ D ≤ 2 ^ (8 * l.length) ∧ CDg l D (2 ^ (9 * l.length))
theorem CD.one {c : Rat} (h : RB 8 c) : CD [c]:=by
 have h1 : c.num.natAbs < 2 ^ 8:=h.1
 have h2 : ((c.den : Int)).natAbs < 2 ^ 8:=h.2
 have hd : 0 < c.den:=c.den_pos
 refine ⟨(c.den : Int),by lia,by show _ ≤ (2 : Int) ^ 8; lia,fun j=>?_⟩
 cases j with
 | zero=>exact ⟨c.num,(Nm.num_mul c).symm,by show _ ≤ 2 ^ 9; lia⟩
 | succ j=>exact ⟨0,by show (0 : Rat) * _ = _; rw [W0]; rfl,TQ _⟩
theorem CD.line {l m : List Rat} {o : Rat} (h : CD l) (bo : RB 8 o) (e : m = AW [-o,1] l) (hl : m.length = l.length + 1) : CD m:=by
 obtain ⟨D,d0,d1,hc⟩:=h
 have h1 : o.num.natAbs < 2 ^ 8:=bo.1
 have h2 : ((o.den : Int)).natAbs < 2 ^ 8:=bo.2
 have hd : 0 < o.den:=o.den_pos
 refine ⟨D * (o.den : Int),Wa d0 (by lia),?_,?_⟩
 ·rw [hl,Vq,VN]
  have:=Wg d1 (show (o.den : Int) ≤ 2 ^ (8 * 1) by lia) (by lia) (by exact_mod_cast TQ _)
  exact this
 ·rw [hl,e]
  have z1 : CDg (l.map (· * (-o))) (D * (o.den : Int)) (2 ^ (9 * l.length) * 256):=hc.scale (k:=-o.num) (by have:=Nm.num_mul o; rw [Rat.neg_mul,← this]; exact (Rat.intCast_neg _).symm) (by lia)
  have z2 : CDg (l.map (· * 1)) (D * (o.den : Int)) (2 ^ (9 * l.length) * 256):=hc.scale (k:=(o.den : Int)) (by rw [VB]) (by lia)
  refine (z1.add (z2.add CDg.nil.shift).shift).mono ?_
  rw [Vq,Vd]
  lia
theorem CD.bow {l m : List Rat} {c b : Int} (h : CD l) (hc3 : c.natAbs ≤ 3) (hb1 : b.natAbs ≤ 1) (e : m = AW [(c : Rat),(b : Rat),1] l) (hl : m.length = l.length + 2) : CD m:=by
 obtain ⟨D,d0,d1,hc⟩:=h
 refine ⟨D * 1,by lia,?_,?_⟩
 ·rw [hl,Vq,VN]
  have:=Wg d1 (show (1 : Int) ≤ 2 ^ (8 * 2) by decide) (by lia) (by exact_mod_cast TQ _)
  exact this
 ·rw [hl,e]
  have o1 : ((1 : Int) : Rat) = 1:=rfl
  have z1 : CDg (l.map (· * (c : Rat))) (D * 1) (2 ^ (9 * l.length) * 3):=hc.scale (k:=c) (by rw [o1,VT]) hc3
  have z2 : CDg (l.map (· * (b : Rat))) (D * 1) (2 ^ (9 * l.length) * 1):=hc.scale (k:=b) (by rw [o1,VT]) hb1
  have z3 : CDg (l.map (· * 1)) (D * 1) (2 ^ (9 * l.length) * 1):=hc.scale (k:=1) (by rw [o1,VT]) (by decide)
  refine (z1.add (z2.add (z3.add CDg.nil.shift).shift).shift).mono ?_
  rw [Vq,Vd]
  lia
theorem CD.rb {l : List Rat} (h : CD l) (h5 : l.length ≤ 5) : ∀ q ∈ l,RB 46 q:=fun q hq=>by
 obtain ⟨D,d0,d1,hc⟩:=h
 obtain ⟨j,hj⟩:=VY hq
 obtain ⟨p,e,b⟩:=hc j
 have eq : l.getD j 0 = q:=by rw [V2,hj]; rfl
 rw [eq] at e
 have z : q = UE p D:=(Nm.div_eq (by lia) e.symm).symm
 rw [z]
 have p1 : (2 : Nat) ^ (9 * l.length) ≤ 2 ^ 45:=Vb (by decide) (by lia)
 have p2 : (2 : Nat) ^ (8 * l.length) ≤ 2 ^ 40:=Vb (by decide) (by lia)
 have d2 : D ≤ ((2 ^ (8 * l.length) : Nat) : Int):=by rw [Int.natCast_pow]; exact d1
 exact RB.div (m:=0) (by unfold Bd; lia) (by unfold Bd; lia) (by lia)
inductive Hl (K : Tq) (vs : List V) (H : Hp) (Q : VK) (E_3 : XK) : Prop
 | mk (r u : Addr) (qs ps : List Rat) (m n : Nat) (h1 : vs = [.ref r,.ref u]) (h2 : Crv K H r qs) (h3 : Crv K H u ps) (h4 : (∀ q ∈ qs,RB m q)) (h5 : (∀ q ∈ ps,RB n q)) (h6 : m + n ≤ 100000) (h7 : qs.length ≤ 50) (h8 : ps.length ≤ 50) (h9 : qs ≠ []) (h10 : ps ≠ []) (h11 : ∀ (p : Addr) (H' : Hp) (ms : List Rat),Ag H H' → Crv K H' p ms → ms.length = qs.length + ps.length - 1 → (∀ x,Cv.ev ms x = Cv.ev qs x * Cv.ev ps x) → (∀ q ∈ ms,RB (qs.length * (m + n + 1) + 1) q) → Q (.ref p) H') : Hl K vs H Q E_3
def lb : Nat → Nat
 | 0=>8 | 1=>8 | 2=>18 | 3=>55 | 4=>193 | _=>809
theorem M8 {c : Rat} (h : c ≠ 0) : 0 < c * c:=by
 rcases (show c < 0 ∨ 0 < c by grind) with z | z
 ·have:=Wh (a:=-c) (b:=-c) (by grind) (by grind)
  grind
 ·exact Wh z z
theorem Mi {p : List Rat} {x : Rat} (h : Cv.ev p x ≠ 0) : ∀ n,Cv.ev (pw p n) x ≠ 0
 | 0=>by show (1 : Rat) + x * 0 ≠ 0; grind
 | n + 1=>fun z=>by
   rw [El] at z
   rcases UY.mp z with y | y
   ·exact Mi h n y
   ·exact h y
theorem Im {b c : Rat} (h : b * b < 4 * c) (x : Rat) : 0 < Cv.ev [c,b,1] x:=by
 have e : Cv.ev [c,b,1] x = c + x * (b + x):=by show c + x * (b + x * ((1 : Rat) + x * 0)) = _; grind
 rw [e]
 have s : 0 ≤ (2 * x + b) * (2 * x + b):=by
  by_cases y : 2 * x + b = 0
  ·rw [y,W7]; exact Wi
  ·exact Wj (M8 y)
 grind
structure KnF (f l xs : List Rat) : Prop where
 kn : ∃ g,Kn f l g
 gf : AO f
 gl : AO l
 nf : f ≠ []
 nl : l ≠ []
 le : l.length ≤ f.length
 l5 : f.length ≤ 5
 bf : ∀ q ∈ f,RB (lb f.length) q
 bl : ∀ q ∈ l,RB (lb l.length) q
 rt : ∀ x ∈ xs,Cv.ev l x = 0
 bx : ∀ x ∈ xs,RB 8 x
 cd : CD l
 sg : ∀ x y,(∀ r ∈ xs,0 < (x - r) * (y - r)) → 0 < Cv.ev l x * Cv.ev l y
 nz : ∀ x,x ∉ xs → Cv.ev f x ≠ 0
 nd : xs.Nodup
theorem Fh {f p m : List Rat} (nf : f ≠ []) (np : p ≠ []) (l : m.length = f.length + p.length - 1) (e : ∀ x,Cv.ev m x = Cv.ev f x * Cv.ev p x) : m = AW f p:=by
 have lm:=Bx p (UQ.mpr np) f (UQ.mpr nf)
 refine V3 fun i=>?_
 have h:=De (l:=m) (m:=AW f p) (fun k=>by rw [e,Az]) i
 rw [V2,V2] at h
 by_cases hi : i < m.length
 ·have hj : i < (AW f p).length:=by lia
  rw [V9 hi,V9 hj] at h ⊢
  exact congrArg some h
 ·rw [Vs (by lia),Vs (by lia)]
theorem Km : ∀ l : Nat,1 ≤ l → l ≤ 4 → l * (lb l + 8 + 1) + 1 ≤ lb (l + 1)
 | 1,_,_=>by decide | 2,_,_=>by decide | 3,_,_=>by decide | 4,_,_=>by decide
theorem MJ : ∀ l : Nat,1 ≤ l → l ≤ 3 → l * (lb l + 8 + 1) + 1 ≤ lb (l + 2)
 | 1,_,_=>by decide | 2,_,_=>by decide | 3,_,_=>by decide
theorem GO : ∀ l : Nat,lb l ≤ 809
 | 0=>by decide | 1=>by decide | 2=>by decide | 3=>by decide | 4=>by decide | _ + 5=>TL 809
theorem Ot : ∀ l : Nat,8 ≤ lb l
 | 0=>by decide | 1=>by decide | 2=>by decide | 3=>by decide | 4=>by decide | _ + 5=>(by decide : 8 ≤ 809)
theorem KnF.more {f l xs p f' l' xs' : List Rat} (h : KnF f l xs) (gp : AO p) (mp : p[p.length - 1]? = some 1) (c1 : Cop p l) (c2 : Cop p (dL p)) (m : Nat) (ef : ∀ x,Cv.ev f' x = Cv.ev f x * Cv.ev (pw p (m + 1)) x) (lf : f'.length = f.length + (m + 1) * (p.length - 1)) (el : ∀ x,Cv.ev l' x = Cv.ev l x * Cv.ev p x) (ll : l'.length = l.length + (p.length - 1)) (l5 : f'.length ≤ 5) (bf : ∀ q ∈ f',RB (lb f'.length) q) (bl : ∀ q ∈ l',RB (lb l'.length) q) (rt : ∀ x ∈ xs',Cv.ev l x = 0 ∨ Cv.ev p x = 0) (bx : ∀ x ∈ xs',RB 8 x) (cd : CD l') (sg : ∀ x y,(∀ r ∈ xs',0 < (x - r) * (y - r)) → 0 < Cv.ev l' x * Cv.ev l' y) (nz : ∀ x,x ∉ xs' → Cv.ev f' x ≠ 0) (nd : xs'.Nodup) : KnF f' l' xs':=by
 have np : p ≠ []:=fun z=>by rw [z] at mp; cases mp
 have p1:=UQ.mpr np
 have f1:=UQ.mpr h.nf
 have l1:=UQ.mpr h.nl
 obtain ⟨gw,lw⟩:=FG gp np (m + 1)
 have nw : pw p (m + 1) ≠ []:=fun z=>by rw [z] at lw; simp at lw
 have e1 : f' = AW f (pw p (m + 1)):=Fh h.nf nw (by lia) ef
 have e2 : l' = AW l p:=Fh h.nl np (by lia) el
 obtain ⟨g,k⟩:=h.kn
 have h3 : (m + 1) * (p.length - 1) = m * (p.length - 1) + (p.length - 1):=Nat.succ_mul _ _
 have hle:=h.le
 exact ⟨⟨_,(k.more gp mp c1 c2 m).like (fun x=>by rw [e1]) fun x=>by rw [e2]⟩,by rw [e1]; exact Cj h.gf gw h.nf nw,by rw [e2]; exact Cj h.gl gp h.nl np,fun z=>by rw [z] at lf; simp only [UB] at lf; lia,fun z=>by rw [z] at ll; simp only [UB] at ll; lia,by lia,l5,bf,bl,fun x hx=>by
  rw [el]
  rcases rt x hx with z | z
  ·rw [z,W0]
  ·rw [z,W7],bx,cd,sg,nz,nd⟩
structure KnI (f l xs : List Rat) : Prop where
 k : KnF f l xs
 cop : ∀ B,(∀ x ∈ xs,Cv.ev B x ≠ 0) → Cop l B
theorem KnI.start {c : Rat} (hc : c ≠ 0) (hb : RB 8 c) : KnI [c] [c] []:=by
 have g : AO [c]:=.inr ⟨c,rfl,hc⟩
 have b : ∀ q ∈ [c],RB (lb 1) q:=fun q hq=>by rw [V7.mp hq]; exact hb
 refine ⟨⟨⟨_,ML hc⟩,g,g,(fun z=>by cases z),(fun z=>by cases z),TL _,(by decide : 1 ≤ 5),b,b,(fun _ h=>nomatch h),(fun _ h=>nomatch h),CD.one hb,(fun x y _=>by show 0 < (c + x * 0) * (c + y * 0); have:=M8 hc; grind),(fun x _=>by show c + x * 0 ≠ 0; grind),.nil⟩,fun B _=>⟨[c⁻¹],[],fun x=>?_⟩⟩
 show (c⁻¹ + x * 0) * (c + x * 0) + 0 * _ = 1
 have:=VR _ hc
 grind
theorem J3 (o x : Rat) : Cv.ev [-o,1] x = x - o:=by show -o + x * ((1 : Rat) + x * 0) = _; grind
theorem KnI.line {f l xs f' l' : List Rat} {o : Rat} (h : KnI f l xs) (ho : o ∉ xs) (bo : RB 8 o) (m : Nat) (ef : ∀ x,Cv.ev f' x = Cv.ev f x * Cv.ev (pw [-o,1] (m + 1)) x) (lf : f'.length = f.length + (m + 1)) (el : ∀ x,Cv.ev l' x = Cv.ev l x * Cv.ev [-o,1] x) (ll : l'.length = l.length + 1) (l5 : f'.length ≤ 5) (bf : ∀ q ∈ f',RB (lb f'.length) q) (bl : ∀ q ∈ l',RB (lb l'.length) q) : KnI f' l' (xs ++ [o]):=by
 have c1 : Cop l [-o,1]:=h.cop _ fun x hx z=>by
  rw [J3] at z
  exact ho (by have : o = x:=by grind
               rw [this]; exact hx)
 refine ⟨h.k.more (.inr ⟨1,rfl,by decide⟩) rfl c1.turn (Lr o) m ef (by rw [lf]; show _ = _ + (m + 1) * 1; lia) el ll l5 bf bl (fun x hx=>?_) (fun x hx=>?_) (h.k.cd.line bo (Fh (fun z=>by cases z) h.k.nl (by show _ = 2 + _ - 1; lia) fun x=>by rw [el,Vy]) ll) (fun x y hr=>by
  rw [el,el,J3,J3]
  have a:=h.k.sg x y fun r h=>hr r (Tz _ h)
  have b:=hr o (TN _ (V7.mpr rfl))
  have:=Wh a b
  grind) (fun x hx=>fun z=>by
  rw [ef] at z
  rcases UY.mp z with w | w
  ·exact h.k.nz x (fun v=>hx (Tz _ v)) w
  ·refine Mi (p:=[-o,1]) (x:=x) (fun v=>?_) _ w
   rw [J3] at v
   exact hx (TN _ (V7.mpr (by grind)))) (by
  rw [List.nodup_append]
  exact ⟨h.k.nd,by simp,fun a ha b hb=>by rw [V7.mp hb]; exact fun z=>ho (z ▸ ha)⟩),fun B hB=>Cop.mul (h.cop B fun x hx=>hB x (Tz _ hx)) (Jc (hB o (TN _ (V7.mpr rfl)))) el⟩
 ·rcases Tx.mp hx with z | z
  ·exact .inl (h.k.rt x z)
  ·rw [V7.mp z,J3]; exact .inr (Rat.sub_self)
 ·rcases Tx.mp hx with z | z
  ·exact h.k.bx x z
  ·rw [V7.mp z]; exact bo
theorem KnI.bow {f l xs f' l' : List Rat} {b c : Rat} (h : KnI f l xs) (hbc : b * b < 4 * c) (m : Nat) (ef : ∀ x,Cv.ev f' x = Cv.ev f x * Cv.ev (pw [c,b,1] (m + 1)) x) (lf : f'.length = f.length + (m + 1) * 2) (el : ∀ x,Cv.ev l' x = Cv.ev l x * Cv.ev [c,b,1] x) (ll : l'.length = l.length + 2) (l5 : f'.length ≤ 5) (bf : ∀ q ∈ f',RB (lb f'.length) q) (bl : ∀ q ∈ l',RB (lb l'.length) q) (cd : CD l') : KnF f' l' xs:=by
 have c1 : Cop l [c,b,1]:=h.cop _ fun x hx z=>by
  have e : Cv.ev [c,b,1] x = c + x * (b + x):=by show c + x * (b + x * ((1 : Rat) + x * 0)) = _; grind
  rw [e] at z
  have s : 0 ≤ (2 * x + b) * (2 * x + b):=by
   rcases Rat.le_total (a:=0) (b:=2 * x + b) with y | y
   ·exact Wk y y
   ·have:=Wk (a:=-(2 * x + b)) (b:=-(2 * x + b)) (by grind) (by grind)
    grind
  grind
 exact h.k.more (.inr ⟨1,rfl,by decide⟩) rfl c1.turn (N7 fun z=>by grind) m ef lf el ll l5 bf bl (fun x hx=>.inl (h.k.rt x hx)) h.k.bx cd (fun x y hr=>by
  rw [el,el]
  have a:=h.k.sg x y hr
  have b:=Wh (Im hbc x) (Im hbc y)
  have:=Wh a b
  grind) (fun x hx=>fun z=>by
  rw [ef] at z
  rcases UY.mp z with w | w
  ·exact h.k.nz x hx w
  ·exact Mi (p:=[c,b,1]) (x:=x) (fun v=>by have:=Im hbc x; rw [v] at this; grind) _ w) h.k.nd
theorem SqT.putD {K : Tq} {H : Hp} {a p : Addr} {xs : List V} {kvs : List (List Key × V)} {o : HO} (h : SqT K H a xs) (hp : H p = some (.dT kvs)) : SqT K (upd H p o) a xs:=by
 rcases h with (h | ⟨u,h⟩) | h
 ·exact .inl (.inl (by rw [Aw (CL h hp (fun z=>by cases z))]; exact h))
 ·exact .inl (.inr ⟨u,by rw [Aw (CL h hp (fun z=>by cases z))]; exact h⟩)
 ·exact .inr h
theorem Crv.putD {K : Tq} {H : Hp} {r p : Addr} {qs : List Rat} {kvs : List (List Key × V)} {o : HO} (h : Crv K H r qs) (hp : H p = some (.dT kvs)) : Crv K (upd H p o) r qs:=by
 obtain ⟨xs,a,b⟩:=h
 exact ⟨xs,SqT.putD a hp,Paired.mapP b fun _ _ z=>by obtain ⟨r,rfl,h⟩:=z; exact ⟨r,rfl,SqT.putD h hp⟩⟩
theorem Nn {kvs : List (List Key × V)} {xs : List Rat} {o : Rat} (h : kvs.map (·.1) = xs.map kQ) (hv : DV kvs (kQ o) = none) : o ∉ xs:=fun hx=>by
 have hm : kQ o ∈ kvs.map (·.1):=by rw [h]; exact List.mem_map_of_mem hx
 obtain ⟨p,hp,e⟩:=VX.mp hm
 have ha:=E1 (kQ o) kvs
 rw [hv,List.any_eq_true.mpr ⟨p,hp,decide_eq_true e⟩] at ha
 cases ha
structure K39 (K : Tq) (a d : Addr) (H G : Hp) (c l : Addr) (fs ls xs : List Rat) (kvs : List (List Key × V)) : Prop where
 mv : Mv a H G
 pn : Pen G a
 cc : Crv K G c fs
 cl : Crv K G l ls
 dd : G d = some (.dT kvs)
 ks : kvs.map (·.1) = xs.map kQ
theorem K39.go {K : Tq} {a d : Addr} {H G G' : Hp} {c l : Addr} {fs ls xs : List Rat} {kvs : List (List Key × V)} (h : K39 K a d H G c l fs ls xs kvs) (m : Mv a G G') (p : Pen G' a) : K39 K a d H G' c l fs ls xs kvs :=
 ⟨h.mv.trans m,p,h.cc.mv h.pn m,h.cl.mv h.pn m,m _ _ (h.pn.ne h.dd fun _ _ _ z=>by cases z) h.dd,h.ks⟩
theorem K39.on {K : Tq} {a d : Addr} {H G G' : Hp} {c l : Addr} {fs ls xs : List Rat} {kvs : List (List Key × V)} (h : K39 K a d H G c l fs ls xs kvs) (s : Ag G G') : K39 K a d H G' c l fs ls xs kvs:=h.go s.mv (h.pn.sm s)
theorem K39.put {K : Tq} {a d : Addr} {H G : Hp} {c l : Addr} {fs ls xs : List Rat} {kvs : List (List Key × V)} {o : Rat} {v : V} (h : K39 K a d H G c l fs ls xs kvs) (hd : H d = none) (hv : DV kvs (kQ o) = none) : K39 K a d H (upd G d (.dT (Dr kvs (kQ o) v))) c l fs ls (xs ++ [o]) (Dr kvs (kQ o) v) :=
 ⟨Mv.put' h.mv hd,h.pn.put' (h.pn.ne h.dd fun _ _ _ z=>by cases z),Crv.putD h.cc h.dd,Crv.putD h.cl h.dd,Ae,by rw [Ml v hv,UU,UU,h.ks]; rfl⟩
theorem IQ {a r : Addr} {G G' : Hp} {q : Rat} (h : G r = some (nT q)) (p : Pen G a) (m : Mv a G G') : G' r = some (nT q):=m _ _ (p.ne h fun _ _ _ z=>by cases z) h
inductive Hr (K : Tq) (vs : List V) (H : Hp) (Q : VK) (E_3 : XK) : Prop
 | mk (a : Addr) (h1 : vs = [.ref a]) (h2 : Pen H a) (h3 : ∀ (p c d l : Addr) (H' : Hp) (fs ls xs : List Rat) (kvs : List (List Key × V)),Mv a H H' → Pen H' a → H' p = some (.tup [.ref c,.ref d,.ref l]) → Crv K H' c fs → Crv K H' l ls → H d = none → H' d = some (.dT kvs) → kvs.map (·.1) = xs.map kQ → KnF fs ls xs → kvs.length ≤ 10 → Q (.ref p) H') : Hr K vs H Q E_3
theorem Kf (p q : Rat) (hq : q ≠ 0) : UE (p.num * q.den) (p.den * q.num) = p / q:=by
 have hn : q.num ≠ 0:=fun z=>hq (Wl.mp z)
 apply Nm.div_eq (UL (Nm.den_ne p) hn)
 rw [UN,UN,Nm.num_mul p,Nm.num_mul q]
 have e : p / q * q = p:=UK hq
 have h : p / q * (((p.den : Int) : Rat) * (q * ((q.den : Int) : Rat))) = (p / q * q) * (((p.den : Int) : Rat) * ((q.den : Int) : Rat)):=by grind
 rw [h,e]
 grind
inductive FD (K : Tq) (vs : List V) (H : Hp) (Q : VK) (E_3 : XK) : Prop
 | mk (x y : V) (p q : Rat) (m n : Nat) (h1 : vs = [x,y]) (h2 : AA K H x p) (h3 : AA K H y q) (h4 : q ≠ 0) (h5 : RB m p) (h6 : RB n q) (h7 : m + n ≤ 100000000) (h8 : ∀ r,H r = none → Q (.ref r) (upd H r (nT (p / q)))) : FD K vs H Q E_3
theorem RB.over {m n : Nat} {p q : Rat} (h1 : RB m p) (h2 : RB n q) (hq : q ≠ 0) : RB (m + n) (p / q):=by
 have hn : q.num ≠ 0:=fun z=>hq (Wl.mp z)
 rw [← Kf p q hq]
 exact ⟨Bd.num (h1.1.mul h2.2),Bd.den (UL (Nm.den_ne p) hn) (h1.2.mul h2.1)⟩
inductive EB (K : Tq) (vs : List V) (H : Hp) (Q : VK) (E_3 : XK) : Prop
 | mk (x y : V) (p q : Rat) (m n : Nat) (h1 : vs = [x,y]) (h2 : AA K H x p) (h3 : AA K H y q) (h4 : RB m p) (h5 : RB n q) (h6 : m + n ≤ 100000000) (h7 : Q (.bl (decide (p < q))) H) : EB K vs H Q E_3
theorem Kk (p q : Rat) : decide (p.num * q.den < q.num * p.den) = decide (p < q):=by
 rw [Bool.eq_iff_iff]
 simp only [decide_eq_true_eq]
 exact (Rat.lt_iff p q).symm
inductive Hm (K : Tq) (vs : List V) (H : Hp) (Q : VK) (E_3 : XK) : Prop
 | mk (r : Addr) (al : List Rat) (n : Nat) (h1 : vs = [.ref r]) (h2 : Crv K H r al) (h3 : 1 ≤ al.length) (h4 : al.length ≤ 20) (h5 : (∀ q ∈ al,RB n q)) (h6 : n ≤ 10000) (h7 : 1 ≤ n) (h8 : ∀ (p : Addr) (H' : Hp) (zs : List V),Ag H H' → H' p = some (.lst zs) → AS K H' zs (Cc al) → (∀ q ∈ Cc al,RB (n + 22) q) → Q (.ref p) H') : Hm K vs H Q E_3
theorem OD {n k : Nat} (h : k ≤ n) : ((ch n k : Nat) : Rat) ≠ 0:=fun z=>by
 have hp:=FX n k h
 have : ch n k = 0:=by exact_mod_cast z
 lia
theorem OC {n k : Nat} (hn : n ≤ 20) : RB 22 ((ch n k : Nat) : Rat):=by
 have h1:=KJ n k
 have h2 : 2 ^ n ≤ 2 ^ 20:=Vb (by decide) hn
 exact ⟨by rw [Wd]; unfold Bd; lia,by rw [We]; unfold Bd; decide⟩
theorem Mu {al : List Rat} {n : Nat} (hl : al.length ≤ 20) (h1 : 1 ≤ n) (h : ∀ q ∈ al,RB n q) : ∀ q ∈ Cc al,RB (n + 22) q:=fun q hq=>by
 unfold Cc at hq
 obtain ⟨k,hk,rfl⟩:=VX.mp hq
 have hk':=To.mp hk
 have g : RB n (al.getD k 0):=by
  rw [V2]
  cases e : al[k]? with
  | none=>exact RB.zero h1
  | some t=>exact h t (Ud e)
 exact RB.over g (OC (by lia)) (OD (by lia))
theorem Pp (k : Nat) : nT ((k : Nat) : Rat) = .tup [.int (k : Int),.int 1]:=by
 unfold nT
 rw [Wd,We]
 rfl
theorem Bp {l : List Int} {i : Nat} (h : i < l.length) : l[i]? = some (l.getD i 0):=by rw [V2,V9 h]; rfl
inductive K5 (K : Tq) (vs : List V) (H : Hp) (Q : VK) (E_3 : XK) : Prop
 | mk (c rl rh : Addr) (cs : List Rat) (lo hi : Rat) (n : Nat) (h1 : vs = [.ref c,.ref rl,.ref rh]) (h2 : Crv K H c cs) (h3 : AO cs) (h4 : AA K H (.ref rl) lo) (h5 : AA K H (.ref rh) hi) (h6 : lo < hi) (h7 : (∀ q ∈ cs,RB n q)) (h8 : RB n lo) (h9 : RB n hi) (h10 : n ≤ 100) (h11 : cs.length ≤ 7) (h12 : ∀ (p : Addr) (H' : Hp) (zs : List V),Ag H H' → H p = none → H' p = some (.lst zs) → AS K H' zs (hts cs lo hi) → (∀ q ∈ hts cs lo hi,RB 60000 q) → Q (.ref p) H') : K5 K vs H Q E_3
theorem Rg {b : Int} (hb : b ≠ 0) (s t : Int) : UE (s + t) b = UE s b + UE t b:=by
 apply Nm.div_eq hb
 have h1:=FW hb s
 have h2:=FW hb t
 rw [UM,← h1,← h2]
 grind
theorem MS {b : Int} (l : List Int) (j : Nat) : (l.map fun t=>UE t b).getD j 0 = UE (l.getD j 0) b:=by
 rw [V2,V2,Uc]
 cases l[j]? with
 | none=>exact (Rat.zero_divInt b).symm
 | some t=>rfl
theorem KR {b : Int} (hb : b ≠ 0) (l : List Int) : ∀ n,aQN n (l.map fun t=>UE t b) = (aIN n l).map fun t=>UE t b
 | 0=>rfl
 | n + 1=>by
   show aQ (aQN n _) = (aI (aIN n l)).map _
   rw [KR hb l n]
   unfold aQ aI
   rw [Ug,Vz]
   refine VA fun j _=>?_
   show _ + _ = UE _ b
   rw [MS,MS,Rg hb]
theorem Qf {B : Int} {qs : List Rat} (hB : B ≠ 0) (h : ∀ q ∈ qs,(q.den : Int) ∣ B) : (qs.map (As B)).map (fun t=>UE t B) = qs:=by
 rw [Vz]
 conv=>rhs; rw [← List.map_id qs]
 refine VA fun q hq=>?_
 exact Nm.div_eq hB (CC (h q hq))
theorem JV {M : Nat} {l : List Int} (h : ∀ t ∈ l,Bd M t) : ∀ i,∀ t ∈ aIN i l,Bd (M + i) t
 | 0=>h
 | i + 1=>fun t ht=>by
   have ih:=JV h i
   have g : ∀ j,Bd (M + i) ((aIN i l).getD j 0):=fun j=>by
    rw [V2]
    cases e : (aIN i l)[j]? with
    | none=>exact (show Bd 0 0 by unfold Bd; decide).mono (TQ _)
    | some t=>exact ih t (Ud e)
   change t ∈ aI (aIN i l) at ht
   unfold aI at ht
   obtain ⟨j,_,rfl⟩:=VX.mp ht
   exact (g _).add (g _)
inductive Mb (K : Tq) (vs : List V) (H : Hp) (Q : VK) (E_3 : XK) : Prop
 | mk (a : Addr) (h1 : vs = [.ref a]) (h2 : Pen H a) (h3 : ∀ (t rl rh : Addr) (lo hi : Rat) (H' : Hp),Mv a H H' → Pen H' a → H' t = some (.tup [.ref rl,.ref rh]) → AA K H' (.ref rl) lo → AA K H' (.ref rh) hi → lo < hi → RB 20 lo → RB 20 hi → Q (.ref t) H') : Mb K vs H Q E_3
theorem CI {q : Rat} (h : 0 ≤ q.num) : 0 ≤ q:=Wm.mp h
theorem Ki {a b : Rat} (h : 0 < b) : a < a + b:=by grind
theorem E7 {q : Rat} (h0 : 0 ≤ q) (h : q.num ≠ 0) : 0 < q:=by
 have : q ≠ 0:=fun z=>h (by rw [z]; rfl)
 grind
section
variable {X : Cx}
end
def hf : Rat:=⟨1,2,by decide,by decide⟩
theorem hf2 : hf + hf = 1:=by decide +kernel
theorem JO : 1 - hf = hf:=by have:=hf2; grind
theorem Fu (t : Rat) (f : Nat → Rat) : ∀ k i,L2.Cn t (k + 1) f i = L2.Cn t k (fun j=>f j * (1 - t) + f (j + 1) * t) i
 | 0,_=>rfl
 | k + 1,i=>by
   show L2.Cn t (k + 1) f i * (1 - t) + L2.Cn t (k + 1) f (i + 1) * t = L2.Cn t k _ i * (1 - t) + L2.Cn t k _ (i + 1) * t
   rw [Fu t f k i,Fu t f k (i + 1)]
theorem Ir (t : Rat) (f : Nat → Rat) (o : Nat) : ∀ k i,L2.Cn t k f (o + i) = L2.Cn t k (fun j=>f (o + j)) i
 | 0,_=>rfl
 | k + 1,i=>by
   have h1:=Ir t f o k (i + 1)
   show L2.Cn t k f (o + i) * (1 - t) + L2.Cn t k f (o + i + 1) * t = L2.Cn t k _ i * (1 - t) + L2.Cn t k _ (i + 1) * t
   rw [Ir t f o k i,show o + i + 1 = o + (i + 1) by lia,h1]
theorem Iu (u a b : Rat) (f : Nat → Rat) : ∀ k i,L2.Cn u k (fun j=>f j * a + f (j + 1) * b) i = L2.Cn u k f i * a + L2.Cn u k f (i + 1) * b
 | 0,_=>rfl
 | k + 1,i=>by
   show L2.Cn u k _ i * (1 - u) + L2.Cn u k _ (i + 1) * u = (L2.Cn u k f i * (1 - u) + L2.Cn u k f (i + 1) * u) * a + (L2.Cn u k f (i + 1) * (1 - u) + L2.Cn u k f (i + 1 + 1) * u) * b
   rw [Iu u a b f k i,Iu u a b f k (i + 1)]; grind
theorem FR (t : Rat) : ∀ n f o,L2.Cn t n (fun i=>L2.Cn hf i f o) 0 = L2.Cn (t * hf) n f o
 | 0,_,_=>rfl
 | n + 1,f,o=>by
   have h0:=FR t n f o
   have h1:=FR t n (fun j=>f j * (1 - hf) + f (j + 1) * hf) o
   show L2.Cn t n (fun i=>L2.Cn hf i f o) 0 * (1 - t) + L2.Cn t n (fun i=>L2.Cn hf i f o) (0 + 1) * t = L2.Cn (t * hf) n f o * (1 - t * hf) + L2.Cn (t * hf) n f (o + 1) * (t * hf)
   have e : L2.Cn t n (fun i=>L2.Cn hf i f o) (0 + 1) = L2.Cn t n (fun i=>L2.Cn hf i (fun j=>f j * (1 - hf) + f (j + 1) * hf) o) 0:=by
    rw [show 0 + 1 = 1 + 0 from rfl,Ir]
    refine L2.C8 t _ _ fun j _=>?_
    show L2.Cn hf (1 + (0 + j)) f o = _
    rw [show 1 + (0 + j) = (0 + j) + 1 by lia,Fu]
   rw [e,h0,h1,Iu,JO]
   have:=hf2
   grind
theorem Hh (t : Rat) : ∀ n f o,L2.Cn t n (fun i=>L2.Cn hf (n - i) f (o + i)) 0 = L2.Cn (hf + t * hf) n f o
 | 0,_,_=>rfl
 | n + 1,f,o=>by
   have h0:=Hh t n (fun j=>f j * (1 - hf) + f (j + 1) * hf) o
   have h1:=Hh t n f (o + 1)
   show L2.Cn t n (fun i=>L2.Cn hf (n + 1 - i) f (o + i)) 0 * (1 - t) + L2.Cn t n (fun i=>L2.Cn hf (n + 1 - i) f (o + i)) (0 + 1) * t = L2.Cn (hf + t * hf) n f o * (1 - (hf + t * hf)) + L2.Cn (hf + t * hf) n f (o + 1) * (hf + t * hf)
   have e0 : L2.Cn t n (fun i=>L2.Cn hf (n + 1 - i) f (o + i)) 0 = L2.Cn t n (fun i=>L2.Cn hf (n - i) (fun j=>f j * (1 - hf) + f (j + 1) * hf) (o + i)) 0:=by
    refine L2.C8 t _ _ fun j hj=>?_
    show L2.Cn hf (n + 1 - (0 + j)) f _ = L2.Cn hf (n - (0 + j)) _ _
    rw [show n + 1 - (0 + j) = (n - (0 + j)) + 1 by lia,Fu]
   have e1 : L2.Cn t n (fun i=>L2.Cn hf (n + 1 - i) f (o + i)) (0 + 1) = L2.Cn t n (fun i=>L2.Cn hf (n - i) f (o + 1 + i)) 0:=by
    rw [show 0 + 1 = 1 + 0 from rfl,Ir]
    refine L2.C8 t _ _ fun j hj=>?_
    show L2.Cn hf (n + 1 - (1 + (0 + j))) f (o + (1 + (0 + j))) = L2.Cn hf (n - (0 + j)) f (o + 1 + (0 + j))
    rw [show n + 1 - (1 + (0 + j)) = n - (0 + j) by lia,show o + (1 + (0 + j)) = o + 1 + (0 + j) by lia]
   rw [e0,e1,h0,h1,Iu,JO]
   have:=hf2
   grind
def En : Nat → (Nat → Rat) → Nat → Rat
 | 0,f,i=>f i
 | k + 1,f,i=>En k f (i + 1) - En k f i
theorem JX (a b : Nat → Rat) : ∀ k i,L2.An k (fun m=>a m - b m) i = L2.An k a i - L2.An k b i
 | 0,_=>rfl
 | k + 1,i=>by
   show L2.An k _ i + L2.An k _ (i + 1) = (L2.An k a i + L2.An k a (i + 1)) - (L2.An k b i + L2.An k b (i + 1))
   rw [JX a b k i,JX a b k (i + 1)]; grind
theorem Iv (g : Nat → Rat) : ∀ k i,L2.An k (fun m=>g (m + 1)) i = L2.An k g (i + 1)
 | 0,_=>rfl
 | k + 1,i=>by
   show L2.An k _ i + L2.An k _ (i + 1) = L2.An k g (i + 1) + L2.An k g (i + 1 + 1)
   rw [Iv g k i,Iv g k (i + 1)]
theorem KU (f : Nat → Rat) : ∀ j i,L2.An j (fun m=>En m f i) 0 = f (i + j)
 | 0,_=>rfl
 | j + 1,i=>by
   show L2.An j (fun m=>En m f i) 0 + L2.An j (fun m=>En m f i) (0 + 1) = _
   rw [← Iv (fun m=>En m f i) j 0]
   show L2.An j (fun m=>En m f i) 0 + L2.An j (fun m=>En m f (i + 1) - En m f i) 0 = _
   rw [JX,KU f j (i + 1),show i + (j + 1) = i + 1 + j by lia]; grind
theorem Ew {f g : Nat → Rat} : ∀ k n,(∀ j,j ≤ k → f (n + j) = g (n + j)) → L2.An k f n = L2.An k g n
 | 0,n,h=>h 0 (TL _)
 | k + 1,n,h=>by
   show L2.An k f n + L2.An k f (n + 1) = L2.An k g n + L2.An k g (n + 1)
   rw [Ew (f:=f) (g:=g) k (n + 1) fun j hj=>by
    have:=h (j + 1) (by lia)
    rw [show n + 1 + j = n + (j + 1) by lia]; exact this,
    Ew (f:=f) (g:=g) k n fun j hj=>h j (by lia)]
theorem KN (n : Nat) (f : Nat → Rat) (t : Rat) : L2.Cn t n f 0 = Cv.ev ((Th (n + 1)).map fun i=>((L2.ch n i : Nat) : Rat) * En i f 0) t:=by
 have e1 : L2.Cn t n f 0 = L2.Cn t n (fun j=>L2.An j (fun m=>En m f 0) 0) 0:=L2.C8 t _ _ fun j _=>by
  show f (0 + j) = L2.An (0 + j) _ 0
  rw [KU,Vx,Vx]
 rw [e1,L2.Eh]
 show L2.Bn t n (fun m=>En m f 0) 0 = _
 rw [L2.Jn,L2.PY,Ug,Vv]
 refine L2.CH t _ fun i hi=>?_
 show _ * En (0 + i) f 0 = _
 rw [V2,Uc,Vw hi,Vx]; rfl
theorem Q4 {n k : Nat} (h : k ≤ n) : ((L2.ch n k : Nat) : Rat) ≠ 0:=fun z=>by
 have hp:=L2.FX n k h
 have : L2.ch n k = 0:=by exact_mod_cast z
 lia
theorem Ji {n : Nat} {f g : Nat → Rat} (h : ∀ t,L2.Cn t n f 0 = L2.Cn t n g 0) : ∀ j,j ≤ n → f j = g j:=fun j hj=>by
 have hE : ∀ m,m ≤ n → En m f 0 = En m g 0:=fun m hm=>by
  have e:=L2.De (l:=(Th (n + 1)).map fun i=>((L2.ch n i : Nat) : Rat) * En i f 0) (m:=(Th (n + 1)).map fun i=>((L2.ch n i : Nat) : Rat) * En i g 0) (fun k=>by rw [← KN,← KN,h]) m
  rw [V2,V2,Uc,Uc,Vw (by lia)] at e
  have e : ((L2.ch n m : Nat) : Rat) * En m f 0 = ((L2.ch n m : Nat) : Rat) * En m g 0:=e
  have h0:=Q4 hm
  have e2 : ((L2.ch n m : Nat) : Rat) * (En m f 0 - En m g 0) = 0:=by grind
  rcases UY.mp e2 with z | z
  ·exact absurd z h0
  ·grind
 have a:=KU f j 0
 have b:=KU g j 0
 rw [Vx] at a b
 rw [← a,← b]
 exact Ew j 0 fun m hm=>by rw [Vx]; exact hE m (by lia)
def Gv (hs : List Rat) : List Rat:=(Th hs.length).map fun i=>L2.Cn hf i (fun k=>hs.getD k 0) 0
def upL (hs : List Rat) : List Rat:=(Th hs.length).map fun i=>L2.Cn hf (hs.length - 1 - i) (fun k=>hs.getD k 0) i
theorem IV (hs : List Rat) : (Gv hs).length = hs.length:=by unfold Gv; rw [Ug,Vv]
theorem Jr (hs : List Rat) : (upL hs).length = hs.length:=by unfold upL; rw [Ug,Vv]
theorem NL {hs : List Rat} {i : Nat} (h : i < hs.length) : (Gv hs).getD i 0 = L2.Cn hf i (fun k=>hs.getD k 0) 0:=by
 unfold Gv; rw [V2,Uc,Vw h]; rfl
theorem OI {hs : List Rat} {i : Nat} (h : i < hs.length) : (upL hs).getD i 0 = L2.Cn hf (hs.length - 1 - i) (fun k=>hs.getD k 0) i:=by
 unfold upL; rw [V2,Uc,Vw h]; rfl
theorem Kj {l m : List Rat} (hl : l.length = m.length) (h : ∀ j,j < l.length → l.getD j 0 = m.getD j 0) : l = m:=by
 apply V3
 intro i
 by_cases hi : i < l.length
 ·have:=h i hi
  rw [V2,V2,V9 hi,V9 (by lia)] at this
  rw [V9 hi,V9 (by lia)]
  exact congrArg some this
 ·rw [Vs (by lia),Vs (by lia)]
theorem EO (cs : List Rat) (lo hi t : Rat) : L2.Cn t ((L2.hts cs lo hi).length - 1) (fun k=>(L2.hts cs lo hi).getD k 0) 0 = Cv.ev cs (lo + (hi - lo) * t):=by
 rw [← L2.Lz,L2.KL _ _ _ _ (by rw [L2.BR]; lia)]
theorem NW (cs : List Rat) (lo hi : Rat) : L2.hts cs lo ((lo + hi) * hf) = Gv (L2.hts cs lo hi):=by
 have l1:=L2.BR cs lo ((lo + hi) * hf)
 have l2:=L2.BR cs lo hi
 refine Kj (by rw [IV]; lia) fun j hj=>?_
 refine Ji (n:=(L2.hts cs lo hi).length - 1) (f:=fun k=>(L2.hts cs lo ((lo + hi) * hf)).getD k 0) (g:=fun k=>(Gv (L2.hts cs lo hi)).getD k 0) (fun t=>?_) j (by lia)
 have e1:=EO cs lo ((lo + hi) * hf) t
 rw [show (L2.hts cs lo ((lo + hi) * hf)).length - 1 = (L2.hts cs lo hi).length - 1 by lia] at e1
 rw [e1]
 have e2 : L2.Cn t ((L2.hts cs lo hi).length - 1) (fun k=>(Gv (L2.hts cs lo hi)).getD k 0) 0 = L2.Cn t ((L2.hts cs lo hi).length - 1) (fun i=>L2.Cn hf i (fun k=>(L2.hts cs lo hi).getD k 0) 0) 0:=L2.C8 t _ _ fun i hi'=>by
  show (Gv (L2.hts cs lo hi)).getD (0 + i) 0 = L2.Cn hf (0 + i) _ 0
  exact NL (by lia)
 rw [e2,FR,EO]
 congr 1
 have:=hf2
 grind
theorem PU (cs : List Rat) (lo hi : Rat) : L2.hts cs ((lo + hi) * hf) hi = upL (L2.hts cs lo hi):=by
 have l1:=L2.BR cs ((lo + hi) * hf) hi
 have l2:=L2.BR cs lo hi
 refine Kj (by rw [Jr]; lia) fun j hj=>?_
 refine Ji (n:=(L2.hts cs lo hi).length - 1) (f:=fun k=>(L2.hts cs ((lo + hi) * hf) hi).getD k 0) (g:=fun k=>(upL (L2.hts cs lo hi)).getD k 0) (fun t=>?_) j (by lia)
 have e1:=EO cs ((lo + hi) * hf) hi t
 rw [show (L2.hts cs ((lo + hi) * hf) hi).length - 1 = (L2.hts cs lo hi).length - 1 by lia] at e1
 rw [e1]
 have e2 : L2.Cn t ((L2.hts cs lo hi).length - 1) (fun k=>(upL (L2.hts cs lo hi)).getD k 0) 0 = L2.Cn t ((L2.hts cs lo hi).length - 1) (fun i=>L2.Cn hf ((L2.hts cs lo hi).length - 1 - i) (fun k=>(L2.hts cs lo hi).getD k 0) (0 + i)) 0:=L2.C8 t _ _ fun i hi'=>by
  show (upL (L2.hts cs lo hi)).getD (0 + i) 0 = L2.Cn hf (_ - (0 + i)) _ (0 + (0 + i))
  rw [OI (by lia),Vx,Vx]
 rw [e2,Hh,EO]
 congr 1
 have:=hf2
 grind
theorem JZ (ts : List Int) : ∀ k i,i + k < ts.length → (((L2.aIN k ts).getD i 0 : Int) : Rat) = L2.An k (fun n=>((ts.getD n 0 : Int) : Rat)) i
 | 0,_,_=>rfl
 | k + 1,i,h=>by
   have h0:=JZ ts k i (by lia)
   have h1:=JZ ts k (i + 1) (by lia)
   have hl:=L2.DO ts k
   show (((L2.aI (L2.aIN k ts)).getD i 0 : Int) : Rat) = L2.An k _ i + L2.An k _ (i + 1)
   rw [← h0,← h1,← UM]
   congr 1
   unfold L2.aI
   rw [V2,Uc,Vw (by lia)]; rfl
theorem Gf (b : Rat) (f : Nat → Rat) : ∀ k i,L2.An k (fun n=>f n * b) i = L2.An k f i * b
 | 0,_=>rfl
 | k + 1,i=>by
   show L2.An k _ i + L2.An k _ (i + 1) = (L2.An k f i + L2.An k f (i + 1)) * b
   rw [Gf b f k i,Gf b f k (i + 1)]; grind
theorem Ni (f : Nat → Rat) : ∀ k i,L2.Cn hf k f i * (2 : Rat) ^ k = L2.An k f i
 | 0,i=>by show f i * 2 ^ 0 = f i; rw [UO]; grind
 | k + 1,i=>by
   show (L2.Cn hf k f i * (1 - hf) + L2.Cn hf k f (i + 1) * hf) * 2 ^ (k + 1) = L2.An k f i + L2.An k f (i + 1)
   rw [JO,← Ni f k i,← Ni f k (i + 1),UP]
   have e : hf * 2 = 1:=by have:=hf2; grind
   have e2 : ∀ a b c : Rat,(a * hf + b * hf) * (c * 2) = (a * c + b * c) * (hf * 2):=fun a b c=>by grind
   rw [e2,e,VT]
def mb (n : Nat) : Nat → Nat
 | 0=>n
 | k + 1=>2 * mb n k + 3
def CM (ts : List Int) (i : Nat) : List Int:=(Th i).map fun j=>2 ^ (i - 1 - j) * (L2.aIN j ts).getD 0 0
def upI (ts : List Int) (i : Nat) : List Int:=(Th i).map fun j=>2 ^ j * (L2.aIN (i - 1 - j) ts).getD (ts.length - 1 - (i - 1 - j)) 0
theorem Lm (ts : List Int) (i : Nat) : (CM ts i).map (fun z=>2 * z) ++ [(L2.aIN i ts).getD 0 0] = CM ts (i + 1):=by
 unfold CM
 rw [Wn,UU,Vz]
 congr 1
 ·refine VA fun j hj=>?_
  have hj:=To.mp hj
  show 2 * (2 ^ (i - 1 - j) * _) = 2 ^ (i + 1 - 1 - j) * _
  rw [show i + 1 - 1 - j = (i - 1 - j) + 1 by lia,Vp,← VF,VE 2]
 ·show [_] = [2 ^ (i + 1 - 1 - i) * _]
  rw [show i + 1 - 1 - i = 0 by lia,Vo,UH]
theorem LQ (ts : List Int) (i : Nat) : [(L2.aIN i ts).getD (ts.length - 1 - i) 0] ++ (upI ts i).map (fun z=>2 * z) = upI ts (i + 1):=by
 unfold upI
 rw [List.range_succ_eq_map,Uw,Vz,Vz]
 show _ :: _ = (2 ^ 0 * (L2.aIN (i + 1 - 1 - 0) ts).getD (ts.length - 1 - (i + 1 - 1 - 0)) 0) :: _
 rw [Vo,UH,show i + 1 - 1 - 0 = i by lia]
 congr 1
 refine VA fun j hj=>?_
 have hj:=To.mp hj
 show 2 * (2 ^ j * _) = 2 ^ (j + 1) * (L2.aIN (i + 1 - 1 - (j + 1)) ts).getD (ts.length - 1 - (i + 1 - 1 - (j + 1))) 0
 rw [show i + 1 - 1 - (j + 1) = i - 1 - j by lia,Vp,← VF,VE 2]
inductive Hj (K : Tq) (vs : List V) (H : Hp) (Q : VK) (E_3 : XK) : Prop
 | mk (l : Addr) (ts : List Int) (h1 : vs = [.ref l]) (h2 : SqL K H l (ts.map V.int)) (h3 : ts.length ≤ 20) (h4 : ∀ (t la lb : Addr) (H' : Hp),Ag H H' → H' t = some (.tup [.ref la,.ref lb]) → H' la = some (.lst ((CM ts ts.length).map V.int)) → H' lb = some (.lst ((upI ts ts.length).map V.int)) → Q (.ref t) H') : Hj K vs H Q E_3
theorem NQ (K : Tq) : TY K (.type "list") (.type "list") = some true:=by kernel_rfl
theorem Pr {lo hi : Rat} (h : lo < hi) : lo < (lo + hi) * hf ∧ (lo + hi) * hf < hi:=by
 have e:=hf2
 have hp : (0 : Rat) < hf:=by decide
 have d : 0 < hi - lo:=by grind
 have m : 0 < (hi - lo) * hf:=Wh d hp
 have e1 : (lo + hi) * hf = lo + (hi - lo) * hf:=by grind
 have e2 : (lo + hi) * hf = hi - (hi - lo) * hf:=by grind
 generalize (hi - lo) * hf = z at m e1 e2
 exact ⟨by rw [e1]; grind,by rw [e2]; grind⟩
def chF : Int → List Int → Nat
 | _,[]=>0
 | l,t :: r=>if t = 0 then chF l r else (if l * t < 0 then 1 else 0) + chF t r
def adj : List Int → Nat
 | a :: b :: r=>(if (decide (0 < b) != decide (0 < a)) = true then 1 else 0) + adj (b :: r)
 | _=>0
theorem JT (l : Int) (hl : l ≠ 0) : ∀ ts : List Int,chF l ts = adj (l :: ts.filter (fun t=>decide (t ≠ 0)))
 | []=>rfl
 | t :: r=>by
   unfold chF
   by_cases h : t = 0
   ·rw [if_pos h,JT l hl r,Wo (by simp [h])]
   ·rw [if_neg h,JT t h r,Wq (by simp [h])]
    show _ = (if (decide (0 < t) != decide (0 < l)) = true then 1 else 0) + adj (t :: r.filter fun t=>decide (t ≠ 0))
    congr 1
    by_cases h1 : 0 < t
    ·by_cases h2 : 0 < l
     ·rw [decide_eq_true h1,decide_eq_true h2,if_neg (by have:=Wa h2 h1; lia)]; rfl
     ·rw [decide_eq_true h1,decide_eq_false h2,if_pos (Int.mul_neg_of_neg_of_pos (by lia) h1)]; rfl
    ·by_cases h2 : 0 < l
     ·rw [decide_eq_false h1,decide_eq_true h2,if_pos (W9 h2 (by lia))]; rfl
     ·rw [decide_eq_false h1,decide_eq_false h2,if_neg (by have:=Int.mul_pos_of_neg_of_neg (show l < 0 by lia) (show t < 0 by lia); lia)]; rfl
theorem Na : ∀ ts : List Int,chF 0 ts = adj (ts.filter (fun t=>decide (t ≠ 0)))
 | []=>rfl
 | t :: r=>by
   unfold chF
   by_cases h : t = 0
   ·rw [if_pos h,Na r,Wo (by simp [h])]
   ·rw [if_neg h,JT t h r,Wq (by simp [h]),Int.zero_mul,if_neg (by decide),Vx]
theorem Jk (a b : Int) : ∀ l : List Int,adj (l ++ [a,b]) = adj (l ++ [a]) + (if (decide (0 < b) != decide (0 < a)) = true then 1 else 0)
 | []=>by show _ + adj [b] = adj [a] + _; rw [Nat.add_comm]; rfl
 | [c]=>by
   show _ + (_ + adj [b]) = (_ + adj [a]) + _
   show _ + (_ + 0) = (_ + 0) + _
   lia
 | c :: d :: r=>by
   have ih:=Jk a b (d :: r)
   show _ + adj ((d :: r) ++ [a,b]) = (_ + adj ((d :: r) ++ [a])) + _
   rw [ih]; lia
theorem K8 {a b c d : Int} (h1 : a.sign = c.sign) (h2 : b.sign = d.sign) : (a * b < 0) ↔ (c * d < 0):=by
 rw [← Int.sign_eq_neg_one_iff_neg,← Int.sign_eq_neg_one_iff_neg,Int.sign_mul,Int.sign_mul,h1,h2]
theorem Ii : ∀ {ts us : List Int} {l m : Int},l.sign = m.sign → Paired (fun a b : Int=>a.sign = b.sign) ts us → chF l ts = chF m us
 | _,_,_,_,_,.nil=>rfl
 | _,_,l,m,h,.cons (a:=a) (b:=b) h1 t=>by
   unfold chF
   have e : (a = 0) ↔ (b = 0):=by rw [← Int.sign_eq_zero_iff_zero,h1,Int.sign_eq_zero_iff_zero]
   by_cases ha : a = 0
   ·rw [if_pos ha,if_pos (e.mp ha)]; exact Ii h t
   ·rw [if_neg ha,if_neg (fun z=>ha (e.mpr z)),Ii h1 t]
    by_cases hm : l * a < 0
    ·rw [if_pos hm,if_pos ((K8 h h1).mp hm)]
    ·rw [if_neg hm,if_neg fun z=>hm ((K8 h h1).mpr z)]
def VQ (hs : List Rat) : Nat:=chF 0 (hs.map (·.num))
theorem OR {t : Int} {q B : Rat} (hB : 0 < B) (h : (t : Rat) = q * B) : t.sign = q.num.sign:=by
 rcases Int.lt_trichotomy q.num 0 with z | z | z
 ·have hq : q < 0:=by
   have : ¬ 0 ≤ q:=fun h=>by have:=Wm.mpr h; lia
   grind
  have : q * B < 0:=by
   have:=Wh (a:=-q) (b:=B) (by grind) hB
   grind
  have ht : t < 0:=by
   have h0 : (t : Rat) < ((0 : Int) : Rat):=by rw [h]; exact this
   exact Wr.mp h0
  rw [UG ht,UG z]
 ·have hq : q = 0:=Wl.mp z
  rw [hq,W0] at h
  have ht : t = 0:=by
   have h0 : (t : Rat) = ((0 : Int) : Rat):=h
   exact Rat.intCast_inj.mp h0
  rw [ht,z]
 ·have hq : 0 < q:=E7 (Wm.mp (by lia)) (by lia)
  have ht : 0 < t:=by
   have h0 : ((0 : Int) : Rat) < (t : Rat):=by rw [h]; exact Wh hq hB
   exact Wr.mp h0
  rw [UI ht,UI z]
def Tp (ts : List Int) (hs : List Rat) : Prop:=∃ B : Rat,0 < B ∧ Paired (fun (t : Int) (q : Rat)=>(t : Rat) = q * B) ts hs
theorem FI {α β γ : Type} {F : α → β → Prop} {G : α → γ → Prop} {f : β → γ} (h : ∀ a b,F a b → G a (f b)) : ∀ {l : List α} {m : List β},Paired F l m → Paired G l (m.map f)
 | _,_,.nil=>.nil
 | _,_,.cons x t=>.cons (h _ _ x) (FI h t)
theorem Tp.chg {ts : List Int} {hs : List Rat} (h : Tp ts hs) : chF 0 ts = VQ hs:=by
 obtain ⟨B,hB,p⟩:=h
 exact Ii rfl (FI (G:=fun (a b : Int)=>a.sign = b.sign) (f:=fun q : Rat=>q.num) (fun a b e=>OR hB e) p)
theorem Eb {α β : Type} {F : α → β → Prop} {f : Nat → α} {g : Nat → β} (n : Nat) (h : ∀ j,j < n → F (f j) (g j)) : Paired F ((Th n).map f) ((Th n).map g):=by
 induction n with
 | zero=>exact .nil
 | succ n ih =>
   rw [Wn,UU,UU]
   exact Paired.snoc (ih fun j hj=>h j (by lia)) (h n (by lia))
theorem Tp.at {ts : List Int} {hs : List Rat} {B : Rat} (p : Paired (fun (t : Int) (q : Rat)=>(t : Rat) = q * B) ts hs) {j : Nat} (hj : j < ts.length) : ((ts.getD j 0 : Int) : Rat) = hs.getD j 0 * B:=by
 obtain ⟨q,hq,e⟩:=Paired.get p (Bp hj)
 rw [V2 (l:=hs),hq]
 exact e
theorem IF (n : Nat) : (0 : Rat) < 2 ^ n:=by
 induction n with
 | zero=>rw [UO]; decide
 | succ n ih=>rw [UP]; exact Wh ih (by decide)
theorem Kq {ts : List Int} {f : Nat → Rat} {B : Rat} (hf' : ∀ j,j < ts.length → ((ts.getD j 0 : Int) : Rat) = f j * B) {k i : Nat} (h : i + k < ts.length) {e N : Nat} (hN : N = e + k) : ((2 ^ e * (L2.aIN k ts).getD i 0 : Int) : Rat) = L2.Cn hf k f i * (B * 2 ^ N):=by
 rw [UN,JZ ts k i h]
 have e1 : L2.An k (fun n=>((ts.getD n 0 : Int) : Rat)) i = L2.An k f i * B:=by
  rw [← Gf]
  exact Ew k i fun j hj=>hf' (i + j) (by lia)
 rw [e1,← Ni f k i,hN,Rat.intCast_pow,Nm.pow_add]
 have z : ((2 : Int) : Rat) = 2:=rfl
 rw [z]; grind
theorem Tp.low {ts : List Int} {hs : List Rat} (h : Tp ts hs) : Tp (CM ts ts.length) (Gv hs):=by
 obtain ⟨B,hB,p⟩:=h
 have hl:=p.length
 refine ⟨B * 2 ^ (ts.length - 1),Wh hB (IF _),?_⟩
 unfold CM Gv
 rw [← hl]
 exact Eb _ fun j hj=>Kq (f:=fun k=>hs.getD k 0) (fun j hj=>Tp.at p hj) (by lia) (by lia)
theorem Tp.up {ts : List Int} {hs : List Rat} (h : Tp ts hs) : Tp (upI ts ts.length) (upL hs):=by
 obtain ⟨B,hB,p⟩:=h
 have hl:=p.length
 refine ⟨B * 2 ^ (ts.length - 1),Wh hB (IF _),?_⟩
 unfold upI upL
 rw [← hl]
 exact Eb _ fun j hj=>by
  rw [show ts.length - 1 - (ts.length - 1 - j) = j by lia]
  exact Kq (f:=fun k=>hs.getD k 0) (fun j hj=>Tp.at p hj) (by lia) (by lia)
abbrev Pc:=Rat × Rat × Nat
def one (cs : List Rat) (lo hi : Rat) : Pc:=(lo,hi,VQ (L2.hts cs lo hi))
def pcs (cs : List Rat) : Nat → Rat → Rat → Option (List Pc)
 | 0,lo,hi=>if VQ (L2.hts cs lo hi) < 2 then some [one cs lo hi] else none
 | n + 1,lo,hi=>if VQ (L2.hts cs lo hi) < 2 then some [one cs lo hi] else
   match pcs cs n lo ((lo + hi) * hf) with
   | none=>none
   | some a=>match pcs cs n ((lo + hi) * hf) hi with
     | none=>none
     | some b=>some (a ++ b)
theorem Fn {cs : List Rat} {n : Nat} {lo hi : Rat} (h : VQ (L2.hts cs lo hi) < 2) : pcs cs n lo hi = some [one cs lo hi]:=by cases n <;> (unfold pcs; rw [if_pos h])
theorem E9 {cs : List Rat} {lo hi : Rat} (h : ¬ VQ (L2.hts cs lo hi) < 2) : pcs cs 0 lo hi = none:=by unfold pcs; rw [if_neg h]
theorem Ea {cs : List Rat} {n : Nat} {lo hi : Rat} (h : ¬ VQ (L2.hts cs lo hi) < 2) : pcs cs (n + 1) lo hi = match pcs cs n lo ((lo + hi) * hf) with
 | none=>none
 | some a=>match pcs cs n ((lo + hi) * hf) hi with
   | none=>none
   | some b=>some (a ++ b):=by rw [pcs,if_neg h]
theorem Fm (cs : List Rat) : ∀ (n : Nat) (lo hi : Rat) (l : List Pc),pcs cs n lo hi = some l → 1 ≤ l.length ∧ l.length ≤ 2 ^ n
 | n,lo,hi,l=>fun e=>by
   by_cases h : VQ (L2.hts cs lo hi) < 2
   ·rw [Fn h] at e
    cases e
    exact ⟨TL _,Vt⟩
   ·cases n with
    | zero=>rw [E9 h] at e; cases e
    | succ n =>
      rw [Ea h] at e
      cases ha : pcs cs n lo ((lo + hi) * hf) with
      | none=>rw [ha] at e; cases e
      | some a =>
        cases hb : pcs cs n ((lo + hi) * hf) hi with
        | none=>rw [ha,hb] at e; cases e
        | some b =>
          rw [ha,hb] at e
          cases e
          have h1:=Fm cs n _ _ a ha
          have h2:=Fm cs n _ _ b hb
          rw [Ue,Ve]
          lia
abbrev Wt:=Rat × Rat × Nat
def com (cs : List Rat) : List Wt → Option (List Pc)
 | []=>some []
 | t :: r=>match pcs cs (16 - t.2.2) t.1 t.2.1 with
   | none=>none
   | some a=>match com cs r with
     | none=>none
     | some b=>some (a ++ b)
theorem O7 {cs : List Rat} {lo hi : Rat} {d : Nat} {r : List Wt} (h : VQ (L2.hts cs lo hi) < 2) : com cs ((lo,hi,d) :: r) = (com cs r).map ([one cs lo hi] ++ ·):=by
 show (match pcs cs (16 - d) lo hi with | none=>none | some a=>match com cs r with | none=>none | some b=>some (a ++ b)) = _
 rw [Fn h]
 cases com cs r <;> rfl
theorem N2 {cs : List Rat} {lo hi : Rat} {r : List Wt} (h : ¬ VQ (L2.hts cs lo hi) < 2) : com cs ((lo,hi,16) :: r) = none:=by
 show (match pcs cs 0 lo hi with | none=>none | some a=>match com cs r with | none=>none | some b=>some (a ++ b)) = none
 rw [E9 h]
theorem N3 {cs : List Rat} {lo hi : Rat} {d : Nat} {r : List Wt} (hd : d < 16) (h : ¬ VQ (L2.hts cs lo hi) < 2) : com cs ((lo,hi,d) :: r) = com cs ((lo,(lo + hi) * hf,d + 1) :: ((lo + hi) * hf,hi,d + 1) :: r):=by
 obtain ⟨n,hn⟩ : ∃ n,16 - d = n + 1:=⟨15 - d,by lia⟩
 have hn' : 16 - (d + 1) = n:=by lia
 show (match pcs cs (16 - d) lo hi with | none=>none | some a=>match com cs r with | none=>none | some b=>some (a ++ b)) = (match pcs cs (16 - (d + 1)) lo ((lo + hi) * hf) with | none=>none | some a=>match (match pcs cs (16 - (d + 1)) ((lo + hi) * hf) hi with | none=>none | some a=>match com cs r with | none=>none | some b=>some (a ++ b)) with | none=>none | some b=>some (a ++ b))
 rw [hn,hn',Ea h]
 cases pcs cs n lo ((lo + hi) * hf) with
 | none=>rfl
 | some a =>
   cases pcs cs n ((lo + hi) * hf) hi with
   | none=>rfl
   | some b =>
     cases com cs r with
     | none=>rfl
     | some c=>show some (a ++ b ++ c) = some (a ++ (b ++ c)); rw [Us]
def wgt : List Wt → Nat
 | []=>0
 | t :: r=>2 ^ (18 - t.2.2) - 1 + wgt r
def Dy (D : Int) (d : Nat) (x : Rat) : Prop:=∃ p : Int,x * ((D : Rat) * 2 ^ d) = (p : Rat) ∧ p.natAbs ≤ 2 ^ (60 + d)
theorem Dy.next {D : Int} {d : Nat} {x : Rat} (h : Dy D d x) : Dy D (d + 1) x:=by
 obtain ⟨p,e,b⟩:=h
 refine ⟨p * 2,?_,?_⟩
 ·rw [UN,← e,UP]
  have z : ((2 : Int) : Rat) = 2:=rfl
  rw [z]; grind
 ·rw [Vc,show 60 + (d + 1) = 60 + d + 1 by lia,Ve]
  exact VU b (by decide)
theorem Dy.mid {D : Int} {d : Nat} {x y : Rat} (h1 : Dy D d x) (h2 : Dy D d y) : Dy D (d + 1) ((x + y) * hf):=by
 obtain ⟨p,e,b⟩:=h1
 obtain ⟨q,e2,b2⟩:=h2
 refine ⟨p + q,?_,?_⟩
 ·rw [UM,← e,← e2,UP]
  have : hf * 2 = 1:=by have:=hf2; grind
  have e3 : (x + y) * hf * ((D : Rat) * (2 ^ d * 2)) = (x + y) * ((D : Rat) * 2 ^ d) * (hf * 2):=by grind
  rw [e3,this]; grind
 ·rw [show 60 + (d + 1) = 60 + d + 1 by lia,Ve]
  lia
theorem Dy.rb {D : Int} {d : Nat} {x : Rat} (h : Dy D d x) (h0 : 0 < D) (h1 : D ≤ 2 ^ 40) (hd : d ≤ 17) : RB 80 x:=by
 obtain ⟨p,e,b⟩:=h
 have p1 : (2 : Nat) ^ (60 + d) ≤ 2 ^ 77:=Vb (by decide) (by lia)
 have p2 : (2 : Int) ^ d ≤ 2 ^ 17:=by
  have : (2 : Nat) ^ d ≤ 2 ^ 17:=Vb (by decide) hd
  exact_mod_cast this
 have p3 : (0 : Int) < 2 ^ d:=Int.pow_pos (by decide)
 have p4 : D * 2 ^ d ≤ 2 ^ 40 * 2 ^ 17:=Wg h1 p2 (by lia) (by decide)
 have p5 : 0 < D * 2 ^ d:=Wa h0 p3
 have z : x = UE p (D * 2 ^ d):=(Nm.div_eq (by lia) (by rw [← e,UN,Rat.intCast_pow]; rfl)).symm
 rw [z]
 exact RB.div (m:=0) (by unfold Bd; lia) (by unfold Bd; lia) (by lia)
theorem Dy.start {x y : Rat} (h1 : RB 20 x) (h2 : RB 20 y) : ∃ D : Int,0 < D ∧ D ≤ 2 ^ 40 ∧ Dy D 0 x ∧ Dy D 0 y:=by
 have a1 : x.num.natAbs < 2 ^ 20:=h1.1
 have a2 : ((x.den : Int)).natAbs < 2 ^ 20:=h1.2
 have b1 : y.num.natAbs < 2 ^ 20:=h2.1
 have b2 : ((y.den : Int)).natAbs < 2 ^ 20:=h2.2
 have hd : 0 < x.den:=x.den_pos
 have he : 0 < y.den:=y.den_pos
 have m1 : (x.den : Int) * (y.den : Int) ≤ 2 ^ 20 * 2 ^ 20:=Wg (by lia) (by lia) (by lia) (by decide)
 have n1:=Nm.num_mul x
 have n2:=Nm.num_mul y
 refine ⟨(x.den : Int) * (y.den : Int),Wa (by lia) (by lia),by lia,⟨x.num * (y.den : Int),?_,?_⟩,⟨y.num * (x.den : Int),?_,?_⟩⟩
 ·rw [UO,VT,UN,UN,n1]; grind
 ·rw [Vc]
  exact Tr (VU (show _ ≤ 2 ^ 20 by lia) (show _ ≤ 2 ^ 20 by lia)) (by decide)
 ·rw [UO,VT,UN,UN,n2]; grind
 ·rw [Vc]
  exact Tr (VU (show _ ≤ 2 ^ 20 by lia) (show _ ≤ 2 ^ 20 by lia)) (by decide)
theorem NP {lo : Int} {n : Nat} {js : List Nat} {tc : TT} {te : TE} {σ : St} {H : Hp} {Fin : List V → Hp → Prop} (Pv : Nat → List V → Hp → Prop) (h0 : Pv 0 [] H) (hl : ∀ i zs H,i ≤ n → Pv i zs H → zs.length ≤ i) (hz : n ≤ sizeLine)
 (hs : ∀ i zs H,i < n → Pv i zs H → tc ((cS 1 js σ).set 0 (some (.int (lo + i)))) H fun b H3=>if b = true then te ((cS 1 js σ).set 0 (some (.int (lo + i)))) H3 fun y H4=>Pv (i + 1) (zs ++ [y]) H4 else Pv (i + 1) zs H3) (fin : ∀ zs H',Pv n zs H' → Fin zs H') :
 ∃ (n' : Nat) (W : Nat → List V → Hp → Prop),W 0 [] H ∧ LcW (Itr lo n) n' 1 js σ (C6 0) tc te Fin W:=by
 refine ⟨n,Pv,h0,⟨?_,?_,?_⟩⟩
 ·intro i zs H' hi p
  have:=hl i zs H' (Ts hi) p
  exact ⟨hi,by lia⟩
 ·rintro i zs H' x H1 hi p ⟨rfl,rfl⟩
  exact hs i zs _ hi p
 ·intro zs H' p
  have:=hl n zs H' (TL _) p
  exact ⟨TL _,by lia,fin zs H' p⟩
theorem N9 {l : List Int} {i : Nat} (h : i + 1 < l.length) : adj (l.take (i + 2)) = adj (l.take (i + 1)) + (if (decide (0 < l.getD (i + 1) 0) != decide (0 < l.getD i 0)) = true then 1 else 0):=by
 have e1 : l.take (i + 1) = l.take i ++ [l.getD i 0]:=by rw [UT,Bp (by lia)]; rfl
 have e2 : l.take (i + 2) = l.take i ++ [l.getD i 0,l.getD (i + 1) 0]:=by rw [UT,e1,Bp h]; simp
 rw [e1,e2,Jk]
inductive Nv (K : Tq) (vs : List V) (H : Hp) (Q : VK) (E_3 : XK) : Prop
 | mk (l : Addr) (ts : List Int) (h1 : vs = [.ref l]) (h2 : SqL K H l (ts.map V.int)) (h3 : ts.length ≤ 1000) (h4 : ∀ H',Ag H H' → Q (.int ((chF 0 ts : Nat) : Int)) H') : Nv K vs H Q E_3
inductive CZ (K : Tq) (vs : List V) (H : Hp) (Q : VK) (E_3 : XK) : Prop
 | mk (p rl rh rt : Addr) (lo hi : Rat) (ts : List Int) (d : Nat) (h1 : vs = [.ref p]) (h2 : SqT K H p [.ref rl,.ref rh,.ref rt,.int (d : Int)]) (h3 : AA K H (.ref rl) lo) (h4 : AA K H (.ref rh) hi) (h5 : RB 80 lo) (h6 : RB 80 hi) (h7 : H rt = some (.lst (ts.map V.int))) (h8 : ts.length ≤ 20) (h9 : d ≠ 16) (h10 : ∀ (u p1 p2 rm la lb : Addr) (H' : Hp),Ag H H' → H' u = some (.lst [.ref p1,.ref p2]) → SqT K H' p1 [.ref rm,.ref rh,.ref lb,.int ((d + 1 : Nat) : Int)] → SqT K H' p2 [.ref rl,.ref rm,.ref la,.int ((d + 1 : Nat) : Int)] → AA K H' (.ref rm) ((lo + hi) * hf) → H' la = some (.lst ((CM ts ts.length).map V.int)) → H' lb = some (.lst ((upI ts ts.length).map V.int)) → Q (.ref u) H') : CZ K vs H Q E_3
inductive CF (K : Tq) (C : Addr) (vs : List V) (H : Hp) (E_2 : VK) (E : XK) : Prop
 | mk (p : Addr) (x y z : V) (h1 : vs = [.ref p]) (h2 : SqT K H p [x,y,z,.int 16]) (h3 : E (.ref C) none H) : CF K C vs H E_2 E
def PcV (K : Tq) (H : Hp) (v : V) (t : Pc) : Prop:=∃ p rl rh : Addr,v = .ref p ∧ SqT K H p [.ref rl,.ref rh,.int ((t.2.2 : Nat) : Int)] ∧ AA K H (.ref rl) t.1 ∧ AA K H (.ref rh) t.2.1
abbrev Pcs (K : Tq) (H : Hp) : List V → List Pc → Prop:=Paired (PcV K H)
theorem PcV.same {K : Tq} {H H' : Hp} {v : V} {t : Pc} (h : PcV K H v t) (s : Ag H H') : PcV K H' v t:=let ⟨p,a,b,e,h1,h2,h3⟩:=h; ⟨p,a,b,e,h1.same s,h2.same s,h3.same s⟩
theorem PcV.put {K : Tq} {H : Hp} {v : V} {t : Pc} {p : Addr} {ys : List V} {o : HO} (h : PcV K H v t) (hp : H p = some (.lst ys)) : PcV K (upd H p o) v t:=let ⟨p,a,b,e,h1,h2,h3⟩:=h; ⟨p,a,b,e,h1.put hp,h2.put hp,h3.put hp⟩
theorem Pcs.same {K : Tq} {H H' : Hp} {ys : List V} {ts : List Pc} (h : Pcs K H ys ts) (s : Ag H H') : Pcs K H' ys ts:=Paired.mapP h fun _ _ z=>z.same s
theorem Pcs.put {K : Tq} {H : Hp} {ys : List V} {ts : List Pc} {p : Addr} {xs : List V} {o : HO} (h : Pcs K H ys ts) (hp : H p = some (.lst xs)) : Pcs K (upd H p o) ys ts:=Paired.mapP h fun _ _ z=>z.put hp
inductive Cb (K : Tq) (C : Addr) (vs : List V) (H : Hp) (Q : VK) (E : XK) : Prop
 | mk (r rl rh : Addr) (fs ls : List Rat) (lo hi : Rat) (n : Nat) (h1 : vs = [.ref r,.ref rl,.ref rh]) (h2 : Crv K H r fs) (h3 : AO fs) (h4 : fs ≠ []) (h5 : (∀ q ∈ fs,RB n q)) (h6 : 1 ≤ n) (h7 : n ≤ 1000) (h8 : fs.length ≤ 6) (h9 : (∀ g os,DQ fs (Co fs) g → AO os → (∀ x,Cv.ev fs x = Cv.ev os x * Cv.ev g x) → os = ls)) (h10 : (∀ q ∈ ls,RB 100 q)) (h11 : ls.length ≤ 6) (h12 : AA K H (.ref rl) lo) (h13 : AA K H (.ref rh) hi) (h14 : lo < hi) (h15 : RB 20 lo) (h16 : RB 20 hi) (h17 : (∀ (ps : List Pc) (p : Addr) (H' : Hp) (ys : List V),pcs ls 16 lo hi = some ps → Ag H H' → H p = none → H' p = some (.lst ys) → Pcs K H' ys ps → Q (.ref p) H')) (h18 : (∀ H',pcs ls 16 lo hi = none → Ag H H' → E (.ref C) none H')) : Cb K C vs H Q E
theorem NK {H : Hp} {w a : Addr} {ws : List V} {ns : List Int} (h1 : H w = some (.lst ws)) (h2 : H a = some (.lst (ns.map V.int))) (hr : ∀ v ∈ ws,∃ r,v = .ref r) (hn : ns ≠ []) : a ≠ w:=fun z=>by
 rw [z,h1] at h2
 have e : ws = ns.map V.int:=HO.lst.inj (Tb.inj h2)
 cases ns with
 | nil=>exact hn rfl
 | cons t r =>
   obtain ⟨r,hr⟩:=hr (.int t) (by rw [e]; exact Tu)
   cases hr
def PcI (K : Tq) (cs : List Rat) (D : Int) (H : Hp) (v : V) (t : Wt) : Prop:=∃ (p rl rh rt : Addr) (ts : List Int),v = .ref p ∧ SqT K H p [.ref rl,.ref rh,.ref rt,.int ((t.2.2 : Nat) : Int)] ∧ AA K H (.ref rl) t.1 ∧ AA K H (.ref rh) t.2.1 ∧ H rt = some (.lst (ts.map V.int)) ∧ ts ≠ [] ∧ ts.length ≤ 20 ∧ Tp ts (L2.hts cs t.1 t.2.1) ∧ Dy D t.2.2 t.1 ∧ Dy D t.2.2 t.2.1 ∧ t.2.2 ≤ 16
theorem PcI.same {K : Tq} {cs : List Rat} {D : Int} {H H' : Hp} {v : V} {t : Wt} (h : PcI K cs D H v t) (s : Ag H H') : PcI K cs D H' v t:=let ⟨p,a,b,c,ts,e,h1,h2,h3,h4,h5⟩:=h; ⟨p,a,b,c,ts,e,h1.same s,h2.same s,h3.same s,s _ _ h4,h5⟩
theorem PcI.put {K : Tq} {cs : List Rat} {D : Int} {H : Hp} {v : V} {t : Wt} {w : Addr} {ws : List V} {o : HO} (h : PcI K cs D H v t) (hw : H w = some (.lst ws)) (hr : ∀ v ∈ ws,∃ r,v = .ref r) : PcI K cs D (upd H w o) v t:=by
 obtain ⟨p,a,b,c,ts,e,h1,h2,h3,h4,h5,h6⟩:=h
 exact ⟨p,a,b,c,ts,e,h1.put hw,h2.put hw,h3.put hw,by rw [Aw (NK hw h4 hr h5)]; exact h4,h5,h6⟩
theorem PcI.refs {K : Tq} {cs : List Rat} {D : Int} {H : Hp} {ws : List V} {st : List Wt} (h : Paired (PcI K cs D H) ws st) : ∀ v ∈ ws,∃ r,v = .ref r:=fun v hv=>by
 obtain ⟨i,hi⟩:=VY hv
 obtain ⟨t,_,p,_,_,_,_,e,_⟩:=Paired.get h hi
 exact ⟨p,e⟩
theorem Pcs.refs {K : Tq} {H : Hp} {ys : List V} {ts : List Pc} (h : Pcs K H ys ts) : ∀ v ∈ ys,∃ r,v = .ref r:=fun v hv=>by
 obtain ⟨i,hi⟩:=VY hv
 obtain ⟨t,_,p,_,_,e,_⟩:=Paired.get h hi
 exact ⟨p,e⟩
theorem EV {α β : Type} {F : α → β → Prop} {f : β → α} : ∀ l : List β,(∀ b ∈ l,F (f b) b) → Paired F (l.map f) l
 | [],_=>.nil
 | b :: r,h=>.cons (h b Tu) (EV r fun c hc=>h c (Tv _ hc))
theorem K2 : ∀ st : List Wt,(∀ t ∈ st,t.2.2 ≤ 16) → st.length ≤ wgt st
 | [],_=>TL _
 | t :: r,h=>by
   have ih:=K2 r fun c hc=>h c (Tv _ hc)
   have ht:=h t Tu
   have h2 : 2 ^ 2 ≤ 2 ^ (18 - t.2.2):=Vb (by decide) (by lia)
   show r.length + 1 ≤ 2 ^ (18 - t.2.2) - 1 + wgt r
   lia
theorem PcI.deep {K : Tq} {cs : List Rat} {D : Int} {H : Hp} {ws : List V} {st : List Wt} (h : Paired (PcI K cs D H) ws st) : ∀ t ∈ st,t.2.2 ≤ 16:=fun t ht=>by
 obtain ⟨i,hi⟩:=VY ht
 obtain ⟨v,_,_,_,_,_,_,_,_,_,_,_,_,_,_,_,_,hd⟩:=Paired.get' h hi
 exact hd
theorem Nj (d : Nat) (h : d < 16) : 2 ^ (18 - (d + 1)) - 1 + (2 ^ (18 - (d + 1)) - 1) < 2 ^ (18 - d) - 1:=by
 rw [show 18 - d = 18 - (d + 1) + 1 by lia,Ve]
 have : 1 ≤ 2 ^ (18 - (d + 1)):=Vt
 lia
theorem LJ (cs : List Rat) (lo hi : Rat) : pcs cs 16 lo hi = (com cs [(lo,hi,0)]).map ([] ++ ·):=by
 show _ = (match pcs cs 16 lo hi with | none=>none | some a=>some (a ++ [])).map ([] ++ ·)
 cases pcs cs 16 lo hi with
 | none=>rfl
 | some a=>show _ = some ([] ++ (a ++ [])); rw [U1,List.nil_append]
theorem map_map {o : Option (List Pc)} {f g : List Pc} : (o.map (g ++ ·)).map (f ++ ·) = o.map ((f ++ g) ++ ·):=by
 cases o with
 | none=>rfl
 | some a=>show some (f ++ (g ++ a)) = some (f ++ g ++ a); rw [Us]
theorem BY {u : Rat} (h : 0 < u) : ∀ k : Nat,0 < u ^ k
 | 0=>by rw [UO]; decide
 | k + 1=>by rw [UP]; exact Wh (BY h k) h
theorem Mj {u v : Rat} (h : 0 < u) (huv : u < v) : ∀ k : Nat,u ^ k ≤ v ^ k
 | 0=>by rw [UO,UO]; exact Wi
 | k + 1=>by
   have ih:=Mj h huv k
   have p:=BY h k
   rw [UP,UP]
   have h1:=Rat.mul_le_mul_of_nonneg_right ih (Wj h)
   have h2:=Wk (a:=v ^ k) (b:=v - u) (Rat.le_trans (Wj p) ih) (by grind)
   grind
theorem Qw {u v : Rat} (h : 0 < u) (huv : u < v) (k : Nat) : u ^ (k + 1) < v ^ (k + 1):=by
 have ih:=Mj h huv k
 have p:=BY h k
 rw [UP,UP]
 have h1:=Wh (a:=u ^ k) (b:=v - u) p (by grind)
 have h2:=Wk (a:=v ^ k - u ^ k) (b:=v) (by grind) (by grind)
 grind
theorem Mh {u : Rat} (h : 0 < u) (h1 : u ≤ 1) : ∀ k : Nat,u ^ k ≤ 1
 | 0=>by rw [UO]; exact Wi
 | k + 1=>by
   have ih:=Mh h h1 k
   rw [UP]
   have:=Wk (a:=1 - u ^ k) (b:=u) (by grind) (Wj h)
   grind
theorem JQ {c : Nat → Rat} {u : Rat} (hu : 0 < u) : ∀ N,(∀ i,i < N → 0 ≤ c i) → 0 ≤ L2.evF c u N
 | 0,_=>by show (0 : Rat) ≤ 0; exact Wi
 | N + 1,h=>by
   show 0 ≤ L2.evF c u N + c N * u ^ N
   have a:=JQ hu N fun i hi=>h i (by lia)
   have b:=Wk (h N (by lia)) (Wj (BY hu N))
   grind
theorem Ic {c : Nat → Rat} {u : Rat} (hu : 0 < u) {j : Nat} : ∀ N,(∀ i,i < N → 0 ≤ c i) → j < N → 0 < c j → 0 < L2.evF c u N
 | 0,_,hj,_=>by lia
 | N + 1,h,hj,hc=>by
   show 0 < L2.evF c u N + c N * u ^ N
   by_cases e : j = N
   ·subst e
    have a:=JQ hu j fun i hi=>h i (by lia)
    have b:=Wh hc (BY hu j)
    grind
   ·have a:=Ic hu N (fun i hi=>h i (by lia)) (by lia) hc
    have b:=Wk (h N (by lia)) (Wj (BY hu N))
    grind
theorem DM {c : Nat → Rat} {u : Rat} : ∀ N,L2.evF (fun i=>-c i) u N = -L2.evF c u N
 | 0=>by show (0 : Rat) = -0; grind
 | N + 1=>by
   show L2.evF (fun i=>-c i) u N + -c N * u ^ N = -(L2.evF c u N + c N * u ^ N)
   rw [DM N]; grind
theorem Kv {c : Nat → Rat} {u v : Rat} {m : Nat} (hu : 0 < u) (huv : u < v) : ∀ N,(∀ i,i < N → i < m → 0 ≤ c i) → (∀ i,i < N → m ≤ i → c i ≤ 0) →
 0 ≤ L2.evF c u N * v ^ m - L2.evF c v N * u ^ m ∧ ((∃ j,j < N ∧ j < m ∧ 0 < c j) → 0 < L2.evF c u N * v ^ m - L2.evF c v N * u ^ m)
 | 0,_,_=>⟨by show (0 : Rat) ≤ 0 * _ - 0 * _; grind,fun ⟨j,hj,_⟩=>by lia⟩
 | N + 1,h1,h2=>by
   obtain ⟨ih1,ih2⟩:=Kv (c:=c) (m:=m) hu huv N (fun i hi=>h1 i (by lia)) fun i hi=>h2 i (by lia)
   have hv : 0 < v:=by grind
   have e : L2.evF c u (N + 1) * v ^ m - L2.evF c v (N + 1) * u ^ m = (L2.evF c u N * v ^ m - L2.evF c v N * u ^ m) + c N * (u ^ N * v ^ m - v ^ N * u ^ m):=by
    show (L2.evF c u N + c N * u ^ N) * v ^ m - (L2.evF c v N + c N * v ^ N) * u ^ m = _
    grind
   rw [e]
   by_cases hm : N < m
   ·have p1 : 0 < u ^ N * v ^ m - v ^ N * u ^ m:=by
     obtain ⟨k,rfl⟩ : ∃ k,m = N + (k + 1):=⟨m - N - 1,by lia⟩
     have a:=Wh (BY hu N) (BY hv N)
     have b:=Qw hu huv k
     have:=Wh a (show 0 < v ^ (k + 1) - u ^ (k + 1) by grind)
     rw [Nm.pow_add v N (k + 1),Nm.pow_add u N (k + 1)]
     generalize u ^ N = A at this ⊢
     generalize v ^ N = B at this ⊢
     generalize u ^ (k + 1) = C at this ⊢
     generalize v ^ (k + 1) = D at this ⊢
     grind
    have c0:=h1 N (by lia) hm
    have t0:=Wk c0 (Wj p1)
    refine ⟨by grind,fun ⟨j,hj,hjm,hc⟩=>?_⟩
    by_cases ej : j = N
    ·subst ej
     have:=Wh hc p1
     grind
    ·have:=ih2 ⟨j,by lia,hjm,hc⟩
     grind
   ·have p1 : u ^ N * v ^ m - v ^ N * u ^ m ≤ 0:=by
     obtain ⟨k,rfl⟩ : ∃ k,N = m + k:=⟨N - m,by lia⟩
     have a:=Wh (BY hu m) (BY hv m)
     have b:=Mj hu huv k
     have:=Wk (Wj a) (show 0 ≤ v ^ k - u ^ k by grind)
     rw [Nm.pow_add u m k,Nm.pow_add v m k]
     generalize u ^ m = A at this ⊢
     generalize v ^ m = B at this ⊢
     generalize u ^ k = C at this ⊢
     generalize v ^ k = D at this ⊢
     grind
    have c0:=h2 N (by lia) (by lia)
    have t0:=Wk (a:=-c N) (b:=-(u ^ N * v ^ m - v ^ N * u ^ m)) (by grind) (by grind)
    refine ⟨by grind,fun ⟨j,hj,hjm,hc⟩=>?_⟩
    have:=ih2 ⟨j,by lia,hjm,hc⟩
    grind
def abF (c : Nat → Rat) : Nat → Rat
 | 0=>0
 | N + 1=>abF c N + (if 0 ≤ c N then c N else -c N)
theorem JU (c : Nat → Rat) : ∀ N,0 ≤ abF c N
 | 0=>by show (0 : Rat) ≤ 0; exact Wi
 | N + 1=>by
   have:=JU c N
   show 0 ≤ abF c N + (if 0 ≤ c N then c N else -c N)
   split <;> grind
theorem J7 {c : Nat → Rat} {u : Rat} {j : Nat} (hu : 0 < u) (h1 : u ≤ 1) : ∀ N,(∀ i,i < N → i ≤ j → 0 ≤ c i) → j < N → c j * u ^ j - abF c N * u ^ (j + 1) ≤ L2.evF c u N
 | 0,_,hj=>by lia
 | N + 1,h,hj=>by
   show _ - (abF c N + (if 0 ≤ c N then c N else -c N)) * u ^ (j + 1) ≤ L2.evF c u N + c N * u ^ N
   have pj:=BY hu (j + 1)
   by_cases e : j = N
   ·subst e
    have a:=JQ hu j fun i hi=>h i (by lia) (by lia)
    have b:=Wk (JU c j) (Wj pj)
    have d : 0 ≤ (if 0 ≤ c j then c j else -c j) * u ^ (j + 1):=by split <;> (refine Wk ?_ (Wj pj); grind)
    grind
   ·have ih:=J7 (c:=c) (j:=j) hu h1 N (fun i hi=>h i (by lia)) (by lia)
    have hle : u ^ N ≤ u ^ (j + 1):=by
     obtain ⟨k,rfl⟩ : ∃ k,N = j + 1 + k:=⟨N - j - 1,by lia⟩
     rw [Nm.pow_add u (j + 1) k]
     have:=Mh hu h1 k
     have:=Wk (Wj pj) (show 0 ≤ 1 - u ^ k by grind)
     grind
    have pN:=BY hu N
    have d : -((if 0 ≤ c N then c N else -c N) * u ^ (j + 1)) ≤ c N * u ^ N:=by
     split
     ·rename_i h0
      have:=Wk h0 (Wj pj)
      have:=Wk h0 (Wj pN)
      grind
     ·rename_i h0
      have:=Wk (a:=-c N) (b:=u ^ (j + 1) - u ^ N) (by grind) (by grind)
      grind
    grind
theorem IM {c : Nat → Rat} {j N : Nat} (h : ∀ i,i < N → i ≤ j → 0 ≤ c i) (hj : j < N) (hc : 0 < c j) : ∃ u : Rat,0 < u ∧ 0 < L2.evF c u N:=by
 have ha:=JU c N
 have hs : 0 < abF c N + c j:=by grind
 have hi:=VR _ (show abF c N + c j ≠ 0 by grind)
 have ip : 0 < (abF c N + c j)⁻¹:=by
  have:=Ws.mpr hs
  exact this
 refine ⟨c j * (abF c N + c j)⁻¹,Wh hc ip,?_⟩
 have hu:=Wh hc ip
 generalize hU : c j * (abF c N + c j)⁻¹ = u at hu ⊢
 have eU : u * (abF c N + c j) = c j:=by rw [← hU,VS,Vy (abF c N + c j)⁻¹,hi,VT]
 have u1 : u ≤ 1:=by
  have:=Wk ha (Wj ip)
  have e : u + abF c N * (abF c N + c j)⁻¹ = 1:=by rw [← hU,← Rat.add_mul,Rat.add_comm (c j),hi]
  grind
 have k:=J7 hu u1 N h hj
 have p:=BY hu j
 have q : c j * u ^ j - abF c N * u ^ (j + 1) = (u * c j) * u ^ j:=by
  rw [UP]
  have : c j = u * abF c N + u * c j:=by rw [← Rat.mul_add]; exact eU.symm
  have e2 : c j * u ^ j - abF c N * (u ^ j * u) = (c j - u * abF c N) * u ^ j:=by grind
  rw [e2]
  congr 1
  grind
 have:=Wh (Wh hu hc) p
 grind
theorem Fq : ∀ (ts : List Int) (l : Int),chF (-l) (ts.map fun t=>-t) = chF l ts
 | [],_=>rfl
 | t :: r,l=>by
   show (if -t = 0 then chF (-l) (r.map fun t=>-t) else (if -l * -t < 0 then 1 else 0) + chF (-t) (r.map fun t=>-t)) = if t = 0 then chF l r else (if l * t < 0 then 1 else 0) + chF t r
   rw [Fq r l,Fq r t,Int.neg_mul_neg]
   by_cases h : t = 0
   ·rw [if_pos (by lia),if_pos h]
   ·rw [if_neg (by lia),if_neg h]
theorem ch0 : ∀ (ts : List Int) (l : Int),0 < l → chF l ts = 0 → ∀ t ∈ ts,0 ≤ t
 | [],_,_,_=>fun _ h=>nomatch h
 | t :: r,l,hl,h=>by
   have h : (if t = 0 then chF l r else (if l * t < 0 then 1 else 0) + chF t r) = 0:=h
   have key : 0 ≤ t ∧ ∀ s ∈ r,0 ≤ s:=by
    by_cases h0 : t = 0
    ·rw [if_pos h0] at h
     exact ⟨by lia,ch0 r l hl h⟩
    ·rw [if_neg h0] at h
     have hn : ¬ l * t < 0:=fun z=>by rw [if_pos z] at h; lia
     rw [if_neg hn] at h
     have ht : 0 < t:=by
      have : ¬ t < 0:=fun z=>hn (W9 hl z)
      lia
     exact ⟨by lia,ch0 r t ht (by lia)⟩
   intro s hs
   rcases Tw.mp hs with z | z
   ·rw [z]; exact key.1
   ·exact key.2 s z
theorem Ej (ts : List Int) (i : Nat) : (ts.map fun t=>-t).getD i 0 = -ts.getD i 0:=by
 rw [V2,V2,Uc]
 cases ts[i]? with
 | none=>rfl
 | some t=>rfl
theorem Jj {ts : List Int} (h : ∀ t ∈ ts,0 ≤ t) (i : Nat) : 0 ≤ ts.getD i 0:=by
 rw [V2]
 cases e : ts[i]? with
 | none=>exact Wu _
 | some t=>exact h t (Ud e)
theorem QP (ts : List Int) (l : Int) (hl : l < 0) (h : chF l ts = 0) (i : Nat) : ts.getD i 0 ≤ 0:=by
 have e:=Fq ts l
 rw [h] at e
 have:=Jj (ch0 _ (-l) (by lia) e) i
 rw [Ej] at this
 lia
theorem ch1 : ∀ (ts : List Int) (l : Int),0 < l → chF l ts = 1 → ∃ m,m < ts.length ∧ ts.getD m 0 < 0 ∧ (∀ i,i < m → 0 ≤ ts.getD i 0) ∧ ∀ i,m ≤ i → ts.getD i 0 ≤ 0
 | [],_,_,h=>by cases h
 | t :: r,l,hl,h=>by
   have h : (if t = 0 then chF l r else (if l * t < 0 then 1 else 0) + chF t r) = 1:=h
   have up : ∀ m,0 ≤ t → (m < r.length ∧ r.getD m 0 < 0 ∧ (∀ i,i < m → 0 ≤ r.getD i 0) ∧ ∀ i,m ≤ i → r.getD i 0 ≤ 0) → ∃ m,m < (t :: r).length ∧ (t :: r).getD m 0 < 0 ∧ (∀ i,i < m → 0 ≤ (t :: r).getD i 0) ∧ ∀ i,m ≤ i → (t :: r).getD i 0 ≤ 0:=fun m ht ⟨h1,h2,h3,h4⟩=>⟨m + 1,by simpa using h1,h2,fun i hi=>by
    cases i with
    | zero=>exact ht
    | succ i=>exact h3 i (by lia),fun i hi=>by
    cases i with
    | zero=>lia
    | succ i=>exact h4 i (by lia)⟩
   by_cases h0 : t = 0
   ·rw [if_pos h0] at h
    obtain ⟨m,hm⟩:=ch1 r l hl h
    exact up m (by lia) hm
   ·rw [if_neg h0] at h
    by_cases hn : l * t < 0
    ·rw [if_pos hn] at h
     have ht : t < 0:=by
      have : ¬ 0 < t:=fun z=>by have:=Wa hl z; lia
      lia
     have hr:=QP r t ht (by lia)
     exact ⟨0,by simp,ht,fun i hi=>by lia,fun i _=>by
      cases i with
      | zero=>exact Int.le_of_lt ht
      | succ i=>exact hr i⟩
    ·rw [if_neg hn] at h
     have ht : 0 < t:=by
      have : ¬ t < 0:=fun z=>hn (W9 hl z)
      lia
     obtain ⟨m,hm⟩:=ch1 r t ht (by lia)
     exact up m (by lia) hm
def Chg (ts : List Int) : Prop:=∃ j m,j < m ∧ m < ts.length ∧ 0 < ts.getD j 0 ∧ ts.getD m 0 < 0 ∧ (∀ i,i < m → 0 ≤ ts.getD i 0) ∧ ∀ i,m ≤ i → ts.getD i 0 ≤ 0
theorem Chg.cons {ts : List Int} (h : Chg ts) : Chg (0 :: ts):=by
 obtain ⟨j,m,h1,h2,h3,h4,h5,h6⟩:=h
 refine ⟨j + 1,m + 1,by lia,by simpa using h2,h3,h4,fun i hi=>?_,fun i hi=>?_⟩
 ·cases i with
  | zero=>exact Wu _
  | succ i=>exact h5 i (by lia)
 ·cases i with
  | zero=>lia
  | succ i=>exact h6 i (by lia)
theorem KI {t : Int} {r : List Int} (ht : 0 < t) (h : chF t r = 1) : Chg (t :: r):=by
 obtain ⟨m,h1,h2,h3,h4⟩:=ch1 r t ht h
 refine ⟨0,m + 1,by lia,by simpa using h1,ht,h2,fun i hi=>?_,fun i hi=>?_⟩
 ·cases i with
  | zero=>exact Int.le_of_lt ht
  | succ i=>exact h3 i (by lia)
 ·cases i with
  | zero=>lia
  | succ i=>exact h4 i (by lia)
theorem sg1 : ∀ ts : List Int,chF 0 ts = 1 → Chg ts ∨ Chg (ts.map fun t=>-t)
 | [],h=>by cases h
 | t :: r,h=>by
   have h : (if t = 0 then chF 0 r else (if 0 * t < 0 then 1 else 0) + chF t r) = 1:=h
   by_cases h0 : t = 0
   ·rw [if_pos h0] at h
    subst h0
    rcases sg1 r h with z | z
    ·exact .inl z.cons
    ·exact .inr z.cons
   ·rw [if_neg h0,Int.zero_mul,if_neg (by decide),Vx] at h
    by_cases ht : 0 < t
    ·exact .inl (KI ht h)
    ·refine .inr (KI (t:=-t) (by lia) ?_)
     rw [Fq]; exact h
theorem sg0 : ∀ ts : List Int,chF 0 ts = 0 → (∀ i,0 ≤ ts.getD i 0) ∨ ∀ i,ts.getD i 0 ≤ 0
 | [],_=>.inl fun i=>Wu _
 | t :: r,h=>by
   have h : (if t = 0 then chF 0 r else (if 0 * t < 0 then 1 else 0) + chF t r) = 0:=h
   by_cases h0 : t = 0
   ·rw [if_pos h0] at h
    subst h0
    rcases sg0 r h with z | z
    ·exact .inl fun i=>by
      cases i with
      | zero=>exact Wu _
      | succ i=>exact z i
    ·exact .inr fun i=>by
      cases i with
      | zero=>exact Wu _
      | succ i=>exact z i
   ·rw [if_neg h0,Int.zero_mul,if_neg (by decide),Vx] at h
    by_cases ht : 0 < t
    ·have:=ch0 r t ht h
     exact .inl fun i=>by
      cases i with
      | zero=>exact Int.le_of_lt ht
      | succ i=>exact Jj this i
    ·have:=QP r t (by lia) h
     exact .inr fun i=>by
      cases i with
      | zero=>show t ≤ 0; lia
      | succ i=>exact this i
theorem Nh {t u : Rat} (h : u * (1 - t) = t) (f : Nat → Rat) : ∀ n i,L2.Cn t n f i = (1 - t) ^ n * L2.Bn u n f i
 | 0,i=>by show f i = _ * f i; rw [UO,VB]
 | n + 1,i=>by
   show L2.Cn t n f i * (1 - t) + L2.Cn t n f (i + 1) * t = (1 - t) ^ (n + 1) * (L2.Bn u n f i + u * L2.Bn u n f (i + 1))
   rw [Nh h f n i,Nh h f n (i + 1),UP]
   generalize (1 - t) ^ n = A
   generalize L2.Bn u n f i = B
   generalize L2.Bn u n f (i + 1) = C
   have e : A * C * t = A * C * (u * (1 - t)):=by rw [h]
   rw [e]; grind
def wtd (hs : List Rat) (i : Nat) : Rat:=((L2.ch (hs.length - 1) i : Nat) : Rat) * hs.getD i 0
theorem MU (cs : List Rat) (lo hi : Rat) {x u : Rat} (hlt : lo < hi) (hx : x < hi) (hu : u * (hi - x) = x - lo) : ∃ k : Rat,0 < k ∧ Cv.ev cs x = k * L2.evF (wtd (L2.hts cs lo hi)) u (L2.hts cs lo hi).length:=by
 have hl:=L2.BR cs lo hi
 have d0 : 0 < hi - lo:=by grind
 have di:=VR _ (show hi - lo ≠ 0 by grind)
 have dp : 0 < (hi - lo)⁻¹:=Ws.mpr d0
 obtain ⟨t,et⟩ : ∃ t,t = (x - lo) * (hi - lo)⁻¹:=⟨_,rfl⟩
 have e1 : 1 - t = (hi - x) * (hi - lo)⁻¹:=by rw [et]; grind
 have e2 : u * (1 - t) = t:=by rw [e1,← VS,hu,et]
 have ex : lo + (hi - lo) * t = x:=by rw [et]; grind
 have p1 : 0 < 1 - t:=by rw [e1]; exact Wh (by grind) dp
 refine ⟨(1 - t) ^ ((L2.hts cs lo hi).length - 1),BY p1 _,?_⟩
 have h:=EO cs lo hi t
 rw [ex,Nh e2,L2.Jn] at h
 rw [← h]
 rw [show (L2.hts cs lo hi).length - 1 + 1 = (L2.hts cs lo hi).length by lia]
 congr 1
 exact L2.CH u _ fun i _=>by show _ * (L2.hts cs lo hi).getD (0 + i) 0 = _; rw [Vx]; rfl
theorem Q7 {lo hi x : Rat} (h1 : lo < x) (h2 : x < hi) : ∃ u : Rat,0 < u ∧ u * (hi - x) = x - lo:=by
 have di:=VR _ (show hi - x ≠ 0 by grind)
 have dp : 0 < (hi - x)⁻¹:=Ws.mpr (by grind)
 refine ⟨(x - lo) * (hi - x)⁻¹,Wh (by grind) dp,?_⟩
 rw [VS,Vy (hi - x)⁻¹,di,VT]
theorem QZ {lo hi x y u v : Rat} (h1 : lo < x) (h2 : x < y) (h3 : y < hi) (hv0 : 0 < v) (hu : u * (hi - x) = x - lo) (hv : v * (hi - y) = y - lo) : u < v:=by
 have e : (1 + u) * (hi - x) = (1 + v) * (hi - y):=by grind
 have a : 0 < (1 + v) * (y - x):=Wh (by grind) (by grind)
 have b : (v - u) * (hi - x) = (1 + v) * (y - x):=by grind
 have c : 0 < (v - u) * (hi - x):=by rw [b]; exact a
 have : ¬ v ≤ u:=fun z=>by
  have:=Wk (a:=u - v) (b:=hi - x) (by grind) (by grind)
  grind
 grind
theorem QS {lo hi u : Rat} (hlt : lo < hi) (hu : 0 < u) : ∃ x : Rat,lo < x ∧ x < hi ∧ u * (hi - x) = x - lo:=by
 have di:=VR _ (show 1 + u ≠ 0 by grind)
 have dp : 0 < (1 + u)⁻¹:=Ws.mpr (by grind)
 have a : 0 < (hi - lo) * (1 + u)⁻¹:=Wh (by grind) dp
 have b : 0 < u * ((hi - lo) * (1 + u)⁻¹):=Wh hu a
 refine ⟨hi - (hi - lo) * (1 + u)⁻¹,?_,by grind,?_⟩
 ·have : (1 + u) * ((hi - lo) * (1 + u)⁻¹) = hi - lo:=by rw [Vy (hi - lo),← VS,di,VB]
  grind
 ·have : (1 + u) * ((hi - lo) * (1 + u)⁻¹) = hi - lo:=by rw [Vy (hi - lo),← VS,di,VB]
  grind
theorem Kw (d : Nat → Rat) {w v : Rat} (hw : v * w = 1) : ∀ n,L2.evF (fun i=>d (n - i)) w (n + 1) = w ^ n * L2.evF d v (n + 1)
 | 0=>by show 0 + d 0 * w ^ 0 = w ^ 0 * (0 + d 0 * v ^ 0); rw [UO,UO]; grind
 | n + 1=>by
   have ih:=Kw d hw n
   rw [L2.DE]
   have e : L2.evF (fun i=>d (n + 1 - (i + 1))) w (n + 1) = L2.evF (fun i=>d (n - i)) w (n + 1):=L2.CH w _ fun i _=>by rw [show n + 1 - (i + 1) = n - i by lia]
   rw [e,ih]
   show d (n + 1 - 0) + w * (w ^ n * L2.evF d v (n + 1)) = w ^ (n + 1) * (L2.evF d v (n + 1) + d (n + 1) * v ^ (n + 1))
   have p : w ^ (n + 1) * v ^ (n + 1) = 1:=by
    have : ∀ k : Nat,w ^ k * v ^ k = 1:=fun k=>by
     induction k with
     | zero=>rw [UO,UO,VB]
     | succ k ih =>
       rw [UP,UP]
       have : w ^ k * w * (v ^ k * v) = (w ^ k * v ^ k) * (v * w):=by grind
       rw [this,ih,hw,VB]
    exact this _
   rw [Vn]
   have q : w ^ (n + 1) = w ^ n * w:=UP ..
   generalize L2.evF d v (n + 1) = S
   generalize v ^ (n + 1) = B at p ⊢
   generalize w ^ (n + 1) = W at p q ⊢
   have : W * (S + d (n + 1) * B) = W * S + d (n + 1) * (W * B):=by grind
   rw [this,p,q]; grind
def inN (xs : List Rat) (lo hi : Rat) : Nat:=(xs.filter fun r=>decide (lo < r) && decide (r < hi)).length
structure Rts (l xs : List Rat) : Prop where
 gl : AO l
 nl : l ≠ []
 rt : ∀ r ∈ xs,Cv.ev l r = 0
 sg : ∀ x y,(∀ r ∈ xs,0 < (x - r) * (y - r)) → 0 < Cv.ev l x * Cv.ev l y
 nd : xs.Nodup
theorem Ci (hs : List Rat) (i : Nat) : (hs.map (·.num)).getD i 0 = (hs.getD i 0).num:=by
 rw [V2,V2,Uc]
 cases hs[i]? with
 | none=>rfl
 | some t=>rfl
theorem Jp {hs : List Rat} {i : Nat} (h : 0 ≤ (hs.getD i 0).num) : 0 ≤ wtd hs i:=by
 unfold wtd
 refine Wk ?_ (Wm.mp h)
 exact_mod_cast TQ _
theorem Jo {hs : List Rat} {i : Nat} (h : (hs.getD i 0).num ≤ 0) : wtd hs i ≤ 0:=by
 have : 0 ≤ -wtd hs i:=by
  unfold wtd
  have h1 : 0 ≤ -(hs.getD i 0):=Wm.mp (by rw [Wv]; lia)
  have:=Wk (show (0 : Rat) ≤ ((L2.ch (hs.length - 1) i : Nat) : Rat) by exact_mod_cast TQ _) h1
  grind
 grind
theorem QO {n i : Nat} (h : i ≤ n) : (0 : Rat) < ((L2.ch n i : Nat) : Rat):=by
 have:=L2.FX n i h
 exact_mod_cast this
theorem Hf {hs : List Rat} {i : Nat} (hi : i < hs.length) (h : 0 < (hs.getD i 0).num) : 0 < wtd hs i:=by
 unfold wtd
 exact Wh (QO (by lia)) (E7 (Wm.mp (by lia)) (by lia))
theorem Hg {hs : List Rat} {i : Nat} (hi : i < hs.length) (h : (hs.getD i 0).num < 0) : wtd hs i < 0:=by
 have : 0 < -wtd hs i:=by
  unfold wtd
  have h1 : 0 < -(hs.getD i 0):=E7 (Wm.mp (by rw [Wv]; lia)) (by rw [Wv]; lia)
  have:=Wh (QO (n:=hs.length - 1) (i:=i) (by lia)) h1
  grind
 grind
theorem MQ {l : List Rat} (gl : AO l) (nl : l ≠ []) {lo hi : Rat} (hlt : lo < hi) : ∃ j,j < (L2.hts l lo hi).length ∧ (L2.hts l lo hi).getD j 0 ≠ 0:=by
 by_cases h : ∃ j,j < (L2.hts l lo hi).length ∧ (L2.hts l lo hi).getD j 0 ≠ 0
 ·exact h
 exfalso
 have hl:=L2.BR l lo hi
 have z : ∀ i,(L2.hts l lo hi).getD i 0 = 0:=fun i=>by
  by_cases hi' : i < (L2.hts l lo hi).length
  ·by_cases e : (L2.hts l lo hi).getD i 0 = 0
   ·exact e
   ·exact absurd ⟨i,hi',e⟩ h
  ·rw [V2,Vs (by lia)]; rfl
 apply nl
 refine BB gl (.inl rfl) fun x=>?_
 have d0 : hi - lo ≠ 0:=by grind
 have di:=VR _ d0
 have e:=EO l lo hi ((x - lo) * (hi - lo)⁻¹)
 have ex : lo + (hi - lo) * ((x - lo) * (hi - lo)⁻¹) = x:=by grind
 rw [ex] at e
 have c0 : ∀ t n i,L2.Cn t n (fun _=>(0 : Rat)) i = 0:=fun t n=>by
  induction n with
  | zero=>intro i; rfl
  | succ n ih=>intro i; show L2.Cn t n _ i * (1 - t) + L2.Cn t n _ (i + 1) * t = 0; rw [ih,ih]; grind
 rw [← e,show (fun k=>(L2.hts l lo hi).getD k 0) = fun _=>(0 : Rat) from funext z,c0]
 rfl
theorem Rts.none {l xs : List Rat} (R : Rts l xs) {lo hi : Rat} (hlt : lo < hi) (h : VQ (L2.hts l lo hi) = 0) {r : Rat} (hr : r ∈ xs) (h1 : lo < r) (h2 : r < hi) : False:=by
 obtain ⟨j,hj,hj0⟩:=MQ R.gl R.nl hlt
 obtain ⟨u,hu,eu⟩:=Q7 h1 h2
 obtain ⟨k,hk,ek⟩:=MU l lo hi hlt h2 eu
 rw [R.rt r hr] at ek
 generalize L2.hts l lo hi = hs at *
 have hjn : (hs.getD j 0).num ≠ 0:=fun z=>hj0 (Wl.mp z)
 have ez : L2.evF (wtd hs) u hs.length = 0:=by
  rcases UY.mp ek.symm with z | z
  ·grind
  ·exact z
 rcases sg0 _ h with z | z
 ·have z' : ∀ i,0 ≤ (hs.getD i 0).num:=fun i=>by have:=z i; rw [Ci] at this; exact this
  have:=Ic (c:=wtd hs) hu (j:=j) hs.length (fun i _=>Jp (z' i)) hj (Hf hj (by have:=z' j; lia))
  grind
 ·have z' : ∀ i,(hs.getD i 0).num ≤ 0:=fun i=>by have:=z i; rw [Ci] at this; exact this
  have:=Ic (c:=fun i=>-wtd hs i) hu (j:=j) hs.length (fun i _=>by have:=Jo (z' i); grind) hj (by have:=Hg hj (by have:=z' j; lia); grind)
  rw [DM] at this
  grind
theorem Jf {c : Nat → Rat} {N j m : Nat} (hjm : j < m) (hm : m < N) (cj : 0 < c j) (cm : c m < 0) (h1 : ∀ i,i < m → 0 ≤ c i) (h2 : ∀ i,m ≤ i → c i ≤ 0) :
 (∀ u v,0 < u → u < v → L2.evF c u N = 0 → L2.evF c v N = 0 → False) ∧ (∃ u,0 < u ∧ 0 < L2.evF c u N) ∧ ∃ u,0 < u ∧ L2.evF c u N < 0:=by
 refine ⟨fun u v hu huv e1 e2=>?_,IM (fun i _ hi=>h1 i (by lia)) (by lia) cj,?_⟩
 ·have:=(Kv (c:=c) (m:=m) hu huv N (fun i _=>h1 i) fun i _=>h2 i).2 ⟨j,by lia,hjm,cj⟩
  rw [e1,e2] at this
  grind
 ·obtain ⟨n,rfl⟩ : ∃ n,N = n + 1:=⟨N - 1,by lia⟩
  obtain ⟨w,hw,pw⟩:=IM (c:=fun i=>-c (n - i)) (j:=n - m) (N:=n + 1) (fun i _ hi=>by have:=h2 (n - i) (by lia); grind) (by lia) (by rw [show n - (n - m) = m by lia]; grind)
  have iw:=VR _ (show w ≠ 0 by grind)
  refine ⟨w⁻¹,Ws.mpr hw,?_⟩
  have e:=Kw (fun i=>-c i) (w:=w) (v:=w⁻¹) (by rw [Vy]; exact iw) n
  rw [e,DM] at pw
  have hp:=BY hw n
  have : ¬ 0 ≤ L2.evF c w⁻¹ (n + 1):=fun z=>by
   have:=Wk (Wj hp) z
   grind
  grind
theorem Rts.one {l xs : List Rat} (R : Rts l xs) {lo hi : Rat} (hlt : lo < hi) (h : VQ (L2.hts l lo hi) = 1) :
 (∀ r s,r ∈ xs → s ∈ xs → lo < r → r < s → s < hi → False) ∧ ∃ r,r ∈ xs ∧ lo < r ∧ r < hi:=by
 have hev:=fun x u (h2 : x < hi) (eu : u * (hi - x) = x - lo)=>MU l lo hi hlt h2 eu
 have hk : (∀ u v,0 < u → u < v → L2.evF (wtd (L2.hts l lo hi)) u (L2.hts l lo hi).length = 0 → L2.evF (wtd (L2.hts l lo hi)) v (L2.hts l lo hi).length = 0 → False) ∧ (∃ u,0 < u ∧ 0 < L2.evF (wtd (L2.hts l lo hi)) u (L2.hts l lo hi).length) ∧ ∃ u,0 < u ∧ L2.evF (wtd (L2.hts l lo hi)) u (L2.hts l lo hi).length < 0:=by
  generalize L2.hts l lo hi = hs at *
  rcases sg1 _ h with ⟨j,m,h1,h2,h3,h4,h5,h6⟩ | ⟨j,m,h1,h2,h3,h4,h5,h6⟩
  ·rw [Ug] at h2
   rw [Ci] at h3 h4
   exact Jf h1 h2 (Hf (by lia) h3) (Hg h2 h4) (fun i hi=>Jp (by have:=h5 i hi; rw [Ci] at this; exact this)) fun i hi=>Jo (by have:=h6 i hi; rw [Ci] at this; exact this)
  ·rw [Ug,Ug] at h2
   rw [Ej,Ci] at h3 h4
   have k:=Jf (c:=fun i=>-wtd hs i) (N:=hs.length) h1 h2 (by have:=Hg (hs:=hs) (i:=j) (by lia) (by lia); grind) (by have:=Hf (hs:=hs) (i:=m) h2 (by lia); grind) (fun i hi=>by
    have:=h5 i hi
    rw [Ej,Ci] at this
    have:=Jo (hs:=hs) (i:=i) (by lia)
    grind) fun i hi=>by
    have:=h6 i hi
    rw [Ej,Ci] at this
    have:=Jp (hs:=hs) (i:=i) (by lia)
    grind
   obtain ⟨k1,⟨u,hu,k2⟩,v,hv,k3⟩:=k
   rw [DM] at k2 k3
   refine ⟨fun u v hu huv e1 e2=>k1 u v hu huv (by rw [DM,e1]; rfl) (by rw [DM,e2]; rfl),⟨v,hv,by grind⟩,u,hu,by grind⟩
 generalize wtd (L2.hts l lo hi) = c at hev hk
 generalize (L2.hts l lo hi).length = N at hev hk
 obtain ⟨k1,⟨u,hu,k2⟩,v,hv,k3⟩:=hk
 refine ⟨fun r s hr hs h1 h2 h3=>?_,?_⟩
 ·obtain ⟨a,ha,ea⟩:=Q7 h1 (show r < hi by grind)
  obtain ⟨b,hb,eb⟩:=Q7 (show lo < s by grind) h3
  obtain ⟨p,hp,ep⟩:=hev r a (by grind) ea
  obtain ⟨q,hq,eq⟩:=hev s b h3 eb
  rw [R.rt r hr] at ep
  rw [R.rt s hs] at eq
  have z1 : L2.evF c a N = 0:=by
   rcases UY.mp ep.symm with z | z
   ·grind
   ·exact z
  have z2 : L2.evF c b N = 0:=by
   rcases UY.mp eq.symm with z | z
   ·grind
   ·exact z
  exact k1 a b ha (QZ h1 h2 h3 hb ea eb) z1 z2
 ·by_cases h : ∃ r,r ∈ xs ∧ lo < r ∧ r < hi
  ·exact h
  exfalso
  obtain ⟨x,x1,x2,ex⟩:=QS hlt hu
  obtain ⟨y,y1,y2,ey⟩:=QS hlt hv
  obtain ⟨p,hp,ep⟩:=hev x u x2 ex
  obtain ⟨q,hq,eq⟩:=hev y v y2 ey
  have:=R.sg x y fun r hr=>by
   by_cases hl : r ≤ lo
   ·exact Wh (by grind) (by grind)
   ·have : hi ≤ r:=by
     have : ¬ r < hi:=fun z=>h ⟨r,hr,by grind,z⟩
     grind
    have:=Wh (a:=r - x) (b:=r - y) (by grind) (by grind)
    grind
  have a:=Wh hp k2
  have b:=Wh hq (show 0 < -L2.evF c v N by grind)
  rw [← ep] at a
  have b' : Cv.ev l y < 0:=by rw [eq]; grind
  have:=Wh a (show 0 < -Cv.ev l y by grind)
  grind
theorem OJ {α : Type} {l : List α} (hn : l.Nodup) (h : 2 ≤ l.length) : ∃ a b,a ∈ l ∧ b ∈ l ∧ a ≠ b:=by
 cases l with
 | nil=>simp at h
 | cons a r =>
   cases r with
   | nil=>simp at h
   | cons b r =>
     refine ⟨a,b,Tu,Tv _ Tu,fun z=>?_⟩
     have:=(U3.mp hn).1
     rw [z] at this
     exact this Tu
theorem Rts.few {l xs : List Rat} (R : Rts l xs) {lo hi : Rat} (hlt : lo < hi) (h : VQ (L2.hts l lo hi) < 2) : inN xs lo hi = VQ (L2.hts l lo hi):=by
 have hm : ∀ r,r ∈ (xs.filter fun r=>decide (lo < r) && decide (r < hi)) ↔ r ∈ xs ∧ lo < r ∧ r < hi:=fun r=>by
  rw [Tj,Bool.and_eq_true,decide_eq_true_eq,decide_eq_true_eq]
 have hnd : (xs.filter fun r=>decide (lo < r) && decide (r < hi)).Nodup:=R.nd.filter _
 unfold inN
 generalize xs.filter (fun r=>decide (lo < r) && decide (r < hi)) = ys at hm hnd ⊢
 have h01 : VQ (L2.hts l lo hi) = 0 ∨ VQ (L2.hts l lo hi) = 1:=by lia
 rcases h01 with h0 | h0
 ·rw [h0]
  cases ys with
  | nil=>rfl
  | cons r s =>
    obtain ⟨a,b,c⟩:=(hm r).mp Tu
    exact (R.none hlt h0 a b c).elim
 ·rw [h0]
  obtain ⟨k1,r,k2⟩:=R.one hlt h0
  have h1 : 1 ≤ ys.length:=List.length_pos_of_mem ((hm r).mpr k2)
  have h2 : ¬ 2 ≤ ys.length:=fun z=>by
   obtain ⟨a,b,ha,hb,hab⟩:=OJ hnd z
   obtain ⟨a1,a2,a3⟩:=(hm a).mp ha
   obtain ⟨b1,b2,b3⟩:=(hm b).mp hb
   rcases (show a < b ∨ b < a by grind) with z | z
   ·exact k1 a b a1 b1 a2 z b3
   ·exact k1 b a b1 a1 b2 z a3
  lia
theorem Lw {xs : List Rat} {lo m hi : Rat} (h1 : lo < m) (h2 : m < hi) : inN xs lo hi = inN xs lo m + (xs.filter fun r=>decide (r = m)).length + inN xs m hi:=by
 unfold inN
 induction xs with
 | nil=>rfl
 | cons r s ih =>
   by_cases a : r < m
   ·rw [Wo (p:=fun r=>decide (r = m)) (by simp; grind),Wo (p:=fun r=>decide (m < r) && decide (r < hi)) (by simp; grind)]
    by_cases b : lo < r
    ·rw [Wq (by simp; grind),Wq (p:=fun r=>decide (lo < r) && decide (r < m)) (by simp; grind)]
     simp only [UA]; lia
    ·rw [Wo (by simp; grind),Wo (p:=fun r=>decide (lo < r) && decide (r < m)) (by simp; grind)]
     exact ih
   ·rw [Wo (p:=fun r=>decide (lo < r) && decide (r < m)) (by simp; grind)]
    by_cases b : r = m
    ·rw [Wq (p:=fun r=>decide (r = m)) (by simp; grind),Wo (p:=fun r=>decide (m < r) && decide (r < hi)) (by simp; grind),Wq (by simp; grind)]
     simp only [UA]; lia
    ·rw [Wo (p:=fun r=>decide (r = m)) (by simp; grind)]
     by_cases d : r < hi
     ·rw [Wq (p:=fun r=>decide (m < r) && decide (r < hi)) (by simp; grind),Wq (by simp; grind)]
      simp only [UA]; lia
     ·rw [Wo (p:=fun r=>decide (m < r) && decide (r < hi)) (by simp; grind),Wo (by simp; grind)]
      exact ih
def C9 (xs : List Rat) (m : Rat) : Nat:=if m ∈ xs then 1 else 0
theorem HY {xs : List Rat} (h : xs.Nodup) (m : Rat) : (xs.filter fun r=>decide (r = m)).length = C9 xs m:=by
 unfold C9
 induction xs with
 | nil=>rfl
 | cons r s ih =>
   obtain ⟨a,b⟩:=U3.mp h
   have ih:=ih b
   by_cases e : r = m
   ·subst e
    rw [Wq (by simp),if_pos Tu,UA,ih,if_neg a]
   ·rw [Wo (by simpa using e),ih]
    by_cases z : m ∈ s
    ·rw [if_pos z,if_pos (Tv _ z)]
    ·rw [if_neg z,if_neg fun y=>by
      rcases Tw.mp y with w | w
      ·exact e w.symm
      ·exact z w]
def Dp : List Pc → Nat
 | []=>0
 | t :: r=>t.2.2 + Dp r
def Dq (xs : List Rat) : List Pc → Nat
 | []=>0
 | t :: r=>C9 xs t.2.1 + Dq xs r
theorem M6 (a b : List Pc) : Dp (a ++ b) = Dp a + Dp b:=by
 induction a with
 | nil=>show Dp b = 0 + Dp b; lia
 | cons t r ih=>show t.2.2 + Dp (r ++ b) = t.2.2 + Dp r + Dp b; lia
theorem M7 (xs : List Rat) (a b : List Pc) : Dq xs (a ++ b) = Dq xs a + Dq xs b:=by
 induction a with
 | nil=>show Dq xs b = 0 + Dq xs b; lia
 | cons t r ih=>show C9 xs t.2.1 + Dq xs (r ++ b) = C9 xs t.2.1 + Dq xs r + Dq xs b; lia
theorem EI {l xs : List Rat} (R : Rts l xs) : ∀ (n : Nat) (lo hi : Rat) (ps : List Pc),lo < hi → pcs l n lo hi = some ps → inN xs lo hi + C9 xs hi = Dp ps + Dq xs ps ∧ ∀ t ∈ ps,t.1 < t.2.1 ∧ inN xs t.1 t.2.1 = t.2.2 ∧ t.2.2 < 2
 | n,lo,hi,ps,hlt,e=>by
   by_cases h : VQ (L2.hts l lo hi) < 2
   ·rw [Fn h] at e
    cases e
    have k:=R.few hlt h
    refine ⟨?_,fun t ht=>?_⟩
    ·show _ = (VQ (L2.hts l lo hi) + 0) + (C9 xs hi + 0)
     lia
    ·rw [V7.mp ht]
     exact ⟨hlt,k,h⟩
   ·cases n with
    | zero=>rw [E9 h] at e; cases e
    | succ n =>
      rw [Ea h] at e
      obtain ⟨m1,m2⟩:=Pr hlt
      cases ha : pcs l n lo ((lo + hi) * hf) with
      | none=>rw [ha] at e; cases e
      | some a =>
        cases hb : pcs l n ((lo + hi) * hf) hi with
        | none=>rw [ha,hb] at e; cases e
        | some b =>
          rw [ha,hb] at e
          cases e
          obtain ⟨a1,a2⟩:=EI R n _ _ a m1 ha
          obtain ⟨b1,b2⟩:=EI R n _ _ b m2 hb
          have sp:=Lw (xs:=xs) m1 m2
          rw [HY R.nd] at sp
          refine ⟨by rw [M6,M7]; lia,fun t ht=>?_⟩
          rcases Tx.mp ht with z | z
          ·exact a2 t z
          ·exact b2 t z
theorem Ig {xs : List Rat} (nd : xs.Nodup) {lo hi : Rat} (hlt : lo < hi) : (xs.filter fun r=>!decide (r < lo) && !decide (hi < r)).length = C9 xs lo + inN xs lo hi + C9 xs hi:=by
 rw [← HY nd lo,← HY nd hi]
 clear nd
 unfold inN
 induction xs with
 | nil=>rfl
 | cons r s ih =>
   by_cases a : r = lo
   ·rw [Wq (p:=fun r=>decide (r = lo)) (by simpa using a),Wo (p:=fun r=>decide (r = hi)) (by simp; grind),Wo (p:=fun r=>decide (lo < r) && decide (r < hi)) (by simp; grind),Wq (by simp; grind)]
    simp only [UA]; lia
   ·rw [Wo (p:=fun r=>decide (r = lo)) (by simpa using a)]
    by_cases b : r = hi
    ·rw [Wq (p:=fun r=>decide (r = hi)) (by simpa using b),Wo (p:=fun r=>decide (lo < r) && decide (r < hi)) (by simp; grind),Wq (by simp; grind)]
     simp only [UA]; lia
    ·rw [Wo (p:=fun r=>decide (r = hi)) (by simpa using b)]
     by_cases d : lo < r ∧ r < hi
     ·rw [Wq (p:=fun r=>decide (lo < r) && decide (r < hi)) (by simpa using d),Wq (by simp; grind)]
      simp only [UA]; lia
     ·rw [Wo (p:=fun r=>decide (lo < r) && decide (r < hi)) (by simp; grind),Wo (by simp; grind)]
      exact ih
def pcD (t : Pc) : PyData:=.tuple [nD t.1,nD t.2.1,.int ((t.2.2 : Nat) : Int)]
theorem PcV.rds {K : Tq} {H : Hp} {v : V} {t : Pc} (h : PcV K H v t) : Rds K H v (pcD t):=by
 obtain ⟨p,a,b,rfl,h1,h2,h3⟩:=h
 refine .tup h1 rfl fun i x d e1 e2=>?_
 match i with
 | 0=>simp at e1 e2; subst e1; subst e2; exact h2.rds
 | 1=>simp at e1 e2; subst e1; subst e2; exact h3.rds
 | 2=>simp at e1 e2; subst e1; subst e2; exact .int _
 | i + 3=>simp at e1
theorem IH : ∀ qs : List Pc,PyData.canLayAll0 (qs.map pcD) = true
 | []=>rfl
 | q :: r=>by
   show (PyData.canLay0 (pcD q) && PyData.canLayAll0 (r.map pcD)) = true
   rw [IH r]; rfl
theorem FH : ∀ qs : List Pc,PyData.depthAll (qs.map pcD) ≤ 2
 | []=>TQ _
 | q :: r=>by
   have ih:=FH r
   show max (PyData.depth (pcD q)) (PyData.depthAll (r.map pcD)) ≤ 2
   exact Nat.max_le.mpr ⟨TL _,ih⟩
theorem NG (qs : List Pc) : SeqAt.shaped (.list (qs.map pcD)) = true:=by
 show (PyData.canLayAll0 (qs.map pcD) && decide (PyData.depthAll (qs.map pcD) + 1 ≤ 64)) = true
 rw [IH,Bool.true_and]
 exact decide_eq_true (by have:=FH qs; lia)
theorem Pcs.rds {K : Tq} {H : Hp} {xs : List V} {ts : List Pc} (h : Pcs K H xs ts) : ∀ (i : Nat) x d,xs[i]? = some x → (ts.map pcD)[i]? = some d → Rds K H x d:=fun i x d e1 e2=>by
 obtain ⟨q,hq,hn⟩:=Paired.get h e1
 rw [Uc,hq] at e2
 cases e2
 exact hn.rds
theorem HF {l : List Rat} {D : Int} (d0 : 0 < D) (d1 : D ≤ 2 ^ 40) : ∀ (n d : Nat) (lo hi : Rat) (ps : List Pc),d + n ≤ 17 → Dy D d lo → Dy D d hi → pcs l n lo hi = some ps → ∀ t ∈ ps,RB 80 t.1 ∧ RB 80 t.2.1
 | n,d,lo,hi,ps,hd,y1,y2,e=>by
   by_cases h : VQ (L2.hts l lo hi) < 2
   ·rw [Fn h] at e
    cases e
    intro t ht
    rw [V7.mp ht]
    exact ⟨y1.rb d0 d1 (by lia),y2.rb d0 d1 (by lia)⟩
   ·cases n with
    | zero=>rw [E9 h] at e; cases e
    | succ n =>
      rw [Ea h] at e
      cases ha : pcs l n lo ((lo + hi) * hf) with
      | none=>rw [ha] at e; cases e
      | some a =>
        cases hb : pcs l n ((lo + hi) * hf) hi with
        | none=>rw [ha,hb] at e; cases e
        | some b =>
          rw [ha,hb] at e
          cases e
          have a1:=HF d0 d1 n (d + 1) _ _ a (by lia) y1.next (y1.mid y2) ha
          have b1:=HF d0 d1 n (d + 1) _ _ b (by lia) (y1.mid y2) y2.next hb
          intro t ht
          rcases Tx.mp ht with z | z
          ·exact a1 t z
          ·exact b1 t z
def Ep (xs : List Rat) : List Rat → Nat
 | []=>0
 | e :: r=>C9 xs e + Ep xs r
theorem Je (xs a b : List Rat) : Ep xs (a ++ b) = Ep xs a + Ep xs b:=by
 induction a with
 | nil=>show Ep xs b = 0 + Ep xs b; lia
 | cons e r ih=>show C9 xs e + Ep xs (r ++ b) = C9 xs e + Ep xs r + Ep xs b; lia
theorem KH (xs : List Rat) : ∀ ps : List Pc,Ep xs (ps.map fun t=>t.2.1) = Dq xs ps
 | []=>rfl
 | t :: r=>by show C9 xs t.2.1 + _ = _; rw [KH xs r]; rfl
theorem M5 : ∀ ps : List Pc,(ps.map fun t=>((t.2.2 : Nat) : Int)).sum = ((Dp ps : Nat) : Int)
 | []=>rfl
 | t :: r=>by
   rw [Uw,List.sum_cons,M5 r]
   show _ = ((t.2.2 + Dp r : Nat) : Int)
   lia
theorem NZ (xs : List Rat) (m : Rat) : C9 xs m ≤ 1:=by unfold C9; split <;> lia
theorem KG (xs : List Rat) : ∀ es : List Rat,Ep xs es ≤ es.length
 | []=>TL _
 | e :: r=>by
   have:=KG xs r
   have:=NZ xs e
   show C9 xs e + Ep xs r ≤ r.length + 1
   lia
inductive EA (K : Tq) (C : Addr) (vs : List V) (H : Hp) (Q : VK) (E : XK) : Prop
 | mk (r rl rh : Addr) (fs ls xs : List Rat) (lo hi : Rat) (h1 : vs = [.ref r,.ref rl,.ref rh]) (h2 : Crv K H r fs) (h3 : KnF fs ls xs) (h4 : AA K H (.ref rl) lo) (h5 : AA K H (.ref rh) hi) (h6 : lo < hi) (h7 : RB 20 lo) (h8 : RB 20 hi) (h9 : (∀ (ps : List Pc) (H' : Hp),pcs ls 16 lo hi = some ps → Ag H H' → Q (.int ((C9 xs lo + Dq xs ps + Dp ps : Nat) : Int)) H')) (h10 : (∀ H',pcs ls 16 lo hi = none → Ag H H' → E (.ref C) none H')) : EA K C vs H Q E
theorem KnF.hl {fs ls xs : List Rat} (kf : KnF fs ls xs) : ∀ g os,DQ fs (Co fs) g → AO os → (∀ x,Cv.ev fs x = Cv.ev os x * Cv.ev g x) → os = ls:=fun g os P go eo=>by
 obtain ⟨g0,kn⟩:=kf.kn
 exact kn.lone (fun x=>L2.Md x fs) P eo kf.gl go
theorem KnF.b100 {fs ls xs : List Rat} (kf : KnF fs ls xs) : ∀ q ∈ ls,RB 100 q:=fun q hq=>by
 have l5:=kf.l5
 have hle:=kf.le
 exact (kf.cd.rb (by lia) q hq).mono (by decide)
theorem KnF.at0 {fs ls xs : List Rat} (kf : KnF fs ls xs) (x : Rat) : decide (Cv.ev fs x = 0) = decide (x ∈ xs):=by
 by_cases h : x ∈ xs
 ·obtain ⟨g0,kn⟩:=kf.kn
  rw [decide_eq_true h,decide_eq_true (by rw [kn.fe,kf.rt x h,W0])]
 ·rw [decide_eq_false h,decide_eq_false (kf.nz x h)]
theorem GP {H : Hp} : ∀ {us : List V} {kvs : List (List Key × V)} {xs : List Rat},Paired (KyV H) us kvs → kvs.map (·.1) = xs.map kQ → Paired (fun (v : V) (x : Rat)=>∃ b,v = .ref b ∧ H b = some (nT x)) us xs
 | _,_,[],.nil,_=>.nil
 | _,_,x :: xs,.nil,e=>by cases e
 | _,_,[],.cons _ _,e=>by cases e
 | _,_,x :: xs,.cons (a:=v) (b:=p) h t,e=>by
   rw [Uw,Uw] at e
   injection e with e1 e2
   obtain ⟨b,rfl,hb⟩:=h
   refine .cons ⟨b,rfl,?_⟩ (GP t e2)
   rw [e1] at hb
   exact hb
theorem O4 {t b : Int} (ht : 0 < t) (hb : 0 < b) : 0 < UE t b:=by
 have e:=FW (b:=b) (by lia) t
 have tp : (0 : Rat) < ((t : Int) : Rat):=by
  have : ((0 : Int) : Rat) < (t : Rat):=Wr.mpr ht
  exact this
 have bp : (0 : Rat) < ((b : Int) : Rat):=by
  have : ((0 : Int) : Rat) < (b : Rat):=Wr.mpr hb
  exact this
 have : ¬ UE t b ≤ 0:=fun z=>by
  have:=Wk (a:=-UE t b) (b:=(b : Rat)) (by grind) (Wj bp)
  grind
 grind
inductive JC (K : Tq) (vs : List V) (H : Hp) (Q : VK) (E_3 : XK) : Prop
 | mk (a d : Addr) (xs : List Rat) (kvs : List (List Key × V)) (h1 : vs = [.ref a,.ref d]) (h2 : Pen H a) (h3 : H d = some (.dT kvs)) (h4 : kvs.map (·.1) = xs.map kQ) (h5 : (∀ x ∈ xs,RB 8 x)) (h6 : xs.Nodup) (h7 : kvs.length ≤ 10) (h8 : ∀ (t rl rh : Addr) (lo hi : Rat) (H' : Hp),Mv a H H' → Pen H' a → H' t = some (.tup [.ref rl,.ref rh]) → AA K H' (.ref rl) lo → AA K H' (.ref rh) hi → lo < hi → RB 20 lo → RB 20 hi → Q (.ref t) H') : JC K vs H Q E_3
structure E42 (K : Tq) (a l : Addr) (us : List V) (xs : List Rat) (rl rh : Addr) (lo hi : Rat) (H G : Hp) : Prop where
 mv : Mv a H G
 pn : Pen G a
 el : G l = some (.lst us)
 hu : AS K G us xs
 nl : AA K G (.ref rl) lo
 nh : AA K G (.ref rh) hi
 lt : lo < hi
 b1 : RB 20 lo
 b2 : RB 20 hi
theorem E42.go {K : Tq} {a l : Addr} {us : List V} {xs : List Rat} {rl rh : Addr} {lo hi : Rat} {H G G' : Hp} (h : E42 K a l us xs rl rh lo hi H G) (la : l ≠ a) (m : Mv a G G') (p : Pen G' a) : E42 K a l us xs rl rh lo hi H G' :=
 ⟨h.mv.trans m,p,m _ _ la h.el,AS.mv h.hu h.pn m,h.nl.mv h.pn m,h.nh.mv h.pn m,h.lt,h.b1,h.b2⟩
theorem E42.on {K : Tq} {a l : Addr} {us : List V} {xs : List Rat} {rl rh : Addr} {lo hi : Rat} {H G G' : Hp} (h : E42 K a l us xs rl rh lo hi H G) (la : l ≠ a) (s : Ag G G') : E42 K a l us xs rl rh lo hi H G':=h.go la s.mv (h.pn.sm s)
theorem E42.at {K : Tq} {a l : Addr} {us : List V} {xs : List Rat} {rl rh : Addr} {lo hi : Rat} {H G : Hp} (h : E42 K a l us xs rl rh lo hi H G) {j : Nat} {v : V} {x : Rat} (hv : us[j]? = some v) (hx : xs[j]? = some x) : AA K G v x:=by
 obtain ⟨y,hy,n⟩:=Paired.get' h.hu hx
 rw [hv] at hy
 cases hy
 exact n
theorem LU {α : Type} {l : List α} (h : 2 ≤ l.length) : ∃ a b r,l = a :: b :: r:=by
 match l,h with
 | a :: b :: r,_=>exact ⟨a,b,r,rfl⟩
 | [_],h=>simp at h
 | [],h=>simp at h
theorem SqT.putR {K : Tq} {H : Hp} {a p : Addr} {xs : List V} {kvs : List (List Key × V)} {o : HO} (h : SqT K H a xs) (hp : Rd H p (.dT kvs)) : SqT K (upd H p o) a xs:=by
 rcases hp with hp | ⟨ob,hp⟩
 ·exact SqT.putD h hp
 rcases h with (h | ⟨u,h⟩) | h
 ·exact .inl (.inl (by rw [Aw (CL h hp (fun z=>by cases z))]; exact h))
 ·exact .inl (.inr ⟨u,by rw [Aw (CL h hp (fun z=>by cases z))]; exact h⟩)
 ·exact .inr h
theorem AA.putR {K : Tq} {H : Hp} {v : V} {x : Rat} {p : Addr} {kvs : List (List Key × V)} {o : HO} (h : AA K H v x) (hp : Rd H p (.dT kvs)) : AA K (upd H p o) v x:=by
 obtain ⟨r,rfl,h⟩:=h
 exact ⟨r,rfl,SqT.putR h hp⟩
theorem Pcs.putR {K : Tq} {H : Hp} {ys : List V} {ts : List Pc} {p : Addr} {kvs : List (List Key × V)} {o : HO} (h : Pcs K H ys ts) (hp : Rd H p (.dT kvs)) : Pcs K (upd H p o) ys ts:=Paired.mapP h fun _ _ ⟨q,a,b,e,h1,h2,h3⟩=>⟨q,a,b,e,SqT.putR h1 hp,AA.putR h2 hp,AA.putR h3 hp⟩
theorem DN {K : Tq} {H : Hp} {x y : V} {d e : PyData} {Q : VK} (h1 : Rds K H x d) (h2 : Rds K H y e) (s1 : SeqAt.shaped d = true) (s2 : SeqAt.shaped e = true) (b : Bool) (hb : PyData.eqv d e = b) (h : Q (.bl b) H) : EW K false x y H Q:=Ie ⟨_,_,h1,h2,s1,s2,by rw [hb]; exact h⟩
theorem Ou {kvs : List (List Key × V)} {xs : List Rat} (ks : kvs.map (·.1) = xs.map kQ) {i : Nat} {pp : List Key × V} (hi : kvs[i]? = some pp) : ∃ x,xs[i]? = some x ∧ pp.1 = kQ x:=by
 have h1 : (kvs.map (·.1))[i]? = some pp.1:=by rw [Uc,hi]; rfl
 rw [ks,Uc] at h1
 cases hxi : xs[i]? with
 | none=>rw [hxi] at h1; cases h1
 | some x=>rw [hxi] at h1; exact ⟨x,rfl,(Tb.inj h1).symm⟩
inductive CY (K : Tq) (vs : List V) (H : Hp) (Q : VK) (E_3 : XK) : Prop
 | mk (w : Int) (r rl rh : Addr) (fs ls xs : List Rat) (lo hi : Rat) (h1 : vs = [.int w,.ref r,.ref rl,.ref rh]) (h2 : Crv K H r fs) (h3 : KnF fs ls xs) (h4 : AA K H (.ref rl) lo) (h5 : AA K H (.ref rh) hi) (h6 : lo < hi) (h7 : RB 20 lo) (h8 : RB 20 hi) (h9 : (∀ (ps : List Pc) (p : Addr) (H' : Hp) (ys : List V),w = 0 → pcs ls 16 lo hi = some ps → Ag H H' → H p = none → H' p = some (.lst ys) → Pcs K H' ys ps → Q (.ref p) H')) (h10 : (∀ (ps : List Pc) (H' : Hp),w ≠ 0 → pcs ls 16 lo hi = some ps → Ag H H' → Q (.int ((C9 xs lo + Dq xs ps + Dp ps : Nat) : Int)) H')) (h11 : (∀ H',pcs ls 16 lo hi = none → Ag H H' → Q (.str (Str.ofString "deep")) H')) : CY K vs H Q E_3
section
variable {P : Program} {w : World} {K : Tq} {mg : Str → Option Value} {base : Heap}
theorem CO : Ar ["_law_script","_law_k","_law_cell"] ["_law_script","_law_k"] (Af (top 50)):=⟨rfl,rfl,rfl,by decide +kernel,rfl,by decide +kernel,by decide +kernel⟩
theorem IK {f : Addr} {fd : FuncData} (F : Fun K "_law_pen" "_law_pen" (top 50) f fd) (Rl : mg "len" = none) (hT : P.given.tree = none) :
 AN P w K mg base CX0 33 f fd ["_law_script","_law_k"] (Mc K):=by
 refine F.ok CO (fun vs H Q E h=>?_) (fun cdv A outer s H vs Q E hr h=>?_)
 ·obtain ⟨_,_,_,rfl,_⟩:=h; rfl
 refine ⟨_,(Ac (K:=K) (Ai (i:=2) CO.nd rfl (Or.inl rfl) (Aj AJ (Aj Aq Ad (pv 1)) Ad))
  (Ac (K:=K) (AV (K:=K) (Au Ec (pv 1) (Ak (Bt K) rfl Rl AF (Aa (pv 0) Ab)) (Ay _)) (Ah (Ai (i:=2) CO.nd rfl (Or.inl rfl) (Al (ixL K) (pv 0) (pv 1) (fun u v=>rfl)))) (Ah (AV (K:=K) (Au Cu (Ak (Bt K) rfl Rl AF (Aa (pv 0) Ab)) Ad (Ay _)) (Ah (Ai (i:=2) CO.nd rfl (Or.inl rfl) (Aj AJ (Al (ixL K) (pv 0) (Aj Cq (pv 1) (Ak (Bt K) rfl Rl AF (Aa (pv 0) Ab))) (fun u v=>rfl)) (Aj Aq Ad (pv 1))))) AL (by rfl) (by rfl))) (by rfl) (by rfl))
  (Ac (K:=K) (AV (K:=K) (Au QB (pv 2) (Aj Mx Ad Ad) (Ay _)) (Ah (Ax (Be (Aa (Aj Bo (pv 2) (Aj Mx Ad Ad)) (Aa (Aj Cq (pv 2) Ad) (Aa Ad Ab)))))) AL (by rfl) (by rfl))
  (Ah (Ax (Be (Aa Ad (Aa (Aj AJ (Aj Cq (pv 2) Ad) (Aj Aq Ad (pv 1))) (Aa Ad Ab)))))) (by rfl)) (by rfl)) (by rfl)),?_⟩
 obtain ⟨a,ns,k,rfl,hS,h63,h0,h62,q⟩:=h
 have hl : (ns.map V.int).length = ns.length:=Ug _
 have P3 : 3 ≤ sizeLine:=by decide
 have C1 : Qe 10 18:=by unfold Qe; decide
 refine ⟨_,rfl,_,_,rfl,rfl,.inl ⟨by decide,by decide⟩,_,_,rfl,rfl,?_⟩
 refine ⟨_,rfl,_,rfl,a,_,rfl,.inl hS,_,_,rfl,rfl,_,rfl,?_⟩
 rw [hl]
 have hk1 : k < (ns.length : Int) → ∃ v : Int,atI (ns.map V.int) k = some (.int v):=fun c=>KP h0 c
 have hk2 : 0 < (ns.length : Int) → ∃ v : Int,atI (ns.map V.int) (k % (ns.length : Int)) = some (.int v):=fun c=>KP (Ww _ (by lia)) (Wx _ c)
 refine Fe (fun c=>?_) (fun c=>?_)
 ·obtain ⟨v,hv⟩:=(hk1 (of_decide_eq_true c))
  refine ⟨_,rfl,_,rfl,a,_,_,_,rfl,rfl,hS,hv,?_⟩
  refine ⟨_,rfl,_,_,rfl,rfl,C1,_,_,rfl,rfl,_,rfl,?_⟩
  refine Fe (fun c=>?_) (fun c=>?_)
  ·exact ⟨_,rfl,_,_,rfl,rfl,C1,_,_,rfl,rfl,_,rfl,_,_,rfl,rfl,(by first | decide | (dsimp only; decide)),P3,fun p hp=>q p _ _ hp⟩
  ·exact ⟨_,rfl,_,_,rfl,rfl,(by first | decide | (dsimp only; decide)),_,rfl,_,_,rfl,rfl,.inl ⟨by decide,by decide⟩,_,_,rfl,rfl,P3,fun p hp=>q p _ _ hp⟩
 ·refine ⟨_,rfl,a,_,rfl,.inl hS,_,_,rfl,rfl,_,rfl,?_⟩
  rw [hl]
  refine Fe (fun c=>?_) (fun c=>?_)
  ·obtain ⟨v,hv⟩:=(hk2 (of_decide_eq_true c))
   have c' : 0 < (((ns.map V.int).length : Nat) : Int):=by rw [hl]; exact of_decide_eq_true c
   rw [← hl] at hv
   refine ⟨_,rfl,_,rfl,_,rfl,a,_,rfl,.inl hS,_,_,rfl,rfl,c',a,_,_,_,rfl,rfl,hS,hv,_,rfl,_,_,rfl,rfl,.inl ⟨by decide,by decide⟩,_,_,rfl,rfl,?_⟩
   refine ⟨_,rfl,_,_,rfl,rfl,C1,_,_,rfl,rfl,_,rfl,?_⟩
   refine Fe (fun c=>?_) (fun c=>?_)
   ·exact ⟨_,rfl,_,_,rfl,rfl,C1,_,_,rfl,rfl,_,rfl,_,_,rfl,rfl,(by first | decide | (dsimp only; decide)),P3,fun p hp=>q p _ _ hp⟩
   ·exact ⟨_,rfl,_,_,rfl,rfl,(by first | decide | (dsimp only; decide)),_,rfl,_,_,rfl,rfl,.inl ⟨by decide,by decide⟩,_,_,rfl,rfl,P3,fun p hp=>q p _ _ hp⟩
  ·refine ⟨_,rfl,_,_,rfl,rfl,C1,_,_,rfl,rfl,_,rfl,?_⟩
   refine Fe (fun c=>?_) (fun c=>?_)
   ·exact ⟨_,rfl,_,_,rfl,rfl,C1,_,_,rfl,rfl,_,rfl,_,_,rfl,rfl,(by first | decide | (dsimp only; decide)),P3,fun p hp=>q p _ _ hp⟩
   ·exact ⟨_,rfl,_,_,rfl,rfl,(by first | decide | (dsimp only; decide)),_,rfl,_,_,rfl,rfl,.inl ⟨by decide,by decide⟩,_,_,rfl,rfl,P3,fun p hp=>q p _ _ hp⟩
theorem BP : Ar ["_law_top","_law_bottom","_law_one","_law_other"] ["_law_top","_law_bottom"] (Af (top 52)):=⟨rfl,rfl,rfl,by decide +kernel,rfl,by decide +kernel,by decide +kernel⟩
theorem FO {f : Addr} {fd : FuncData} (F : Fun K "_law_lowest" "_law_lowest" (top 52) f fd) (Rw : mg "abs" = none) (hT : P.given.tree = none) :
 AN P w K mg base CX0 33 f fd ["_law_top","_law_bottom"] (Cr):=by
 refine F.ok BP (fun vs H Q E h=>?_) (fun cdv A outer s H vs Q E hr h=>?_)
 ·obtain ⟨_,_,rfl,_⟩:=h; rfl
 refine ⟨_,(Ac (K:=K) (Ai (i:=2) BP.nd rfl (Or.inl rfl) (Ak Er rfl Rw Il (Aa (pv 0) Ab)))
  (Ac (K:=K) (Ai (i:=3) BP.nd rfl (Or.inl rfl) (Ak Er rfl Rw Il (Aa (pv 1) Ab)))
  (Ac (K:=K) (Cg PassesOwn.never (Au Cu (pv 3) Ad (Ay _)) (Ah (Mn (i:=2) (j:=3) rfl BP.nd rfl rfl (by decide) rfl rfl (Aa (pv 3) (Aa (Aj Cq (pv 2) (pv 3)) Ab)) (by with_unfolding_all rfl))))
  (Ac (K:=K) (AV (K:=K) (Au Ec (pv 1) Ad (Ay _)) (Ah (Ai (i:=2) BP.nd rfl (Or.inl rfl) (Aj Bo Ad (pv 2)))) AL (by rfl) (by rfl))
  (Ah (Ax (AG (Aa (Aj (BQ hr hT) (pv 0) (pv 2)) (Aa (Aj (BQ hr hT) (pv 1) (pv 2)) Ab))))) (by rfl)) (by rfl)) (by rfl)) (by rfl)),?_⟩
 obtain ⟨a,b,rfl,hb,q⟩:=h
 refine ⟨_,rfl,a,rfl,?_⟩
 refine ⟨_,rfl,b,rfl,?_⟩
 refine Iw (L3 H a b fun H a b σ H'=>H' = H ∧ ∃ (x y : Int),σ = [some (.int a),some (.int b),some (.int x),some (.int y)] ∧ 0 ≤ x ∧ 0 ≤ y ∧ UC x y = UC a b) (fun σ _=>mu 3 σ)
  ⟨rfl,_,_,rfl,?_,?_,?_⟩ ?_ ?_
 ·rw [Nm.abs_if]; exact Wy _
 ·rw [Nm.abs_if]; exact Wy _
 ·rw [Nm.abs_if,Nm.abs_if]; rfl
 ·rintro σ H' hR1
  refine BZ hR1 fun hq1 hz3=>?_
  refine DP hz3 fun x y hz3'=>?_
  clear hz3
  refine FZ hz3' fun hq2 hx hy hg=>?_
  clear hz3'
  obtain rfl:=hq1
  obtain rfl:=hq2
  try clear hR1
  refine ⟨_,rfl,_,_,rfl,rfl,_,rfl,?_⟩
  by_cases hy0 : y = 0
  ·subst hy0
   refine CN ?_
   have e : (UC a b : Int) = x:=by rw [← hg,Int.gcd_zero]; lia
   subst e
   refine ⟨_,rfl,_,_,rfl,rfl,_,rfl,?_⟩
   have hd : Nm.msr a b ≠ 0:=Nm.msr_ne hb
   have fin : ∀ p,H' p = none → Q (.ref p) (upd H' p (.tup [.int (a.fdiv (Nm.msr a b)),.int (b.fdiv (Nm.msr a b))])):=fun p hp=>by
    rw [Nm.top_msr hb,Nm.bottom_msr hb]; exact q p hp
   by_cases hb0 : b < 0
   ·have hd' : Nm.msr a b = 0 - (UC a b : Int):=by unfold Nm.msr; rw [if_pos hb0]; lia
    rw [hd'] at hd fin
    refine BA (by rw [decide_eq_true hb0] <;> rfl) ⟨_,rfl,_,_,rfl,rfl,?_⟩
    exact ⟨_,rfl,_,rfl,_,_,rfl,rfl,hd,_,rfl,_,rfl,_,_,rfl,rfl,hd,(by decide : 2 ≤ sizeLine),fin⟩
   ·have hd' : Nm.msr a b = (UC a b : Int):=by unfold Nm.msr; rw [if_neg hb0]
    rw [hd'] at hd fin
    refine Bg (by rw [decide_eq_false hb0] <;> rfl) ?_
    exact ⟨_,rfl,_,rfl,_,_,rfl,rfl,hd,_,rfl,_,rfl,_,_,rfl,rfl,hd,(by decide : 2 ≤ sizeLine),fin⟩
  ·have hyp : 0 < y:=by lia
   refine BA (by rw [decide_eq_true hyp] <;> rfl) ?_
   refine ⟨_,rfl,_,rfl,_,rfl,_,_,rfl,rfl,hyp,_,_,rfl,⟨rfl,y,x % y,rfl,hy,Ww _ hy0,?_⟩,?_⟩
   ·rw [Nm.gcd_turn]; exact hg
   ·show (x % y).toNat < y.toNat
    have:=Wx x hyp
    lia
 ·rintro σ H' Q1 Q2 hm hR2
  obtain ⟨v,e,i,j,e1,e2,k,ek,q1⟩:=hR2
  try clear hR2
  exact ⟨v,e,i,j,e1,e2,k,ek,hm _ _ q1⟩
theorem Cz : Ar ["_law_pen_here","_law_many","_law_drawn","_law_number_here"] ["_law_pen_here","_law_many"] (Af (top 51)):=⟨rfl,rfl,rfl,by decide +kernel,rfl,by decide +kernel,by decide +kernel⟩
theorem HU {f : Addr} {fd : FuncData} (F : Fun K "_law_draw" "_law_draw" (top 51) f fd) (hT : P.given.tree = none) :
 AN P w K mg base CX0 33 f fd ["_law_pen_here","_law_many"] (EC):=by
 refine F.ok Cz (fun vs H Q E h=>?_) (fun cdv A outer s H vs Q E hr h=>?_)
 ·obtain ⟨_,_,rfl,_⟩:=h; rfl
 refine ⟨_,(Ac (K:=K) (CU (Aj AJ (Al (ixL K) (pv 0) Ad (fun u v=>rfl)) Ad) (EH (pv 0) Ad D0))
  (Ac (K:=K) (AV (K:=K) (Au Cu (Al (ixL K) (pv 0) Ad (fun u v=>rfl)) Ad (Ay _)) (Ac (K:=K) (Ai (i:=2) Cz.nd rfl (Or.inl rfl) (Aj Cq (Al (ixL K) (pv 0) Ad (fun u v=>rfl)) (pv 1)))
  (Ac (K:=K) (CU (Aj (BQ hr hT) (Al (ixL K) (pv 0) Ad (fun u v=>rfl)) (pv 1)) (EH (pv 0) Ad D0))
  (Ah (Ax (pv 2))) (by rfl)) (by rfl)) AL (by rfl) (by rfl))
  (Ac (K:=K) (Ai (i:=3) Cz.nd rfl (Or.inl rfl) (Aj Cq (Aj Aq (Aj AJ (Aj AJ (Al (ixL K) (pv 0) Ad (fun u v=>rfl)) (Aj Aq Ad (Al (ixL K) (pv 0) Ad (fun u v=>rfl)))) Ad) Ad) Ad))
  (Ac (K:=K) (Ai (i:=3) Cz.nd rfl (Or.inl rfl) (Aj Cq (Aj Aq (pv 3) (Aj AJ (Aj AJ (Aj Cq (pv 3) Ad) (Al (ixL K) (pv 0) Ad (fun u v=>rfl))) Ad)) Ad))
  (Ah (Ax (Aj Cq (Aj (BQ hr hT) (Aj Cq (Aj Aq (pv 3) (Aj AJ (Aj Cq (pv 3) Ad) Ad)) Ad) Ad) (pv 1)))) (by rfl)) (by rfl)) (by rfl)) (by rfl)),?_⟩
 obtain ⟨a,m,rfl,⟨c0,c1,c2,hp⟩,h1,h2,q0⟩:=h
 have q : ∀ d c0' c2' : Int,0 ≤ d → d < m → Q (.int d) (upd H a (.lst [.int c0',.int c1,.int c2'])):=fun d _ _ h3 h4=>q0 d _ h3 h4 .put .put
 have hm : m ≠ 0:=by lia
 have q' : ∀ (o : HO) (d c0' c2' : Int),0 ≤ d → d < m → Q (.int d) (upd (upd H a o) a (.lst [.int c0',.int c1,.int c2'])):=fun o d c0' c2' h3 h4=>by rw [Np]; exact q d c0' c2' h3 h4
 refine ⟨_,rfl,a,_,_,_,rfl,rfl,SqL.of hp,rfl,_,_,rfl,rfl,_,rfl,a,_,_,_,rfl,rfl,hp,rfl,?_⟩
 refine ⟨_,rfl,a,_,_,_,rfl,rfl,SqL.of Ae,rfl,_,_,rfl,rfl,_,rfl,?_⟩
 refine Fe (fun c=>?_) (fun c=>?_)
 ·refine ⟨_,rfl,a,_,_,_,rfl,rfl,SqL.of Ae,rfl,_,rfl,_,_,rfl,rfl,(by lia : 0 < m),?_⟩
  refine ⟨_,rfl,a,_,_,_,rfl,rfl,SqL.of Ae,rfl,_,rfl,_,_,rfl,rfl,hm,_,rfl,a,_,_,_,rfl,rfl,Ae,rfl,?_⟩
  refine ⟨_,rfl,?_⟩
  exact q' _ _ _ _ (Ww _ (by lia)) (Wx _ (by lia))
 ·have cl : ∀ z : Int,0 < z → (0 : Int) < z:=fun _ h=>h
  refine ⟨_,rfl,a,_,_,_,rfl,rfl,SqL.of Ae,rfl,_,rfl,a,_,_,_,rfl,rfl,SqL.of Ae,rfl,_,_,rfl,rfl,.inl ⟨by decide,by decide⟩,_,_,rfl,rfl,_,_,rfl,rfl,_,_,rfl,rfl,.inr (.inl ⟨by decide,by decide⟩),_,_,rfl,rfl,(by first | decide | (dsimp only; decide)),?_⟩
  have n1:=Ww ((c1 + 40503 * (c2 + 1) + 1) * 48271) (show (2147483647 : Int) ≠ 0 by decide)
  have n2:=Wx ((c1 + 40503 * (c2 + 1) + 1) * 48271) (show (0 : Int) < 2147483647 by decide)
  generalize hN : (c1 + 40503 * (c2 + 1) + 1) * 48271 % 2147483647 = N at n1 n2
  refine ⟨_,rfl,_,rfl,_,_,rfl,rfl,(by first | decide | (dsimp only; decide)),_,rfl,a,_,_,_,rfl,rfl,SqL.of Ae,rfl,_,_,rfl,rfl,_,_,rfl,rfl,_,_,rfl,rfl,.inl ?_,_,_,rfl,rfl,(by first | decide | (dsimp only; decide)),?_⟩
  ·(try rw [hN]); lia
  try rw [hN]
  have n3:=Ww (N * (N % 65521 + (c2 + 1) + 3)) (show (2147483629 : Int) ≠ 0 by decide)
  have n4:=Wx (N * (N % 65521 + (c2 + 1) + 3)) (show (0 : Int) < 2147483629 by decide)
  generalize N * (N % 65521 + (c2 + 1) + 3) % 2147483629 = M at n3 n4
  refine ⟨_,rfl,_,rfl,_,_,rfl,rfl,(by first | decide | (dsimp only; decide)),_,_,rfl,rfl,_,_,rfl,rfl,.inl ⟨by lia,by lia⟩,_,_,rfl,rfl,(by first | decide | (dsimp only; decide)),_,_,rfl,rfl,(by first | decide | (dsimp only; decide)),_,rfl,_,_,rfl,rfl,(by lia : 0 < m),?_⟩
  exact q _ _ _ (Ww _ (by lia)) (Wx _ (by lia))
theorem FF : Ar ["_law_pen_here"] ["_law_pen_here"] (Af (top 56)):=⟨rfl,rfl,rfl,by decide +kernel,rfl,by decide +kernel,by decide +kernel⟩
theorem FN {f : Addr} {fd : FuncData} (F : Fun K "_law_number" "_law_number" (top 56) f fd) (Rt : Fd P w K mg base 33 "_law_lowest" ["_law_top","_law_bottom"] (Cr)) (Rn : Fd P w K mg base 33 "_law_draw" ["_law_pen_here","_law_many"] (EC)) (hT : P.given.tree = none) :
 AN P w K mg base CX0 34 f fd ["_law_pen_here"] (K4 8):=by
 refine F.ok FF (fun vs H Q E h=>?_) (fun cdv A outer s H vs Q E hr h=>?_)
 ·obtain ⟨_,rfl,_⟩:=h; rfl
 refine ⟨_,(Ac (K:=K) (AV (K:=K) (Au Cu (Am Rn hr rfl (Aa (pv 0) (Aa Ad Ab))) Ad (Ay _)) (Ah (Ax (Am Rt hr rfl (Aa (Aj Bo (Am Rn hr rfl (Aa (pv 0) (Aa Ad Ab))) Ad) (Aa (Aj AJ Ad (Am Rn hr rfl (Aa (pv 0) (Aa (Al (ixL K) (Be (Aa Ad (Aa Ad Ab))) (Am Rn hr rfl (Aa (pv 0) (Aa Ad Ab))) (fun u v=>rfl)) Ab)))) Ab))))) AL (by rfl) (by rfl))
  (Ah (Ax (Am Rt hr rfl (Aa (Aj Bo (Am Rn hr rfl (Aa (pv 0) (Aa Ad Ab))) Ad) (Aa (Aj AJ Ad (Am Rn hr rfl (Aa (pv 0) (Aa Ad Ab)))) Ab))))) (by rfl)),?_⟩
 obtain ⟨a,rfl,pn,q⟩:=h
 have b8 : ∀ x : Int,-200 < x → x < 200 → Bd 8 x:=fun x h1 h2=>by unfold Bd; lia
 refine ⟨_,rfl,a,6,rfl,pn,by decide,by decide,fun w H1 w0 w1 o1 p1=>⟨_,_,rfl,rfl,_,rfl,?_⟩⟩
 refine Fe (fun c=>?_) (fun c=>?_)
 ·refine ⟨_,rfl,a,19,rfl,p1,by decide,by decide,fun d H2 d0 d1 o2 p2=>⟨_,_,rfl,rfl,?_⟩⟩
  refine ⟨_,rfl,(by decide : 2 ≤ sizeLine),fun l hl=>?_⟩
  refine ⟨_,rfl,a,2,rfl,p2.same hl,by decide,by decide,fun e H3 e0 e1 o3 p3=>?_⟩
  obtain ⟨v,hv,hm⟩:=(Ob (xs:=[1,4]) (i:=e) e0 e1)
  have hv1 : 1 ≤ v ∧ v ≤ 4:=by simp at hm; lia
  have hl3 : H3 l = some (.lst [.int 1,.int 4]):=by
   refine DD p2 fun x0 x1 x2 ex=>?_
   rw [o3 l (AB ex hl).symm]; exact Ae
  refine ⟨l,_,_,_,rfl,rfl,SqL.of hl3,hv,a,v,rfl,p3,by lia,by lia,fun g H4 g0 g1 o4 p4=>⟨_,_,rfl,rfl,_,_,rfl,by lia,fun r hr=>?_⟩⟩
  exact q _ r _ (o1.mv.trans (o2.mv.trans ((Mv.new hl).trans (o3.mv.trans (o4.mv.trans (Mv.new hr)))))) (p4.same hr) Ae (Bd.num (b8 _ (by lia) (by lia))) (Bd.den (by lia) (b8 _ (by lia) (by lia)))
 ·refine ⟨_,rfl,a,199,rfl,p1,by decide,by decide,fun d H2 d0 d1 o2 p2=>⟨_,_,rfl,rfl,?_⟩⟩
  refine ⟨_,rfl,a,9,rfl,p2,by decide,by decide,fun e H3 e0 e1 o3 p3=>⟨_,_,rfl,rfl,_,_,rfl,by lia,fun r hr=>?_⟩⟩
  exact q _ r _ (o1.mv.trans (o2.mv.trans (o3.mv.trans (Mv.new hr)))) (p3.same hr) Ae (Bd.num (b8 _ (by lia) (by lia))) (Bd.den (by lia) (b8 _ (by lia) (by lia)))
theorem HB : Ar ["_law_a","_law_b"] ["_law_a","_law_b"] (Af (top 53)):=⟨rfl,rfl,rfl,by decide +kernel,rfl,by decide +kernel,by decide +kernel⟩
theorem HQ {f : Addr} {fd : FuncData} (F : Fun K "_law_plus" "_law_plus" (top 53) f fd) (Rt : Fd P w K mg base 33 "_law_lowest" ["_law_top","_law_bottom"] (Cr)) (hT : P.given.tree = none) :
 AN P w K mg base CX0 34 f fd ["_law_a","_law_b"] (Cs K (· + ·)):=by
 refine F.ok HB (fun vs H Q E h=>?_) (fun cdv A outer s H vs Q E hr h=>?_)
 ·obtain ⟨_,_,_,_,_,_,rfl,_⟩:=h; rfl
 refine ⟨_,(Ah (Ax (Am Rt hr rfl (Aa (Aj AJ (Aj Aq (Al (ixT K) (pv 0) Ad (fun u v=>rfl)) (Al (ixT K) (pv 1) Ad (fun u v=>rfl))) (Aj Aq (Al (ixT K) (pv 1) Ad (fun u v=>rfl)) (Al (ixT K) (pv 0) Ad (fun u v=>rfl)))) (Aa (Aj Aq (Al (ixT K) (pv 0) Ad (fun u v=>rfl)) (Al (ixT K) (pv 1) Ad (fun u v=>rfl))) Ab))))),?_⟩
 obtain ⟨x,y,p,q,m,n,rfl,⟨r,rfl,hr⟩,⟨u,rfl,hu⟩,hp,hq,hmn,k⟩:=h
 refine ⟨_,rfl,r,_,_,_,rfl,rfl,hr,rfl,_,rfl,u,_,_,_,rfl,rfl,hu,rfl,_,_,rfl,rfl,Bq.bd hp.1 hq.2,_,rfl,u,_,_,_,rfl,rfl,hu,rfl,_,rfl,r,_,_,_,rfl,rfl,hr,rfl,_,_,rfl,rfl,Bq.bd hq.1 hp.2,_,_,rfl,rfl,?_⟩
 refine ⟨_,rfl,r,_,_,_,rfl,rfl,hr,rfl,_,rfl,u,_,_,_,rfl,rfl,hu,rfl,_,_,rfl,rfl,Bq.bd hp.2 hq.2,?_⟩
 refine ⟨_,_,rfl,UL (Nm.den_ne p) (Nm.den_ne q),fun z hz=>?_⟩
 have e:=k z hz
 try dsimp only at e
 rw [← Nm.plus_eq] at e
 exact e
theorem Gj : Ar ["_law_a","_law_b"] ["_law_a","_law_b"] (Af (top 55)):=⟨rfl,rfl,rfl,by decide +kernel,rfl,by decide +kernel,by decide +kernel⟩
theorem Gr {f : Addr} {fd : FuncData} (F : Fun K "_law_times" "_law_times" (top 55) f fd) (Rt : Fd P w K mg base 33 "_law_lowest" ["_law_top","_law_bottom"] (Cr)) (hT : P.given.tree = none) :
 AN P w K mg base CX0 34 f fd ["_law_a","_law_b"] (Cs K (· * ·)):=by
 refine F.ok Gj (fun vs H Q E h=>?_) (fun cdv A outer s H vs Q E hr h=>?_)
 ·obtain ⟨_,_,_,_,_,_,rfl,_⟩:=h; rfl
 refine ⟨_,(Ah (Ax (Am Rt hr rfl (Aa (Aj Aq (Al (ixT K) (pv 0) Ad (fun u v=>rfl)) (Al (ixT K) (pv 1) Ad (fun u v=>rfl))) (Aa (Aj Aq (Al (ixT K) (pv 0) Ad (fun u v=>rfl)) (Al (ixT K) (pv 1) Ad (fun u v=>rfl))) Ab))))),?_⟩
 obtain ⟨x,y,p,q,m,n,rfl,⟨r,rfl,hr⟩,⟨u,rfl,hu⟩,hp,hq,hmn,k⟩:=h
 refine ⟨_,rfl,r,_,_,_,rfl,rfl,hr,rfl,_,rfl,u,_,_,_,rfl,rfl,hu,rfl,_,_,rfl,rfl,Bq.bd hp.1 hq.1,?_⟩
 refine ⟨_,rfl,r,_,_,_,rfl,rfl,hr,rfl,_,rfl,u,_,_,_,rfl,rfl,hu,rfl,_,_,rfl,rfl,Bq.bd hp.2 hq.2,?_⟩
 refine ⟨_,_,rfl,UL (Nm.den_ne p) (Nm.den_ne q),fun z hz=>?_⟩
 have e:=k z hz
 try dsimp only at e
 rw [← Nm.times_eq] at e
 exact e
theorem BW : Ar ["_law_one","_law_other","_law_found","_law_j","_law_k"] ["_law_one","_law_other"] (Af (top 59)):=⟨rfl,rfl,rfl,by decide +kernel,rfl,by decide +kernel,by decide +kernel⟩
theorem Fc {f : Addr} {fd : FuncData} (F : Fun K "_law_product" "_law_product" (top 59) f fd) (RH : Fd P w K mg base 34 "_law_plus" ["_law_a","_law_b"] (Cs K (· + ·))) (Sm : Fd P w K mg base 34 "_law_times" ["_law_a","_law_b"] (Cs K (· * ·))) (Rm : mg "range" = none) (Rv : mg "tuple" = none) (Rl : mg "len" = none) (hT : P.given.tree = none) :
 AN P w K mg base CX0 35 f fd ["_law_one","_law_other"] (Hl K):=by
 refine F.ok BW (fun vs H Q E h=>?_) (fun cdv A outer s H vs Q E hr h=>?_)
 ·obtain ⟨_,_,_,_,_,_,rfl,_⟩:=h; rfl
 refine ⟨_,(Ac (K:=K) (AV (K:=K) (PW.pt (Kb (Au (eqD K hr.units) (pv 0) (AG Ab) (Ay _)) (HD (Au (eqD K hr.units) (pv 1) (AG Ab) (Ay _))))) (Ah (Ax (AG Ab))) AL (by rfl) (by rfl))
  (Ac (K:=K) (Ai (i:=2) BW.nd rfl (Or.inl rfl) (Aj Mw (Be (Aa (AG (Aa Ad (Aa Ad Ab))) Ab)) (Aj Bo (Aj AJ (Ak (Bt K) rfl Rl AF (Aa (pv 0) Ab)) (Ak (Bt K) rfl Rl AF (Aa (pv 1) Ab))) Ad)))
  (Ac (K:=K) (BE (K:=K) PassesOwn.never rfl (Bv rfl Rm (Aa (Ak (Bt K) rfl Rl AF (Aa (pv 0) Ab)) Ab)) (Av (i:=3) BW.nd rfl (Or.inl rfl)) (Ah (BE (K:=K) PassesOwn.never rfl (Bv rfl Rm (Aa (Ak (Bt K) rfl Rl AF (Aa (pv 1) Ab)) Ab)) (Av (i:=4) BW.nd rfl (Or.inl rfl)) (Ah (CU (Am RH hr rfl (Aa (Al (ixL K) (pv 2) (Aj AJ (pv 3) (pv 4)) (fun u v=>rfl)) (Aa (Am Sm hr rfl (Aa (Al (ixT K) (pv 0) (pv 3) (fun u v=>rfl)) (Aa (Al (ixT K) (pv 1) (pv 4) (fun u v=>rfl)) Ab))) Ab))) (EH (pv 2) (Aj AJ (pv 3) (pv 4)) D0))) (by rfl))) (by rfl))
  (Ah (Ax (CG (Ju K) rfl Rv FY (Aa (pv 2) Ab)))) (by rfl)) (by rfl)) (by rfl)),?_⟩
 obtain ⟨r,u,qs,ps,m,n,rfl,⟨xs,hS,hn⟩,⟨ys,hT',hm⟩,hB,hC,hmn,hq50,hp50,nq,np,q⟩:=h
 have P0 : 0 ≤ sizeLine:=by decide
 have P1 : 1 ≤ sizeLine:=by decide
 have P2 : 2 ≤ sizeLine:=by decide
 have hl:=hn.length
 have hly:=hm.length
 have hq1:=UQ.mpr nq
 have hp1:=UQ.mpr np
 refine ⟨_,rfl,P0,fun e he=>?_⟩
 have sA : Ag H (upd H e (.tup [])):=Ag.new he
 refine eqT (ps:=qs) (qs:=[]) ⟨xs,SqT.same hS sA,AS.same hn sA⟩ ⟨[],SqT.of Ae,.nil⟩ ?_
 refine ⟨_,rfl,Bg (by rw [decide_eq_false nq] <;> rfl) ?_⟩
 refine ⟨_,rfl,P0,fun e2 he2=>?_⟩
 have sB : Ag H (upd (upd H e (.tup [])) e2 (.tup [])):=sA.trans (Ag.new he2)
 refine eqT (ps:=ps) (qs:=[]) ⟨ys,SqT.same hT' sB,AS.same hm sB⟩ ⟨[],SqT.of Ae,.nil⟩ ?_
 refine ⟨_,rfl,Bg (by rw [decide_eq_false np] <;> rfl) ?_⟩
 generalize upd (upd H e (.tup [])) e2 (.tup []) = HH at sB ⊢
 replace hS:=SqT.same hS sB
 replace hT':=SqT.same hT' sB
 replace hn:=AS.same hn sB
 replace hm:=AS.same hm sB
 refine ⟨P2,fun t ht=>⟨P1,fun o ho=>?_⟩⟩
 have s0 : Ag HH (upd (upd HH t (.tup [.int 0,.int 1])) o (.lst [.ref t])):=(Ag.new ht).trans (Ag.new ho)
 have nt0 : AA K (upd (upd HH t (.tup [.int 0,.int 1])) o (.lst [.ref t])) (.ref t) 0:=AA.of ((Ag.new ho) _ _ (Ae (o:=nT 0)))
 have eN : ((xs.length : Int) + (ys.length : Int) - 1).toNat = qs.length + ps.length - 1:=by lia
 refine ⟨_,rfl,r,xs,rfl,.inr (SqT.same hS s0),_,rfl,u,ys,rfl,.inr (SqT.same hT' s0),_,_,rfl,rfl,_,_,rfl,rfl,o,_,_,rfl,rfl,Ae,by lia,by lia,?_,fun fd hfd=>?_⟩
 ·show 1 * ((xs.length : Int) + (ys.length : Int) - 1).toNat ≤ sizeLine
  rw [eN]; exact Ts (AX (by lia))
 rw [eN]
 have s1:=s0.trans (Ag.new (o:=.lst (U5 (qs.length + ps.length - 1) [V.ref t]).flatten) hfd)
 have nz:=AS.same (IC nt0 (qs.length + ps.length - 1)) (Ag.new (o:=.lst (U5 (qs.length + ps.length - 1) [V.ref t]).flatten) hfd)
 have hfH : HH fd = none:=by
  cases z : HH fd with
  | none=>rfl
  | some u=>rw [s0 fd u z] at hfd; cases hfd
 have e1 : (upd (upd (upd HH t (.tup [.int 0,.int 1])) o (.lst [.ref t])) fd (.lst (U5 (qs.length + ps.length - 1) [V.ref t]).flatten)) fd = some (.lst (U5 (qs.length + ps.length - 1) [V.ref t]).flatten):=Ae
 generalize upd (upd (upd HH t (.tup [.int 0,.int 1])) o (.lst [.ref t])) fd (.lst (U5 (qs.length + ps.length - 1) [V.ref t]).flatten) = H1 at s1 nz e1 ⊢
 refine ⟨_,rfl,r,xs,rfl,.inr (SqT.same hS s1),_,rfl,by lia,by lia,?_⟩
 rw [Uk,hl]
 refine BK (n:=qs.length) (L9 HH r u fd K qs ps m n fun HH r u fd K qs ps m n i σ H'=>Ag HH H' ∧ ∃ (zs : List V) (ms : List Rat) (z3 z4 : Option V),σ = [some (.ref r),some (.ref u),some (.ref fd),z3,z4] ∧ H' fd = some (.lst zs) ∧ AS K H' zs ms ∧ ms.length = qs.length + ps.length - 1 ∧ (∀ x,Cv.ev ms x = Cv.ev (qs.take i) x * Cv.ev ps x) ∧ ∀ c ∈ ms,RB (i * (m + n + 1) + 1) c)
  ⟨s1,_,_,none,none,rfl,e1,nz,Uh,fun x=>?_,fun c hc=>?_⟩ ?_ ?_
 ·rw [Cv.ev_zeros,Wz]
  show (0 : Rat) = 0 * _
  grind
 ·rw [(List.mem_replicate.mp hc).2]; exact RB.zero (by lia)
 ·rintro i σ H' hi hR1
  refine BZ hR1 fun sm hz7=>?_
  refine J2 hz7 fun zs ms z3 z4 hz7'=>?_
  clear hz7
  refine Es hz7' fun hq6 ef hnm hml hev hbm=>?_
  clear hz7'
  obtain rfl:=hq6
  try clear hR1
  have hqi : qs[i]? = some qs[i]:=V9 hi
  have hi1 : (i + 1) * (m + n + 1) = i * (m + n + 1) + m + n + 1:=by rw [Vh]; lia
  have hiM : i * (m + n + 1) ≤ 50 * 100001:=VU (by lia) (by lia)
  obtain ⟨xi,hxi,nxi⟩:=(Paired.get' hn hqi)
  refine ⟨_,rfl,u,ys,rfl,.inr (SqT.same hT' sm),_,rfl,by lia,by lia,?_⟩
  rw [Uk,hly]
  refine BK (n:=ps.length) (fun j σ H'=>Ag HH H' ∧ ∃ (zs : List V) (ms : List Rat) (z4 : Option V),σ = [some (.ref r),some (.ref u),some (.ref fd),some (.int (0 + (i : Int))),z4] ∧ H' fd = some (.lst zs) ∧ AS K H' zs ms ∧ ms.length = qs.length + ps.length - 1 ∧ (∀ x,Cv.ev ms x = Cv.ev (qs.take i) x * Cv.ev ps x + qs[i] * x ^ i * Cv.ev (ps.take j) x) ∧ ∀ k c,ms[k]? = some c → RB (if k < i + j then (i + 1) * (m + n + 1) + 1 else i * (m + n + 1) + 1) c)
   ⟨sm,zs,ms,z4,rfl,ef,hnm,hml,fun x=>?_,fun k c hc=>?_⟩ ?_ ?_
  ·rw [hev x,Wz]
   show _ = _ + _ * (0 : Rat)
   grind
  ·have:=hbm c (Ud hc)
   split
   ·exact this.mono (by lia)
   ·exact this
  ·rintro j σ H2 hj hR2
   refine BZ hR2 fun sm2 hz9=>?_
   refine DD hz9 fun zs2 ms2 z4' hz9'=>?_
   clear hz9
   refine Es hz9' fun hq8 ef2 hnm2 hml2 hev2 hbm2=>?_
   clear hz9'
   obtain rfl:=hq8
   try clear hR2
   have hpj : ps[j]? = some ps[j]:=V9 hj
   obtain ⟨yj,hyj,nyj⟩:=(Paired.get' hm hpj)
   have hk : i + j < ms2.length:=by lia
   have hmk : ms2[i + j]? = some ms2[i + j]:=V9 hk
   obtain ⟨vk,hvk,nvk⟩:=(Paired.get' hnm2 hmk)
   have hzl:=hnm2.length
   have bk:=hbm2 _ _ hmk
   rw [if_neg (by lia)] at bk
   refine ⟨_,rfl,_,rfl,_,rfl,_,_,rfl,rfl,fd,_,_,vk,rfl,rfl,SqL.of ef2,atV hvk (by lia),_,rfl,_,rfl,r,xs,_,xi,rfl,rfl,SqT.same hS sm2,atV hxi (by lia),_,rfl,_,rfl,u,ys,_,yj,rfl,rfl,SqT.same hT' sm2,atV hyj (by lia),?_⟩
   refine ⟨_,_,qs[i],ps[j],m,n,rfl,nxi.same sm2,nyj.same sm2,hB _ (Va hi),hC _ (Va hj),by lia,fun r1 hr1=>?_⟩
   have s3 : Ag H2 (upd H2 r1 (nT (qs[i] * ps[j]))):=Ag.new hr1
   refine ⟨_,_,ms2[i + j],qs[i] * ps[j],_,m + n,rfl,nvk.same s3,AA.of Ae,bk,(hB _ (Va hi)).times (hC _ (Va hj)),by lia,fun r2 hr2=>?_⟩
   have s4:=s3.trans (Ag.new (o:=nT (ms2[i + j] + qs[i] * ps[j])) hr2)
   have ef4:=s4 _ _ ef2
   refine ⟨_,rfl,_,rfl,_,rfl,_,_,rfl,rfl,fd,_,_,i + j,rfl,rfl,ef4,Ei (by lia) (by lia),?_⟩
   refine ⟨(sm2.trans s4).put hfH,_,ms2.set (i + j) (ms2[i + j] + qs[i] * ps[j]),_,rfl,Ae,Paired.set (AA.put (AA.of Ae) ef4) (i + j) (AS.put (AS.same hnm2 s4) ef4),by rw [Uo]; exact hml2,fun x=>?_,fun k c hc=>?_⟩
   ·rw [Cv.ev_set x _ ms2 (i + j) _ hmk,hev2 x,Ek x ps j _ hpj,Nm.pow_add]
    grind
   ·by_cases hk2 : k = i + j
    ·subst hk2
     rw [TF hk] at hc
     cases hc
     rw [if_pos (by lia)]
     exact (bk.plus ((hB _ (Va hi)).times (hC _ (Va hj)))).mono (by lia)
    ·rw [TH (fun z=>hk2 z.symm)] at hc
     have b1:=hbm2 k c hc
     split
     ·split at b1
      ·exact b1
      ·exact b1.mono (by lia)
     ·rw [if_neg (by lia)] at b1; exact b1
  ·rintro σ H2 hR3
   refine BZ hR3 fun sm2 hz11=>?_
   refine DD hz11 fun zs2 ms2 z4' hz11'=>?_
   clear hz11
   refine Es hz11' fun hq10 ef2 hnm2 hml2 hev2 hbm2=>?_
   clear hz11'
   obtain rfl:=hq10
   try clear hR3
   refine ⟨sm2,zs2,ms2,_,_,rfl,ef2,hnm2,hml2,fun x=>?_,fun c hc=>?_⟩
   ·rw [hev2 x,UW,Ek x qs i _ hqi]
    grind
   ·obtain ⟨k,hk⟩:=(VY hc)
    have:=hbm2 k c hk
    split at this <;> exact this.mono (by lia)
 rintro σ Hz hR4
 refine BZ hR4 fun smz hz13=>?_
 refine J2 hz13 fun zs ms z3 z4 hz13'=>?_
 clear hz13
 refine Es hz13' fun hq12 efz hnz hml hev hbm=>?_
 clear hz13'
 obtain rfl:=hq12
 try clear hR4
 rw [UW] at hev
 have hzl:=hnz.length

 refine ⟨_,rfl,fd,_,rfl,.inl ⟨SqL.of efz,fun rr hrr=>?_⟩⟩
 have sZ : Ag Hz (upd Hz rr (.tup zs)):=Ag.new hrr
 exact q rr _ ms ((sB.trans smz).trans sZ) ⟨zs,SqT.of Ae,AS.same hnz sZ⟩ hml hev hbm
theorem Gk : Ar ["_law_a","_law_b"] ["_law_a","_law_b"] (Af (top 54)):=⟨rfl,rfl,rfl,by decide +kernel,rfl,by decide +kernel,by decide +kernel⟩
theorem Gs {f : Addr} {fd : FuncData} (F : Fun K "_law_minus" "_law_minus" (top 54) f fd) (Rt : Fd P w K mg base 33 "_law_lowest" ["_law_top","_law_bottom"] (Cr)) (hT : P.given.tree = none) :
 AN P w K mg base CX0 34 f fd ["_law_a","_law_b"] (Cs K (· - ·)):=by
 refine F.ok Gk (fun vs H Q E h=>?_) (fun cdv A outer s H vs Q E hr h=>?_)
 ·obtain ⟨_,_,_,_,_,_,rfl,_⟩:=h; rfl
 refine ⟨_,(Ah (Ax (Am Rt hr rfl (Aa (Aj Bo (Aj Aq (Al (ixT K) (pv 0) Ad (fun u v=>rfl)) (Al (ixT K) (pv 1) Ad (fun u v=>rfl))) (Aj Aq (Al (ixT K) (pv 1) Ad (fun u v=>rfl)) (Al (ixT K) (pv 0) Ad (fun u v=>rfl)))) (Aa (Aj Aq (Al (ixT K) (pv 0) Ad (fun u v=>rfl)) (Al (ixT K) (pv 1) Ad (fun u v=>rfl))) Ab))))),?_⟩
 obtain ⟨x,y,p,q,m,n,rfl,⟨r,rfl,hr⟩,⟨u,rfl,hu⟩,hp,hq,hmn,k⟩:=h
 refine ⟨_,rfl,r,_,_,_,rfl,rfl,hr,rfl,_,rfl,u,_,_,_,rfl,rfl,hu,rfl,_,_,rfl,rfl,Bq.bd hp.1 hq.2,_,rfl,u,_,_,_,rfl,rfl,hu,rfl,_,rfl,r,_,_,_,rfl,rfl,hr,rfl,_,_,rfl,rfl,Bq.bd hq.1 hp.2,_,_,rfl,rfl,?_⟩
 refine ⟨_,rfl,r,_,_,_,rfl,rfl,hr,rfl,_,rfl,u,_,_,_,rfl,rfl,hu,rfl,_,_,rfl,rfl,Bq.bd hp.2 hq.2,?_⟩
 refine ⟨_,_,rfl,UL (Nm.den_ne p) (Nm.den_ne q),fun z hz=>?_⟩
 have e:=k z hz
 try dsimp only at e
 rw [← Nm.minus_eq] at e
 exact e
theorem AD : Ar ["_law_pen_here","_law_top","_law_curve","_law_lone","_law_places","_law_k","_law_x","_law_often","_law_line","_law_j","_law_bow"] ["_law_pen_here"] (Af (top 60)):=⟨rfl,rfl,rfl,by decide +kernel,rfl,by decide +kernel,by decide +kernel⟩
theorem Gu {f : Addr} {fd : FuncData} (F : Fun K "_law_known" "_law_known" (top 60) f fd) (RI : Fd P w K mg base 34 "_law_number" ["_law_pen_here"] (K4 8)) (Rn : Fd P w K mg base 33 "_law_draw" ["_law_pen_here","_law_many"] (EC)) (RK : Fd P w K mg base 35 "_law_product" ["_law_one","_law_other"] (Hl K)) (Rt : Fd P w K mg base 33 "_law_lowest" ["_law_top","_law_bottom"] (Cr)) (Sn : Fd P w K mg base 34 "_law_minus" ["_law_a","_law_b"] (Cs K (· - ·))) (Rm : mg "range" = none) (RA : mg "int" = none) (Rl : mg "len" = none) (hT : P.given.tree = none) :
 AN P w K mg base CX0 36 f fd ["_law_pen_here"] (Hr K):=by
 refine F.ok AD (fun vs H Q E h=>?_) (fun cdv A outer s H vs Q E hr h=>?_)
 ·obtain ⟨_,rfl,_⟩:=h; rfl
 refine ⟨_,(Ac (K:=K) (Ai (i:=1) AD.nd rfl (Or.inl rfl) (Am RI hr rfl (Aa (pv 0) Ab)))
  (Ac (K:=K) (AV (K:=K) (Au CK (Al (ixT K) (pv 1) Ad (fun u v=>rfl)) Ad (Ay _)) (Ah (Ai (i:=1) AD.nd rfl (Or.inl rfl) (AG (Aa Ad (Aa (Aj AJ Ad (Am Rn hr rfl (Aa (pv 0) (Aa Ad Ab)))) Ab))))) AL (by rfl) (by rfl))
  (Ac (K:=K) (Ai (i:=2) AD.nd rfl (Or.inl rfl) (AG (Aa (pv 1) Ab)))
  (Ac (K:=K) (Ai (i:=3) AD.nd rfl (Or.inl rfl) (AG (Aa (pv 1) Ab)))
  (Ac (K:=K) (Ai (i:=4) AD.nd rfl (Or.inl rfl) Ms)
  (Ac (K:=K) (BE (K:=K) PassesOwn.never rfl (Bv rfl Rm (Aa (Am Rn hr rfl (Aa (pv 0) (Aa Ad Ab))) Ab)) (Av (i:=5) AD.nd rfl (Or.inl rfl)) (Ac (K:=K) (Ai (i:=6) AD.nd rfl (Or.inl rfl) (Al (ixL K) (Be (Aa (Am Rt hr rfl (Aa (Aj Bo (Am Rn hr rfl (Aa (pv 0) (Aa Ad Ab))) Ad) (Aa Ad Ab))) (Aa (Am RI hr rfl (Aa (pv 0) Ab)) Ab))) (CG LM rfl RA N6 (Aa (DK CK (Am Rn hr rfl (Aa (pv 0) (Aa Ad Ab))) Ad (Ay _)) Ab)) (fun u v=>rfl)))
  (Ac (K:=K) (Ai (i:=7) AD.nd rfl (Or.inl rfl) (Aj AJ Ad (Am Rn hr rfl (Aa (pv 0) (Aa Ad Ab)))))
  (Ah (AV (K:=K) (PW.pt (Dk (OZ (Lf hr.units1 (pv 6) (pv 4)) (by with_unfolding_all rfl)) (CA (Au Ec (Aj AJ (Ak (Bt K) rfl Rl AF (Aa (pv 2) Ab)) (pv 7)) Ad (Ay _))))) (Ac (K:=K) (NB hr.units1 (pv 4) (pv 6) (pv 7) rfl)
  (Ac (K:=K) (Ai (i:=8) AD.nd rfl (Or.inl rfl) (AG (Aa (Am Sn hr rfl (Aa (AG (Aa Ad (Aa Ad Ab))) (Aa (pv 6) Ab))) (Aa (AG (Aa Ad (Aa Ad Ab))) Ab))))
  (Ac (K:=K) (Ai (i:=3) AD.nd rfl (Or.inl rfl) (Am RK hr rfl (Aa (pv 3) (Aa (pv 8) Ab))))
  (Ah (BE (K:=K) PassesOwn.never rfl (Bv rfl Rm (Aa (pv 7) Ab)) (Av (i:=9) AD.nd rfl (Or.inl rfl)) (Ah (Ai (i:=2) AD.nd rfl (Or.inl rfl) (Am RK hr rfl (Aa (pv 2) (Aa (pv 8) Ab))))) (by rfl))) (by rfl)) (by rfl)) (by rfl)) AL (by rfl) (by rfl))) (by rfl)) (by rfl)) (by rfl))
  (Ac (K:=K) (Ai (i:=7) AD.nd rfl (Or.inl rfl) (Am Rn hr rfl (Aa (pv 0) (Aa Ad Ab))))
  (Ac (K:=K) (AV (K:=K) (PW.pt (Dk (Au Cu (pv 7) Ad (Ay _)) (CA (Au Ec (Aj AJ (Ak (Bt K) rfl Rl AF (Aa (pv 2) Ab)) (Aj Aq Ad (pv 7))) Ad (Ay _))))) (Ac (K:=K) (Ai (i:=10) AD.nd rfl (Or.inl rfl) (AG (Aa (AG (Aa (Aj AJ Ad (Am Rn hr rfl (Aa (pv 0) (Aa Ad Ab)))) (Aa Ad Ab))) (Aa (AG (Aa (Aj Bo (Am Rn hr rfl (Aa (pv 0) (Aa Ad Ab))) Ad) (Aa Ad Ab))) (Aa (AG (Aa Ad (Aa Ad Ab))) Ab)))))
  (Ac (K:=K) (Ai (i:=3) AD.nd rfl (Or.inl rfl) (Am RK hr rfl (Aa (pv 3) (Aa (pv 10) Ab))))
  (Ah (BE (K:=K) PassesOwn.never rfl (Bv rfl Rm (Aa (pv 7) Ab)) (Av (i:=9) AD.nd rfl (Or.inl rfl)) (Ah (Ai (i:=2) AD.nd rfl (Or.inl rfl) (Am RK hr rfl (Aa (pv 2) (Aa (pv 10) Ab))))) (by rfl))) (by rfl)) (by rfl)) AL (by rfl) (by rfl))
  (Ah (Ax (AG (Aa (pv 2) (Aa (pv 4) (Aa (pv 3) Ab)))))) (by rfl)) (by rfl)) (by rfl)) (by rfl)) (by rfl)) (by rfl)) (by rfl)) (by rfl)),?_⟩
 obtain ⟨a,rfl,pn,q⟩:=h
 have P1 : 1 ≤ sizeLine:=by decide
 have P2 : 2 ≤ sizeLine:=by decide
 have P3 : 3 ≤ sizeLine:=by decide
 have o1 : HO.tup [.int 1,.int 1] = nT 1:=rfl
 refine ⟨_,rfl,a,rfl,pn,fun t0 r0 H1 m1 p1 hr0 bn bd=>?_⟩
 try dsimp only
 refine D6 (L2 a H fun a H σ' G=>∃ (rt : Addr) (t : Rat),σ' = [some (.ref a),some (.ref rt),none,none,none,none,none,none,none,none,none] ∧ Mv a H G ∧ Pen G a ∧ G rt = some (nT t) ∧ t ≠ 0 ∧ RB 8 t) (fun nx hnx=>?_) ?_
 ·refine ⟨_,rfl,r0,_,_,.int t0.num,rfl,rfl,SqT.of hr0,AR (j:=0) rfl,rfl,_,rfl,?_⟩
  by_cases hz : t0.num = 0
  ·refine BA (by rw [decide_eq_true (show V.int t0.num = V.int 0 by rw [hz])] <;> rfl) ⟨_,rfl,a,9,rfl,p1,by decide,by decide,fun e H2 e0 e1 o2 p2=>⟨_,_,rfl,rfl,P2,fun rt ht=>?_⟩⟩
   have b0 : 0 < 1 + e:=by lia
   exact hnx _ _ ⟨rt,DX (1 + e),rfl,(m1.trans o2.mv).trans (Mv.new ht),p2.same ht,by rw [Ae,NU b0],NT b0,NS b0 (by unfold Bd; lia)⟩
  ·exact Bg (by rw [decide_eq_false (show ¬ V.int t0.num = V.int 0 from fun z=>hz (V.int.inj z))] <;> rfl) (hnx _ _ ⟨r0,t0,rfl,m1,p1,hr0,fun z=>hz (by rw [z]; rfl),bn,bd⟩)
 clear hr0 bn bd m1 p1 pn
 rintro σ' G hR1
 refine DP hR1 fun rt t hz15'=>?_
 refine Es hz15' fun hq14 m1 p1 hrt ht0 bt=>?_
 clear hz15'
 obtain rfl:=hq14
 try clear hR1
 refine ⟨_,rfl,P1,fun rc hc=>⟨_,rfl,P1,fun rl hl=>fun d hd=>?_⟩⟩
 have sB:=(Ag.new (o:=.tup [.ref rt]) hc).trans (Ag.new (o:=.tup [.ref rt]) hl)
 have sA:=sB.trans (Ag.new (o:=.dT []) hd)
 have dA : d ≠ a:=(p1.sm sB).ne' hd
 have hHd : H d = none:=(m1.trans sB.mv).free dA hd
 have nt : AS K (upd (upd (upd G rc (.tup [.ref rt])) rl (.tup [.ref rt])) d (.dT [])) [.ref rt] [t]:=.cons (AA.of (sA _ _ hrt)) .nil
 have k0 : K39 K a d H (upd (upd (upd G rc (.tup [.ref rt])) rl (.tup [.ref rt])) d (.dT [])) rc rl [t] [t] [] []:=⟨m1.trans sA.mv,p1.sm sA,⟨_,SqT.of ((Ag.new hd) _ _ ((Ag.new hl) _ _ Ae)),nt⟩,⟨_,SqT.of ((Ag.new hd) _ _ Ae),nt⟩,Ae,rfl⟩
 generalize upd (upd (upd G rc (.tup [.ref rt])) rl (.tup [.ref rt])) d (.dT []) = G1 at k0 ⊢
 clear hc hl hd sA sB nt hrt m1 p1
 refine ⟨_,rfl,a,4,rfl,k0.pn,by decide,by decide,fun w G2 w0 w1 o2 p2=>?_⟩
 replace k0:=k0.go o2.mv p2
 obtain ⟨N,rfl⟩ : ∃ N : Nat,w = (N : Int):=⟨w.toNat,by lia⟩
 refine ⟨_,rfl,by lia,by lia,?_⟩
 rw [Uk]
 clear o2 p2
 refine BK (n:=N) (L5 a rt d K H fun a rt d K H i σ G=>∃ (c l : Addr) (fs ls xs : List Rat) (kvs : List (List Key × V)) (z5 z6 z7 z8 z9 : Option V),σ = [some (.ref a),some (.ref rt),some (.ref c),some (.ref l),some (.ref d),z5,z6,z7,z8,z9,none] ∧ K39 K a d H G c l fs ls xs kvs ∧ kvs.length ≤ i ∧ KnI fs ls xs) ⟨rc,rl,[t],[t],[],[],none,none,none,none,none,rfl,k0,TL _,KnI.start ht0 bt⟩ ?_ ?_
 ·rintro i σ G hi hR2
  refine Ow hR2 fun c l fs ls xs kvs z5 z6 z7 z8 z9 hz17'=>?_
  refine FZ hz17' fun hq16 k kl kn=>?_
  clear hz17'
  obtain rfl:=hq16
  try clear hR2
  refine ⟨_,rfl,a,17,rfl,k.pn,by decide,by decide,fun e G1 e0 e1 o1 p1=>⟨_,_,rfl,rfl,_,_,rfl,by decide,fun r1 hr1=>?_⟩⟩
  have er1:=Ae (H:=G1) (a:=r1) (o:=nT (UE (e - 8) 4))
  have b1 : RB 8 (UE (e - 8) 4):=RB.div (m:=0) (by unfold Bd; lia) (by unfold Bd; decide) (by decide)
  replace k:=(k.go o1.mv p1).on (Ag.new (o:=nT (UE (e - 8) 4)) hr1)
  generalize upd G1 r1 (nT (UE (e - 8) 4)) = G2 at k er1 ⊢
  generalize UE (e - 8) 4 = y1 at er1 b1
  refine ⟨_,rfl,a,rfl,k.pn,fun y2 r2 G3 m3 p3 er2 bn bd=>?_⟩
  replace er1:=IQ er1 k.pn m3
  replace k:=k.go m3 p3
  refine ⟨P2,fun li hli=>?_⟩
  have sL:=Ag.new (o:=.lst [.ref r1,.ref r2]) hli
  have eli:=Ae (H:=G3) (a:=li) (o:=.lst [.ref r1,.ref r2])
  replace k:=k.on sL
  replace er1:=sL _ _ er1
  replace er2:=sL _ _ er2
  generalize upd G3 li (.lst [.ref r1,.ref r2]) = G4 at k er1 er2 eli ⊢
  clear sL hli m3 p3 o1 p1 hr1
  refine ⟨_,rfl,a,3,rfl,k.pn,by decide,by decide,fun v G5 v0 v1 o5 p5=>⟨rfl,.inr ⟨_,rfl,?_⟩⟩⟩
  have key : ∃ rx o,atI [V.ref r1,V.ref r2] (if decide (V.int v = V.int 0) = true then 1 else 0) = some (.ref rx) ∧ G5 rx = some (nT o) ∧ RB 8 o:=by
   by_cases hv : v = 0
   ·rw [decide_eq_true (show V.int v = V.int 0 by rw [hv])]
    exact ⟨r2,y2,rfl,IQ er2 k.pn o5.mv,bn,bd⟩
   ·rw [decide_eq_false (show ¬ V.int v = V.int 0 from fun z=>hv (V.int.inj z))]
    exact ⟨r1,y1,rfl,IQ er1 k.pn o5.mv,b1⟩
  refine DP key fun rx o hz18'=>?_
  refine GC hz18' fun hat erx bo=>?_
  clear hz18'
  replace eli:=o5.mv _ _ (k.pn.ne eli fun _ _ _ z=>by cases z) eli
  replace k:=k.go o5.mv p5
  clear o5 p5 er1 er2 bn bd b1
  refine ⟨li,_,_,_,rfl,rfl,SqL.of eli,hat,?_⟩
  refine ⟨_,rfl,a,3,rfl,k.pn,by decide,by decide,fun u G6 u0 u1 o6 p6=>⟨_,_,rfl,rfl,?_⟩⟩
  replace erx:=IQ erx k.pn o6.mv
  replace k:=k.go o6.mv p6
  clear eli hat o6 p6
  obtain ⟨m,hm⟩ : ∃ m : Nat,u = (m : Int):=⟨u.toNat,by lia⟩
  subst hm
  refine ⟨_,rfl,_,rfl,d,_,rfl,Ng.t (k:=kQ o) k.dd erx,_,rfl,?_⟩
  cases hv : DV kvs (kQ o) with
  | some _=>exact CN (CN ⟨c,l,fs,ls,xs,kvs,_,_,_,_,_,rfl,k,by lia,kn⟩)
  | none =>
  have ho : o ∉ xs:=Nn k.ks hv
  obtain ⟨cv,hcS,hcN⟩:=(id k.cc)
  have hcl:=hcN.length
  refine Gw ⟨_,rfl,c,_,rfl,.inr hcS,_,rfl,_,_,rfl,rfl,_,_,rfl,rfl,_,rfl,?_⟩
  refine Fe (fun c6=>?_) (fun _=>⟨c,l,fs,ls,xs,kvs,_,_,_,_,_,rfl,k,by lia,kn⟩)
  have c6:=of_decide_eq_true c6
  have kf:=kn.k
  have f1:=UQ.mpr kf.nf
  have l1:=UQ.mpr kf.nl
  have hle:=kf.le
  refine ⟨_,rfl,_,rfl,_,rfl,d,_,rfl,Nf.t (k:=kQ o) k.dd erx (Te (show kvs.length < 300 by lia) (by decide)),?_⟩
  have kl' : (Dr kvs (kQ o) (V.int (1 + (m : Int)))).length ≤ i + 1:=Tr (DA _ _ _) (by lia)
  have erx' : (upd G6 d (.dT (Dr kvs (kQ o) (V.int (1 + (m : Int)))))) rx = some (nT o):=by rw [Aw (CL erx k.dd fun z=>by cases z)]; exact erx
  replace k:=k.put (v:=V.int (1 + (m : Int))) hHd hv
  generalize Dr kvs (kQ o) (V.int (1 + (m : Int))) = kvs' at k kl' erx' ⊢
  generalize upd G6 d (.dT kvs') = G7 at k erx' ⊢
  clear erx hv kl hcS hcN
  refine ⟨P2,fun t1 ht1=>⟨_,rfl,_,_,0,o,1,8,rfl,AA.of (Ae (o:=nT 0)),AA.of ((Ag.new ht1) _ _ erx'),RB.zero (by decide),bo,by decide,fun t2 ht2=>⟨P2,fun t3 ht3=>⟨P2,fun t4 ht4=>?_⟩⟩⟩⟩
  have sA : Ag G7 (upd (upd (upd (upd G7 t1 (.tup [.int 0,.int 1])) t2 (nT (0 - o))) t3 (.tup [.int 1,.int 1])) t4 (.tup [.ref t2,.ref t3])):=(((Ag.new ht1).trans (Ag.new ht2)).trans (Ag.new ht3)).trans (Ag.new ht4)
  have cL : Crv K (upd (upd (upd (upd G7 t1 (.tup [.int 0,.int 1])) t2 (nT (0 - o))) t3 (.tup [.int 1,.int 1])) t4 (.tup [.ref t2,.ref t3])) t4 [-o,1]:=⟨_,SqT.of Ae,.cons (AA.of ((Ag.new (o:=.tup [.ref t2,.ref t3]) ht4) _ _ ((Ag.new (o:=nT 1) ht3) _ _ (by rw [Ae,show (0 : Rat) - o = -o by grind])))) (.cons (AA.of ((Ag.new (o:=.tup [.ref t2,.ref t3]) ht4) _ _ Ae)) .nil)⟩
  generalize upd (upd (upd (upd G7 t1 (.tup [.int 0,.int 1])) t2 (nT (0 - o))) t3 (.tup [.int 1,.int 1])) t4 (.tup [.ref t2,.ref t3]) = G8 at sA cL ⊢
  replace k:=k.on sA
  have bL : ∀ q ∈ [-o,1],RB 8 q:=fun q hq=>by
   rcases Tw.mp hq with z | z
   ·rw [z]; exact OU bo
   ·rw [V7.mp z]; exact RB.one (by decide)
  clear sA ht1 ht2 ht3 ht4 erx'
  have n1 : ([-o,1] : List Rat) ≠ []:=fun z=>by cases z
  have lbl:=GO ls.length
  refine ⟨_,rfl,_,rfl,l,t4,ls,[-o,1],lb ls.length,8,rfl,k.cl,cL,kf.bl,bL,by lia,by lia,(by decide : 2 ≤ 50),kf.nl,n1,fun rm G9 ms s9 cms lms ems bms=>?_⟩
  replace lms : ms.length = ls.length + 1:=lms
  replace cL:=cL.same s9
  replace k : K39 K a d H G9 c rm fs ms (xs ++ [o]) kvs':=let w:=k.on s9; ⟨w.mv,w.pn,w.cc,cms,w.dd,w.ks⟩
  have bms' : ∀ q ∈ ms,RB (lb ms.length) q:=fun q hq=>by
   rw [lms]
   exact (bms q hq).mono (Km _ (by lia) (by lia))
  clear bms cms s9
  refine ⟨_,rfl,((m + 1 : Nat) : Int),by rw [show ((m + 1 : Nat) : Int) = 1 + (m : Int) by lia],by lia,by lia,?_⟩
  rw [Uk]
  refine BK (n:=m + 1) (L12 a rt rm d i rx m t4 G9 K fs o fun a rt rm d i rx m t4 G9 K fs o j σ G=>∃ (c' : Addr) (gs : List Rat) (z9 : Option V),σ = [some (.ref a),some (.ref rt),some (.ref c'),some (.ref rm),some (.ref d),some (.int (0 + (i : Int))),some (.ref rx),some (.int (1 + (m : Int))),some (.ref t4),z9,none] ∧ Ag G9 G ∧ Crv K G c' gs ∧ (∀ x,Cv.ev gs x = Cv.ev fs x * Cv.ev (pw [-o,1] j) x) ∧ gs.length = fs.length + j ∧ ∀ q ∈ gs,RB (lb gs.length) q) ⟨c,fs,z9,rfl,Ag.refl _,k.cc,fun x=>by show _ = _ * ((1 : Rat) + x * 0); grind,rfl,kf.bf⟩ ?_ ?_
  ·rintro j σ G hj hR3
   refine DD hR3 fun c' gs z9' hz20'=>?_
   refine Es hz20' fun hq19 sj cg eg lg bg=>?_
   clear hz20'
   obtain rfl:=hq19
   try clear hR3
   have lbg:=GO gs.length
   refine ⟨_,rfl,_,rfl,c',t4,gs,[-o,1],lb gs.length,8,rfl,cg,cL.same sj,bg,bL,by lia,by lia,(by decide : 2 ≤ 50),UQ.mp (by lia),n1,fun rm' Ga ms' sa cms' lms' ems' bms''=>?_⟩
   replace lms' : ms'.length = gs.length + 1:=lms'
   refine ⟨rm',ms',_,rfl,sj.trans sa,cms',fun x=>?_,by lia,fun q hq=>?_⟩
   ·rw [ems',eg,El]; grind
   ·rw [lms']
    exact (bms'' q hq).mono (Km _ (by lia) (by lia))
  ·rintro σ G hR4
   refine DD hR4 fun c' gs z9' hz22'=>?_
   refine Es hz22' fun hq21 sj cg eg lg bg=>?_
   clear hz22'
   obtain rfl:=hq21
   try clear hR4
   refine ⟨c',rm,gs,ms,xs ++ [o],kvs',_,_,_,_,_,rfl,let w:=k.on sj; ⟨w.mv,w.pn,cg,w.cl,w.dd,w.ks⟩,kl',kn.line ho bo m eg lg ems lms (by lia) bg bms'⟩
 rintro σ G hR5
 refine Ow hR5 fun c l fs ls xs kvs z5 z6 z7 z8 z9 hz24'=>?_
 refine FZ hz24' fun hq23 k kl kn=>?_
 clear hz24'
 obtain rfl:=hq23
 try clear hR5
 refine ⟨_,rfl,a,3,rfl,k.pn,by decide,by decide,fun u G1 u0 u1 o1 p1=>?_⟩
 replace k:=k.go o1.mv p1
 clear o1 p1
 obtain ⟨m,hm⟩ : ∃ m : Nat,u = (m : Int):=⟨u.toNat,by lia⟩
 subst hm
 have kf:=kn.k
 have f1:=UQ.mpr kf.nf
 have l1:=UQ.mpr kf.nl
 have hle:=kf.le
 try dsimp only
 refine D6 (L7 a rt d K H xs kvs fun a rt d K H xs kvs σ' G=>∃ (c l : Addr) (fs ls : List Rat) (y5 y6 y7 y8 y9 y10 : Option V),σ' = [some (.ref a),some (.ref rt),some (.ref c),some (.ref l),some (.ref d),y5,y6,y7,y8,y9,y10] ∧ K39 K a d H G c l fs ls xs kvs ∧ KnF fs ls xs) (fun nx hnx=>?_) ?_
 rotate_left
 ·rintro σ' G hR6
  refine Ox hR6 fun c l fs ls y5 y6 y7 y8 y9 y10 hz26'=>?_
  refine GC hz26' fun hq25 k kf=>?_
  clear hz26'
  obtain rfl:=hq25
  try clear hR6
  refine ⟨_,rfl,_,rfl,_,rfl,P3,fun p hp=>?_⟩
  replace k:=k.on (Ag.new (o:=.tup [.ref c,.ref d,.ref l]) hp)
  exact q p c d l _ fs ls xs kvs k.mv k.pn Ae k.cc k.cl hHd k.dd k.ks kf (by lia)
 obtain ⟨cv,hcS,hcN⟩:=(id k.cc)
 have hcl:=hcN.length
 refine ⟨_,rfl,_,_,rfl,rfl,_,rfl,?_⟩
 by_cases hm : 0 < (m : Int)
 rotate_left
 ·exact Bg (by rw [decide_eq_false hm] <;> rfl) (CN (hnx _ _ ⟨c,l,fs,ls,_,_,_,_,_,_,rfl,k,kf⟩))
 refine BA (by rw [decide_eq_true hm] <;> rfl) ⟨_,rfl,c,_,rfl,.inr hcS,_,rfl,_,_,rfl,rfl,.inl ⟨by decide,by decide⟩,_,_,rfl,rfl,_,_,rfl,rfl,_,rfl,?_⟩
 refine Fe (fun c6=>?_) (fun _=>hnx _ _ ⟨c,l,fs,ls,_,_,_,_,_,_,rfl,k,kf⟩)
 have c6:=of_decide_eq_true c6
 clear hcS hcN
 obtain ⟨m,rfl⟩ : ∃ m' : Nat,m = m' + 1:=⟨m - 1,by lia⟩
 refine ⟨_,rfl,a,3,rfl,k.pn,by decide,by decide,fun v G2 v0 v1 o2 p2=>⟨_,_,rfl,rfl,P2,fun t1 ht1=>?_⟩⟩
 replace k:=(k.go o2.mv p2).on (Ag.new (o:=.tup [.int (1 + v),.int 1]) ht1)
 have e1 : (upd G2 t1 (.tup [.int (1 + v),.int 1])) t1 = some (nT ((1 + v : Int) : Rat)):=by rw [Ae,MD]
 generalize upd G2 t1 (.tup [.int (1 + v),.int 1]) = G3 at k e1 ⊢
 refine ⟨_,rfl,a,3,rfl,k.pn,by decide,by decide,fun y G4 y0 y1 o4 p4=>⟨_,_,rfl,rfl,P2,fun t2 ht2=>⟨P2,fun t3 ht3=>⟨P3,fun t4 ht4=>?_⟩⟩⟩⟩
 replace e1:=IQ e1 k.pn o4.mv
 replace k:=k.go o4.mv p4
 have sA : Ag G4 (upd (upd (upd G4 t2 (.tup [.int (y - 1),.int 1])) t3 (.tup [.int 1,.int 1])) t4 (.tup [.ref t1,.ref t2,.ref t3])):=((Ag.new ht2).trans (Ag.new ht3)).trans (Ag.new ht4)
 have cL : Crv K (upd (upd (upd G4 t2 (.tup [.int (y - 1),.int 1])) t3 (.tup [.int 1,.int 1])) t4 (.tup [.ref t1,.ref t2,.ref t3])) t4 [((1 + v : Int) : Rat),((y - 1 : Int) : Rat),1]:=⟨_,SqT.of Ae,.cons (AA.of (sA _ _ e1)) (.cons (AA.of ((Ag.new ht4) _ _ ((Ag.new ht3) _ _ (by rw [Ae,MD])))) (.cons (AA.of ((Ag.new (o:=.tup [.ref t1,.ref t2,.ref t3]) ht4) _ _ Ae)) .nil))⟩
 generalize upd (upd (upd G4 t2 (.tup [.int (y - 1),.int 1])) t3 (.tup [.int 1,.int 1])) t4 (.tup [.ref t1,.ref t2,.ref t3]) = G5 at sA cL ⊢
 replace k:=k.on sA
 clear sA ht1 ht2 ht3 ht4 e1 o2 p2 o4 p4
 have hbc : ((y - 1 : Int) : Rat) * ((y - 1 : Int) : Rat) < 4 * ((1 + v : Int) : Rat):=by
  rw [← UN,show (4 : Rat) = ((4 : Int) : Rat) from rfl,← UN,Wr]
  have hy : y = 0 ∨ y = 1 ∨ y = 2:=by lia
  rcases hy with z | z | z <;> (rw [z]; lia)
 have bL : ∀ q ∈ [((1 + v : Int) : Rat),((y - 1 : Int) : Rat),1],RB 8 q:=fun q hq=>by
  rcases Tw.mp hq with z | z
  ·rw [z]; exact ⟨by rw [Rat.num_intCast]; unfold Bd; lia,by rw [Rat.den_intCast]; unfold Bd; decide⟩
  rcases Tw.mp z with z | z
  ·rw [z]; exact ⟨by rw [Rat.num_intCast]; unfold Bd; lia,by rw [Rat.den_intCast]; unfold Bd; decide⟩
  ·rw [V7.mp z]; exact RB.one (by decide)
 have hCD : ∀ l m : List Rat,CD l → m = AW [((1 + v : Int) : Rat),((y - 1 : Int) : Rat),1] l → m.length = l.length + 2 → CD m:=fun l m h e hl=>h.bow (by lia) (by lia) e hl
 generalize ((1 + v : Int) : Rat) = cc at cL hbc bL hCD
 generalize ((y - 1 : Int) : Rat) = bb at cL hbc bL hCD
 have n1 : ([cc,bb,1] : List Rat) ≠ []:=fun z=>by cases z
 have lbl:=GO ls.length
 have l5 : fs.length + 2 * (m + 1) < 6:=by lia
 refine ⟨_,rfl,_,rfl,l,t4,ls,[cc,bb,1],lb ls.length,8,rfl,k.cl,cL,kf.bl,bL,by lia,by lia,(by decide : 3 ≤ 50),kf.nl,n1,fun rm G9 ms s9 cms lms ems bms=>?_⟩
 replace lms : ms.length = ls.length + 2:=lms
 replace cL:=cL.same s9
 replace k : K39 K a d H G9 c rm fs ms xs kvs:=let w:=k.on s9; ⟨w.mv,w.pn,w.cc,cms,w.dd,w.ks⟩
 have bms' : ∀ q ∈ ms,RB (lb ms.length) q:=fun q hq=>by
  rw [lms]
  exact (bms q hq).mono (MJ _ (by lia) (by lia))
 clear bms cms s9
 refine ⟨_,rfl,((m + 1 : Nat) : Int),rfl,by lia,by lia,?_⟩
 rw [Uk]
 refine BK (n:=m + 1) (L14 a rt rm d z5 z6 m z8 t4 G9 K fs cc bb fun a rt rm d z5 z6 m z8 t4 G9 K fs cc bb j σ G=>∃ (c' : Addr) (gs : List Rat) (w9 : Option V),σ = [some (.ref a),some (.ref rt),some (.ref c'),some (.ref rm),some (.ref d),z5,z6,some (.int ((m + 1 : Nat) : Int)),z8,w9,some (.ref t4)] ∧ Ag G9 G ∧ Crv K G c' gs ∧ (∀ x,Cv.ev gs x = Cv.ev fs x * Cv.ev (pw [cc,bb,1] j) x) ∧ gs.length = fs.length + j * 2 ∧ ∀ q ∈ gs,RB (lb gs.length) q) ⟨c,fs,z9,rfl,Ag.refl _,k.cc,fun x=>by show _ = _ * ((1 : Rat) + x * 0); grind,rfl,kf.bf⟩ ?_ ?_
 ·rintro j σ G hj hR7
  refine DD hR7 fun c' gs z9' hz28'=>?_
  refine Es hz28' fun hq27 sj cg eg lg bg=>?_
  clear hz28'
  obtain rfl:=hq27
  try clear hR7
  have lbg:=GO gs.length
  refine ⟨_,rfl,_,rfl,c',t4,gs,[cc,bb,1],lb gs.length,8,rfl,cg,cL.same sj,bg,bL,by lia,by lia,(by decide : 3 ≤ 50),UQ.mp (by lia),n1,fun rm' Ga ms' sa cms' lms' ems' bms''=>?_⟩
  replace lms' : ms'.length = gs.length + 2:=lms'
  refine ⟨rm',ms',_,rfl,sj.trans sa,cms',fun x=>?_,by lia,fun q hq=>?_⟩
  ·rw [ems',eg,El]; grind
  ·rw [lms']
   exact (bms'' q hq).mono (MJ _ (by lia) (by lia))
 ·rintro σ G hR8
  refine DD hR8 fun c' gs z9' hz30'=>?_
  refine Es hz30' fun hq29 sj cg eg lg bg=>?_
  clear hz30'
  obtain rfl:=hq29
  try clear hR8
  exact hnx _ _ ⟨c',rm,gs,ms,_,_,_,_,_,_,rfl,let w:=k.on sj; ⟨w.mv,w.pn,cg,w.cl,w.dd,w.ks⟩,kn.bow hbc m eg lg ems lms (by lia) bg bms' (hCD ls ms kf.cd (Fh n1 kf.nl (by show _ = 3 + _ - 1; lia) fun x=>by rw [ems,Vy]) lms)⟩
theorem BI : Ar ["_law_pen_here","_law_low","_law_wide"] ["_law_pen_here"] (Af (top 58)):=⟨rfl,rfl,rfl,by decide +kernel,rfl,by decide +kernel,by decide +kernel⟩
theorem Fb {f : Addr} {fd : FuncData} (F : Fun K "_law_stretch" "_law_stretch" (top 58) f fd) (RI : Fd P w K mg base 34 "_law_number" ["_law_pen_here"] (K4 8)) (RH : Fd P w K mg base 34 "_law_plus" ["_law_a","_law_b"] (Cs K (· + ·))) (Rn : Fd P w K mg base 33 "_law_draw" ["_law_pen_here","_law_many"] (EC)) (hT : P.given.tree = none) :
 AN P w K mg base CX0 35 f fd ["_law_pen_here"] (Mb K):=by
 refine F.ok BI (fun vs H Q E h=>?_) (fun cdv A outer s H vs Q E hr h=>?_)
 ·obtain ⟨_,rfl,_⟩:=h; rfl
 refine ⟨_,(Ac (K:=K) (Ai (i:=1) BI.nd rfl (Or.inl rfl) (Am RI hr rfl (Aa (pv 0) Ab)))
  (Ac (K:=K) (Ai (i:=2) BI.nd rfl (Or.inl rfl) (Am RI hr rfl (Aa (pv 0) Ab)))
  (Ac (K:=K) (AV (K:=K) (Au Ec (Al (ixT K) (pv 2) Ad (fun u v=>rfl)) Ad (Ay _)) (Ah (Ai (i:=2) BI.nd rfl (Or.inl rfl) (AG (Aa (Aj Bo Ad (Al (ixT K) (pv 2) Ad (fun u v=>rfl))) (Aa (Al (ixT K) (pv 2) Ad (fun u v=>rfl)) Ab))))) AL (by rfl) (by rfl))
  (Ac (K:=K) (AV (K:=K) (Au CK (Al (ixT K) (pv 2) Ad (fun u v=>rfl)) Ad (Ay _)) (Ah (Ai (i:=2) BI.nd rfl (Or.inl rfl) (AG (Aa Ad (Aa (Aj AJ Ad (Am Rn hr rfl (Aa (pv 0) (Aa Ad Ab)))) Ab))))) AL (by rfl) (by rfl))
  (Ah (Ax (AG (Aa (pv 1) (Aa (Am RH hr rfl (Aa (pv 1) (Aa (pv 2) Ab))) Ab))))) (by rfl)) (by rfl)) (by rfl)) (by rfl)),?_⟩
 obtain ⟨a,rfl,pn,q⟩:=h
 have P2 : 2 ≤ sizeLine:=by decide
 refine ⟨_,rfl,a,rfl,pn,fun lo rl H1 m1 p1 hr1 bn1 bd1=>?_⟩
 refine ⟨_,rfl,a,rfl,p1,fun w rw' H2 m2 p2 hr2 bn2 bd2=>?_⟩
 have hlo2 : AA K H2 (.ref rl) lo:=(AA.of hr1).mv p1 m2
 try dsimp only
 refine D6 (L4 H2 a rl K fun H2 a rl K σ' H'=>Ag H2 H' ∧ ∃ (r3 : Addr) (w3 : Rat),σ' = [some (.ref a),some (.ref rl),some (.ref r3)] ∧ AA K H' (.ref r3) w3 ∧ 0 ≤ w3 ∧ RB 8 w3) (fun nx hnx=>?_) ?_
 ·refine ⟨_,rfl,rw',_,_,_,rfl,rfl,SqT.of hr2,rfl,_,_,rfl,rfl,_,rfl,?_⟩
  by_cases hw : w.num < 0
  ·refine BA (by rw [decide_eq_true hw] <;> rfl) ⟨_,rfl,rw',_,_,_,rfl,rfl,SqT.of hr2,rfl,_,_,rfl,rfl,_,rfl,rw',_,_,_,rfl,rfl,SqT.of hr2,rfl,P2,fun t ht=>?_⟩
   have e : nT (-w) = .tup [.int (0 - w.num),.int (w.den : Int)]:=by
    unfold nT
    rw [Wv,Rat.neg_den,Int.zero_sub]
   refine hnx _ _ ⟨Ag.new ht,t,-w,rfl,AA.of (by rw [Ae,e]),CI (by rw [Wv]; lia),?_⟩
   exact ⟨by rw [Wv]; exact Bd.neg bn2,by rw [Rat.neg_den]; exact bd2⟩
  ·exact Bg (by rw [decide_eq_false hw] <;> rfl) (hnx _ _ ⟨Ag.refl _,rw',w,rfl,AA.of hr2,CI (by lia),⟨bn2,bd2⟩⟩)
 rintro σ' H3 hR1
 refine BZ hR1 fun s3 hz32=>?_
 refine DP hz32 fun r3 w3 hz32'=>?_
 clear hz32
 refine FZ hz32' fun hq31 hw3 h0 bw3=>?_
 clear hz32'
 obtain rfl:=hq31
 try clear hR1
 have p3:=p2.sm s3
 have hlo3:=hlo2.same s3
 obtain ⟨r3',e3,hr3⟩:=(id hw3)
 cases e3
 refine FE (s:=Jx _ _ _) (L4 a H3 rl K fun a H3 rl K σ' H'=>Mv a H3 H' ∧ Pen H' a ∧ ∃ (r4 : Addr) (w4 : Rat),σ' = [some (.ref a),some (.ref rl),some (.ref r4)] ∧ AA K H' (.ref r4) w4 ∧ 0 < w4 ∧ RB 8 w4) (fun nx hnx=>?_) ?_
 ·refine ⟨_,rfl,r3,_,_,_,rfl,rfl,hr3,rfl,rfl,_,rfl,?_⟩
  by_cases hz : w3.num = 0
  ·refine BA (by rw [decide_eq_true (show V.int w3.num = V.int 0 by rw [hz])] <;> rfl) ⟨_,rfl,a,9,rfl,p3,by decide,by decide,fun d H4 d0 d1 o4 p4=>⟨_,_,rfl,rfl,P2,fun t ht=>?_⟩⟩
   have hd : (1 : Int) + d ≠ 0:=by lia
   have e : nT (UE 1 (1 + d)) = .tup [.int 1,.int (1 + d)]:=by
    unfold nT
    rw [← Nm.top_msr hd,← Nm.bottom_msr hd]
    have m1 : Nm.msr 1 (1 + d) = 1:=by
     unfold Nm.msr
     rw [if_neg (by lia),Int.gcd_one_left]; rfl
    rw [m1,Int.fdiv_one,Int.fdiv_one]
   refine hnx _ _ ⟨o4.mv.trans (Mv.new ht),p4.same ht,t,UE 1 (1 + d),rfl,AA.of (by rw [Ae,e]),?_,?_⟩
   ·refine E7 (CI ?_) ?_
    ·have:=congrArg (fun o : HO=>match o with | .tup (.int i :: _)=>i | _=>0) e
     have e1 : (UE 1 (1 + d)).num = 1:=this
     rw [e1]; decide
    ·have:=congrArg (fun o : HO=>match o with | .tup (.int i :: _)=>i | _=>0) e
     have e1 : (UE 1 (1 + d)).num = 1:=this
     rw [e1]; decide
   ·exact ⟨Bd.num (show Bd 8 1 by unfold Bd; decide),Bd.den hd (show Bd 8 (1 + d) by unfold Bd; lia)⟩
  ·exact Bg (by rw [decide_eq_false (show ¬ V.int w3.num = V.int 0 from fun z=>hz (V.int.inj z))] <;> rfl) (hnx _ _ ⟨Mv.refl _ _,p3,r3,w3,rfl,hw3,E7 h0 hz,bw3⟩)
 rintro σ' H4 hR2
 refine GC hR2 fun m4 p4 hz34=>?_
 refine DP hz34 fun r4 w4 hz34'=>?_
 clear hz34
 refine FZ hz34' fun hq33 hw4 hpos bw4=>?_
 clear hz34'
 obtain rfl:=hq33
 try clear hR2
 have hlo4:=hlo3.mv p3 m4
 refine ⟨_,rfl,_,rfl,_,rfl,_,_,_,_,8,8,rfl,hlo4,hw4,⟨bn1,bd1⟩,bw4,by decide,fun u hu=>⟨P2,fun t ht=>?_⟩⟩
 have s5 : Ag H4 (upd (upd H4 u (nT (lo + w4))) t (.tup [.ref rl,.ref u])):=(Ag.new hu).trans (Ag.new ht)
 refine q t rl u lo (lo + w4) _ ((((m1.trans m2).trans s3.mv).trans m4).trans s5.mv) (p4.sm s5) Ae (hlo4.same s5) (AA.of ((Ag.new ht) _ _ Ae)) (Ki hpos) (RB.mono ⟨bn1,bd1⟩ (by decide)) ((RB.plus ⟨bn1,bd1⟩ bw4).mono (by decide))
theorem HC : Ar ["_law_a","_law_b"] ["_law_a","_law_b"] (Af (top 61)):=⟨rfl,rfl,rfl,by decide +kernel,rfl,by decide +kernel,by decide +kernel⟩
theorem HR {f : Addr} {fd : FuncData} (F : Fun K "_law_less" "_law_less" (top 61) f fd) (hT : P.given.tree = none) :
 AN P w K mg base CX0 33 f fd ["_law_a","_law_b"] (EB K):=by
 refine F.ok HC (fun vs H Q E h=>?_) (fun cdv A outer s H vs Q E hr h=>?_)
 ·obtain ⟨_,_,_,_,_,_,rfl,_⟩:=h; rfl
 refine ⟨_,(Ah (Ax (DK Ec (Aj Aq (Al (ixT K) (pv 0) Ad (fun u v=>rfl)) (Al (ixT K) (pv 1) Ad (fun u v=>rfl))) (Aj Aq (Al (ixT K) (pv 1) Ad (fun u v=>rfl)) (Al (ixT K) (pv 0) Ad (fun u v=>rfl))) (Ay _)))),?_⟩
 obtain ⟨x,y,p,q,m,n,rfl,⟨r,rfl,hr'⟩,⟨u,rfl,hu⟩,hp,hq,hmn,k⟩:=h
 refine ⟨_,rfl,r,_,_,_,rfl,rfl,hr',rfl,_,rfl,u,_,_,_,rfl,rfl,hu,rfl,_,_,rfl,rfl,Bq.bd hp.1 hq.2,?_⟩
 refine ⟨_,rfl,u,_,_,_,rfl,rfl,hu,rfl,_,rfl,r,_,_,_,rfl,rfl,hr',rfl,_,_,rfl,rfl,Bq.bd hq.1 hp.2,_,_,rfl,rfl,?_⟩
 have e:=Kk p q
 show Q (.bl (decide (p.num * q.den < q.num * p.den))) H
 rw [e]
 exact k
theorem Bs : Ar ["_law_pen_here","_law_places","_law_low","_law_high","_law_some"] ["_law_pen_here","_law_places"] (Af (top 63)):=⟨rfl,rfl,rfl,by decide +kernel,rfl,by decide +kernel,by decide +kernel⟩
theorem HS {f : Addr} {fd : FuncData} (F : Fun K "_law_ends" "_law_ends" (top 63) f fd) (So : Fd P w K mg base 35 "_law_stretch" ["_law_pen_here"] (Mb K)) (RH : Fd P w K mg base 34 "_law_plus" ["_law_a","_law_b"] (Cs K (· + ·))) (RC : Fd P w K mg base 33 "_law_less" ["_law_a","_law_b"] (EB K)) (Rn : Fd P w K mg base 33 "_law_draw" ["_law_pen_here","_law_many"] (EC)) (Rt : Fd P w K mg base 33 "_law_lowest" ["_law_top","_law_bottom"] (Cr)) (Ru : mg "list" = none) (Rl : mg "len" = none) (hT : P.given.tree = none) :
 AN P w K mg base CX0 36 f fd ["_law_pen_here","_law_places"] (JC K):=by
 refine F.ok Bs (fun vs H Q E h=>?_) (fun cdv A outer s H vs Q E hr h=>?_)
 ·obtain ⟨_,_,_,_,rfl,_⟩:=h; rfl
 refine ⟨_,(Ac (K:=K) (CU (Am So hr rfl (Aa (pv 0) Ab)) (pgT K (n:=2) rfl (Bw (Av (i:=2) Bs.nd rfl (Or.inl rfl)) (Bw (Av (i:=3) Bs.nd rfl (Or.inl rfl)) DJ))))
  (Ac (K:=K) (Ai (i:=4) Bs.nd rfl (Or.inl rfl) (Mq rfl rfl Ru (pv 1)))
  (Ac (K:=K) (AV (K:=K) (PW.pt (Dk (Au (neD K hr.units) (pv 4) (Be Ab) (Ay _)) (CA (Au CK (Am Rn hr rfl (Aa (pv 0) (Aa Ad Ab))) Ad (Ay _))))) (Ac (K:=K) (Ai (i:=2) Bs.nd rfl (Or.inl rfl) (Al (ixL K) (pv 4) (Am Rn hr rfl (Aa (pv 0) (Aa (Ak (Bt K) rfl Rl AF (Aa (pv 4) Ab)) Ab))) (fun u v=>rfl)))
  (Ah (Ai (i:=3) Bs.nd rfl (Or.inl rfl) (Am RH hr rfl (Aa (pv 2) (Aa (Am Rt hr rfl (Aa (Aj AJ Ad (Am Rn hr rfl (Aa (pv 0) (Aa Ad Ab)))) (Aa (Aj AJ Ad (Am Rn hr rfl (Aa (pv 0) (Aa Ad Ab)))) Ab))) Ab))))) (by rfl)) AL (by rfl) (by rfl))
  (Ac (K:=K) (AV (K:=K) (PW.pt (Dk (Au Cu (Ak (Bt K) rfl Rl AF (Aa (pv 4) Ab)) Ad (Ay _)) (CA (Au CK (Am Rn hr rfl (Aa (pv 0) (Aa Ad Ab))) Ad (Ay _))))) (Ac (K:=K) (CU (E8 (slL K) (pv 4) Fj (Fi Ad)) (pgL (K:=K) (n:=2) rfl (Bw (Av (i:=2) Bs.nd rfl (Or.inl rfl)) (Bw (Av (i:=3) Bs.nd rfl (Or.inl rfl)) DJ))))
  (Ah (AV (K:=K) (CT (Am RC hr rfl (Aa (pv 3) (Aa (pv 2) Ab)))) (Ah (Mn (i:=2) (j:=3) rfl Bs.nd rfl rfl (by decide) rfl rfl (Aa (Al (ixL K) (pv 4) Ad (fun u v=>rfl)) (Aa (Al (ixL K) (pv 4) Ad (fun u v=>rfl)) Ab)) (by with_unfolding_all rfl))) AL (by rfl) (by rfl))) (by rfl)) AL (by rfl) (by rfl))
  (Ah (Ax (AG (Aa (pv 2) (Aa (pv 3) Ab))))) (by rfl)) (by rfl)) (by rfl)) (by rfl)),?_⟩
 obtain ⟨a,d,xs,kvs,rfl,pn,dd,ks,bx,nd,hk,q⟩:=h
 have P0 : 0 ≤ sizeLine:=by decide
 have P2 : 2 ≤ sizeLine:=by decide
 have hxl : xs.length = kvs.length:=by have:=congrArg U7 ks; rw [Ug,Ug] at this; lia
 refine ⟨_,rfl,a,rfl,pn,fun t rl rh lo hi H1 m1 p1 et nlo nhi hlt blo bhi=>?_⟩
 refine ⟨t,_,rfl,SqT.of et,rfl,_,_,rfl,_,_,rfl,rfl,?_⟩
 have dd1:=m1 _ _ (pn.ne dd fun _ _ _ z=>by cases z) dd
 refine ⟨_,rfl,d,kvs,rfl,.inl dd1,by lia,fun l us hl hus=>?_⟩
 have la : l ≠ a:=p1.ne' hl
 have hun:=GP hus ks
 have s2:=Ag.new (o:=.lst us) hl
 have hu : AS K (upd H1 l (.lst us)) us xs:=Paired.mapP hun fun _ _ ⟨b,e1,e2⟩=>by rw [e1]; exact (AA.of e2).same s2
 have k0 : E42 K a l us xs rl rh lo hi H (upd H1 l (.lst us)):=⟨m1.trans s2.mv,p1.sm s2,Ae,hu,nlo.same s2,nhi.same s2,hlt,blo,bhi⟩
 generalize upd H1 l (.lst us) = G at k0
 clear hun hu s2 hus hl dd1 m1 p1 nlo nhi hlt blo bhi et
 have hul:=k0.hu.length
 try dsimp only
 refine D6 (L7 a d l K us xs H fun a d l K us xs H σ' G=>∃ (rl rh : Addr) (lo hi : Rat),σ' = [some (.ref a),some (.ref d),some (.ref rl),some (.ref rh),some (.ref l)] ∧ E42 K a l us xs rl rh lo hi H G) (fun nx hnx=>?_) ?_
 ·refine ⟨_,rfl,P0,fun e he=>?_⟩
  have k1:=k0.on la (Ag.new (o:=.lst []) he)
  refine eqL (ps:=xs) (qs:=[]) (SqL.of k1.el) k1.hu (SqL.of Ae) .nil ?_
  refine ⟨_,rfl,?_⟩
  by_cases hx : xs = []
  ·exact Bg (by rw [decide_eq_true hx] <;> rfl) (CN (hnx _ _ ⟨rl,rh,lo,hi,rfl,k1⟩))
  rw [decide_eq_false hx]
  have hlen:=UQ.mpr hx
  refine Gw ⟨_,rfl,a,3,rfl,k1.pn,by decide,by decide,fun v G2 v0 v1 o2 p2=>⟨rfl,_,rfl,?_⟩⟩
  have k2:=k1.go la o2.mv p2
  refine Fe (fun _=>?_) (fun _=>hnx _ _ ⟨rl,rh,lo,hi,rfl,k2⟩)
  refine ⟨_,rfl,_,rfl,_,rfl,l,us,rfl,.inl (SqL.of k2.el),a,_,rfl,k2.pn,by lia,by lia,fun w G3 w0 w1 o3 p3=>?_⟩
  have k3:=k2.go la o3.mv p3
  obtain ⟨j,rfl⟩ : ∃ j : Nat,w = (j : Int):=⟨w.toNat,by lia⟩
  have hj : xs[j]? = some xs[j]:=V9 (by lia)
  have bj:=bx _ (Va (show j < xs.length by lia))
  generalize xs[j] = xj at hj bj
  obtain ⟨y,hy,ry,rfl,hry⟩:=(Paired.get' k3.hu hj)
  refine ⟨l,us,_,_,rfl,rfl,SqL.of k3.el,AR hy,?_⟩
  refine ⟨_,rfl,_,rfl,a,40,rfl,k3.pn,by decide,by decide,fun u G4 u0 u1 o4 p4=>⟨_,_,rfl,rfl,?_⟩⟩
  have k4:=k3.go la o4.mv p4
  refine ⟨_,rfl,a,8,rfl,k4.pn,by decide,by decide,fun z G5 z0 z1 o5 p5=>⟨_,_,rfl,rfl,_,_,rfl,by lia,fun r1 hr1=>?_⟩⟩
  have k6:=(k4.go la o5.mv p5).on la (Ag.new (o:=nT (UE (1 + u) (1 + z))) hr1)
  have bd : RB 8 (UE (1 + u) (1 + z)):=RB.div (m:=0) (by unfold Bd; lia) (by unfold Bd; lia) (by lia)
  refine ⟨_,_,xj,UE (1 + u) (1 + z),8,8,rfl,k6.at hy hj,AA.of Ae,bj,bd,by decide,fun r2 hr2=>?_⟩
  have k7:=k6.on la (Ag.new (o:=nT (xj + UE (1 + u) (1 + z))) hr2)
  exact hnx _ _ ⟨ry,r2,xj,xj + UE (1 + u) (1 + z),rfl,k7.mv,k7.pn,k7.el,k7.hu,k7.at hy hj,AA.of Ae,Ki (O4 (by lia) (by lia)),bj.mono (by decide),(bj.plus bd).mono (by decide)⟩
 clear k0
 rintro σ' G hR1
 refine J2 hR1 fun rl rh lo hi hz38'=>?_
 refine BZ hz38' fun hq37 k=>?_
 clear hz38'
 obtain rfl:=hq37
 try clear hR1
 refine FE (s:=Jx _ _ _) (L7 a d l K us xs H fun a d l K us xs H σ' G=>∃ (rl rh : Addr) (lo hi : Rat),σ' = [some (.ref a),some (.ref d),some (.ref rl),some (.ref rh),some (.ref l)] ∧ E42 K a l us xs rl rh lo hi H G) (fun nx hnx=>?_) ?_
 rotate_left
 ·rintro σ' G hR2
  refine J2 hR2 fun rl rh lo hi hz40'=>?_
  refine BZ hz40' fun hq39 k=>?_
  clear hz40'
  obtain rfl:=hq39
  try clear hR2
  refine ⟨_,rfl,_,rfl,P2,fun t' ht'=>?_⟩
  have k1:=k.on la (Ag.new (o:=.tup [.ref rl,.ref rh]) ht')
  exact q t' rl rh lo hi _ k1.mv k1.pn Ae k1.nl k1.nh k1.lt k1.b1 k1.b2
 refine ⟨_,rfl,l,us,rfl,.inl (SqL.of k.el),_,_,rfl,rfl,_,rfl,?_⟩
 by_cases h1 : (1 : Int) < (us.length : Int)
 rotate_left
 ·exact Bg (by rw [decide_eq_false h1] <;> rfl) (CN (hnx _ _ ⟨rl,rh,lo,hi,rfl,k⟩))
 refine BA (by rw [decide_eq_true h1] <;> rfl) ⟨_,rfl,a,3,rfl,k.pn,by decide,by decide,fun v G2 v0 v1 o2 p2=>⟨rfl,_,rfl,?_⟩⟩
 have k2:=k.go la o2.mv p2
 refine Fe (fun _=>?_) (fun _=>hnx _ _ ⟨rl,rh,lo,hi,rfl,k2⟩)
 refine DD (LU (l:=us) (by lia)) fun w0 w1 u2 hus=>?_
 refine DD (LU (l:=xs) (by lia)) fun x0 x1 x2 hxs=>?_
 have a0 : us[0]? = some w0:=by rw [hus]; rfl
 have a1 : us[1]? = some w1:=by rw [hus]; rfl
 have c0 : xs[0]? = some x0:=by rw [hxs]; rfl
 have c1 : xs[1]? = some x1:=by rw [hxs]; rfl
 have b0:=bx x0 (Ud c0)
 have b1:=bx x1 (Ud c1)
 have hne : x0 ≠ x1:=fun z=>by
  rw [hxs,z] at nd
  exact (U3.mp nd).1 Tu
 obtain ⟨r0,e0,_⟩:=(k2.at a0 c0)
 obtain ⟨r1,e1,_⟩:=(k2.at a1 c1)
 subst e0 e1
 refine ⟨_,rfl,2,rfl,l,us,rfl,SqL.of k2.el,fun p hp=>?_⟩
 have ec : Du us none (some 2) = [.ref r0,.ref r1]:=by
  show Du us none (some ((2 : Nat) : Int)) = _
  rw [N0,hus]; rfl
 rw [ec]
 have k3:=k2.on la (Ag.new (o:=.lst [.ref r0,.ref r1]) hp)
 refine ⟨p,_,rfl,SqL.of Ae,rfl,_,_,rfl,_,_,rfl,rfl,?_⟩
 generalize upd G2 p (.lst [.ref r0,.ref r1]) = G3 at k3 ⊢
 refine ⟨_,rfl,_,rfl,_,_,x1,x0,8,8,rfl,k3.at a1 c1,k3.at a0 c0,b1,b0,by decide,_,rfl,?_⟩
 by_cases hl : x1 < x0
 ·exact BA (by rw [decide_eq_true hl] <;> rfl) ⟨_,rfl,l,us,_,_,rfl,rfl,SqL.of k3.el,AR (j:=1) a1,_,rfl,l,us,_,_,rfl,rfl,SqL.of k3.el,AR (j:=0) a0,_,_,rfl,hnx _ _ ⟨r1,r0,x1,x0,rfl,k3.mv,k3.pn,k3.el,k3.hu,k3.at a1 c1,k3.at a0 c0,hl,b1.mono (by decide),b0.mono (by decide)⟩⟩
 ·exact Bg (by rw [decide_eq_false hl] <;> rfl) (hnx _ _ ⟨r0,r1,x0,x1,rfl,k3.mv,k3.pn,k3.el,k3.hu,k3.at a0 c0,k3.at a1 c1,by grind,b0.mono (by decide),b1.mono (by decide)⟩)
theorem Bj : Ar ["one","other","great","small","rest"] ["one","other"] (Af (top 13)):=⟨rfl,rfl,rfl,by decide +kernel,rfl,by decide +kernel,by decide +kernel⟩
theorem Ef {f : Addr} {fd : FuncData} (F : Fun K "common_measure" "common_measure" (top 13) f fd) (Rw : mg "abs" = none) (hT : P.given.tree = none) :
 AN P w K mg base CX0 33 f fd ["one","other"] (K6):=by
 refine F.ok Bj (fun vs H Q E h=>?_) (fun cdv A outer s H vs Q E hr h=>?_)
 ·obtain ⟨_,_,rfl,_⟩:=h; rfl
 refine ⟨_,(Ac (K:=K) (Ai (i:=2) Bj.nd rfl (Or.inl rfl) (Ak Er rfl Rw Il (Aa (pv 0) Ab)))
  (Ac (K:=K) (Ai (i:=3) Bj.nd rfl (Or.inl rfl) (Ak Er rfl Rw Il (Aa (pv 1) Ab)))
  (Ac (K:=K) (Cg PassesOwn.never (Au GJ (pv 3) Ad (Ay _)) (Ac (K:=K) (Ai (i:=4) Bj.nd rfl (Or.inl rfl) (Aj Cq (pv 2) (pv 3)))
  (Ac (K:=K) (Ai (i:=2) Bj.nd rfl (Or.inl rfl) (pv 3))
  (Ah (Ai (i:=3) Bj.nd rfl (Or.inl rfl) (pv 4))) (by rfl)) (by rfl)))
  (Ah (Ax (pv 2))) (by rfl)) (by rfl)) (by rfl)),?_⟩
 obtain ⟨a,b,rfl,q⟩:=h
 refine ⟨_,rfl,a,rfl,?_⟩
 refine ⟨_,rfl,b,rfl,?_⟩
 refine Iw (L3 H a b fun H a b σ H'=>H' = H ∧ ∃ (x y : Int) (r : Option V),σ = [some (.int a),some (.int b),some (.int x),some (.int y),r] ∧ 0 ≤ x ∧ 0 ≤ y ∧ UC x y = UC a b) (fun σ _=>mu 3 σ)
  ⟨rfl,_,_,none,rfl,?_,?_,?_⟩ ?_ ?_
 ·rw [Nm.abs_if]; exact Wy _
 ·rw [Nm.abs_if]; exact Wy _
 ·rw [Nm.abs_if,Nm.abs_if]; rfl
 ·rintro σ H' hR1
  refine BZ hR1 fun hq43 hz45=>?_
  refine DD hz45 fun x y r hz45'=>?_
  clear hz45
  refine FZ hz45' fun hq44 hx hy hg=>?_
  clear hz45'
  obtain rfl:=hq43
  obtain rfl:=hq44
  try clear hR1
  refine ⟨_,rfl,rfl,_,rfl,?_⟩
  by_cases hy0 : y = 0
  ·subst hy0
   refine Bg (by rw [decide_eq_true rfl] <;> rfl) ⟨_,rfl,?_⟩
   have e : (UC a b : Int) = x:=by rw [← hg,Int.gcd_zero]; lia
   rw [e] at q
   exact q
  ·refine BA (by rw [decide_eq_false (fun z=>hy0 (V.int.inj z))] <;> rfl) ?_
   have hyp : 0 < y:=by lia
   refine ⟨_,rfl,_,rfl,_,_,rfl,rfl,hyp,?_⟩
   refine ⟨_,rfl,_,rfl,⟨rfl,y,x % y,_,rfl,hy,Ww _ hy0,?_⟩,?_⟩
   ·rw [Nm.gcd_turn]; exact hg
   ·show (x % y).toNat < y.toNat
    have:=Wx x hyp
    lia
 ·rintro σ H' Q1 Q2 hm hR2
  obtain ⟨v,e,s1,k,ek,q1⟩:=hR2
  try clear hR2
  exact ⟨v,e,s1,k,ek,hm _ _ q1⟩
theorem Di : Ar ["top","bottom","measure"] ["top","bottom"] (Af (top 14)):=⟨rfl,rfl,rfl,by decide +kernel,rfl,by decide +kernel,by decide +kernel⟩
theorem HJ {f : Addr} {fd : FuncData} (F : Fun K "number_of" "number_of" (top 14) f fd) (RP : Fd P w K mg base 33 "common_measure" ["one","other"] (K6)) (hT : P.given.tree = none) :
 AN P w K mg base CX0 34 f fd ["top","bottom"] (Cr):=by
 refine F.ok Di (fun vs H Q E h=>?_) (fun cdv A outer s H vs Q E hr h=>?_)
 ·obtain ⟨_,_,rfl,_⟩:=h; rfl
 refine ⟨_,(Ac (K:=K) (AV (K:=K) (Au CK (pv 1) Ad (Ay _)) (Ah D8) AL (by rfl) (by rfl))
  (Ac (K:=K) (Ai (i:=2) Di.nd rfl (Or.inl rfl) (Am RP hr rfl (Aa (pv 0) (Aa (pv 1) Ab))))
  (Ac (K:=K) (AV (K:=K) (Au Ec (pv 1) Ad (Ay _)) (Ah (Ai (i:=2) Di.nd rfl (Or.inl rfl) (DR CS (pv 2)))) AL (by rfl) (by rfl))
  (Ah (Ax (AG (Aa (Aj (BQ hr hT) (pv 0) (pv 2)) (Aa (Aj (BQ hr hT) (pv 1) (pv 2)) Ab))))) (by rfl)) (by rfl)) (by rfl)),?_⟩
 obtain ⟨a,b,rfl,hb,q⟩:=h
 refine ⟨_,rfl,rfl,_,rfl,?_⟩
 refine Bg (by rw [decide_eq_false (fun z=>hb (V.int.inj z))] <;> rfl) ?_
 refine ⟨_,rfl,_,rfl,a,b,rfl,?_⟩
 refine ⟨_,rfl,_,_,rfl,rfl,_,rfl,?_⟩
 have hd : Nm.msr a b ≠ 0:=Nm.msr_ne hb
 have fin : ∀ p,H p = none → Q (.ref p) (upd H p (.tup [.int (a.fdiv (Nm.msr a b)),.int (b.fdiv (Nm.msr a b))])):=fun p hp=>by
  rw [Nm.top_msr hb,Nm.bottom_msr hb]; exact q p hp
 by_cases hb0 : b < 0
 ·have hd' : Nm.msr a b = -(UC a b : Int):=by unfold Nm.msr; rw [if_pos hb0]
  rw [hd'] at hd fin
  refine BA (by rw [decide_eq_true hb0] <;> rfl) ⟨_,rfl,_,rfl,?_⟩
  exact ⟨_,rfl,_,rfl,_,_,rfl,rfl,hd,_,rfl,_,rfl,_,_,rfl,rfl,hd,(by decide : 2 ≤ sizeLine),fin⟩
 ·have hd' : Nm.msr a b = (UC a b : Int):=by unfold Nm.msr; rw [if_neg hb0]
  rw [hd'] at hd fin
  refine Bg (by rw [decide_eq_false hb0] <;> rfl) ?_
  exact ⟨_,rfl,_,rfl,_,_,rfl,rfl,hd,_,rfl,_,rfl,_,_,rfl,rfl,hd,(by decide : 2 ≤ sizeLine),fin⟩
theorem Ny : Ar ["a","b"] ["a","b"] (Af (top 18)):=⟨rfl,rfl,rfl,by decide +kernel,rfl,by decide +kernel,by decide +kernel⟩
theorem NI {f : Addr} {fd : FuncData} (F : Fun K "over" "over" (top 18) f fd) (Rr : Fd P w K mg base 34 "number_of" ["top","bottom"] (Cr)) (hT : P.given.tree = none) :
 AN P w K mg base CX0 35 f fd ["a","b"] (FD K):=by
 refine F.ok Ny (fun vs H Q E h=>?_) (fun cdv A outer s H vs Q E hr h=>?_)
 ·obtain ⟨_,_,_,_,_,_,rfl,_⟩:=h; rfl
 refine ⟨_,(Ah (Ax (Am Rr hr rfl (Aa (Aj Aq (Al (ixT K) (pv 0) Ad (fun u v=>rfl)) (Al (ixT K) (pv 1) Ad (fun u v=>rfl))) (Aa (Aj Aq (Al (ixT K) (pv 0) Ad (fun u v=>rfl)) (Al (ixT K) (pv 1) Ad (fun u v=>rfl))) Ab))))),?_⟩
 obtain ⟨x,y,p,q,m,n,rfl,⟨r,rfl,hr'⟩,⟨u,rfl,hu⟩,q0,hp,hq,hmn,k⟩:=h
 have hn : q.num ≠ 0:=fun z=>q0 (Wl.mp z)
 refine ⟨_,rfl,r,_,_,_,rfl,rfl,hr',rfl,_,rfl,u,_,_,_,rfl,rfl,hu,rfl,_,_,rfl,rfl,Bq.bd hp.1 hq.2,?_⟩
 refine ⟨_,rfl,r,_,_,_,rfl,rfl,hr',rfl,_,rfl,u,_,_,_,rfl,rfl,hu,rfl,_,_,rfl,rfl,Bq.bd hp.2 hq.1,?_⟩
 refine ⟨_,_,rfl,UL (Nm.den_ne p) hn,fun z hz=>?_⟩
 have e:=k z hz
 rw [← Kf p q q0] at e
 exact e
theorem BN : Ar ["along","parts","ways","k"] ["along"] (Af (top 39)):=⟨rfl,rfl,rfl,by decide +kernel,rfl,by decide +kernel,by decide +kernel⟩
theorem FK {f : Addr} {fd : FuncData} (F : Fun K "parts_along" "parts_along" (top 39) f fd) (RL : Fd P w K mg base 35 "over" ["a","b"] (FD K)) (Rm : mg "range" = none) (Rl : mg "len" = none) (hT : P.given.tree = none) :
 AN P w K mg base CX0 36 f fd ["along"] (Hm K):=by
 refine F.ok BN (fun vs H Q E h=>?_) (fun cdv A outer s H vs Q E hr h=>?_)
 ·obtain ⟨_,_,_,rfl,_⟩:=h; rfl
 refine ⟨_,(Ac (K:=K) (Ai (i:=1) BN.nd rfl (Or.inl rfl) (Be Ab))
  (Ac (K:=K) (Ai (i:=2) BN.nd rfl (Or.inl rfl) Ad)
  (Ac (K:=K) (BE (K:=K) PassesOwn.never rfl (Bv rfl Rm (Aa (Ak (Bt K) rfl Rl AF (Aa (pv 0) Ab)) Ab)) (Av (i:=3) BN.nd rfl (Or.inl rfl)) (Ac (K:=K) (Fg (HE K PySem.F.plainAttrs_list PySem.F.slot_list_append PySem.F.type_list_append EN (pv 1) (Aa (Am RL hr rfl (Aa (Al (ixT K) (pv 0) (pv 3) (fun u v=>rfl)) (Aa (AG (Aa (pv 2) (Aa Ad Ab))) Ab))) Ab)))
  (Ah (Ai (i:=2) BN.nd rfl (Or.inl rfl) (Aj (BQ hr hT) (Aj Aq (pv 2) (Aj Bo (Aj Bo (Ak (Bt K) rfl Rl AF (Aa (pv 0) Ab)) Ad) (pv 3))) (Aj AJ (pv 3) Ad)))) (by rfl)) (by rfl))
  (Ah (Ax (pv 1))) (by rfl)) (by rfl)) (by rfl)),?_⟩
 obtain ⟨r,al,n,rfl,⟨xs,hS,hn⟩,h1,h20,hb,hn4,hn1,q⟩:=h
 have P0 : 0 ≤ sizeLine:=by decide
 have P2 : 2 ≤ sizeLine:=by decide
 have hl:=hn.length
 refine ⟨P0,fun p hp=>?_⟩
 refine ⟨_,rfl,r,xs,rfl,.inr (hS.same (Ag.new hp)),_,rfl,by lia,by lia,?_⟩
 rw [show ((xs.length : Nat) : Int).toNat = al.length by lia]
 refine BK (n:=al.length) (L5 H r p al K fun H r p al K k σ H'=>Ag H H' ∧ ∃ zs z,σ = [some (.ref r),some (.ref p),some (.int ((ch (al.length - 1) k : Nat) : Int)),z] ∧ H' p = some (.lst zs) ∧ AS K H' zs ((Th k).map fun k=>al.getD k 0 / ((ch (al.length - 1) k : Nat) : Rat)))
  ⟨Ag.new hp,[],none,by rw [CP]; rfl,Ae,.nil⟩ ?_ ?_
 ·rintro k σ H' hk hR1
  refine BZ hR1 fun sm hz48=>?_
  refine DP hz48 fun zs z hz48'=>?_
  clear hz48
  refine GC hz48' fun hq47 ep hz=>?_
  clear hz48'
  obtain rfl:=hq47
  try clear hR1
  have hzl : zs.length = k:=by rw [hz.length,Ug,Vv]
  obtain ⟨x,hx,hxn⟩:=(Paired.get' hn (GW hk))
  have hat : atI xs (0 + (k : Int)) = some x:=by rw [show 0 + (k : Int) = ((k : Nat) : Int) by lia]; exact AR hx
  have hS':=hS.same sm
  have c64 : -(2 ^ 64) < ((ch (al.length - 1) k : Nat) : Int) ∧ ((ch (al.length - 1) k : Nat) : Int) < 2 ^ 64:=by
   have h1:=KJ (al.length - 1) k
   have h2 : 2 ^ (al.length - 1) ≤ 2 ^ 20:=Vb (by decide) (by lia)
   lia
  refine ⟨_,rfl,.inl ⟨rfl,_,SqL.of ep⟩,_,rfl,_,rfl,r,xs,_,x,rfl,rfl,hS',hat,_,rfl,P2,fun t ht=>?_⟩
  have ht' : AA K (upd H' t (.tup [.int ((ch (al.length - 1) k : Nat) : Int),.int 1])) (.ref t) ((ch (al.length - 1) k : Nat) : Rat):=AA.of (by rw [Ae,Pp])
  have st : Ag H' (upd H' t (.tup [.int ((ch (al.length - 1) k : Nat) : Int),.int 1])):=Ag.new ht
  generalize upd H' t (.tup [.int ((ch (al.length - 1) k : Nat) : Int),.int 1]) = Ht at ht' st ⊢
  refine ⟨_,_,_,_,n,22,rfl,(hxn.same sm).same st,ht',OD (by lia),hb _ (Ud (GW hk)),OC (by lia),by lia,fun u hu=>?_⟩
  have su:=st.trans (Ag.new (o:=nT (al.getD k 0 / ((ch (al.length - 1) k : Nat) : Rat))) hu)
  have eu : (upd Ht u (nT (al.getD k 0 / ((ch (al.length - 1) k : Nat) : Rat)))) u = some (nT (al.getD k 0 / ((ch (al.length - 1) k : Nat) : Rat))):=Ae
  generalize upd Ht u (nT (al.getD k 0 / ((ch (al.length - 1) k : Nat) : Rat))) = Hu at su eu ⊢
  have epu:=su _ _ ep
  refine ⟨p,zs,.ref u,rfl,rfl,epu,Te (show zs.length < 300 by lia) (by decide),?_⟩
  have sP : Ag H (upd Hu p (.lst (zs ++ [.ref u]))):=(sm.trans su).put hp
  refine ⟨_,rfl,_,rfl,r,xs,rfl,.inr (hS.same sP),_,_,rfl,rfl,_,rfl,_,_,rfl,rfl,_,_,rfl,rfl,.inl c64,_,rfl,_,_,rfl,rfl,_,_,rfl,rfl,(show (0 : Int) + (k : Int) + 1 ≠ 0 by lia),?_⟩
  refine ⟨sP,zs ++ [.ref u],some (.int (0 + (k : Int))),?_,Ae,?_⟩
  ·have e:=O8 (n:=al.length - 1) (k:=k) (by lia)
   have e2 : (((ch (al.length - 1) k : Nat) : Int) * ((xs.length : Int) - 1 - (0 + (k : Int)))).fdiv (0 + (k : Int) + 1) = ((ch (al.length - 1) (k + 1) : Nat) : Int):=by
    rw [← e,show (xs.length : Int) - 1 - (0 + (k : Int)) = ((al.length - 1 : Nat) : Int) - (k : Int) by lia,show 0 + (k : Int) + 1 = (k : Int) + 1 by lia]
   show [some (V.ref r),some (V.ref p),some (V.int ((((ch (al.length - 1) k : Nat) : Int) * ((xs.length : Int) - 1 - (0 + (k : Int)))).fdiv (0 + (k : Int) + 1))),some (V.int (0 + (k : Int)))] = _
   rw [e2]
  ·rw [Wn,UU]
   exact AS.put (Paired.snoc (AS.same hz su) (AA.of eu)) epu
 ·rintro σ H' hR2
  refine BZ hR2 fun sm hz50=>?_
  refine DP hz50 fun zs z hz50'=>?_
  clear hz50
  refine GC hz50' fun hq49 ep hz=>?_
  clear hz50'
  obtain rfl:=hq49
  try clear hR2
  exact ⟨_,rfl,q p H' zs sm ep hz (Mu h20 hn1 hb)⟩
theorem Cy : Ar ["numbers","bottom","number"] ["numbers"] (Af (top 23)):=⟨rfl,rfl,rfl,by decide +kernel,rfl,by decide +kernel,by decide +kernel⟩
theorem HN {f : Addr} {fd : FuncData} (F : Fun K "bottom_of" "bottom_of" (top 23) f fd) (RP : Fd P w K mg base 33 "common_measure" ["one","other"] (K6)) (hT : P.given.tree = none) :
 AN P w K mg base CX0 34 f fd ["numbers"] (E4 K):=by
 refine F.ok Cy (fun vs H Q E h=>?_) (fun cdv A outer s H vs Q E hr h=>?_)
 ·obtain ⟨_,_,_,_,_,rfl,_⟩:=h; rfl
 refine ⟨_,(Ac (K:=K) (Ai (i:=1) Cy.nd rfl (Or.inl rfl) Ad)
  (Ac (K:=K) (BE (K:=K) PassesOwn.never rfl (piS K (pv 0)) (Av (i:=2) Cy.nd rfl (Or.inl rfl)) (Ah (Ai (i:=1) Cy.nd rfl (Or.inl rfl) (Aj Aq (pv 1) (Aj (BQ hr hT) (Al (ixT K) (pv 2) Ad (fun u v=>rfl)) (Am RP hr rfl (Aa (pv 1) (Aa (Al (ixT K) (pv 2) Ad (fun u v=>rfl)) Ab))))))) (by rfl))
  (Ah (Ax (pv 1))) (by rfl)) (by rfl)),?_⟩
 obtain ⟨b,r,xs,qs,n,rfl,hS,hn,hB,hz,q⟩:=h
 have hl:=hn.length
 refine O1 (b:=b) (a:=r) (xs:=xs) rfl (L4 H r qs n fun H r qs n i σ H'=>H' = H ∧ ∃ (B : Int) (z : Option V),σ = [some (.ref r),some (.int B),z] ∧ 0 < B ∧ (∀ q ∈ qs.take i,(q.den : Int) ∣ B) ∧ Bd (n * i + 1) B) ⟨rfl,1,none,rfl,by decide,fun q hq=>by simp at hq,by unfold Bd; rw [Nat.mul_zero]; decide⟩ (fun i σ H' _ p=>by rw [p.1]; exact hS) ?_ ?_
 ·rintro i x σ H' hx hR1
  refine BZ hR1 fun hq51 hz53=>?_
  refine DP hz53 fun B z hz53'=>?_
  clear hz53
  refine FZ hz53' fun hq52 hB0 hdv hbd=>?_
  clear hz53'
  obtain rfl:=hq51
  obtain rfl:=hq52
  try clear hR1
  obtain ⟨c,hc,r',rfl,hr⟩:=(Paired.get hn hx)
  have hi : i < qs.length:=(TC.mp hc).1
  have hcm : c ∈ qs:=Ud hc
  have hd0 : 0 < (c.den : Int):=by have:=c.den_pos; lia
  obtain ⟨l1,l2,l3⟩:=(MH hB0 hd0)
  have g0 : (UC B c.den : Int) ≠ 0:=by have:=Nm.gcd_pos (a:=B) (b:=c.den) (by lia); lia
  have bd2 : Bd n (VW c.den (UC B c.den : Int)):=(hB c hcm).fdiv
  have hni : n * i ≤ n * qs.length:=Wf n (by lia)
  have hnm : n * (qs.length + 2) = n * qs.length + 2 * n:=by rw [Vq]; lia
  refine ⟨_,rfl,_,rfl,r',_,_,_,rfl,rfl,hr,rfl,_,rfl,_,rfl,r',_,_,_,rfl,rfl,hr,rfl,_,_,rfl,_,_,rfl,rfl,g0,_,_,rfl,rfl,Bq.bd hbd bd2 (by lia),?_⟩
  refine ⟨rfl,_,_,rfl,l1,fun q' hq'=>?_,?_⟩
  ·rw [UT,hc] at hq'
   rcases Tx.mp hq' with z | z
   ·exact Int.dvd_trans (hdv q' z) l2
   ·have : q' = c:=by simpa using z
    subst this; exact l3
  ·have:=hbd.mul bd2
   rw [Vq,Nat.mul_one,show n * i + n + 1 = n * i + 1 + n by lia]
   exact this
 ·rintro σ H' hR2
  refine BZ hR2 fun hq56 hz58=>?_
  refine DP hz58 fun B z hz58'=>?_
  clear hz58
  refine FZ hz58' fun hq57 hB0 hdv hbd=>?_
  clear hz58'
  obtain rfl:=hq56
  obtain rfl:=hq57
  try clear hR2
  rw [hl,UW] at hdv
  rw [hl] at hbd
  exact ⟨_,rfl,q B hB0 hdv hbd⟩
theorem Hy : Ar ["numbers","bottom"] ["numbers","bottom"] (Af (top 24)):=⟨rfl,rfl,rfl,by decide +kernel,rfl,by decide +kernel,by decide +kernel⟩
theorem HI {f : Addr} {fd : FuncData} (F : Fun K "tops_over" "tops_over" (top 24) f fd) (hT : P.given.tree = none) :
 AN P w K mg base CX0 33 f fd ["numbers","bottom"] (Dh K):=by
 refine F.ok Hy (fun vs H Q E h=>?_) (fun cdv A outer s H vs Q E hr h=>?_)
 ·obtain ⟨_,_,_,_,_,_,_,rfl,_⟩:=h; rfl
 refine ⟨_,(Ah (Ax (Ct rfl (N:=["number","bottom"]) (nt:=1) (js:=[1]) (Bf.look (NX:=["numbers","bottom"]) (sc:=Af (top 24)) rfl rfl (by decide +kernel)) (piS K (pv 0)) (fun u1 u2 u3 u4 u5=>(Av (i:=0) (show List.Nodup (["number","bottom"] : List Str) from by decide +kernel) rfl (Or.inl rfl))) (AI (by decide)) (fun u1 u2 u3 u4 u5=>BL) (fun u1 u2 u3 u4 u5=>(Aj Aq (Al (ixT K) (pv 0) Ad (fun u v=>rfl)) (Aj (BQ hr hT) (pv 1) (Al (ixT K) (pv 0) Ad (fun u v=>rfl)))))))),?_⟩
 obtain ⟨b,r,xs,qs,B,m,n,rfl,hS,hn,hbB,hbn,hmn,hz,q⟩:=h
 have hl:=hn.length
 refine JL (b:=b) (a:=r) (xs:=xs) rfl (fun i zs H'=>H' = H ∧ zs = ((qs.take i).map (As B)).map V.int) ⟨rfl,rfl⟩ (fun i zs H' hi p=>⟨by rw [p.1]; exact hS,by rw [p.2,Ug,Ug,U8]; lia⟩) (by rw [hl]; exact Ts (AX hz)) ?_ ?_
 ·rintro i x zs H' hx ⟨rfl,rfl⟩
  obtain ⟨c,hc,r',rfl,hr⟩:=(Paired.get hn hx)
  have hcm : c ∈ qs:=Ud hc
  have hd0 : (c.den : Int) ≠ 0:=by have:=c.den_pos; lia
  refine ⟨_,rfl,r',_,_,_,rfl,rfl,hr,rfl,_,rfl,_,rfl,r',_,_,_,rfl,rfl,hr,rfl,_,_,rfl,rfl,hd0,_,_,rfl,rfl,Bq.bd (hbn c hcm) (hbB.fdiv (y:=c.den)) (by lia),rfl,?_⟩
  rw [UT,hc,UU,UU]
  rfl
 ·rintro zs H' ⟨rfl,rfl⟩ p hp
  rw [hl,UW]
  exact q p hp
theorem JE : Ar ["a","b"] ["a","b"] (Af (top 19)):=⟨rfl,rfl,rfl,by decide +kernel,rfl,by decide +kernel,by decide +kernel⟩
theorem JG {f : Addr} {fd : FuncData} (F : Fun K "is_less" "is_less" (top 19) f fd) (hT : P.given.tree = none) :
 AN P w K mg base CX0 33 f fd ["a","b"] (EB K):=by
 refine F.ok JE (fun vs H Q E h=>?_) (fun cdv A outer s H vs Q E hr h=>?_)
 ·obtain ⟨_,_,_,_,_,_,rfl,_⟩:=h; rfl
 refine ⟨_,(Ah (Ax (DK Ec (Aj Aq (Al (ixT K) (pv 0) Ad (fun u v=>rfl)) (Al (ixT K) (pv 1) Ad (fun u v=>rfl))) (Aj Aq (Al (ixT K) (pv 1) Ad (fun u v=>rfl)) (Al (ixT K) (pv 0) Ad (fun u v=>rfl))) (Ay _)))),?_⟩
 obtain ⟨x,y,p,q,m,n,rfl,⟨r,rfl,hr'⟩,⟨u,rfl,hu⟩,hp,hq,hmn,k⟩:=h
 refine ⟨_,rfl,r,_,_,_,rfl,rfl,hr',rfl,_,rfl,u,_,_,_,rfl,rfl,hu,rfl,_,_,rfl,rfl,Bq.bd hp.1 hq.2,?_⟩
 refine ⟨_,rfl,u,_,_,_,rfl,rfl,hu,rfl,_,rfl,r,_,_,_,rfl,rfl,hr',rfl,_,_,rfl,rfl,Bq.bd hq.1 hp.2,_,_,rfl,rfl,?_⟩
 have e:=Kk p q
 show Q (.bl (decide (p.num * q.den < q.num * p.den))) H
 rw [e]
 exact k
theorem Dv : Ar ["numbers","width"] ["numbers"] (Af (top 22)):=⟨rfl,rfl,rfl,by decide +kernel,rfl,by decide +kernel,by decide +kernel⟩
theorem IJ {f : Addr} {fd : FuncData} (F : Fun K "curve_of" "curve_of" (top 22) f fd) (Rl : mg "len" = none) (Rv : mg "tuple" = none) {a_NOUGHT : Addr} (c_NOUGHT : mg "NOUGHT" = some (.ref a_NOUGHT)) (n_NOUGHT : ∀ H : Hp,AA K H (.ref a_NOUGHT) (0)) (hT : P.given.tree = none) :
 AN P w K mg base CX0 33 f fd ["numbers"] (ED K):=by
 refine F.ok Dv (fun vs H Q E h=>?_) (fun cdv A outer s H vs Q E hr h=>?_)
 ·obtain ⟨_,_,_,rfl,_⟩:=h; rfl
 refine ⟨_,(Ac (K:=K) (Ai (i:=1) Dv.nd rfl (Or.inl rfl) (Ak (Bt K) rfl Rl AF (Aa (pv 0) Ab)))
  (Ac (K:=K) (Cg PassesOwn.never (PW.pt (Dk (Au Cu (pv 1) Ad (Ay _)) (CA (Au (eqD K hr.units) (Al (ixL K) (pv 0) (Aj Bo (pv 1) Ad) (fun u v=>rfl)) (BF (v:=.ref a_NOUGHT) rfl c_NOUGHT rfl) (Ay _))))) (Ah (Ai (i:=1) Dv.nd rfl (Or.inl rfl) (Aj Bo (pv 1) Ad))))
  (Ah (Ax (CG (Ju K) rfl Rv FY (Aa (E8 (slL K) (pv 0) Fj (Fi (pv 1))) Ab)))) (by rfl)) (by rfl)),?_⟩
 obtain ⟨r,xs,qs,rfl,hS,hn,hz,q⟩:=h
 have hl:=hn.length
 refine ⟨_,rfl,r,xs,rfl,.inl hS,?_⟩
 refine K1 (L3 H r qs fun H r qs σ H'=>H' = H ∧ ∃ (v : Nat),σ = [some (.ref r),some (.int (v : Int))] ∧ v ≤ qs.length ∧ ∀ j q,v ≤ j → qs[j]? = some q → q = 0) (fun σ _=>mu 1 σ) ⟨rfl,qs.length,by rw [← hl]; rfl,TL _,fun j q hj e=>absurd (TC.mp e).1 (by lia)⟩ ?_
 rintro σ H' hR1
 refine BZ hR1 fun hq61 hz63=>?_
 refine O2 hz63 fun v hz63'=>?_
 clear hz63
 refine GC hz63' fun hq62 hv hall=>?_
 clear hz63'
 obtain rfl:=hq61
 obtain rfl:=hq62
 try clear hR1
 have fin : (v = 0 ∨ ∃ q,qs[v - 1]? = some q ∧ q ≠ 0) → ∀ p,H' p = none → ∀ p',upd H' p (.lst (Du xs none (some (v : Int)))) p' = none → Q (.ref p') (upd (upd H' p (.lst (Du xs none (some (v : Int))))) p' (.tup (Du xs none (some (v : Int))))):=fun hc p hp p' hp'=>by
  have e : Du xs none (some (v : Int)) = xs.take v:=by
   unfold Du
   have e1 : HT.sIx xs.length 0 none = 0:=rfl
   have e2 : HT.sIx xs.length xs.length (some (v : Int)) = min v xs.length:=HT.sIx_nat _ _ v
   rw [e1,e2,Vm,Vn]
   apply V3
   intro i
   rw [List.getElem?_take,List.getElem?_take]
   split <;> split <;> first | rfl | lia | (rename_i h1 h2; exact (Vs (by lia)).symm) | (rename_i h1 h2; exact Vs (by lia))
  have sm : Ag H' (upd (upd H' p (.lst (Du xs none (some (v : Int))))) p' (.tup (Du xs none (some (v : Int))))):=(Ag.new hp).trans (Ag.new hp')
  refine q p' _ sm ⟨xs.take v,SqT.of (by rw [e]; exact Ae),?_⟩
  rw [← Cv.take_strip qs v hall hc]
  exact Paired.take v (AS.same hn sm)
 refine ⟨_,rfl,_,_,rfl,rfl,_,rfl,?_⟩
 by_cases hv0 : v = 0
 ·subst hv0
  refine CN (CN ?_)
  exact ⟨_,rfl,_,rfl,_,rfl,r,xs,rfl,hS,fun p hp=>⟨p,_,rfl,.inl ⟨SqL.of Ae,fun p' hp'=>fin (.inl rfl) p hp p' hp'⟩⟩⟩
 ·refine BA (by rw [decide_eq_true (show (0 : Int) < (v : Int) by lia)] <;> rfl) ?_
  have hvi : v - 1 < qs.length:=by lia
  have hq : qs[v - 1]? = some qs[v - 1]:=V9 hvi
  obtain ⟨x,hx,hxn⟩:=(Paired.get' hn hq)
  have hat : atI xs ((v : Int) - 1) = some x:=by
   rw [show (v : Int) - 1 = ((v - 1 : Nat) : Int) by lia]
   exact AR hx
  refine ⟨_,rfl,_,rfl,_,_,rfl,rfl,r,xs,_,x,rfl,rfl,hS,hat,?_⟩
  refine eqN hxn (n_NOUGHT _) ?_
  refine ⟨_,rfl,?_⟩
  by_cases hq0 : qs[v - 1] = 0
  ·refine BA (by rw [decide_eq_true hq0] <;> rfl) (K0 ?_)
   refine ⟨_,rfl,_,_,rfl,rfl,⟨rfl,v - 1,?_,by lia,fun j q' hj e=>?_⟩,?_⟩
   ·show [some (V.ref r),some (V.int ((v : Int) - 1))] = [some (V.ref r),some (V.int ((v - 1 : Nat) : Int))]
    rw [show (v : Int) - 1 = ((v - 1 : Nat) : Int) by lia]
   ·by_cases hjv : v ≤ j
    ·exact hall j q' hjv e
    ·have : j = v - 1:=by lia
     subst this
     rw [hq] at e
     cases e
     exact hq0
   ·show ((v : Int) - 1).toNat < (v : Int).toNat
    lia
  ·refine Bg (by rw [decide_eq_false hq0] <;> rfl) ?_
   exact ⟨_,rfl,_,rfl,_,rfl,r,xs,rfl,hS,fun p hp=>⟨p,_,rfl,.inl ⟨SqL.of Ae,fun p' hp'=>fin (.inr ⟨_,hq,hq0⟩) p hp p' hp'⟩⟩⟩
theorem Gh : Ar ["tops","bottom"] ["tops","bottom"] (Af (top 25)):=⟨rfl,rfl,rfl,by decide +kernel,rfl,by decide +kernel,by decide +kernel⟩
theorem Gp {f : Addr} {fd : FuncData} (F : Fun K "curve_over" "curve_over" (top 25) f fd) (Sr : Fd P w K mg base 33 "curve_of" ["numbers"] (ED K)) (Rr : Fd P w K mg base 34 "number_of" ["top","bottom"] (Cr)) (hT : P.given.tree = none) :
 AN P w K mg base CX0 35 f fd ["tops","bottom"] (Cf K):=by
 refine F.ok Gh (fun vs H Q E h=>?_) (fun cdv A outer s H vs Q E hr h=>?_)
 ·obtain ⟨_,_,_,rfl,_⟩:=h; rfl
 refine ⟨_,(Ah (Ax (Am Sr hr rfl (Aa (Ct rfl (N:=["top","bottom"]) (nt:=1) (js:=[1]) (Bf.look (NX:=["tops","bottom"]) (sc:=Af (top 25)) rfl rfl (by decide +kernel)) (piS K (pv 0)) (fun u1 u2 u3 u4 u5=>(Av (i:=0) (show List.Nodup (["top","bottom"] : List Str) from by decide +kernel) rfl (Or.inl rfl))) (AI (by decide)) (fun u1 u2 u3 u4 u5=>BL) (fun u1 u2 u3 u4 u5=>(Am Rr hr rfl (Aa (pv 0) (Aa (pv 1) Ab))))) Ab)))),?_⟩
 obtain ⟨l,ts,b,rfl,hS,hb,hz,q⟩:=h
 have ll : (ts.map V.int).length = ts.length:=Ug _
 refine JL (b:=true) (a:=l) (xs:=ts.map V.int) rfl (L4 H K ts b fun H K ts b i zs H'=>Ag H H' ∧ zs.length = i ∧ AS K H' zs ((ts.take i).map fun t=>UE t b)) ⟨Ag.refl _,rfl,.nil⟩ (fun i zs H' _ p=>⟨Ag.seq p.1 hS,p.2.1⟩) (by rw [ll]; exact Ts (AX hz)) ?_ ?_
 ·rintro i x zs H' hx ⟨sm,hl,hn⟩
  rw [Uc] at hx
  cases et : ts[i]? with
  | none=>rw [et] at hx; cases hx
  | some t =>
    rw [et] at hx
    cases hx
    refine ⟨_,rfl,_,rfl,t,b,rfl,hb,fun p hp=>⟨sm.trans (Ag.new hp),by simp [hl],?_⟩⟩
    rw [UT,et,UU]
    exact Paired.snoc (AS.same hn (Ag.new hp)) (AA.of Ae)
 ·rintro zs H' ⟨sm,hl,hn⟩ p hp
  rw [ll,UW] at hn
  refine ⟨p,zs,_,rfl,SqL.of Ae,AS.same hn (Ag.new hp),by rw [Ug]; exact hz,fun r H2 s2 c=>q r H2 ((sm.trans (Ag.new hp)).trans s2) c⟩
theorem BS : Ar ["first","second","product","k","j"] ["first","second"] (Af (top 28)):=⟨rfl,rfl,rfl,by decide +kernel,rfl,by decide +kernel,by decide +kernel⟩
theorem EL {f : Addr} {fd : FuncData} (F : Fun K "whole_product" "whole_product" (top 28) f fd) (Rm : mg "range" = none) (Rl : mg "len" = none) (hT : P.given.tree = none) :
 AN P w K mg base CX0 33 f fd ["first","second"] (JA K):=by
 refine F.ok BS (fun vs H Q E h=>?_) (fun cdv A outer s H vs Q E hr h=>?_)
 ·obtain ⟨_,_,_,_,_,_,rfl,_⟩:=h; rfl
 refine ⟨_,(Ac (K:=K) (Ai (i:=2) BS.nd rfl (Or.inl rfl) (Aj Mw (Be (Aa Ad Ab)) (Aj Bo (Aj AJ (Ak (Bt K) rfl Rl AF (Aa (pv 0) Ab)) (Ak (Bt K) rfl Rl AF (Aa (pv 1) Ab))) Ad)))
  (Ac (K:=K) (BE (K:=K) PassesOwn.never rfl (Bv rfl Rm (Aa (Ak (Bt K) rfl Rl AF (Aa (pv 0) Ab)) Ab)) (Av (i:=3) BS.nd rfl (Or.inl rfl)) (Ah (BE (K:=K) PassesOwn.never rfl (Bv rfl Rm (Aa (Ak (Bt K) rfl Rl AF (Aa (pv 1) Ab)) Ab)) (Av (i:=4) BS.nd rfl (Or.inl rfl)) (Ah (CU (Aj AJ (Al (ixL K) (pv 2) (Aj AJ (pv 3) (pv 4)) (fun u v=>rfl)) (Aj Aq (Al (ixL K) (pv 0) (pv 3) (fun u v=>rfl)) (Al (ixL K) (pv 1) (pv 4) (fun u v=>rfl)))) (EH (pv 2) (Aj AJ (pv 3) (pv 4)) D0))) (by rfl))) (by rfl))
  (Ah (Ax (pv 2))) (by rfl)) (by rfl)),?_⟩
 obtain ⟨f,g,fs,gs,m,n,rfl,hf,hg,hg1,hf1000,hg1000,hbf,hbg,hmn,q⟩:=h
 have lf : (fs.map V.int).length = fs.length:=Ug _
 have lg : (gs.map V.int).length = gs.length:=Ug _
 have P1 : 1 ≤ sizeLine:=by decide
 have hfg : fs.length * gs.length ≤ 1000 * 1000:=VU hf1000 hg1000
 refine ⟨P1,fun o ho=>?_⟩
 have hf0 : SqL K (upd H o (.lst [.int 0])) f (fs.map V.int):=M9 hf ho
 have hg0 : SqL K (upd H o (.lst [.int 0])) g (gs.map V.int):=M9 hg ho
 refine ⟨_,rfl,f,_,rfl,.inl hf0,_,rfl,g,_,rfl,.inl hg0,_,_,rfl,rfl,_,_,rfl,rfl,o,_,_,rfl,rfl,Ae,?_,?_,?_,fun p hp=>?_⟩
 ·rw [lf,lg]; lia
 ·rw [lf,lg]; lia
 ·show 1 * (((fs.map V.int).length : Int) + ((gs.map V.int).length : Int) - 1).toNat ≤ sizeLine
  rw [lf,lg,Vi]
  exact Tr (Lj hf1000 hg1000) (by decide : 2 * 1000 ≤ sizeLine)
 have hpH : H p = none:=by
  cases z : H p with
  | none=>rfl
  | some u=>rw [(Ag.new ho) p u z] at hp; cases hp
 have eL : (((fs.map V.int).length : Int) + ((gs.map V.int).length : Int) - 1).toNat = fs.length + gs.length - 1:=by rw [lf,lg]; exact MB hg1
 rw [eL]
 have s0 : Ag H (upd (upd H o (.lst [.int 0])) p (.lst (U5 (fs.length + gs.length - 1) [V.int 0]).flatten)):=(Ag.new ho).trans (Ag.new hp)
 have e0 : (U5 (fs.length + gs.length - 1) [V.int 0]).flatten = (U5 (fs.length + gs.length - 1) (0 : Int)).map V.int:=by rw [List.flatten_replicate_singleton,List.map_replicate]
 rw [e0] at s0 ⊢
 refine ⟨_,rfl,f,_,rfl,.inl (Ag.seq s0 hf),_,rfl,by rw [lf]; lia,by rw [lf]; lia,?_⟩
 rw [lf,Uk]
 refine BK (n:=fs.length) (L8 H f g p fs gs m n fun H f g p fs gs m n i σ H'=>Ag H H' ∧ ∃ (ps : List Int) (z3 z4 : Option V),σ = [some (.ref f),some (.ref g),some (.ref p),z3,z4] ∧ H' p = some (.lst (ps.map V.int)) ∧ ps.length = fs.length + gs.length - 1 ∧ (∀ x,Cv.evI ps x = Cv.evI (fs.take i) x * Cv.evI gs x) ∧ ∀ t ∈ ps,Up (i * gs.length) (m + n) t)
  ⟨s0,_,none,none,rfl,Ae,Uh,fun x=>?_,fun t ht=>?_⟩ ?_ ?_
 ·rw [Cv.evI_zeros,Wz]
  show (0 : Rat) = 0 * _
  grind
 ·rw [(List.mem_replicate.mp ht).2]; exact TQ _
 ·rintro i σ H' hi hR1
  refine BZ hR1 fun sm hz65=>?_
  refine DD hz65 fun ps z3 z4 hz65'=>?_
  clear hz65
  refine Io hz65' fun hq64 ep hpl hev hup=>?_
  clear hz65'
  obtain rfl:=hq64
  try clear hR1
  have hfi : fs[i]? = some fs[i]:=V9 hi
  refine ⟨_,rfl,g,_,rfl,.inl (Ag.seq sm hg),_,rfl,by rw [lg]; lia,by rw [lg]; lia,?_⟩
  rw [lg,Uk]
  refine BK (n:=gs.length) (fun j σ H'=>Ag H H' ∧ ∃ (ps : List Int) (z4 : Option V),σ = [some (.ref f),some (.ref g),some (.ref p),some (.int (0 + (i : Int))),z4] ∧ H' p = some (.lst (ps.map V.int)) ∧ ps.length = fs.length + gs.length - 1 ∧ (∀ x,Cv.evI ps x = Cv.evI (fs.take i) x * Cv.evI gs x + (fs[i] : Rat) * x ^ i * Cv.evI (gs.take j) x) ∧ ∀ t ∈ ps,Up (i * gs.length + j) (m + n) t)
   ⟨sm,ps,z4,rfl,ep,hpl,fun x=>?_,hup⟩ ?_ ?_
  ·rw [hev x,Wz]
   show _ = _ + _ * (0 : Rat)
   grind
  ·rintro j σ H2 hj hR2
   refine BZ hR2 fun sm2 hz67=>?_
   refine DP hz67 fun ps2 z4' hz67'=>?_
   clear hz67
   refine Io hz67' fun hq66 ep2 hpl2 hev2 hup2=>?_
   clear hz67'
   obtain rfl:=hq66
   try clear hR2
   have hgj : gs[j]? = some gs[j]:=V9 hj
   have hij : i + j < ps2.length:=Po hi hj hpl2
   have hpj : ps2[i + j]? = some ps2[i + j]:=V9 hij
   have bm : Bq fs[i] gs[j]:=Bq.bd (hbf _ (Va hi)) (hbg _ (Va hj)) (by lia)
   refine ⟨_,rfl,_,rfl,_,rfl,_,_,rfl,rfl,p,_,_,_,rfl,rfl,SqL.of ep2,Ce hpj (by lia),_,rfl,_,rfl,f,_,_,_,rfl,rfl,Ag.seq sm2 hf,Ce hfi (by lia),_,rfl,_,rfl,g,_,_,_,rfl,rfl,Ag.seq sm2 hg,Ce hgj (by lia),_,_,rfl,rfl,bm,_,_,rfl,rfl,?_⟩
   refine ⟨_,rfl,_,rfl,_,rfl,_,_,rfl,rfl,p,_,_,i + j,rfl,rfl,ep2,Ei (by rw [Ug]; exact hij) (by lia),?_⟩
   refine ⟨sm2.put hpH,ps2.set (i + j) (ps2[i + j] + fs[i] * gs[j]),_,rfl,?_,by rw [Uo]; exact hpl2,fun x=>?_,fun t ht=>?_⟩
   ·rw [Ae,US]
   ·rw [Cv.evI_set x ps2 (i + j) _ _ hpj,hev2 x,Cv.evI_take_succ x gs j _ hgj,UN,Nm.pow_add]
    grind
   ·rcases List.mem_or_eq_of_mem_set ht with z | z
    ·exact (hup2 t z).mono (by lia)
    ·subst z
     exact (hup2 _ (Va hij)).add ((hbf _ (Va hi)).mul (hbg _ (Va hj)))
  ·rintro σ H2 hR3
   refine BZ hR3 fun sm2 hz69=>?_
   refine DP hz69 fun ps2 z4' hz69'=>?_
   clear hz69
   refine Io hz69' fun hq68 ep2 hpl2 hev2 hup2=>?_
   clear hz69'
   obtain rfl:=hq68
   try clear hR3
   refine ⟨sm2,ps2,_,_,rfl,ep2,hpl2,fun x=>?_,fun t ht=>?_⟩
   ·rw [hev2 x,UW,Cv.evI_take_succ x fs i _ hfi]
    grind
   ·have:=hup2 t ht
    rw [Vh,Vi]
    exact this
 ·rintro σ H' hR4
  refine BZ hR4 fun sm hz71=>?_
  refine DD hz71 fun ps z3 z4 hz71'=>?_
  clear hz71
  refine Io hz71' fun hq70 ep hpl hev hup=>?_
  clear hz71'
  obtain rfl:=hq70
  try clear hR4
  refine ⟨_,rfl,q p H' ps sm hpH ep hpl (fun x=>?_) (fun t ht=>?_)⟩
  ·rw [hev x,UW]
  ·exact (hup t ht).bd (k:=20) (by lia)
theorem Br : Ar ["curve","a","b","under","line","bottom","tops","scale","top"] ["curve","a","b"] (Af (top 30)):=⟨rfl,rfl,rfl,by decide +kernel,rfl,by decide +kernel,by decide +kernel⟩
theorem HG {f : Addr} {fd : FuncData} (F : Fun K "with_line" "with_line" (top 30) f fd) (Rp : Fd P w K mg base 34 "bottom_of" ["numbers"] (E4 K)) (Rq : Fd P w K mg base 33 "tops_over" ["numbers","bottom"] (Dh K)) (RD : Fd P w K mg base 35 "curve_over" ["tops","bottom"] (Cf K)) (Ss : Fd P w K mg base 33 "whole_product" ["first","second"] (JA K)) (RE : mg "reversed" = none) (hT : P.given.tree = none) :
 AN P w K mg base CX0 36 f fd ["curve","a","b"] (JB K):=by
 refine F.ok Br (fun vs H Q E h=>?_) (fun cdv A outer s H vs Q E hr h=>?_)
 ·obtain ⟨_,_,_,_,_,_,_,rfl,_⟩:=h; rfl
 refine ⟨_,(Ac (K:=K) (Ai (i:=3) Br.nd rfl (Or.inr rfl) (Am Rp hr rfl (Aa (Be (Aa (pv 2) (Aa (pv 1) Ab))) Ab)))
  (Ac (K:=K) (Ai (i:=4) Br.nd rfl (Or.inl rfl) (Am Rq hr rfl (Aa (Be (Aa (pv 2) (Aa (pv 1) Ab))) (Aa (pv 3) Ab))))
  (Ac (K:=K) (Ai (i:=5) Br.nd rfl (Or.inl rfl) (Am Rp hr rfl (Aa (pv 0) Ab)))
  (Ac (K:=K) (Ai (i:=6) Br.nd rfl (Or.inl rfl) (Be Ab))
  (Ac (K:=K) (Ai (i:=7) Br.nd rfl (Or.inl rfl) Ad)
  (Ac (K:=K) (BE (K:=K) PassesOwn.never rfl (Ol K rfl RE (Am Rq hr rfl (Aa (pv 0) (Aa (pv 5) Ab)))) (Av (i:=8) Br.nd rfl (Or.inl rfl)) (Ac (K:=K) (Ai (i:=6) Br.nd rfl (Or.inl rfl) (Am Ss hr rfl (Aa (pv 6) (Aa (pv 4) Ab))))
  (Ac (K:=K) (CU (Aj AJ (Al (ixL K) (pv 6) Ad (fun u v=>rfl)) (Aj Aq (pv 8) (pv 7))) (EH (pv 6) Ad D0))
  (Ah (Ai (i:=7) Br.nd rfl (Or.inl rfl) (Aj Aq (pv 7) (pv 3)))) (by rfl)) (by rfl)) (by rfl))
  (Ah (Ax (Am RD hr rfl (Aa (Ct rfl (N:=["top","under"]) (nt:=1) (js:=[3]) (Bf.look (NX:=["curve","a","b","under","line","bottom","tops","scale","top"]) (sc:=Af (top 30)) rfl rfl (by decide +kernel)) (piS K (pv 6)) (fun u1 u2 u3 u4 u5=>(Av (i:=0) (show List.Nodup (["top","under"] : List Str) from by decide +kernel) rfl (Or.inl rfl))) (AI (by decide)) (fun u1 u2 u3 u4 u5=>BL) (fun u1 u2 u3 u4 u5=>(Aj Aq (pv 0) (pv 1)))) (Aa (Aj Aq (pv 5) (pv 7)) Ab))))) (by rfl)) (by rfl)) (by rfl)) (by rfl)) (by rfl)) (by rfl)),?_⟩
 obtain ⟨r,ra,rb,qs,a,b,n,rfl,⟨xs,hS,hn⟩,⟨_,era,ha⟩,⟨_,erb,hb⟩,hB,hba,hbb,hn1,h100,q⟩:=h
 cases era
 cases erb
 have hl:=hn.length
 have P2 : 2 ≤ sizeLine:=by decide
 have bB : ∀ c ∈ [b,a],RB n c:=fun c hc=>by
  rcases Tw.mp hc with z | z
  ·rw [z]; exact hbb
  ·rw [V7.mp z]; exact hba
 have hnq : n * qs.length ≤ 1000 * 100:=VU hn1 h100
 refine ⟨_,rfl,_,rfl,P2,fun l1 h1=>?_⟩
 have nl1 : AS K (upd H l1 (.lst [.ref rb,.ref ra])) [.ref rb,.ref ra] [b,a]:=.cons ⟨rb,rfl,SqT.same hb (Ag.new h1)⟩ (.cons ⟨ra,rfl,SqT.same ha (Ag.new h1)⟩ .nil)
 refine ⟨true,l1,_,[b,a],n,rfl,SqL.of Ae,nl1,(fun c hc=>(bB c hc).2),by show n * 4 ≤ _; lia,fun U hU0 hdU hbU=>?_⟩
 have e2n : n * ([b,a] : List Rat).length + 1 = n * 2 + 1:=rfl
 rw [e2n] at hbU
 refine ⟨_,rfl,_,rfl,P2,fun l2 h2=>?_⟩
 have nl2 : AS K (upd (upd H l1 (.lst [.ref rb,.ref ra])) l2 (.lst [.ref rb,.ref ra])) [.ref rb,.ref ra] [b,a]:=AS.same nl1 (Ag.new h2)
 refine ⟨_,rfl,true,l2,_,[b,a],U,n * 2 + 1,n,rfl,SqL.of Ae,nl2,hbU,(fun c hc=>(bB c hc).1),by lia,(show 2 ≤ 1000 by decide),fun ll h3=>?_⟩
 have s3 : Ag H (upd (upd (upd H l1 (.lst [.ref rb,.ref ra])) l2 (.lst [.ref rb,.ref ra])) ll (.lst (([b,a].map (As U)).map V.int))):=((Ag.new h1).trans (Ag.new h2)).trans (Ag.new h3)
 have ell : (upd (upd (upd H l1 (.lst [.ref rb,.ref ra])) l2 (.lst [.ref rb,.ref ra])) ll (.lst (([b,a].map (As U)).map V.int))) ll = some (.lst (([b,a].map (As U)).map V.int)):=Ae
 generalize upd (upd (upd H l1 (.lst [.ref rb,.ref ra])) l2 (.lst [.ref rb,.ref ra])) ll (.lst (([b,a].map (As U)).map V.int)) = H3 at s3 ell ⊢
 have hlin : ∀ x,Cv.evI ([b,a].map (As U)) x = (a * x + b) * (U : Rat):=fun x=>by
  show ((As U b : Int) : Rat) + x * (((As U a : Int) : Rat) + x * 0) = _
  rw [CC (hdU b Tu),CC (hdU a (Tv _ Tu))]
  grind
 have blin : ∀ t ∈ [b,a].map (As U),Bd (n * 3 + 1) t:=fun t ht=>by
  obtain ⟨c,hc,rfl⟩:=(VX.mp ht)
  exact ((bB c hc).1.mul (hbU.fdiv (y:=c.den))).mono (by lia)
 refine ⟨_,rfl,false,r,xs,qs,n,rfl,SqT.same hS s3,AS.same hn s3,(fun c hc=>(hB c hc).2),by rw [Vq]; lia,fun B hB0 hdv hbB=>?_⟩
 refine ⟨(by decide : 0 ≤ sizeLine),fun tp h4=>?_⟩
 have s4 : Ag H (upd H3 tp (.lst [])):=s3.trans (Ag.new h4)
 refine ⟨_,rfl,_,rfl,false,r,xs,qs,B,n * qs.length + 1,n,rfl,SqT.same hS s4,AS.same hn s4,hbB,(fun c hc=>(hB c hc).1),by lia,by lia,fun l h5=>⟨_,rfl,l,_,rfl,SqL.of Ae,?_⟩⟩
 have hHl : H l = none:=by
  cases z : H l with
  | none=>rfl
  | some u=>rw [s4 l u z] at h5; cases h5
 have s5 : Ag H (upd (upd H3 tp (.lst [])) l (.lst ((qs.map (As B)).map V.int))):=s4.trans (Ag.new h5)
 have ell5:=(Ag.new (o:=.lst ((qs.map (As B)).map V.int)) h5) _ _ ((Ag.new (o:=.lst []) h4) _ _ ell)
 have etp5:=(Ag.new (o:=.lst ((qs.map (As B)).map V.int)) h5) _ _ (Ae (H:=H3) (a:=tp) (o:=.lst []))
 have el5 : (upd (upd H3 tp (.lst [])) l (.lst ((qs.map (As B)).map V.int))) l = some (.lst ((qs.map (As B)).map V.int)):=Ae
 have tl : (List.map V.int (qs.map (As B))).length = qs.length:=by rw [Ug,Ug]
 have tB : ∀ c ∈ qs,Bd (n * qs.length + n + 1) (As B c):=fun c hc=>((hB c hc).1.mul (hbB.fdiv (y:=c.den))).mono (by lia)
 generalize hH5 : upd (upd H3 tp (.lst [])) l (.lst ((qs.map (As B)).map V.int)) = H5 at s5 ell5 etp5 el5 ⊢
 refine Kt (L11 H5 r ra rb U ll B qs a b n fun H5 r ra rb U ll B qs a b n i σ H'=>Ag H5 H' ∧ ∃ (tp : Addr) (ts : List Int) (s : Int) (z : Option V),σ = [some (.ref r),some (.ref ra),some (.ref rb),some (.int U),some (.ref ll),some (.int B),some (.ref tp),some (.int s),z] ∧ H' tp = some (.lst (ts.map V.int)) ∧ ts.length = i ∧ s ≠ 0 ∧
  (∀ x,Cv.evI ts x * (U : Rat) = Cv.ev (((qs.map (As B)).map fun t : Int=>(t : Rat)).drop (qs.length - i)) (a * x + b) * (s : Rat)) ∧ (∀ t ∈ ts,Bd (3 * (n * i) + 22 * i + n * qs.length + 3 * n + 10) t) ∧ Bd (2 * (n * i) + i + 1) s)
  ⟨Ag.refl _,tp,[],1,none,rfl,etp5,rfl,by decide,fun x=>?_,(fun _ h=>nomatch h),?_⟩ (fun i σ H' _ p=>SqL.of (p.1 _ _ el5)) ?_ ?_
 ·rw [Vn,List.drop_eq_nil_of_le (by rw [Ug,Ug]; exact TL _)]
  show (0 : Rat) * _ = 0 * _
  grind
 ·exact (show Bd 1 1 by unfold Bd; decide).mono (by lia)
 ·rintro i v σ H' hi hv hR1
  refine BZ hR1 fun sm hz73=>?_
  refine J2 hz73 fun tp' ts s z hz73'=>?_
  clear hz73
  refine Oc hz73' fun hq72 etp htl hs0 he hbt hbs=>?_
  clear hz73'
  obtain rfl:=hq72
  try clear hR1
  rw [tl] at hi hv
  have hj : qs.length - 1 - i < qs.length:=by lia
  rw [Uc,Uc,V9 hj] at hv
  cases hv
  have hcm : qs[qs.length - 1 - i] ∈ qs:=Va hj
  have bt:=tB _ hcm
  have hni : n * i ≤ 1000 * 100:=VU hn1 (by lia)
  have hni1 : n * (i + 1) = n * i + n:=by rw [Vq,Nat.mul_one]
  refine ⟨_,rfl,_,rfl,tp',ll,ts,[b,a].map (As U),3 * (n * i) + 22 * i + n * qs.length + 3 * n + 10,n * 3 + 1,rfl,SqL.of etp,SqL.of (sm _ _ ell5),(show 1 ≤ 2 by decide),by lia,(show 2 ≤ 1000 by decide),hbt,blin,by lia,fun pr H6 ps s6 hpr epr hpl hpe hpb=>?_⟩
  have hpl' : ps.length = i + 1:=by rw [hpl,htl]; rfl
  have h0 : ps[0]? = some ps[0]:=V9 (by lia)
  have mts : Bq (As B qs[qs.length - 1 - i]) s:=Bq.bd bt hbs (by lia)
  refine ⟨_,rfl,pr,_,_,_,rfl,rfl,SqL.of epr,Ce h0 rfl,_,rfl,_,rfl,_,_,rfl,rfl,mts,_,_,rfl,rfl,?_⟩
  refine ⟨_,rfl,pr,_,_,0,rfl,rfl,epr,Ei (by rw [Ug]; lia) rfl,?_⟩
  refine ⟨_,rfl,_,rfl,_,_,rfl,rfl,Bq.bd hbs hbU (by lia),?_⟩
  have sm2 : Ag H5 (upd H6 pr (.lst ((ps.map V.int).set 0 (.int (ps[0] + As B qs[qs.length - 1 - i] * s))))):=fun bb u zz=>by
   have z1:=sm bb u zz
   rw [Aw (AB z1 hpr)]
   exact s6 bb u z1
  refine ⟨sm2,pr,ps.set 0 (ps[0] + As B qs[qs.length - 1 - i] * s),s * U,_,rfl,?_,by rw [Uo]; exact hpl',UL hs0 (by lia),fun x=>?_,fun t ht=>?_,?_⟩
  ·rw [Ae,US]
  ·rw [Cv.evI_set x ps 0 _ _ h0,hpe x,hlin x,UO]
   have hd : qs.length - i = (qs.length - (i + 1)) + 1:=by lia
   have hlen : qs.length - (i + 1) < ((qs.map (As B)).map fun t : Int=>(t : Rat)).length:=by rw [Ug,Ug]; lia
   rw [Vr hlen,← hd]
   have hg : ((qs.map (As B)).map fun t : Int=>(t : Rat))[qs.length - (i + 1)] = ((As B qs[qs.length - 1 - i] : Int) : Rat):=by
    rw [List.getElem_map,List.getElem_map]
    congr 3
    lia
   rw [hg]
   have h6:=he x
   show (Cv.evI ts x * ((a * x + b) * (U : Rat)) + ((As B qs[qs.length - 1 - i] * s : Int) : Rat) * 1) * (U : Rat) = (_ + (a * x + b) * _) * ((s * U : Int) : Rat)
   rw [UN,UN]
   grind
  ·rcases List.mem_or_eq_of_mem_set ht with zz | zz
   ·exact (hpb t zz).mono (by lia)
   ·subst zz
    have b1:=(hpb _ (Va (by lia : 0 < ps.length))).mono (n:=3 * (n * i) + 22 * i + n * qs.length + 3 * n + 10 + (n * 3 + 1) + 20) (by lia)
    have b2:=(bt.mul hbs).mono (n:=3 * (n * i) + 22 * i + n * qs.length + 3 * n + 10 + (n * 3 + 1) + 20) (by lia)
    exact (Bd.add b1 b2).mono (by lia)
  ·exact (hbs.mul hbU).mono (by lia)
 ·rintro σ H' hR2
  refine BZ hR2 fun sm hz75=>?_
  refine J2 hz75 fun tp' ts s z hz75'=>?_
  clear hz75
  refine Oc hz75' fun hq74 etp htl hs0 he hbt hbs=>?_
  clear hz75'
  obtain rfl:=hq74
  try clear hR2
  rw [tl] at htl he hbs hbt
  refine JL (b:=true) (a:=tp') (xs:=ts.map V.int) rfl (fun i zs H2=>H2 = H' ∧ zs = ((ts.take i).map (· * U)).map V.int) ⟨rfl,rfl⟩ (fun i zs H2 hi p=>⟨by rw [p.1]; exact SqL.of etp,by rw [p.2,Ug,Ug,U8]; rw [Ug] at hi; lia⟩) (by rw [Ug,htl]; exact Ts (AX (by lia))) ?_ ?_
  ·rintro i v zs H2 hv ⟨rfl,rfl⟩
   rw [Uc] at hv
   cases et : ts[i]? with
   | none=>rw [et] at hv; cases hv
   | some t =>
     rw [et] at hv
     cases hv
     refine ⟨_,rfl,_,rfl,_,_,rfl,rfl,Bq.bd (hbt t (Ud et)) hbU (by lia),rfl,?_⟩
     rw [UT,et,UU,UU]
     rfl
  rintro zs H2 ⟨rfl,rfl⟩ p hp
  rw [Ug,UW]
  have hb0 : B * s ≠ 0:=UL (by lia) hs0
  refine ⟨_,rfl,_,rfl,_,_,rfl,rfl,Bq.bd hbB hbs (by lia),?_⟩
  refine ⟨p,ts.map (· * U),B * s,rfl,SqL.of Ae,hb0,by rw [Ug]; lia,fun u H6 s6 c6=>?_⟩
  refine q u H6 _ ((s5.trans (sm.trans (Ag.new hp))).trans s6) c6 (by have:=Cv.strip_length ((ts.map (· * U)).map fun t=>UE t (B * s)); rw [Ug,Ug] at this; lia) (Bb _) (fun c hc=>?_) fun x=>?_
  ·have hc':=Cv.strip_mem _ c hc
   obtain ⟨t',ht',rfl⟩:=(VX.mp hc')
   obtain ⟨t,ht,rfl⟩:=(VX.mp ht')
   exact RB.div (m:=0) (((hbt t ht).mul hbU).mono (by lia)) ((hbB.mul hbs).mono (by lia)) hb0
  rw [Cv.ev_strip]
  have e : ((ts.map (· * U)).map fun t=>UE t (B * s)) = (ts.map fun t : Int=>(t : Rat)).map (· * ((U : Rat) / ((B * s : Int) : Rat))):=by
   rw [Vz,Vz]
   refine VA fun t _=>?_
   show UE (t * U) (B * s) = (t : Rat) * ((U : Rat) / ((B * s : Int) : Rat))
   rw [UJ,UN,Wb,Wb]
   grind
  rw [e,Cv.ev_scale]
  have h7:=he x
  rw [VJ,Vm,DG hdv] at h7
  show Cv.evI ts x * _ = _
  have hne : ((B * s : Int) : Rat) ≠ 0:=Nm.cast_ne hb0
  have hc : ((B * s : Int) : Rat) = (B : Rat) * (s : Rat):=UN ..
  have h8 : ((B * s : Int) : Rat) * ((B * s : Int) : Rat)⁻¹ = 1:=VR _ hne
  rw [Wb,← VS,h7,VS (Cv.ev qs (a * x + b)),← hc,VS,h8,VT]
theorem Mf : Ar ["a","b"] ["a","b"] (Af (top 16)):=⟨rfl,rfl,rfl,by decide +kernel,rfl,by decide +kernel,by decide +kernel⟩
theorem MA {f : Addr} {fd : FuncData} (F : Fun K "minus" "minus" (top 16) f fd) (Rr : Fd P w K mg base 34 "number_of" ["top","bottom"] (Cr)) (hT : P.given.tree = none) :
 AN P w K mg base CX0 35 f fd ["a","b"] (Cs K (· - ·)):=by
 refine F.ok Mf (fun vs H Q E h=>?_) (fun cdv A outer s H vs Q E hr h=>?_)
 ·obtain ⟨_,_,_,_,_,_,rfl,_⟩:=h; rfl
 refine ⟨_,(Ah (Ax (Am Rr hr rfl (Aa (Aj Bo (Aj Aq (Al (ixT K) (pv 0) Ad (fun u v=>rfl)) (Al (ixT K) (pv 1) Ad (fun u v=>rfl))) (Aj Aq (Al (ixT K) (pv 1) Ad (fun u v=>rfl)) (Al (ixT K) (pv 0) Ad (fun u v=>rfl)))) (Aa (Aj Aq (Al (ixT K) (pv 0) Ad (fun u v=>rfl)) (Al (ixT K) (pv 1) Ad (fun u v=>rfl))) Ab))))),?_⟩
 obtain ⟨x,y,p,q,m,n,rfl,⟨r,rfl,hr⟩,⟨u,rfl,hu⟩,hp,hq,hmn,k⟩:=h
 refine ⟨_,rfl,r,_,_,_,rfl,rfl,hr,rfl,_,rfl,u,_,_,_,rfl,rfl,hu,rfl,_,_,rfl,rfl,Bq.bd hp.1 hq.2,_,rfl,u,_,_,_,rfl,rfl,hu,rfl,_,rfl,r,_,_,_,rfl,rfl,hr,rfl,_,_,rfl,rfl,Bq.bd hq.1 hp.2,_,_,rfl,rfl,?_⟩
 refine ⟨_,rfl,r,_,_,_,rfl,rfl,hr,rfl,_,rfl,u,_,_,_,rfl,rfl,hu,rfl,_,_,rfl,rfl,Bq.bd hp.2 hq.2,?_⟩
 refine ⟨_,_,rfl,UL (Nm.den_ne p) (Nm.den_ne q),fun z hz=>?_⟩
 have e:=k z hz
 try dsimp only at e
 rw [← Nm.minus_eq] at e
 exact e
theorem BJ : Ar ["curve","low","high","parts","bottom","row","heights"] ["curve","low","high"] (Af (top 40)):=⟨rfl,rfl,rfl,by decide +kernel,rfl,by decide +kernel,by decide +kernel⟩
theorem Gn {f : Addr} {fd : FuncData} (F : Fun K "heights_of" "heights_of" (top 40) f fd) (Su : Fd P w K mg base 36 "parts_along" ["along"] (Hm K)) (Rp : Fd P w K mg base 34 "bottom_of" ["numbers"] (E4 K)) (Rq : Fd P w K mg base 33 "tops_over" ["numbers","bottom"] (Dh K)) (Sv : Fd P w K mg base 33 "is_less" ["a","b"] (EB K)) (Sw : Fd P w K mg base 36 "with_line" ["curve","a","b"] (JB K)) (F_minus : Fd P w K mg base 35 "minus" ["a","b"] (Cs K (· - ·))) (Rr : Fd P w K mg base 34 "number_of" ["top","bottom"] (Cr)) (Rl : mg "len" = none) (Rm : mg "range" = none) {a_NOUGHT : Addr} (c_NOUGHT : mg "NOUGHT" = some (.ref a_NOUGHT)) (n_NOUGHT : ∀ H : Hp,AA K H (.ref a_NOUGHT) (0)) (hT : P.given.tree = none) :
 AN P w K mg base CX0 37 f fd ["curve","low","high"] (K5 K):=by
 refine F.ok BJ (fun vs H Q E h=>?_) (fun cdv A outer s H vs Q E hr h=>?_)
 ·obtain ⟨_,_,_,_,_,_,_,rfl,_⟩:=h; rfl
 refine ⟨_,(Ac (K:=K) (AV (K:=K) (EF (CT (Am Sv hr rfl (Aa (pv 1) (Aa (pv 2) Ab))))) (Ah D8) AL (by rfl) (by rfl))
  (Ac (K:=K) (AV (K:=K) (Au CK (Ak (Bt K) rfl Rl AF (Aa (pv 0) Ab)) Ad (Ay _)) (Ah (Ax (Be (Aa (BF (v:=.ref a_NOUGHT) rfl c_NOUGHT rfl) Ab)))) AL (by rfl) (by rfl))
  (Ac (K:=K) (Ai (i:=3) BJ.nd rfl (Or.inl rfl) (Am Su hr rfl (Aa (Am Sw hr rfl (Aa (pv 0) (Aa (Am F_minus hr rfl (Aa (pv 2) (Aa (pv 1) Ab))) (Aa (pv 1) Ab)))) Ab)))
  (Ac (K:=K) (Ai (i:=4) BJ.nd rfl (Or.inl rfl) (Am Rp hr rfl (Aa (pv 3) Ab)))
  (Ac (K:=K) (Ai (i:=5) BJ.nd rfl (Or.inr rfl) (Am Rq hr rfl (Aa (pv 3) (Aa (pv 4) Ab))))
  (Ac (K:=K) (Ai (i:=6) BJ.nd rfl (Or.inl rfl) (Be Ab))
  (Ac (K:=K) (Cg PassesOwn.never (Au Cu (Ak (Bt K) rfl Rl AF (Aa (pv 5) Ab)) Ad (Ay _)) (Ac (K:=K) (Fg (HE K PySem.F.plainAttrs_list PySem.F.slot_list_append PySem.F.type_list_append EN (pv 6) (Aa (Am Rr hr rfl (Aa (Al (ixL K) (pv 5) Ad (fun u v=>rfl)) (Aa (pv 4) Ab))) Ab)))
  (Ah (Ai (i:=5) BJ.nd rfl (Or.inr rfl) (Ct rfl (N:=["k","row"]) (nt:=1) (js:=[5]) (Bf.look (NX:=["curve","low","high","parts","bottom","row","heights"]) (sc:=Af (top 40)) rfl rfl (by decide +kernel)) (Bv rfl Rm (Aa (Aj Bo (Ak (Bt K) rfl Rl AF (Aa (pv 5) Ab)) Ad) Ab)) (fun u1 u2 u3 u4 u5=>(Av (i:=0) (show List.Nodup (["k","row"] : List Str) from by decide +kernel) rfl (Or.inl rfl))) (AI (by decide)) (fun u1 u2 u3 u4 u5=>BL) (fun u1 u2 u3 u4 u5=>(Aj AJ (Al (ixL K) (pv 1) (pv 0) (fun u v=>rfl)) (Al (ixL K) (pv 1) (Aj AJ (pv 0) Ad) (fun u v=>rfl))))))) (by rfl)))
  (Ah (Ax (pv 6))) (by rfl)) (by rfl)) (by rfl)) (by rfl)) (by rfl)) (by rfl)) (by rfl)),?_⟩
 obtain ⟨c,rl,rh,cs,lo,hi,n,rfl,hc,gc,hlo,hhi,hlt,hbc,hbl,hbh,hn,h7,q⟩:=h
 have P0 : 0 ≤ sizeLine:=by decide
 have P1 : 1 ≤ sizeLine:=by decide
 refine ⟨_,rfl,_,rfl,_,_,_,_,n,n,rfl,hlo,hhi,hbl,hbh,by lia,⟨_,rfl,?_⟩⟩
 refine Bg (by rw [decide_eq_true hlt] <;> rfl) ?_
 obtain ⟨xs,hS,hcn⟩:=(id hc)
 have hcl:=hcn.length
 refine ⟨_,rfl,c,xs,rfl,.inr hS,rfl,_,rfl,?_⟩
 by_cases hnil : cs = []
 ·rw [decide_eq_true (show V.int (xs.length : Int) = V.int 0 by rw [hcl,hnil]; rfl)]
  have e : hts cs lo hi = [0]:=by unfold hts; rw [if_pos hnil]
  rw [e] at q
  refine Gw ⟨P1,fun p hp=>q p _ [.ref a_NOUGHT] (Ag.new hp) hp Ae (.cons (n_NOUGHT _) .nil) fun c hc=>?_⟩
  rw [V7.mp hc]; exact RB.zero (by decide)
 have hpos : 0 < cs.length:=UQ.mpr hnil
 refine Bg (by rw [decide_eq_false (show ¬ V.int (xs.length : Int) = V.int 0 from fun z=>by have:=V.int.inj z; lia)] <;> rfl) ?_
 refine ⟨_,rfl,_,rfl,_,rfl,_,_,_,_,n,n,rfl,hhi,hlo,hbh,hbl,by lia,fun d hd=>?_⟩
 have s1 : Ag H (upd H d (nT (hi - lo))):=Ag.new hd
 have hdn : AA K (upd H d (nT (hi - lo))) (.ref d) (hi - lo):=AA.of Ae
 generalize upd H d (nT (hi - lo)) = H1 at s1 hdn ⊢
 have hne : hi - lo ≠ 0:=fun z=>by
  have e : hi = lo:=by grind
  rw [e] at hlt
  exact absurd hlt (Rat.lt_irrefl)
 refine ⟨_,rfl,c,d,rl,cs,hi - lo,lo,201,rfl,hc.same s1,hdn,hlo.same s1,fun q hq=>(hbc q hq).mono (by lia),(hbh.minus hbl).mono (by lia),hbl.mono (by lia),by decide,by lia,fun al H2 rs s2 hal hle hg hb2 hev=>?_⟩
 have ers : rs = Dd (hi - lo) lo cs:=BB hg (GZ hne gc) fun x=>by rw [hev x,Ib]
 have hrl : rs.length = cs.length:=by rw [ers,Ck]
 have hb7 : ∀ q ∈ rs,RB 7000 q:=fun q hq=>(hb2 q hq).mono (by lia)
 refine ⟨al,rs,7000,rfl,hal,by lia,by lia,hb7,by decide,by decide,fun pt H3 zs s3 ept hpt hbp=>?_⟩
 have eh : hts cs lo hi = Gx rs:=by unfold hts; rw [if_neg hnil,ers]
 have pl:=DS rs
 obtain ⟨ps,hps⟩ : ∃ ps,ps = Cc rs:=⟨_,rfl⟩
 rw [← hps] at hpt hbp pl
 have hpL : ps.length ≤ 7:=by lia
 have hnl : 7022 * ps.length ≤ 7022 * 7:=Wf _ hpL
 refine ⟨_,rfl,true,pt,zs,ps,7022,rfl,SqL.of ept,hpt,(fun c hc=>(hbp c hc).2),by rw [Vq]; lia,fun B hB0 hdv hbB=>?_⟩
 have hB : B ≠ 0:=by lia
 refine ⟨_,rfl,_,rfl,true,pt,zs,ps,B,7022 * ps.length + 1,7022,rfl,SqL.of ept,hpt,hbB,(fun c hc=>(hbp c hc).1),by lia,by lia,fun r0 hr0=>?_⟩
 obtain ⟨T,hT'⟩ : ∃ T,T = ps.map (As B):=⟨_,rfl⟩
 rw [← hT']
 have tl : T.length = ps.length:=by rw [hT',Ug]
 have tB : ∀ t ∈ T,Bd 56300 t:=fun t ht=>by
  rw [hT'] at ht
  obtain ⟨c,hc,rfl⟩:=(VX.mp ht)
  exact ((hbp c hc).1.mul (hbB.fdiv (y:=c.den))).mono (by lia)
 have tb : T.map (fun t=>UE t B) = ps:=by rw [hT']; exact Qf hB hdv
 refine ⟨P0,fun p hp=>?_⟩
 have s03:=(s1.trans s2).trans s3
 have er0 : (upd H3 r0 (.lst (T.map V.int))) r0 = some (.lst (T.map V.int)):=Ae
 have rp : r0 ≠ p:=AB er0 hp
 have s4 : Ag H (upd (upd H3 r0 (.lst (T.map V.int))) p (.lst [])):=(s03.trans (Ag.new hr0)).trans (Ag.new hp)
 have hpH : H p = none:=(s03.trans (Ag.new (o:=.lst (T.map V.int)) hr0)).free hp
 refine K1 (L9 H c rl rh pt B p T K fun H c rl rh pt B p T K σ H'=>Ag H H' ∧ ∃ (rr : Addr) (j : Nat) (ys : List V),σ = [some (.ref c),some (.ref rl),some (.ref rh),some (.ref pt),some (.int B),some (.ref rr),some (.ref p)] ∧ rr ≠ p ∧ H' rr = some (.lst ((aIN j T).map V.int)) ∧ H' p = some (.lst ys) ∧ AS K H' ys ((Th j).map fun i=>UE ((aIN i T).getD 0 0) B) ∧ j ≤ T.length) (fun _ H'=>match H' p with | some (.lst xs)=>1000 - xs.length | _=>0)
  ⟨s4,r0,0,[],rfl,rp,(Ag.new hp) _ _ er0,Ae,.nil,TQ _⟩ ?_
 rintro σ H' hR1
 refine BZ hR1 fun sm hz77=>?_
 refine DD hz77 fun rr j ys hz77'=>?_
 clear hz77
 refine Es hz77' fun hq76 rrp er ep hys hj=>?_
 clear hz77'
 obtain rfl:=hq76
 try clear hR1
 have hyl : ys.length = j:=by rw [hys.length,Ug,Vv]
 have al' : (aIN j T).length = T.length - j:=DO T j
 have tb2:=JV tB j
 generalize hrow : aIN j T = row at er al' tb2
 have rml : (row.map V.int).length = T.length - j:=by rw [Ug]; exact al'
 refine ⟨_,rfl,rr,_,rfl,.inl (SqL.of er),_,_,rfl,rfl,_,rfl,?_⟩
 by_cases hjc : j < T.length
 ·refine BA (by rw [decide_eq_true (show (0 : Int) < (((row.map V.int).length : Nat) : Int) by lia)] <;> rfl) (K0 ?_)
  have g0:=Bp (l:=row) (i:=0) (by lia)
  refine ⟨_,rfl,.inl ⟨rfl,_,SqL.of ep⟩,_,rfl,rr,_,_,_,rfl,rfl,SqL.of er,Ce g0 rfl,_,rfl,row.getD 0 0,B,rfl,hB,fun u hu=>?_⟩
  have su : Ag H' (upd H' u (nT (UE (row.getD 0 0) B))):=Ag.new hu
  have eu : (upd H' u (nT (UE (row.getD 0 0) B))) u = some (nT (UE (row.getD 0 0) B)):=Ae
  generalize upd H' u (nT (UE (row.getD 0 0) B)) = Hu at su eu ⊢
  have epu:=su _ _ ep
  refine ⟨p,ys,.ref u,rfl,rfl,epu,Te (show ys.length < 300 by lia) (by decide),?_⟩
  have sP : Ag H (upd Hu p (.lst (ys ++ [.ref u]))):=(sm.trans su).put hpH
  have erP : (upd Hu p (.lst (ys ++ [.ref u]))) rr = some (.lst (row.map V.int)):=by rw [Aw rrp]; exact su _ _ er
  have epP : (upd Hu p (.lst (ys ++ [.ref u]))) p = some (.lst (ys ++ [.ref u])):=Ae
  have hysP : AS K (upd Hu p (.lst (ys ++ [.ref u]))) (ys ++ [.ref u]) ((Th (j + 1)).map fun i=>UE ((aIN i T).getD 0 0) B):=by
   rw [Wn,UU]
   refine AS.put (Paired.snoc (AS.same hys su) (AA.of ?_)) epu
   show Hu u = some (nT (UE ((aIN j T).getD 0 0) B))
   rw [hrow]; exact eu
  generalize upd Hu p (.lst (ys ++ [.ref u])) = HP at sP erP epP hysP ⊢
  refine Ca ⟨_,rfl,rr,_,rfl,.inl (SqL.of erP),_,_,rfl,rfl,_,rfl,by lia,by lia,?_⟩
  rw [show (((row.map V.int).length : Int) - 1).toNat = row.length - 1 by lia]
  refine JM (L2 HP row fun HP row i zs H2=>H2 = HP ∧ zs = ((Th i).map fun j=>row.getD j 0 + row.getD (j + 1) 0).map V.int) ⟨rfl,rfl⟩ (fun i zs H2 _ h=>by rw [h.2,Ug,Ug,Vv]) (Ts (AX (by lia))) ?_ ?_
  ·rintro i zs H2 hi ⟨rfl,rfl⟩
   have g1:=Bp (l:=row) (i:=i + 1) (by lia)
   have g0:=Bp (l:=row) (i:=i) (by lia)
   refine ⟨_,rfl,_,rfl,rr,_,_,_,rfl,rfl,SqL.of erP,Ce g0 (by lia),_,rfl,_,rfl,_,_,rfl,rfl,rr,_,_,_,rfl,rfl,SqL.of erP,Ce g1 (by lia),_,_,rfl,rfl,rfl,?_⟩
   rw [Wn,UU,UU]
   rfl
  rintro zs H2 ⟨rfl,rfl⟩ nl hnl
  have np : nl ≠ p:=(AB epP hnl).symm
  have e0 : ((Th (row.length - 1)).map fun j=>row.getD j 0 + row.getD (j + 1) 0) = aIN (j + 1) T:=by
   show _ = aI (aIN j T)
   rw [hrow]; rfl
  rw [e0]
  have sn : Ag H2 (upd H2 nl (.lst ((aIN (j + 1) T).map V.int))):=Ag.new hnl
  refine ⟨⟨sP.trans sn,nl,j + 1,ys ++ [.ref u],rfl,np,Ae,sn _ _ epP,AS.same hysP sn,by lia⟩,?_⟩
  show (match (upd H2 nl (.lst ((aIN (j + 1) T).map V.int))) p with | some (.lst xs)=>1000 - xs.length | _=>0) < (match H' p with | some (.lst xs)=>1000 - xs.length | _=>0)
  rw [sn _ _ epP,ep]
  show 1000 - (ys ++ [V.ref u]).length < 1000 - ys.length
  rw [Ue,Ut]
  lia
 ·rw [decide_eq_false (show ¬ (0 : Int) < (((row.map V.int).length : Nat) : Int) by lia)]
  have ej : j = T.length:=by lia
  have eq : ((Th j).map fun i=>UE ((aIN i T).getD 0 0) B) = Gx rs:=by
   unfold Gx
   rw [ej,tl,pl]
   refine VA fun i _=>?_
   rw [← hps,← tb,KR hB,MS]
  rw [eq] at hys
  rw [eh] at q
  refine CN ⟨_,rfl,q p H' ys sm hpH ep hys fun c hc=>?_⟩
  rw [← eq] at hc
  obtain ⟨i,hi,rfl⟩:=(VX.mp hc)
  have hi':=To.mp hi
  have bt : Bd 60000 ((aIN i T).getD 0 0):=by
   rw [V2]
   cases e : (aIN i T)[0]? with
   | none=>exact (show Bd 0 0 by unfold Bd; decide).mono (TQ _)
   | some t=>exact (JV tB i t (Ud e)).mono (by lia)
  exact RB.div (m:=0) bt (hbB.mono (by lia)) hB
theorem AK : Ar ["first","second","lead","often","rest","shift","top","k"] ["first","second"] (Af (top 33)):=⟨rfl,rfl,rfl,by decide +kernel,rfl,by decide +kernel,by decide +kernel⟩
theorem Ed {f : Addr} {fd : FuncData} (F : Fun K "whole_division" "whole_division" (top 33) f fd) (Ru : mg "list" = none) (Rm : mg "range" = none) (Rl : mg "len" = none) (hT : P.given.tree = none) :
 AN P w K mg base CX0 33 f fd ["first","second"] (K7 K):=by
 refine F.ok AK (fun vs H Q E h=>?_) (fun cdv A outer s H vs Q E hr h=>?_)
 ·obtain ⟨_,_,_,_,_,_,_,rfl,_⟩:=h; rfl
 refine ⟨_,(Ac (K:=K) (Ai (i:=2) AK.nd rfl (Or.inr rfl) (Al (ixL K) (pv 1) (DR CS Ad) (fun u v=>rfl)))
  (Ac (K:=K) (Ai (i:=3) AK.nd rfl (Or.inl rfl) (Be Ab))
  (Ac (K:=K) (Ai (i:=4) AK.nd rfl (Or.inl rfl) (CG (Oq K) rfl Ru Ft (Aa (pv 0) Ab)))
  (Ac (K:=K) (BE (K:=K) PassesOwn.never rfl (NC rfl Rm (Aa (Aj Bo (Ak (Bt K) rfl Rl AF (Aa (pv 0) Ab)) (Ak (Bt K) rfl Rl AF (Aa (pv 1) Ab))) (Aa (DR CS Ad) (Aa (DR CS Ad) Ab)))) (Av (i:=5) AK.nd rfl (Or.inl rfl)) (Ac (K:=K) (Ai (i:=6) AK.nd rfl (Or.inl rfl) (Al (ixL K) (pv 4) (DR CS Ad) (fun u v=>rfl)))
  (Ac (K:=K) (Ai (i:=3) AK.nd rfl (Or.inl rfl) (Aj Dz (Be (Aa (pv 6) Ab)) (Ct rfl (N:=["number","lead"]) (nt:=1) (js:=[2]) (Bf.look (NX:=["first","second","lead","often","rest","shift","top","k"]) (sc:=Af (top 33)) rfl rfl (by decide +kernel)) (piL K (pv 3)) (fun u1 u2 u3 u4 u5=>(Av (i:=0) (show List.Nodup (["number","lead"] : List Str) from by decide +kernel) rfl (Or.inl rfl))) (AI (by decide)) (fun u1 u2 u3 u4 u5=>BL) (fun u1 u2 u3 u4 u5=>(Aj Aq (pv 1) (pv 0))))))
  (Ac (K:=K) (Mo (i:=4) rfl AK.nd rfl rfl (N:=["number","lead"]) (nt:=1) (js:=[2]) (Bf.look (NX:=["first","second","lead","often","rest","shift","top","k"]) (sc:=Af (top 33)) rfl rfl (by decide +kernel)) (piL K (E8 (slL K) (pv 4) Fj (Fi (DR CS Ad)))) (fun u1 u2 u3 u4 u5=>(Av (i:=0) (show List.Nodup (["number","lead"] : List Str) from by decide +kernel) rfl (Or.inl rfl))) (AI (by decide)) (fun u1 u2 u3 u4 u5=>BL) (fun u1 u2 u3 u4 u5=>(Aj Aq (pv 1) (pv 0))) rfl)
  (Ah (BE (K:=K) PassesOwn.never rfl (Bv rfl Rm (Aa (Aj Bo (Ak (Bt K) rfl Rl AF (Aa (pv 1) Ab)) Ad) Ab)) (Av (i:=7) AK.nd rfl (Or.inl rfl)) (Ah (CU (Aj Bo (Al (ixL K) (pv 4) (Aj AJ (pv 7) (pv 5)) (fun u v=>rfl)) (Aj Aq (pv 6) (Al (ixL K) (pv 1) (pv 7) (fun u v=>rfl)))) (EH (pv 4) (Aj AJ (pv 7) (pv 5)) D0))) (by rfl))) (by rfl)) (by rfl)) (by rfl)) (by rfl))
  (Ah (Ax (AG (Aa (pv 3) (Aa (pv 4) Ab))))) (by rfl)) (by rfl)) (by rfl)) (by rfl)),?_⟩
 obtain ⟨f,g,fs,gs,lead,M,L,rfl,hf,hg,hlead,hf1000,hg1000,hbf,hbg,hM,hL,q⟩:=h
 have P0 : 0 ≤ sizeLine:=by decide
 have P1 : 1 ≤ sizeLine:=by decide
 have P2 : 2 ≤ sizeLine:=by decide
 have lf : (fs.map V.int).length = fs.length:=Ug _
 have lg : (gs.map V.int).length = gs.length:=Ug _
 have hg1 : 1 ≤ gs.length:=by have:=(TC.mp hlead).1; lia
 have hlv : (gs.map V.int)[(gs.map V.int).length - 1]? = some (V.int lead):=by rw [lg,Uc,hlead]; rfl
 have bl : Bd L lead:=hbg _ (Ud hlead)
 refine ⟨_,rfl,_,rfl,g,_,_,_,rfl,rfl,hg,Df hlv,?_⟩
 refine ⟨P0,fun oa hoa=>?_⟩
 have s1 : Ag H (upd H oa (.lst [])):=Ag.new hoa
 refine ⟨_,rfl,f,_,rfl,.inl (Ag.seq s1 hf),fun ra hra=>?_⟩
 have s2:=s1.trans (Ag.new (o:=.lst (fs.map V.int)) hra)
 have hraH : H ra = none:=by
  cases z : H ra with
  | none=>rfl
  | some u=>rw [s1 ra u z] at hra; cases hra
 refine ⟨_,rfl,f,_,rfl,.inl (Ag.seq s2 hf),_,rfl,g,_,rfl,.inl (Ag.seq s2 hg),_,_,rfl,rfl,_,rfl,_,rfl,_,_,rfl,⟨by rw [lf,lg]; lia,by rw [lf,lg]; lia,by decide,by decide⟩,?_⟩
 have eT : (((fs.map V.int).length : Int) - ((gs.map V.int).length : Int) - -1).toNat = fs.length + 1 - gs.length:=by rw [lf,lg]; lia
 rw [eT]
 have ra0 : (upd (upd H oa (.lst [])) ra (.lst (fs.map V.int))) ra = some (.lst (fs.map V.int)):=Ae
 have oa0 : (upd (upd H oa (.lst [])) ra (.lst (fs.map V.int))) oa = some (.lst (([] : List Int).map V.int)):=(Ag.new hra) _ _ Ae
 refine MT (n:=fs.length + 1 - gs.length) (L8 H f g lead fs gs M L fun H f g lead fs gs M L j σ H'=>Ag H H' ∧ ∃ (oa ra : Addr) (os rs : List Int) (z5 z6 z7 : Option V),σ = [some (.ref f),some (.ref g),some (.int lead),some (.ref oa),some (.ref ra),z5,z6,z7] ∧ H' oa = some (.lst (os.map V.int)) ∧ H' ra = some (.lst (rs.map V.int)) ∧ os.length = j ∧ rs.length = fs.length - j ∧
  (∀ x,Cv.evI fs x * ((lead ^ j : Int) : Rat) = Cv.evI os x * x ^ (fs.length + 1 - gs.length - j) * Cv.evI gs x + Cv.evI rs x) ∧ (∀ t ∈ os,Bd (M + j * (L + 1)) t) ∧ (∀ t ∈ rs,Bd (M + j * (L + 1)) t) ∧ (j = 0 → rs = fs) ∧ (os ≠ [] → ∃ t,fs[fs.length - 1]? = some t ∧ os[os.length - 1]? = some (lead ^ (os.length - 1) * t)))
  ⟨s2,oa,ra,[],fs,none,none,none,rfl,oa0,ra0,rfl,rfl,fun x=>?_,(fun _ h=>nomatch h),(fun t ht=>(hbf t ht).mono (by lia)),fun _=>rfl,fun h=>absurd rfl h⟩ ?_ ?_
 ·rw [Vo]
  show Cv.evI fs x * ((1 : Int) : Rat) = 0 * _ * _ + _
  rw [Rat.intCast_one]; grind
 ·rintro j σ H' hj hR1
  refine BZ hR1 fun sm hz79=>?_
  refine PX hz79 fun oa ra os rs z5 z6 z7 hz79'=>?_
  clear hz79
  refine OG hz79' fun hq78 eo er hol hrl hev hbo hbr hfs htop=>?_
  clear hz79'
  obtain rfl:=hq78
  try clear hR1
  have hjL : j * (L + 1) ≤ fs.length * (L + 1):=Vj _ (by lia)
  have hjL1 : (j + 1) * (L + 1) = j * (L + 1) + L + 1:=by rw [Vh]; lia
  have hrp : rs.length - 1 < rs.length:=by lia
  have hr0 : rs[rs.length - 1]? = some rs[rs.length - 1]:=V9 hrp
  generalize htp : rs[rs.length - 1] = tp at hr0
  have btp : Bd (M + j * (L + 1)) tp:=by rw [← htp]; exact hbr _ (Va hrp)
  have hrv : (rs.map V.int)[(rs.map V.int).length - 1]? = some (V.int tp):=by rw [Ug,Uc,hr0]; rfl
  refine ⟨_,rfl,_,rfl,ra,_,_,_,rfl,rfl,SqL.of er,Df hrv,?_⟩
  refine ⟨_,rfl,P1,fun t1 ht1=>?_⟩
  have sa : Ag H' (upd H' t1 (.lst [.int tp])):=Ag.new ht1
  refine Ca ⟨_,rfl,oa,rfl,⟨_,SqL.of (sa _ _ eo)⟩,?_⟩
  refine DW (xs:=os.map V.int) (L5 H' t1 tp os lead fun H' t1 tp os lead i zs H2=>H2 = upd H' t1 (.lst [.int tp]) ∧ zs = ((os.take i).map (lead * ·)).map V.int) ⟨rfl,rfl⟩ (fun i zs H2 hi p=>⟨by rw [p.1]; exact SqL.of (sa _ _ eo),by rw [p.2,Ug,Ug,U8]; rw [Ug] at hi; lia⟩) (by rw [Ug]; exact Ts (AX (by lia))) ?_ ?_
  ·rintro i v zs H2 hv ⟨rfl,rfl⟩
   rw [Uc] at hv
   cases et : os[i]? with
   | none=>rw [et] at hv; cases hv
   | some t =>
     rw [et] at hv
     cases hv
     exact ⟨_,rfl,_,rfl,_,_,rfl,rfl,Bq.bd bl (hbo t (Ud et)) (by lia),rfl,FU i et⟩
  rintro zs H2 ⟨rfl,rfl⟩ l1 hl1
  rw [show os.take (os.map V.int).length = os by rw [Ug,UW]]
  have sb:=sa.trans (Ag.new (o:=.lst ((os.map (lead * ·)).map V.int)) hl1)
  have et1:=(Ag.new (o:=.lst ((os.map (lead * ·)).map V.int)) hl1) _ _ (Ae (H:=H') (a:=t1) (o:=.lst [.int tp]))
  refine ⟨t1,l1,_,_,rfl,rfl,et1,Ae,by rw [Ug,Ug]; exact Ts (AX (by show 1 + os.length ≤ 1000; lia)),fun o2 ho2=>?_⟩
  have sc:=sb.trans (Ag.new (o:=.lst ([V.int tp] ++ (os.map (lead * ·)).map V.int)) ho2)
  have eo2 : (upd (upd (upd H' t1 (.lst [.int tp])) l1 (.lst ((os.map (lead * ·)).map V.int))) o2 (.lst ([V.int tp] ++ (os.map (lead * ·)).map V.int))) o2 = some (.lst ((tp :: os.map (lead * ·)).map V.int)):=Ae
  generalize upd (upd (upd H' t1 (.lst [.int tp])) l1 (.lst ((os.map (lead * ·)).map V.int))) o2 (.lst ([V.int tp] ++ (os.map (lead * ·)).map V.int)) = H3 at sc eo2 ⊢
  have er3:=sc _ _ er
  have smc:=sm.trans sc
  have rt : (rs.map V.int).take ((rs.map V.int).length - 1) = (rs.take (rs.length - 1)).map V.int:=by rw [Ug,List.map_take]
  refine Ca ⟨_,rfl,_,rfl,_,rfl,ra,_,rfl,SqL.of er3,fun c hc=>?_⟩
  rw [N1,rt]
  have sd : Ag H3 (upd H3 c (.lst ((rs.take (rs.length - 1)).map V.int))):=Ag.new hc
  refine ⟨c,rfl,⟨_,SqL.of Ae⟩,?_⟩
  refine DW (xs:=(rs.take (rs.length - 1)).map V.int) (L4 H3 c rs lead fun H3 c rs lead i zs H2=>H2 = upd H3 c (.lst ((rs.take (rs.length - 1)).map V.int)) ∧ zs = (((rs.take (rs.length - 1)).take i).map (lead * ·)).map V.int) ⟨rfl,rfl⟩ (fun i zs H2 hi p=>⟨by rw [p.1]; exact SqL.of Ae,by rw [p.2,Ug,Ug,U8]; rw [Ug] at hi; lia⟩) (by rw [Ug,U8]; exact Ts (AX (by lia))) ?_ ?_
  ·rintro i v zs H2 hv ⟨rfl,rfl⟩
   rw [Uc] at hv
   cases et : (rs.take (rs.length - 1))[i]? with
   | none=>rw [et] at hv; cases hv
   | some t =>
     rw [et] at hv
     cases hv
     exact ⟨_,rfl,_,rfl,_,_,rfl,rfl,Bq.bd bl (hbr t (VZ (Ud et))) (by lia),rfl,FU i et⟩
  rintro zs H2 ⟨rfl,rfl⟩ r2 hr2
  have ez : (rs.take (rs.length - 1)).take ((rs.take (rs.length - 1)).map V.int).length = rs.take (rs.length - 1):=by rw [Ug,UW]
  rw [ez]
  have se:=sd.trans (Ag.new (o:=.lst (((rs.take (rs.length - 1)).map (lead * ·)).map V.int)) hr2)
  have er2 : (upd (upd H3 c (.lst ((rs.take (rs.length - 1)).map V.int))) r2 (.lst (((rs.take (rs.length - 1)).map (lead * ·)).map V.int))) r2 = some (.lst (((rs.take (rs.length - 1)).map (lead * ·)).map V.int)):=Ae
  have hr2H : H r2 = none:=by
   cases z : H r2 with
   | none=>rfl
   | some u=>rw [sd r2 u (smc r2 u z)] at hr2; cases hr2
  have r2o : r2 ≠ o2:=fun z=>by rw [z,sd _ _ eo2] at hr2; cases hr2
  have eo4:=se _ _ eo2
  have sm4:=smc.trans se
  generalize upd (upd H3 c (.lst ((rs.take (rs.length - 1)).map V.int))) r2 (.lst (((rs.take (rs.length - 1)).map (lead * ·)).map V.int)) = H4 at er2 eo4 sm4 ⊢
  have rl4 : ((rs.take (rs.length - 1)).map (lead * ·)).length = fs.length - (j + 1):=by rw [Ug,U8]; lia
  have ev4 : ∀ x,Cv.evI ((rs.take (rs.length - 1)).map (lead * ·)) x = (lead : Rat) * (Cv.evI rs x - (tp : Rat) * x ^ (rs.length - 1)):=fun x=>by
   rw [Cv.evI_scale,Cv.evI_last x rs tp hr0]; grind
  have br4 : ∀ t ∈ (rs.take (rs.length - 1)).map (lead * ·),Bd (M + j * (L + 1) + L) t:=fun t ht=>by
   obtain ⟨u,hu,rfl⟩:=(VX.mp ht)
   exact (bl.mul (hbr u (VZ hu))).mono (by lia)
  generalize (rs.take (rs.length - 1)).map (lead * ·) = r4 at er2 rl4 ev4 br4
  refine ⟨_,rfl,g,_,rfl,.inl (Ag.seq sm4 hg),_,_,rfl,rfl,_,rfl,by rw [lg]; lia,by rw [lg]; lia,?_⟩
  have eN : (((gs.map V.int).length : Int) - 1).toNat = gs.length - 1:=by rw [lg]; lia
  rw [eN]
  have hsh : ((fs.map V.int).length : Int) - ((gs.map V.int).length : Int) - (j : Int) = ((fs.length - gs.length - j : Nat) : Int):=by rw [lf,lg]; lia
  rw [hsh]
  generalize hS : fs.length - gs.length - j = S at hsh ⊢
  refine BK (n:=gs.length - 1) (L15 H o2 tp os lead f g r2 S fs j rs gs M L fun H o2 tp os lead f g r2 S fs j rs gs M L i σ H5=>Ag H H5 ∧ H5 o2 = some (.lst ((tp :: os.map (lead * ·)).map V.int)) ∧ ∃ (ps : List Int) (z7 : Option V),σ = [some (.ref f),some (.ref g),some (.int lead),some (.ref o2),some (.ref r2),some (.int (S : Int)),some (.int tp),z7] ∧ H5 r2 = some (.lst (ps.map V.int)) ∧ ps.length = fs.length - (j + 1) ∧
   (∀ x,Cv.evI ps x = (lead : Rat) * (Cv.evI rs x - (tp : Rat) * x ^ (rs.length - 1)) - (tp : Rat) * x ^ S * Cv.evI (gs.take i) x) ∧ (∀ k t,ps[k]? = some t → Bd (if k < S + i then M + j * (L + 1) + L + 1 else M + j * (L + 1) + L) t))
   ⟨sm4,eo4,r4,_,rfl,er2,rl4,fun x=>?_,fun k t ht=>?_⟩ ?_ ?_
  ·rw [ev4 x,Wz]
   show _ = _ - _ * (0 : Rat)
   grind
  ·split
   ·exact (br4 t (Ud ht)).mono (by lia)
   ·exact br4 t (Ud ht)
  ·rintro i σ H5 hi hR2
   refine GC hR2 fun sm5 eo5 hz81=>?_
   refine DP hz81 fun ps z7' hz81'=>?_
   clear hz81
   refine Io hz81' fun hq80 ep hpl hev5 hbp=>?_
   clear hz81'
   obtain rfl:=hq80
   try clear hR2
   have hgi : gs[i]? = some gs[i]:=V9 (by lia)
   have hik : i + S < ps.length:=by lia
   have hpk : ps[i + S]? = some ps[i + S]:=V9 hik
   have bm : Bq tp gs[i]:=Bq.bd btp (hbg _ (Va (by lia))) (by lia)
   refine ⟨_,rfl,_,rfl,_,rfl,_,_,rfl,rfl,r2,_,_,_,rfl,rfl,SqL.of ep,Ce hpk (by lia),_,rfl,_,rfl,_,rfl,g,_,_,_,rfl,rfl,Ag.seq sm5 hg,Ce hgi (by lia),_,_,rfl,rfl,bm,_,_,rfl,rfl,?_⟩
   refine ⟨_,rfl,_,rfl,_,rfl,_,_,rfl,rfl,r2,_,_,i + S,rfl,rfl,ep,Ei (by rw [Ug]; exact hik) (by lia),?_⟩
   refine ⟨sm5.put hr2H,by rw [Aw (Ne.symm r2o)]; exact eo5,ps.set (i + S) (ps[i + S] + -(tp * gs[i])),_,rfl,?_,by rw [Uo]; exact hpl,fun x=>?_,fun k t ht=>?_⟩
   ·rw [Ae,US,← Vg]
   ·rw [Cv.evI_set x ps (i + S) _ _ hpk,hev5 x,Cv.evI_take_succ x gs i _ hgi,Rat.intCast_neg,UN,Nm.pow_add]
    grind
   ·by_cases hk : k = i + S
    ·subst hk
     rw [TF hik] at ht
     cases ht
     rw [if_pos (by lia),← Vg]
     have b1:=hbp _ _ hpk
     rw [if_neg (by lia)] at b1
     exact Bd.sub b1 ((btp.mul (hbg _ (Va (by lia)))).mono (by lia))
    ·rw [TH (fun z=>hk z.symm)] at ht
     have b1:=hbp k t ht
     split
     ·split at b1
      ·exact b1
      ·exact b1.mono (by lia)
     ·rw [if_neg (by lia)] at b1; exact b1
  ·rintro σ H5 hR3
   refine GC hR3 fun sm5 eo5 hz83=>?_
   refine DP hz83 fun ps z7' hz83'=>?_
   clear hz83
   refine Io hz83' fun hq82 ep hpl hev5 hbp=>?_
   clear hz83'
   obtain rfl:=hq82
   try clear hR3
   have hgl : gs.take (gs.length - 1) = gs.take (gs.length - 1):=rfl
   refine ⟨sm5,o2,r2,tp :: os.map (lead * ·),ps,_,_,_,rfl,eo5,ep,by rw [UA,Ug]; lia,hpl,fun x=>?_,fun t ht=>?_,fun t ht=>?_,fun z=>absurd z (by lia),fun _=>?_⟩
   ·have h1:=hev x
    have h2:=hev5 x
    have h3:=Cv.evI_last x gs lead hlead
    have e1 : fs.length + 1 - gs.length - j = S + 1:=by lia
    have e2 : fs.length + 1 - gs.length - (j + 1) = S:=by lia
    have e3 : rs.length - 1 = S + (gs.length - 1):=by lia
    rw [e1] at h1
    rw [e2,h2,Cv.evI_cons,Cv.evI_scale,Vp,UN,← VS,h1,h3,e3,Nm.pow_add,UP]
    grind
   ·rcases Tw.mp ht with z | z
    ·rw [z]; exact btp.mono (by lia)
    ·obtain ⟨u,hu,rfl⟩:=(VX.mp z)
     exact (bl.mul (hbo u hu)).mono (by lia)
   ·obtain ⟨k,hk⟩:=(VY ht)
    have:=hbp k t hk
    split at this <;> exact this.mono (by lia)
   ·by_cases hj0 : j = 0
    ·have ho : os = []:=UX (by lia)
     rw [hfs hj0] at hr0
     refine ⟨tp,hr0,?_⟩
     rw [ho]
     show some tp = some (lead ^ 0 * tp)
     rw [Vo,UH]
    ·obtain ⟨t,ht,ho⟩:=htop (fun z=>by rw [z] at hol; exact hj0 hol.symm)
     refine ⟨t,ht,?_⟩
     rw [UA,Ug,VG]
     have e : os.length = (os.length - 1) + 1:=by lia
     rw [e,UR,Uc,ho]
     show some (lead * (lead ^ (os.length - 1) * t)) = some (lead ^ (os.length - 1 + 1) * t)
     rw [Vp]
     congr 1
     grind
 ·rintro σ H' hR4
  refine BZ hR4 fun sm hz85=>?_
  refine PX hz85 fun oa ra os rs z5 z6 z7 hz85'=>?_
  clear hz85
  refine OG hz85' fun hq84 eo er hol hrl hev hbo hbr hfs htop=>?_
  clear hz85'
  obtain rfl:=hq84
  try clear hR4
  refine ⟨_,rfl,_,rfl,P2,fun p hp=>?_⟩
  have s9 : Ag H' (upd H' p (.tup [.ref oa,.ref ra])):=Ag.new hp
  refine q p oa ra _ os rs (sm.trans s9) Ae (s9 _ _ eo) (s9 _ _ er) ⟨hol,?_,fun x=>?_,(fun t ht=>by rw [hol]; exact hbo t ht),(fun t ht=>by rw [hol]; exact hbr t ht),htop⟩
  ·rw [hrl]; lia
  ·have:=hev x
   rw [VJ,UO,VT] at this
   rw [hol]
   exact this
theorem DH : Ar ["base","many","power","turn"] ["base","many"] (Af (top 32)):=⟨rfl,rfl,rfl,by decide +kernel,rfl,by decide +kernel,by decide +kernel⟩
theorem Lh {f : Addr} {fd : FuncData} (F : Fun K "raised" "raised" (top 32) f fd) (Rm : mg "range" = none) (hT : P.given.tree = none) :
 AN P w K mg base CX0 33 f fd ["base","many"] (E2):=by
 refine F.ok DH (fun vs H Q E h=>?_) (fun cdv A outer s H vs Q E hr h=>?_)
 ·obtain ⟨_,_,_,rfl,_⟩:=h; rfl
 refine ⟨_,(Ac (K:=K) (Ai (i:=2) DH.nd rfl (Or.inl rfl) Ad)
  (Ac (K:=K) (BE (K:=K) PassesOwn.never rfl (Bv rfl Rm (Aa (pv 1) Ab)) (Av (i:=3) DH.nd rfl (Or.inl rfl)) (Ah (Ai (i:=2) DH.nd rfl (Or.inl rfl) (Aj Aq (pv 2) (pv 0)))) (by rfl))
  (Ah (Ax (pv 2))) (by rfl)) (by rfl)),?_⟩
 obtain ⟨b,n,L,rfl,hn,hb,hL,q⟩:=h
 refine ⟨_,rfl,_,rfl,by lia,by lia,?_⟩
 rw [Uk]
 refine BK (n:=n) (L3 H b n fun H b n i σ H'=>H' = H ∧ ∃ z,σ = [some (.int b),some (.int n),some (.int (b ^ i)),z]) ⟨rfl,none,by rw [Vo]; rfl⟩ ?_ ?_
 ·rintro i σ H' hi ⟨rfl,z,rfl⟩
  have hLi : L * i ≤ L * n:=Wf _ (by lia)
  exact ⟨_,rfl,_,rfl,_,_,rfl,rfl,Bq.bd (Bd.pow hb i) hb (by lia),rfl,some (.int (0 + (i : Int))),by rw [Vp]; rfl⟩
 ·rintro σ H' ⟨rfl,z,rfl⟩
  exact ⟨_,rfl,q⟩
theorem BX : Ar ["one","other","bottom","under","second","parts","scale","often"] ["one","other"] (Af (top 34)):=⟨rfl,rfl,rfl,by decide +kernel,rfl,by decide +kernel,by decide +kernel⟩
theorem JH {f : Addr} {fd : FuncData} (F : Fun K "divided" "divided" (top 34) f fd) (Rp : Fd P w K mg base 34 "bottom_of" ["numbers"] (E4 K)) (Rq : Fd P w K mg base 33 "tops_over" ["numbers","bottom"] (Dh K)) (RQ : Fd P w K mg base 33 "whole_division" ["first","second"] (K7 K)) (RD : Fd P w K mg base 35 "curve_over" ["tops","bottom"] (Cf K)) (RJ : Fd P w K mg base 33 "raised" ["base","many"] (E2)) (Rl : mg "len" = none) (hT : P.given.tree = none) :
 AN P w K mg base CX0 36 f fd ["one","other"] (Hs K):=by
 refine F.ok BX (fun vs H Q E h=>?_) (fun cdv A outer s H vs Q E hr h=>?_)
 ·obtain ⟨_,_,_,_,_,_,_,rfl,_⟩:=h; rfl
 refine ⟨_,(Ac (K:=K) (AV (K:=K) (Au CK (Ak (Bt K) rfl Rl AF (Aa (pv 1) Ab)) Ad (Ay _)) (Ah D8) AL (by rfl) (by rfl))
  (Ac (K:=K) (Ai (i:=2) BX.nd rfl (Or.inl rfl) (Am Rp hr rfl (Aa (pv 0) Ab)))
  (Ac (K:=K) (Ai (i:=3) BX.nd rfl (Or.inr rfl) (Am Rp hr rfl (Aa (pv 1) Ab)))
  (Ac (K:=K) (Ai (i:=4) BX.nd rfl (Or.inl rfl) (Am Rq hr rfl (Aa (pv 1) (Aa (pv 3) Ab))))
  (Ac (K:=K) (Ai (i:=5) BX.nd rfl (Or.inl rfl) (Am RQ hr rfl (Aa (Am Rq hr rfl (Aa (pv 0) (Aa (pv 2) Ab))) (Aa (pv 4) Ab))))
  (Ac (K:=K) (Ai (i:=6) BX.nd rfl (Or.inl rfl) (Aj Aq (pv 2) (Am RJ hr rfl (Aa (Al (ixL K) (pv 4) (DR CS Ad) (fun u v=>rfl)) (Aa (Ak (Bt K) rfl Rl AF (Aa (Al (ixT K) (pv 5) Ad (fun u v=>rfl)) Ab)) Ab)))))
  (Ac (K:=K) (Ai (i:=7) BX.nd rfl (Or.inl rfl) (Am RD hr rfl (Aa (Ct rfl (N:=["top","under"]) (nt:=1) (js:=[3]) (Bf.look (NX:=["one","other","bottom","under","second","parts","scale","often"]) (sc:=Af (top 34)) rfl rfl (by decide +kernel)) (piL K (Al (ixT K) (pv 5) Ad (fun u v=>rfl))) (fun u1 u2 u3 u4 u5=>(Av (i:=0) (show List.Nodup (["top","under"] : List Str) from by decide +kernel) rfl (Or.inl rfl))) (AI (by decide)) (fun u1 u2 u3 u4 u5=>BL) (fun u1 u2 u3 u4 u5=>(Aj Aq (pv 0) (pv 1)))) (Aa (pv 6) Ab))))
  (Ah (Ax (AG (Aa (pv 7) (Aa (Am RD hr rfl (Aa (Al (ixT K) (pv 5) Ad (fun u v=>rfl)) (Aa (pv 6) Ab))) Ab))))) (by rfl)) (by rfl)) (by rfl)) (by rfl)) (by rfl)) (by rfl)) (by rfl)),?_⟩
 obtain ⟨r,u,qs,ps,m,L,C,rfl,⟨xs,hS,hn⟩,⟨ys,hT',hm⟩,gq,hne,gp,hB,hC,hm1,hL1,hCC,hq8,hp8,q⟩:=h
 have P2 : 2 ≤ sizeLine:=by decide
 have hl:=hn.length
 have hly:=hm.length
 have hp1 : 1 ≤ ps.length:=UQ.mpr hne
 have nq : m * qs.length ≤ 100000 * 8:=VU hm1 hq8
 have np : L * ps.length ≤ 1000000 * 8:=VU hL1 hp8
 refine ⟨_,rfl,u,ys,rfl,.inr hT',rfl,_,rfl,?_⟩
 refine Bg (by rw [decide_eq_false (fun z=>by have:=V.int.inj z; lia)] <;> rfl) ?_
 refine ⟨_,rfl,false,r,xs,qs,m,rfl,hS,hn,(fun c hc=>(hB c hc).2),by rw [Vq]; lia,fun B hB0 hdB hbB=>?_⟩
 refine ⟨_,rfl,false,u,ys,ps,L,rfl,hT',hm,(fun c hc=>(hC c hc).2),by rw [Vq]; lia,fun U hU0 hdU hbU=>?_⟩
 refine ⟨_,rfl,_,rfl,false,u,ys,ps,U,L * ps.length + 1,L,rfl,hT',hm,hbU,(fun c hc=>(hC c hc).1),by lia,by lia,fun se hse=>?_⟩
 have s1 : Ag H (upd H se (.lst ((ps.map (As U)).map V.int))):=Ag.new hse
 refine ⟨_,rfl,_,rfl,false,r,xs,qs,B,m * qs.length + 1,m,rfl,SqT.same hS s1,AS.same hn s1,hbB,(fun c hc=>(hB c hc).1),by lia,by lia,fun fa hfa=>?_⟩
 have s2:=s1.trans (Ag.new (o:=.lst ((qs.map (As B)).map V.int)) hfa)
 have ese:=(Ag.new (o:=.lst ((qs.map (As B)).map V.int)) hfa) _ _ (Ae (H:=H) (a:=se) (o:=.lst ((ps.map (As U)).map V.int)))
 have efa : (upd (upd H se (.lst ((ps.map (As U)).map V.int))) fa (.lst ((qs.map (As B)).map V.int))) fa = some (.lst ((qs.map (As B)).map V.int)):=Ae
 generalize upd (upd H se (.lst ((ps.map (As U)).map V.int))) fa (.lst ((qs.map (As B)).map V.int)) = H2 at s2 ese efa ⊢
 obtain ⟨lead,hlead,hl0⟩:=(DF gp hne hU0 hdU)
 have bF : ∀ t ∈ qs.map (As B),Bd (m * qs.length + m + 1) t:=fun t ht=>by
  obtain ⟨c,hc,rfl⟩:=(VX.mp ht)
  exact ((hB c hc).1.mul (hbB.fdiv (y:=c.den))).mono (by lia)
 have bG : ∀ t ∈ ps.map (As U),Bd (L * ps.length + L + 1) t:=fun t ht=>by
  obtain ⟨c,hc,rfl⟩:=(VX.mp ht)
  exact ((hC c hc).1.mul (hbU.fdiv (y:=c.den))).mono (by lia)
 refine ⟨_,rfl,fa,se,qs.map (As B),ps.map (As U),lead,m * qs.length + m + 1,L * ps.length + L + 1,rfl,SqL.of efa,SqL.of ese,hlead,by rw [Ug]; lia,by rw [Ug]; lia,bF,bG,by rw [Ug]; have:=Vj (L * ps.length + L + 1 + 1) hq8; lia,by lia,fun pt pa pb H3 os rs s3 ept epa epb dv=>?_⟩
 have ese3:=s3 _ _ ese
 have hol : os.length = qs.length + 1 - ps.length:=by have:=dv.ol; rw [Ug,Ug] at this; exact this
 have hk8 : os.length ≤ 8:=by lia
 rw [← hol] at hCC
 have hkb : os.length * (L * ps.length + L + 1 + 1) ≤ 8 * (L * ps.length + L + 1 + 1):=Vj _ hk8
 have hkc : (L * ps.length + L + 1) * os.length ≤ os.length * (L * ps.length + L + 1 + 1):=by rw [Uv]; exact Wf _ (V6 _)
 have hlv : ((ps.map (As U)).map V.int)[((ps.map (As U)).map V.int).length - 1]? = some (V.int lead):=by rw [Ug,Uc,hlead]; rfl
 have blead : Bd (L * ps.length + L + 1) lead:=bG _ (Ud hlead)
 have lo : (os.map V.int).length = os.length:=Ug _
 have bpow : Bd ((L * ps.length + L + 1) * os.length + 1) (lead ^ os.length):=Bd.pow blead _
 refine ⟨_,rfl,_,rfl,_,rfl,se,_,_,_,rfl,rfl,SqL.of ese3,Df hlv,_,rfl,pt,_,_,_,rfl,rfl,SqT.of ept,rfl,pa,_,rfl,.inl (SqL.of epa),lead,os.length,L * ps.length + L + 1,by rw [lo]; rfl,by lia,blead,by lia,_,_,rfl,rfl,Bq.bd hbB bpow (by lia),?_⟩
 have hsc : B * lead ^ os.length ≠ 0:=UL (by lia) (VI hl0)
 refine Ca ⟨_,rfl,pt,_,_,_,rfl,rfl,SqT.of ept,rfl,pa,rfl,⟨_,SqL.of epa⟩,?_⟩
 refine DW (xs:=os.map V.int) (fun i zs H4=>H4 = H3 ∧ zs = ((os.take i).map (· * U)).map V.int) ⟨rfl,rfl⟩ (fun i zs H4 hi p=>⟨by rw [p.1]; exact SqL.of epa,by rw [p.2,Ug,Ug,U8]; rw [Ug] at hi; lia⟩) (by rw [lo]; exact Ts (AX (by lia))) ?_ ?_
 ·rintro i v zs H4 hv ⟨rfl,rfl⟩
  rw [Uc] at hv
  cases et : os[i]? with
  | none=>rw [et] at hv; cases hv
  | some t =>
    rw [et] at hv
    cases hv
    refine ⟨_,rfl,_,rfl,_,_,rfl,rfl,Bq.bd (dv.ob t (Ud et)) hbU (by lia),rfl,?_⟩
    rw [UT,et,UU,UU]
    rfl
 rintro zs H4 ⟨rfl,rfl⟩ l1 hl1
 rw [show os.take (os.map V.int).length = os by rw [lo,UW]]
 have s4 : Ag H4 (upd H4 l1 (.lst ((os.map (· * U)).map V.int))):=Ag.new hl1
 refine ⟨_,rfl,l1,os.map (· * U),_,rfl,SqL.of Ae,hsc,by rw [Ug]; lia,fun a H5 s5 ca=>?_⟩
 have s45:=s4.trans s5
 refine ⟨_,rfl,_,rfl,pt,_,_,_,rfl,rfl,SqT.of (s45 _ _ ept),rfl,_,rfl,pb,rs,_,rfl,SqL.of (s45 _ _ epb),hsc,by rw [dv.rl,Ug,Ug]; lia,fun b H6 s6 cb=>?_⟩
 refine ⟨P2,fun p hp=>?_⟩
 have s7 : Ag H6 (upd H6 p (.tup [.ref a,.ref b])):=Ag.new hp
 have go : AO ((os.map (· * U)).map fun t=>UE t (B * lead ^ os.length)):=by
  by_cases h0 : os = []
  ·left; rw [h0]; rfl
  ·obtain ⟨t,ht,ho⟩:=(dv.top h0)
   have hqn : qs ≠ []:=fun z=>by rw [z] at ht; cases ht
   obtain ⟨t',ht',h0'⟩:=(DF gq hqn hB0 hdB)
   rw [ht] at ht'
   cases ht'
   right
   refine ⟨_,by rw [Ug,Ug,Uc,Uc,ho]; rfl,fun z=>?_⟩
   have z2 : (lead ^ (os.length - 1) * t * U) ≠ 0:=UL (UL (VI hl0) h0') (by lia)
   exact Q0 z2 hsc z
 rw [FC go] at ca
 have hsl:=Cv.strip_length (rs.map fun t=>UE t (B * lead ^ os.length))
 refine q p a b _ _ _ (((((s2.trans s3).trans s45).trans s6).trans s7)) Ae (ca.same (s6.trans s7)) (cb.same s7) go (Bb _) (by rw [Ug,Ug]; exact hol) ?_ (fun x=>?_) fun c hc=>?_
 ·rw [Ug,dv.rl,Ug,Ug] at hsl
  lia
 ·rw [Cv.ev_strip]
  have h1:=dv.ev x
  have h2:=Ia (os.map (· * U)) _ hsc x
  have h3:=Ia rs _ hsc x
  have h4 : Cv.evI (os.map (· * U)) x = Cv.evI os x * (U : Rat):=by
   have:=Cv.evI_scale x U os
   rw [show os.map (· * U) = os.map (U * ·) from VA fun t _=>VE t U,this,Vy]
  have h5 : Cv.evI (qs.map (As B)) x = Cv.ev qs x * (B : Rat):=DG hdB x
  have h6 : Cv.evI (ps.map (As U)) x = Cv.ev ps x * (U : Rat):=DG hdU x
  have hc : ((B * lead ^ os.length : Int) : Rat) ≠ 0:=Nm.cast_ne hsc
  have h7 : ((B * lead ^ os.length : Int) : Rat) = (B : Rat) * ((lead ^ os.length : Int) : Rat):=UN ..
  generalize Cv.ev ((os.map (· * U)).map fun t=>UE t (B * lead ^ os.length)) x = X at h2 ⊢
  generalize Cv.ev (rs.map fun t=>UE t (B * lead ^ os.length)) x = Y at h3 ⊢
  generalize ((B * lead ^ os.length : Int) : Rat) = C at *
  have h8 : (Cv.ev qs x - (X * Cv.ev ps x + Y)) * C = 0:=by
   rw [h5,h6] at h1
   rw [h4] at h2
   have : Cv.ev qs x * C = (X * C) * Cv.ev ps x + Y * C:=by rw [h2,h3,h7]; grind
   grind
  rcases UY.mp h8 with z | z
  ·grind
  ·exact absurd z hc
 ·obtain ⟨t',ht',rfl⟩:=(VX.mp hc)
  obtain ⟨t,ht,rfl⟩:=(VX.mp ht')
  exact RB.div (m:=0) (((dv.ob t ht).mul hbU).mono (by lia)) ((hbB.mul bpow).mono (by lia)) hsc
theorem Bz : Ar ["tops","width"] ["tops"] (Af (top 35)):=⟨rfl,rfl,rfl,by decide +kernel,rfl,by decide +kernel,by decide +kernel⟩
theorem D9 {f : Addr} {fd : FuncData} (F : Fun K "without_last_noughts" "without_last_noughts" (top 35) f fd) (Rl : mg "len" = none) (hT : P.given.tree = none) :
 AN P w K mg base CX0 33 f fd ["tops"] (Ma K):=by
 refine F.ok Bz (fun vs H Q E h=>?_) (fun cdv A outer s H vs Q E hr h=>?_)
 ·obtain ⟨_,_,rfl,_⟩:=h; rfl
 refine ⟨_,(Ac (K:=K) (Ai (i:=1) Bz.nd rfl (Or.inl rfl) (Ak (Bt K) rfl Rl AF (Aa (pv 0) Ab)))
  (Ac (K:=K) (Cg PassesOwn.never (PW.pt (Dk (Au Cu (pv 1) Ad (Ay _)) (CA (Au CK (Al (ixL K) (pv 0) (Aj Bo (pv 1) Ad) (fun u v=>rfl)) Ad (Ay _))))) (Ah (Ai (i:=1) Bz.nd rfl (Or.inl rfl) (Aj Bo (pv 1) Ad))))
  (Ah (Ax (E8 (slL K) (pv 0) Fj (Fi (pv 1))))) (by rfl)) (by rfl)),?_⟩
 obtain ⟨r,ts,rfl,hS,q⟩:=h
 have hl : (ts.map V.int).length = ts.length:=Ug _
 refine ⟨_,rfl,r,_,rfl,.inl hS,?_⟩
 refine K1 (L3 H r ts fun H r ts σ H'=>H' = H ∧ ∃ (v : Nat),σ = [some (.ref r),some (.int (v : Int))] ∧ v ≤ ts.length ∧ ∀ j,v ≤ j → ts.getD j 0 = 0) (fun σ _=>mu 1 σ) ⟨rfl,ts.length,by rw [← hl]; rfl,TL _,fun j hj=>by rw [V2,Vs hj]; rfl⟩ ?_
 rintro σ H' hR1
 refine BZ hR1 fun hq86 hz88=>?_
 refine O2 hz88 fun v hz88'=>?_
 clear hz88
 refine GC hz88' fun hq87 hv hall=>?_
 clear hz88'
 obtain rfl:=hq86
 obtain rfl:=hq87
 try clear hR1
 have fin : (1 ≤ v → ts.getD (v - 1) 0 ≠ 0) → ∀ p,H' p = none → Q (.ref p) (upd H' p (.lst (Du (ts.map V.int) none (some (v : Int))))):=fun hc p hp=>by
  rw [N0,← List.map_take]
  exact q p _ v hv hall hc (Ag.new hp) Ae
 refine ⟨_,rfl,_,_,rfl,rfl,_,rfl,?_⟩
 by_cases hv0 : v = 0
 ·subst hv0
  refine CN (CN ?_)
  exact ⟨_,rfl,_,rfl,_,rfl,r,_,rfl,hS,fun p hp=>fin (fun h=>absurd h (by lia)) p hp⟩
 ·refine BA (by rw [decide_eq_true (show (0 : Int) < (v : Int) by lia)] <;> rfl) ?_
  have hat : atI (ts.map V.int) ((v : Int) - 1) = some (.int (ts.getD (v - 1) 0)):=Ce (i:=v - 1) (by rw [V2,V9 (show v - 1 < ts.length by lia)]; rfl) (by lia)
  refine ⟨_,rfl,_,rfl,_,_,rfl,rfl,r,_,_,_,rfl,rfl,hS,hat,rfl,_,rfl,?_⟩
  by_cases hq0 : ts.getD (v - 1) 0 = 0
  ·refine BA (by rw [decide_eq_true (show V.int (ts.getD (v - 1) 0) = V.int 0 by rw [hq0])] <;> rfl) (K0 ?_)
   refine ⟨_,rfl,_,_,rfl,rfl,⟨rfl,v - 1,?_,by lia,fun j hj=>?_⟩,?_⟩
   ·show [some (V.ref r),some (V.int ((v : Int) - 1))] = [some (V.ref r),some (V.int ((v - 1 : Nat) : Int))]
    rw [show (v : Int) - 1 = ((v - 1 : Nat) : Int) by lia]
   ·by_cases hjv : v ≤ j
    ·exact hall j hjv
    ·rw [show j = v - 1 by lia]; exact hq0
   ·show ((v : Int) - 1).toNat < (v : Int).toNat
    lia
  ·refine Bg (by rw [decide_eq_false (show ¬ V.int (ts.getD (v - 1) 0) = V.int 0 from fun z=>hq0 (V.int.inj z))] <;> rfl) ?_
   exact ⟨_,rfl,_,rfl,_,rfl,r,_,rfl,hS,fun p hp=>fin (fun _=>hq0) p hp⟩
theorem Bi : Ar ["great","small","lead","held","drop","factor","rest"] ["great","small"] (Af (top 36)):=⟨rfl,rfl,rfl,by decide +kernel,rfl,by decide +kernel,by decide +kernel⟩
theorem HL {f : Addr} {fd : FuncData} (F : Fun K "last_rest" "last_rest" (top 36) f fd) (Sx : Fd P w K mg base 33 "without_last_noughts" ["tops"] (Ma K)) (RJ : Fd P w K mg base 33 "raised" ["base","many"] (E2)) (RQ : Fd P w K mg base 33 "whole_division" ["first","second"] (K7 K)) (Rl : mg "len" = none) (hT : P.given.tree = none) :
 AN P w K mg base CX0 34 f fd ["great","small"] (Ho K):=by
 refine F.ok Bi (fun vs H Q E h=>?_) (fun cdv A outer s H vs Q E hr h=>?_)
 ·obtain ⟨_,_,_,_,_,_,rfl,_⟩:=h; rfl
 refine ⟨_,(Ac (K:=K) (Ai (i:=2) Bi.nd rfl (Or.inl rfl) Ad)
  (Ac (K:=K) (Ai (i:=3) Bi.nd rfl (Or.inl rfl) Ad)
  (Ac (K:=K) (Cg PassesOwn.never (Au Cu (Ak (Bt K) rfl Rl AF (Aa (pv 1) Ab)) Ad (Ay _)) (Ac (K:=K) (Ai (i:=4) Bi.nd rfl (Or.inl rfl) (Aj Bo (Ak (Bt K) rfl Rl AF (Aa (pv 0) Ab)) (Ak (Bt K) rfl Rl AF (Aa (pv 1) Ab))))
  (Ac (K:=K) (Ai (i:=5) Bi.nd rfl (Or.inr rfl) (Aj Aq (pv 2) (Am RJ hr rfl (Aa (pv 3) (Aa (pv 4) Ab)))))
  (Ac (K:=K) (Ai (i:=6) Bi.nd rfl (Or.inl rfl) (Am Sx hr rfl (Aa (Al (ixT K) (Am RQ hr rfl (Aa (pv 0) (Aa (pv 1) Ab))) Ad (fun u v=>rfl)) Ab)))
  (Ac (K:=K) (Ai (i:=0) Bi.nd rfl (Or.inl rfl) (pv 1))
  (Ac (K:=K) (Mo (i:=1) rfl Bi.nd rfl rfl (N:=["top","factor"]) (nt:=1) (js:=[5]) (Bf.look (NX:=["great","small","lead","held","drop","factor","rest"]) (sc:=Af (top 36)) rfl rfl (by decide +kernel)) (piL K (pv 6)) (fun u1 u2 u3 u4 u5=>(Av (i:=0) (show List.Nodup (["top","factor"] : List Str) from by decide +kernel) rfl (Or.inl rfl))) (AI (by decide)) (fun u1 u2 u3 u4 u5=>BL) (fun u1 u2 u3 u4 u5=>(Aj (BQ hr hT) (pv 0) (pv 1))) rfl)
  (Ac (K:=K) (Ai (i:=2) Bi.nd rfl (Or.inl rfl) (Al (ixL K) (pv 0) (DR CS Ad) (fun u v=>rfl)))
  (Ah (AV (K:=K) (Au Cu (pv 4) Ad (Ay _)) (Ah (Ai (i:=3) Bi.nd rfl (Or.inl rfl) (Aj (BQ hr hT) (Am RJ hr rfl (Aa (pv 2) (Aa (pv 4) Ab))) (Am RJ hr rfl (Aa (pv 3) (Aa (Aj Bo (pv 4) Ad) Ab)))))) AL (by rfl) (by rfl))) (by rfl)) (by rfl)) (by rfl)) (by rfl)) (by rfl)) (by rfl)))
  (Ah (Ax (pv 0))) (by rfl)) (by rfl)) (by rfl)),?_⟩
 obtain ⟨f,g,fs,gs,W,X,rfl,hf,hg,h1,hle,h8,t1,t2,hbf,hbg,hX,hX8,q⟩:=h
 have I0:=LRJ.first h1 hle h8 t1 t2 hbf hbg hX
 have hSb : ∀ k j,Bd X ((fun k j=>Dt.sub (fs.length - 1) (gs.length - 1) k (tf fs) (tf gs) j) k j):=fun k j=>OP h8 hle hbf hbg hX k j
 generalize (fun k j=>Dt.sub (fs.length - 1) (gs.length - 1) k (tf fs) (tf gs) j) = S at I0 hSb
 refine K1 (L6 H K S fs gs X fun H K S fs gs X σ H'=>Ag H H' ∧ ∃ (f' g' : Addr) (fs' gs' : List Int) (lead held : Int) (z4 z5 z6 : Option V),σ = [some (.ref f'),some (.ref g'),some (.int lead),some (.int held),z4,z5,z6] ∧ SqL K H' f' (fs'.map V.int) ∧ H' g' = some (.lst (gs'.map V.int)) ∧ LRJ S fs gs fs' gs' lead held X ∧ fs'.length ≤ fs.length) (ml 1)
  ⟨Ag.refl _,f,g,fs,gs,1,1,none,none,none,rfl,hf,hg,I0,TL _⟩ ?_
 rintro σ H' hR1
 refine BZ hR1 fun sm hz90=>?_
 refine QK hz90 fun f' g' fs' gs' lead held z4 z5 z6 hz90'=>?_
 clear hz90
 refine Io hz90' fun hq89 hf' hg' I hl'=>?_
 clear hz90'
 obtain rfl:=hq89
 try clear hR1
 have lf : (fs'.map V.int).length = fs'.length:=Ug _
 have lg : (gs'.map V.int).length = gs'.length:=Ug _
 refine ⟨_,rfl,g',_,rfl,.inl (SqL.of hg'),_,_,rfl,rfl,_,rfl,?_⟩
 by_cases h0 : gs' = []
 ·refine Bg (by rw [decide_eq_false (show ¬ ((0 : Int) < ((gs'.map V.int).length : Int)) by rw [h0]; decide)] <;> rfl) ?_
  have c:=I.com
  rw [h0] at c
  exact ⟨_,rfl,q f' H' fs' sm hf' I.lr.fp hl' I.t1 c I.bf⟩
 have hg1 : 1 ≤ gs'.length:=UQ.mpr h0
 refine BA (by rw [decide_eq_true (show (0 : Int) < ((gs'.map V.int).length : Int) by rw [lg]; lia)] <;> rfl) (K0 ?_)
 have hle':=I.le
 have l8:=I.l10
 have hfp:=I.lr.fp
 have ed : ((fs'.map V.int).length : Int) - ((gs'.map V.int).length : Int) = ((fs'.length - gs'.length : Nat) : Int):=by rw [lf,lg]; lia
 refine ⟨_,rfl,f',_,rfl,.inl hf',_,rfl,g',_,rfl,.inl (SqL.of hg'),_,_,rfl,rfl,?_⟩
 rw [ed]
 have c4 : X + fs'.length * (X + 1) + X ≤ 100000000:=by
  have:=Vj (X + 1) l8
  lia
 have c2 : X * (fs'.length - gs'.length) + X ≤ 100000000:=by
  have:=Wf X (show fs'.length - gs'.length ≤ 10 by lia)
  lia
 have bh:=I.bh
 have bp:=Bd.pow bh (fs'.length - gs'.length)
 have hgl : gs'[gs'.length - 1]? = some (gs'[gs'.length - 1]'(by lia)):=V9 _
 generalize gs'[gs'.length - 1]'(by lia) = gl at hgl
 have hlv : (gs'.map V.int)[(gs'.map V.int).length - 1]? = some (V.int gl):=by rw [lg,Uc,hgl]; rfl
 have bgl : Bd X gl:=I.bg _ (Ud hgl)
 refine ⟨_,rfl,_,rfl,_,rfl,held,fs'.length - gs'.length,X,rfl,by lia,bh,c2,_,_,rfl,rfl,Bq.bd I.bl bp (by lia),?_⟩
 refine ⟨_,rfl,_,rfl,f',g',fs',gs',gl,X,X,rfl,hf',SqL.of hg',hgl,by lia,by lia,I.bf,I.bg,c4,by lia,fun pt pa pb H3 os rs s3 ept epa epb dv=>?_⟩
 refine ⟨pt,_,_,_,rfl,rfl,SqT.of ept,rfl,pb,rs,rfl,SqL.of epb,fun rp H4 w hw hz hlast s4 e4=>?_⟩
 have sm4:=s3.trans s4
 have ho:=dv.ol
 have hr : rs.length = gs'.length - 1:=by have:=dv.rl; lia
 have key:=fun held'=>LRJ.next (held':=held') I hSb hgl ho hr dv.ev hw hz hlast
 generalize hF : lead * held ^ (fs'.length - gs'.length) = φ at key ⊢
 have hφ : φ ≠ 0:=by
  rcases Nat.eq_or_lt_of_le hle' with z | z
  ·exact (key held (.inr ⟨z.symm,rfl⟩)).1
  ·exact (key _ (.inl ⟨z,rfl⟩)).1
 refine ⟨_,rfl,?_⟩
 refine Ca ⟨_,rfl,rp,rfl,⟨_,SqL.of e4⟩,?_⟩
 have lt : ((rs.take w).map V.int).length = w:=by rw [Ug,U8]; lia
 refine DW (xs:=(rs.take w).map V.int) (L3 H4 rs w fun H4 rs w i zs H5=>H5 = H4 ∧ zs = (((rs.take w).take i).map fun t=>VW t φ).map V.int) ⟨rfl,rfl⟩ (fun i zs H5 hi p=>⟨by rw [p.1]; exact SqL.of e4,by rw [p.2,Ug,Ug,U8,U8]; lia⟩) (by rw [lt]; exact Ts (AX (by lia))) ?_ ?_
 ·rintro i v zs H5 hv ⟨rfl,rfl⟩
  rw [Uc] at hv
  cases et : (rs.take w)[i]? with
  | none=>rw [et] at hv; cases hv
  | some t =>
    rw [et] at hv
    cases hv
    refine ⟨_,rfl,_,rfl,_,_,rfl,rfl,hφ,rfl,?_⟩
    rw [UT,et,UU,UU]
    rfl
 rintro zs H5 ⟨rfl,rfl⟩ nl hnl
 rw [show (rs.take w).take ((rs.take w).map V.int).length = rs.take w by rw [lt,VC (by rw [U8]; lia)]]
 generalize hh : ((rs.take w).map fun t=>VW t φ) = hs at key ⊢
 have hhl : hs.length = w:=by rw [← hh,Ug,U8]; lia
 have s5 : Ag H5 (upd H5 nl (.lst (hs.map V.int))):=Ag.new hnl
 have e5 : (upd H5 nl (.lst (hs.map V.int))) nl = some (.lst (hs.map V.int)):=Ae
 have sm5:=sm4.trans s5
 generalize upd H5 nl (.lst (hs.map V.int)) = H6 at s5 e5 sm5 ⊢
 have hg6:=sm5 _ _ hg'
 have less : hs.length < gs'.length:=by lia
 refine ⟨_,rfl,_,rfl,g',_,_,_,rfl,rfl,SqL.of hg6,Df hlv,?_⟩
 refine ⟨_,rfl,_,_,rfl,rfl,_,rfl,?_⟩
 have c6 : X * (fs'.length - gs'.length - 1) + X ≤ 100000000:=by
  have:=Wf X (show fs'.length - gs'.length - 1 ≤ 10 by lia)
  lia
 by_cases hd : gs'.length < fs'.length
 ·refine BA (by rw [decide_eq_true (show (0 : Int) < ((fs'.length - gs'.length : Nat) : Int) by lia)] <;> rfl) ?_
  have h00:=(I.lr.srs hg1).h0
  refine ⟨_,rfl,_,rfl,gl,fs'.length - gs'.length,X,rfl,by lia,bgl,c2,_,rfl,_,rfl,_,_,rfl,rfl,held,fs'.length - gs'.length - 1,X,by rw [show ((fs'.length - gs'.length : Nat) : Int) - 1 = ((fs'.length - gs'.length - 1 : Nat) : Int) by lia]; rfl,by lia,bh,c6,_,_,rfl,rfl,VI h00,?_⟩
  obtain ⟨_,J,_⟩:=(key _ (.inl ⟨hd,rfl⟩))
  refine ⟨⟨sm.trans sm5,g',nl,gs',hs,gl,_,_,_,_,rfl,SqL.of hg6,e5,J,by lia⟩,?_⟩
  show (match H6 nl with | some (.lst xs)=>xs.length | _=>0) < (match H' g' with | some (.lst xs)=>xs.length | _=>0)
  rw [e5,hg']
  show (hs.map V.int).length < (gs'.map V.int).length
  rw [Ug,Ug]; exact less
 ·refine Bg (by rw [decide_eq_false (show ¬ (0 : Int) < ((fs'.length - gs'.length : Nat) : Int) by lia)] <;> rfl) ?_
  obtain ⟨_,J,_⟩:=(key held (.inr ⟨by lia,rfl⟩))
  refine ⟨⟨sm.trans sm5,g',nl,gs',hs,gl,_,_,_,_,rfl,SqL.of hg6,e5,J,by lia⟩,?_⟩
  show (match H6 nl with | some (.lst xs)=>xs.length | _=>0) < (match H' g' with | some (.lst xs)=>xs.length | _=>0)
  rw [e5,hg']
  show (hs.map V.int).length < (gs'.map V.int).length
  rw [Ug,Ug]; exact less
theorem BO : Ar ["one","other","first","second","tops"] ["one","other"] (Af (top 37)):=⟨rfl,rfl,rfl,by decide +kernel,rfl,by decide +kernel,by decide +kernel⟩
theorem FL {f : Addr} {fd : FuncData} (F : Fun K "common_part" "common_part" (top 37) f fd) (Rq : Fd P w K mg base 33 "tops_over" ["numbers","bottom"] (Dh K)) (RD : Fd P w K mg base 35 "curve_over" ["tops","bottom"] (Cf K)) (Rp : Fd P w K mg base 34 "bottom_of" ["numbers"] (E4 K)) (S8 : Fd P w K mg base 34 "last_rest" ["great","small"] (Ho K)) (Rl : mg "len" = none) (hT : P.given.tree = none) :
 AN P w K mg base CX0 36 f fd ["one","other"] (JD K):=by
 refine F.ok BO (fun vs H Q E h=>?_) (fun cdv A outer s H vs Q E hr h=>?_)
 ·obtain ⟨_,_,_,_,_,_,rfl,_⟩:=h; rfl
 refine ⟨_,(Ac (K:=K) (AV (K:=K) (PW.pt (Dk (Au CK (Ak (Bt K) rfl Rl AF (Aa (pv 0) Ab)) Ad (Ay _)) (CA (Au CK (Ak (Bt K) rfl Rl AF (Aa (pv 1) Ab)) Ad (Ay _))))) (Ah D8) AL (by rfl) (by rfl))
  (Ac (K:=K) (Ai (i:=2) BO.nd rfl (Or.inl rfl) (Am Rq hr rfl (Aa (pv 0) (Aa (Am Rp hr rfl (Aa (pv 0) Ab)) Ab))))
  (Ac (K:=K) (Ai (i:=3) BO.nd rfl (Or.inl rfl) (Am Rq hr rfl (Aa (pv 1) (Aa (Am Rp hr rfl (Aa (pv 1) Ab)) Ab))))
  (Ac (K:=K) (AV (K:=K) (Au Ec (Ak (Bt K) rfl Rl AF (Aa (pv 2) Ab)) (Ak (Bt K) rfl Rl AF (Aa (pv 3) Ab)) (Ay _)) (Ah (Ai (i:=4) BO.nd rfl (Or.inl rfl) (Am S8 hr rfl (Aa (pv 3) (Aa (pv 2) Ab))))) (Ah (Ai (i:=4) BO.nd rfl (Or.inl rfl) (Am S8 hr rfl (Aa (pv 2) (Aa (pv 3) Ab))))) (by rfl) (by rfl))
  (Ah (Ax (Am RD hr rfl (Aa (pv 4) (Aa (Al (ixL K) (pv 4) (DR CS Ad) (fun u v=>rfl)) Ab))))) (by rfl)) (by rfl)) (by rfl)) (by rfl)),?_⟩
 obtain ⟨r,u,qs,ps,n,N,rfl,⟨xs,hS,hn⟩,⟨ys,hT',hm⟩,gq,gp,hne,hB,hC,hn1,hN,hq8,hp8,q⟩:=h
 have nN : n * N ≤ 40000 * 10:=VU hn1 hN
 have hl:=hn.length
 have hly:=hm.length
 have nq : n * qs.length ≤ n * N:=Wf _ hq8
 have np : n * ps.length ≤ n * N:=Wf _ hp8
 refine FE (s:=Jx _ _ _) (L3 H r u fun H r u σ' H'=>H' = H ∧ σ' = [some (.ref r),some (.ref u),none,none,none]) (fun nx hnx=>?_) ?_
 ·refine ⟨_,rfl,r,xs,rfl,.inr hS,rfl,_,rfl,?_⟩
  by_cases hq0 : qs = []
  ·refine BA (by rw [decide_eq_true (show V.int (xs.length : Int) = V.int 0 by rw [hl,hq0]; rfl)] <;> rfl) ?_
   refine ⟨_,rfl,u,ys,rfl,.inr hT',rfl,_,rfl,?_⟩
   have hp0 : ps ≠ []:=by
    rcases hne with z | z
    ·exact absurd hq0 z
    ·exact z
   have hp1:=UQ.mpr hp0
   exact Bg (by rw [decide_eq_false (show ¬ V.int (ys.length : Int) = V.int 0 from fun z=>by have:=V.int.inj z; lia)] <;> rfl) (hnx _ _ ⟨rfl,rfl⟩)
  ·have hq1:=UQ.mpr hq0
   exact Bg (by rw [decide_eq_false (show ¬ V.int (xs.length : Int) = V.int 0 from fun z=>by have:=V.int.inj z; lia)] <;> rfl) (CN (hnx _ _ ⟨rfl,rfl⟩))
 rintro σ' H' ⟨rfl,rfl⟩
 refine ⟨_,rfl,_,rfl,false,r,xs,qs,n,rfl,hS,hn,(fun c hc=>(hB c hc).2),by rw [Vq]; lia,fun B hB0 hdB hbB=>?_⟩
 refine ⟨false,r,xs,qs,B,n * qs.length + 1,n,rfl,hS,hn,hbB,(fun c hc=>(hB c hc).1),by lia,by lia,fun fa hfa=>?_⟩
 have s1 : Ag H' (upd H' fa (.lst ((qs.map (As B)).map V.int))):=Ag.new hfa
 have efa : (upd H' fa (.lst ((qs.map (As B)).map V.int))) fa = some (.lst ((qs.map (As B)).map V.int)):=Ae
 generalize upd H' fa (.lst ((qs.map (As B)).map V.int)) = H1 at s1 efa ⊢
 refine ⟨_,rfl,_,rfl,false,u,ys,ps,n,rfl,hT'.same s1,AS.same hm s1,(fun c hc=>(hC c hc).2),by rw [Vq]; lia,fun U hU0 hdU hbU=>?_⟩
 refine ⟨false,u,ys,ps,U,n * ps.length + 1,n,rfl,hT'.same s1,AS.same hm s1,hbU,(fun c hc=>(hC c hc).1),by lia,by lia,fun fb hfb=>?_⟩
 have s2:=s1.trans (Ag.new (o:=.lst ((ps.map (As U)).map V.int)) hfb)
 have efa2:=(Ag.new (o:=.lst ((ps.map (As U)).map V.int)) hfb) _ _ efa
 have efb : (upd H1 fb (.lst ((ps.map (As U)).map V.int))) fb = some (.lst ((ps.map (As U)).map V.int)):=Ae
 generalize upd H1 fb (.lst ((ps.map (As U)).map V.int)) = H2 at s2 efa2 efb ⊢
 have T1 : Et (qs.map (As B)):=fun t ht=>by
  by_cases z : qs = []
  ·rw [z] at ht; cases ht
  ·obtain ⟨t',e,h⟩:=(DF gq z hB0 hdB)
   rw [ht] at e; cases e; exact h
 have T2 : Et (ps.map (As U)):=fun t ht=>by
  by_cases z : ps = []
  ·rw [z] at ht; cases ht
  ·obtain ⟨t',e,h⟩:=(DF gp z hU0 hdU)
   rw [ht] at e; cases e; exact h
 have bF : ∀ t ∈ qs.map (As B),Bd (n * N + n + 1) t:=fun t ht=>by
  obtain ⟨c,hc,rfl⟩:=(VX.mp ht)
  exact ((hB c hc).1.mul (hbB.fdiv (y:=c.den))).mono (by lia)
 have bG : ∀ t ∈ ps.map (As U),Bd (n * N + n + 1) t:=fun t ht=>by
  obtain ⟨c,hc,rfl⟩:=(VX.mp ht)
  exact ((hC c hc).1.mul (hbU.fdiv (y:=c.den))).mono (by lia)
 have c0 : Com qs ps (cst (qs.map (As B))) (cst (ps.map (As U))):=Com.scale (Nm.cast_ne (show B ≠ 0 by lia)) (Nm.cast_ne (show U ≠ 0 by lia)) (fun x=>DG hdB x) (fun x=>DG hdU x)
 have lF : (qs.map (As B)).length = qs.length:=Ug _
 have lG : (ps.map (As U)).length = ps.length:=Ug _
 generalize qs.map (As B) = F at *
 generalize ps.map (As U) = G at *
 have lFv : (F.map V.int).length = F.length:=Ug _
 have lGv : (G.map V.int).length = G.length:=Ug _
 try dsimp only
 refine D6 (L10 H2 r u fa fb K N qs ps n fun H2 r u fa fb K N qs ps n σ' H3=>Ag H2 H3 ∧ ∃ (tp : Addr) (hs : List Int),σ' = [some (.ref r),some (.ref u),some (.ref fa),some (.ref fb),some (.ref tp)] ∧ SqL K H3 tp (hs.map V.int) ∧ 1 ≤ hs.length ∧ hs.length ≤ N ∧ Et hs ∧ Com qs ps (cst hs) [] ∧ ∀ t ∈ hs,Bd (18 * (n * N + n + 6) + 1) t) (fun nx hnx=>?_) ?_
 ·refine ⟨_,rfl,fa,_,rfl,.inl (SqL.of efa2),_,rfl,fb,_,rfl,.inl (SqL.of efb),_,_,rfl,rfl,_,rfl,?_⟩
  by_cases hlt : F.length < G.length
  ·refine BA (by rw [decide_eq_true (show ((F.map V.int).length : Int) < ((G.map V.int).length : Int) by lia)] <;> rfl) ?_
   refine ⟨_,rfl,_,rfl,fb,fa,G,F,n * N + n + 1,18 * (n * N + n + 6) + 1,rfl,SqL.of efb,efa2,by lia,by lia,by lia,T2,T1,bG,bF,by lia,by lia,fun p H3 hs s3 hp h1 h8 ht hc hd=>?_⟩
   exact hnx _ _ ⟨s3,p,hs,rfl,hp,h1,by lia,ht,(c0.trans (Com.turn _ _)).trans hc,hd⟩
  ·refine Bg (by rw [decide_eq_false (show ¬ ((F.map V.int).length : Int) < ((G.map V.int).length : Int) by lia)] <;> rfl) ?_
   have hF1 : 1 ≤ F.length:=by
    rcases hne with z | z
    ·have:=UQ.mpr z; lia
    ·have:=UQ.mpr z; lia
   refine ⟨_,rfl,_,rfl,fa,fb,F,G,n * N + n + 1,18 * (n * N + n + 6) + 1,rfl,SqL.of efa2,efb,hF1,by lia,by lia,T1,T2,bF,bG,by lia,by lia,fun p H3 hs s3 hp h1 h8 ht hc hd=>?_⟩
   exact hnx _ _ ⟨s3,p,hs,rfl,hp,h1,by lia,ht,c0.trans hc,hd⟩
 rintro σ' H3 hR1
 refine BZ hR1 fun s3 hz92=>?_
 refine DP hz92 fun tp hs hz92'=>?_
 clear hz92
 refine Oc hz92' fun hq91 hp h1 h8 ht hc hD=>?_
 clear hz92'
 obtain rfl:=hq91
 try clear hR1
 have hla : hs[hs.length - 1]? = some (hs[hs.length - 1]'(by lia)):=V9 _
 generalize hs[hs.length - 1]'(by lia) = la at hla
 have la0:=ht la hla
 have hlv : (hs.map V.int)[(hs.map V.int).length - 1]? = some (V.int la):=by rw [Ug,Uc,hla]; rfl
 refine ⟨_,rfl,_,rfl,_,rfl,tp,_,_,_,rfl,rfl,hp,Df hlv,tp,hs,la,rfl,hp,la0,by lia,fun p H4 s4 cv=>?_⟩
 have e1 : UE la la = 1:=by
  rw [UJ,Wb]
  exact VR _ (Nm.cast_ne la0)
 have mono : (hs.map fun t=>UE t la)[(hs.map fun t=>UE t la).length - 1]? = some 1:=by
  rw [Ug,Uc,hla]
  show some (UE la la) = some 1
  rw [e1]
 have good : AO (hs.map fun t=>UE t la):=.inr ⟨1,mono,by decide⟩
 rw [FC good] at cv
 refine q p H4 _ ((s2.trans s3).trans s4) cv (DQ.of (c:=(la : Rat)) (F:=cst hs) (Nm.cast_ne la0) hc good mono fun x=>Ia hs la la0 x) (by rw [Ug]; exact h8) fun c hcm=>?_
 obtain ⟨t,htm,rfl⟩:=(VX.mp hcm)
 exact RB.div (m:=0) (hD t htm) (hD la (Ud hla)) la0
theorem Me : Ar ["a","b"] ["a","b"] (Af (top 17)):=⟨rfl,rfl,rfl,by decide +kernel,rfl,by decide +kernel,by decide +kernel⟩
theorem Mz {f : Addr} {fd : FuncData} (F : Fun K "times" "times" (top 17) f fd) (Rr : Fd P w K mg base 34 "number_of" ["top","bottom"] (Cr)) (hT : P.given.tree = none) :
 AN P w K mg base CX0 35 f fd ["a","b"] (Cs K (· * ·)):=by
 refine F.ok Me (fun vs H Q E h=>?_) (fun cdv A outer s H vs Q E hr h=>?_)
 ·obtain ⟨_,_,_,_,_,_,rfl,_⟩:=h; rfl
 refine ⟨_,(Ah (Ax (Am Rr hr rfl (Aa (Aj Aq (Al (ixT K) (pv 0) Ad (fun u v=>rfl)) (Al (ixT K) (pv 1) Ad (fun u v=>rfl))) (Aa (Aj Aq (Al (ixT K) (pv 0) Ad (fun u v=>rfl)) (Al (ixT K) (pv 1) Ad (fun u v=>rfl))) Ab))))),?_⟩
 obtain ⟨x,y,p,q,m,n,rfl,⟨r,rfl,hr⟩,⟨u,rfl,hu⟩,hp,hq,hmn,k⟩:=h
 refine ⟨_,rfl,r,_,_,_,rfl,rfl,hr,rfl,_,rfl,u,_,_,_,rfl,rfl,hu,rfl,_,_,rfl,rfl,Bq.bd hp.1 hq.1,?_⟩
 refine ⟨_,rfl,r,_,_,_,rfl,rfl,hr,rfl,_,rfl,u,_,_,_,rfl,rfl,hu,rfl,_,_,rfl,rfl,Bq.bd hp.2 hq.2,?_⟩
 refine ⟨_,_,rfl,UL (Nm.den_ne p) (Nm.den_ne q),fun z hz=>?_⟩
 have e:=k z hz
 try dsimp only at e
 rw [← Nm.times_eq] at e
 exact e
theorem IB : Ar ["curve"] ["curve"] (Af (top 29)):=⟨rfl,rfl,rfl,by decide +kernel,rfl,by decide +kernel,by decide +kernel⟩
theorem II {f : Addr} {fd : FuncData} (F : Fun K "slope_of" "slope_of" (top 29) f fd) (F_times : Fd P w K mg base 35 "times" ["a","b"] (Cs K (· * ·))) (Rv : mg "tuple" = none) (Rm : mg "range" = none) (Rl : mg "len" = none) (hT : P.given.tree = none) :
 AN P w K mg base CX0 36 f fd ["curve"] (Hk K):=by
 refine F.ok IB (fun vs H Q E h=>?_) (fun cdv A outer s H vs Q E hr h=>?_)
 ·obtain ⟨_,_,_,rfl,_⟩:=h; rfl
 refine ⟨_,(Ah (Ax (CG (Ju K) rfl Rv FY (Aa (Ct rfl (N:=["k","curve"]) (nt:=1) (js:=[0]) (Bf.look (NX:=["curve"]) (sc:=Af (top 29)) rfl rfl (by decide +kernel)) (GI rfl Rm (Aa Ad (Aa (Ak (Bt K) rfl Rl AF (Aa (pv 0) Ab)) Ab))) (fun u1 u2 u3 u4 u5=>(Av (i:=0) (show List.Nodup (["k","curve"] : List Str) from by decide +kernel) rfl (Or.inl rfl))) (AI (by decide)) (fun u1 u2 u3 u4 u5=>BL) (fun u1 u2 u3 u4 u5=>(Am F_times hr rfl (Aa (Al (ixT K) (pv 1) (pv 0) (fun u v=>rfl)) (Aa (AG (Aa (pv 0) (Aa Ad Ab))) Ab))))) Ab)))),?_⟩
 obtain ⟨r,qs,n,rfl,⟨xs,hS,hn⟩,hz,hB,hn7,q⟩:=h
 have hl:=hn.length
 have bk : ∀ k : Nat,k ≤ 1000 → RB 11 ((k : Nat) : Rat):=fun k hk=>⟨by show Bd 11 (((k : Nat) : Rat)).num; rw [Wd]; unfold Bd; lia,by rw [We]; unfold Bd; decide⟩
 refine Ca ⟨_,rfl,r,xs,rfl,.inr hS,1,(xs.length : Int),rfl,⟨by decide,by decide,by lia,by lia⟩,?_⟩
 have en : ((xs.length : Int) - 1).toNat = qs.length - 1:=by rw [hl]; lia
 rw [en]
 refine JM (L3 H K qs fun H K qs i zs H'=>Ag H H' ∧ zs.length = i ∧ AS K H' zs ((Th i).map fun j=>qs.getD (j + 1) 0 * ((j + 1 : Nat) : Rat))) ⟨Ag.refl _,rfl,.nil⟩ (fun i zs H' _ p=>p.2.1) (Tr (Nat.sub_le _ _) (Ts (AX hz))) ?_ ?_
 ·rintro i zs H' hi ⟨sm,hzl,hnn⟩
  have hi1 : i + 1 < qs.length:=by lia
  have hq : qs[i + 1]? = some qs[i + 1]:=V9 hi1
  obtain ⟨x,hx,hxn⟩:=(Paired.get' hn hq)
  have hat : atI xs (1 + (i : Int)) = some x:=by
   rw [show 1 + (i : Int) = ((i + 1 : Nat) : Int) by lia]
   exact AR hx
  refine ⟨_,rfl,_,rfl,r,xs,_,x,rfl,rfl,SqT.same hS sm,hat,_,rfl,(by decide : 2 ≤ sizeLine),fun t ht=>?_⟩
  have ht1 : AA K (upd H' t (.tup [.int (1 + (i : Int)),.int 1])) (.ref t) (((i + 1 : Nat)) : Rat):=AA.of (by
   rw [Ae]
   unfold nT
   rw [Wd,We,show 1 + (i : Int) = ((i + 1 : Nat) : Int) by lia]
   rfl)
  refine ⟨_,_,_,_,n,11,rfl,(hxn.same sm).same (Ag.new ht),ht1,hB _ (Va hi1),bk (i + 1) (by lia),by lia,fun p hp=>⟨(sm.trans (Ag.new ht)).trans (Ag.new hp),by simp [hzl],?_⟩⟩
  rw [Wn,UU]
  refine Paired.snoc (AS.same (AS.same hnn (Ag.new ht)) (Ag.new hp)) ?_
  have e : qs.getD (i + 1) 0 = qs[i + 1]:=by rw [V2,hq]; rfl
  show AA K _ _ (qs.getD (i + 1) 0 * ((i + 1 : Nat) : Rat))
  rw [e]
  exact AA.of Ae
 ·rintro zs H' ⟨sm,hzl,hnn⟩ p hp
  exact ⟨p,zs,rfl,.inl ⟨SqL.of Ae,fun u hu=>q u _ ((sm.trans (Ag.new hp)).trans (Ag.new hu)) ⟨zs,SqT.of Ae,AS.same (AS.same hnn (Ag.new hp)) (Ag.new hu)⟩⟩⟩
theorem HA : Ar ["curve"] ["curve"] (Af (top 44)):=⟨rfl,rfl,rfl,by decide +kernel,rfl,by decide +kernel,by decide +kernel⟩
theorem HK {f : Addr} {fd : FuncData} (F : Fun K "lone_part" "lone_part" (top 44) f fd) (Sy : Fd P w K mg base 36 "divided" ["one","other"] (Hs K)) (Sz : Fd P w K mg base 36 "common_part" ["one","other"] (JD K)) (SA : Fd P w K mg base 36 "slope_of" ["curve"] (Hk K)) (Rl : mg "len" = none) (hT : P.given.tree = none) :
 AN P w K mg base CX0 37 f fd ["curve"] (Hn K):=by
 refine F.ok HA (fun vs H Q E h=>?_) (fun cdv A outer s H vs Q E hr h=>?_)
 ·obtain ⟨_,_,_,rfl,_⟩:=h; rfl
 refine ⟨_,(Ac (K:=K) (AV (K:=K) (Au CK (Ak (Bt K) rfl Rl AF (Aa (pv 0) Ab)) Ad (Ay _)) (Ah D8) AL (by rfl) (by rfl))
  (Ah (Ax (Al (ixT K) (Am Sy hr rfl (Aa (pv 0) (Aa (Am Sz hr rfl (Aa (pv 0) (Aa (Am SA hr rfl (Aa (pv 0) Ab)) Ab))) Ab))) Ad (fun u v=>rfl)))) (by rfl)),?_⟩
 obtain ⟨r,qs,n,rfl,hc,gq,hne,hB,hn1,hn4,h6,q⟩:=h
 obtain ⟨xs,hS,hn⟩:=(id hc)
 have hl:=hn.length
 have hq1:=UQ.mpr hne
 refine DP (Lp hn4) fun n' C hz93'=>?_
 refine Io hz93' fun hn' hn3 hC8 hC room=>?_
 clear hz93'
 refine ⟨_,rfl,r,xs,rfl,.inr hS,rfl,_,rfl,Bg (decide_eq_false fun z=>by have:=V.int.inj z; lia) ?_⟩
 refine ⟨_,rfl,_,rfl,_,rfl,r,qs,n,rfl,hc,by lia,hB,by lia,fun p1 H1 s1 c1=>?_⟩
 refine ⟨r,p1,qs,Co qs,n',6,rfl,hc.same s1,c1,gq,JP gq,.inl hne,(fun c hm=>(hB c hm).mono (by lia)),(fun c hm=>(Lb (by lia) hn1 hB c hm).mono hn'),by lia,by decide,h6,by rw [Hv]; lia,fun p2 H2 g s2 c2 P gl gb=>?_⟩
 have g1:=UQ.mpr P.ne
 have rm:=room qs.length g.length g1 gl h6
 refine ⟨r,p2,qs,g,n,18 * (n' * 6 + n' + 6) + 1,C,rfl,hc.same (s1.trans s2),c2,gq,P.ne,P.good,hB,gb,by lia,by lia,rm,by lia,by lia,fun f fa fb H5 os rs s5 ef ha hb go gr lo lr hev bo=>?_⟩
 have er : rs = []:=Ba.rest P.into.1 P.good P.ne go gr lr hev
 refine ⟨f,_,_,_,rfl,rfl,SqT.of ef,rfl,q fa H5 g os ((s1.trans s2).trans s5) ha go P (fun x=>?_) (by lia) fun h8 c hm=>(bo c hm).mono (hC8 h8)⟩
 have:=hev x
 rw [er] at this
 rw [this]
 exact Rat.add_zero _
theorem Dm : Ar ["tops","kept"] ["tops"] (Af (top 45)):=⟨rfl,rfl,rfl,by decide +kernel,rfl,by decide +kernel,by decide +kernel⟩
theorem EZ {f : Addr} {fd : FuncData} (F : Fun K "sign_changes" "sign_changes" (top 45) f fd) (Rl : mg "len" = none) (Rm : mg "range" = none) (hT : P.given.tree = none) :
 AN P w K mg base CX0 33 f fd ["tops"] (Nv K):=by
 refine F.ok Dm (fun vs H Q E h=>?_) (fun cdv A outer s H vs Q E hr h=>?_)
 ·obtain ⟨_,_,rfl,_⟩:=h; rfl
 refine ⟨_,(Ac (K:=K) (Ai (i:=1) Dm.nd rfl (Or.inr rfl) (Ct rfl (N:=["top"]) (nt:=1) (js:=[]) (Bf.look (NX:=["tops","kept"]) (sc:=Af (top 45)) rfl rfl (by decide +kernel)) (piL K (pv 0)) (fun u1 u2 u3 u4 u5=>(Av (i:=0) (show List.Nodup (["top"] : List Str) from by decide +kernel) rfl (Or.inl rfl))) (AI (by decide)) (fun u1 u2 u3 u4 u5=>DI (Au GJ (pv 0) Ad (Ay _))) (fun u1 u2 u3 u4 u5=>(pv 0))))
  (Ah (Ax (Ak (Bt K) rfl Rl AF (Aa (Ct rfl (N:=["k","kept"]) (nt:=1) (js:=[1]) (Bf.look (NX:=["tops","kept"]) (sc:=Af (top 45)) rfl rfl (by decide +kernel)) (GI rfl Rm (Aa Ad (Aa (Ak (Bt K) rfl Rl AF (Aa (pv 1) Ab)) Ab))) (fun u1 u2 u3 u4 u5=>(Av (i:=0) (show List.Nodup (["k","kept"] : List Str) from by decide +kernel) rfl (Or.inl rfl))) (AI (by decide)) (fun u1 u2 u3 u4 u5=>DI (Au GJ (DK Cu (Al (ixL K) (pv 1) (pv 0) (fun u v=>rfl)) Ad (Ay _)) (DK Cu (Al (ixL K) (pv 1) (Aj Bo (pv 0) Ad) (fun u v=>rfl)) Ad (Ay _)) (Ay _))) (fun u1 u2 u3 u4 u5=>(pv 0))) Ab)))) (by rfl)),?_⟩
 obtain ⟨l,ts,rfl,hS,h1000,q⟩:=h
 refine Ca ⟨_,rfl,l,rfl,⟨_,hS⟩,?_⟩
 refine Kl (xs:=ts.map V.int) (L2 H ts fun H ts i zs H'=>H' = H ∧ zs = ((ts.take i).filter (fun t=>decide (t ≠ 0))).map V.int) ⟨rfl,rfl⟩ (fun i zs H' hi h=>⟨by rw [h.1]; exact hS,by rw [h.2,Ug]; have:=W6 (fun t=>decide (t ≠ 0)) (ts.take i); rw [U8] at this; lia⟩) (Ts (AX (by rw [Ug]; lia))) ?_ ?_
 ·rintro i x zs H' hx ⟨rfl,rfl⟩
  rw [Uc] at hx
  cases ht : ts[i]? with
  | none=>rw [ht] at hx; cases hx
  | some t =>
    rw [ht] at hx
    cases hx
    have e : ts.take (i + 1) = ts.take i ++ [t]:=by rw [UT,ht]; rfl
    refine ⟨_,rfl,rfl,_,rfl,?_⟩
    by_cases hz : t = 0
    ·exact Bg (by rw [decide_eq_true (show V.int t = V.int 0 by rw [hz])] <;> rfl) ⟨rfl,by rw [e,W5,Wo (by simp [hz]),WA,U1]⟩
    ·exact BA (by rw [decide_eq_false (show ¬ V.int t = V.int 0 from fun z=>hz (V.int.inj z))] <;> rfl) ⟨_,rfl,rfl,by rw [e,W5,Wq (by simp [hz]),WA,UU]; rfl⟩
 rintro zs H' ⟨rfl,rfl⟩ p hp
 rw [Ug,UW]
 have hq:=Na ts
 have hkl : (ts.filter (fun t=>decide (t ≠ 0))).length ≤ ts.length:=W6 _ _
 generalize ts.filter (fun t=>decide (t ≠ 0)) = ks at hq hkl ⊢
 have sp:=Ag.new (o:=.lst (ks.map V.int)) hp
 have ep : SqL K (upd H' p (.lst (ks.map V.int))) p (ks.map V.int):=SqL.of Ae
 generalize upd H' p (.lst (ks.map V.int)) = H1 at sp ep ⊢
 have hml : (ks.map V.int).length = ks.length:=Ug ..
 refine Ca ⟨_,rfl,p,_,rfl,.inl ep,1,((ks.map V.int).length : Int),rfl,⟨by decide,by decide,by lia,by lia⟩,?_⟩
 have en : (((ks.map V.int).length : Int) - 1).toNat = ks.length - 1:=by lia
 rw [en]
 refine NP (fun i zs H'=>H' = H1 ∧ zs.length = adj (ks.take (i + 1)) ∧ zs.length ≤ i) ⟨rfl,by cases ks <;> rfl,TL _⟩ (fun i zs H' _ h=>h.2.2) (Ts (AX (by lia))) ?_ ?_
 ·rintro i zs H2 hi ⟨rfl,hz,hzi⟩
  have g1 : (ks.map V.int)[i + 1]? = some (.int (ks.getD (i + 1) 0)):=by rw [Uc,Bp (by lia)]; rfl
  have g0 : (ks.map V.int)[i]? = some (.int (ks.getD i 0)):=by rw [Uc,Bp (by lia)]; rfl
  have ha:=N9 (l:=ks) (i:=i) (by lia)
  refine ⟨_,rfl,_,rfl,p,_,_,_,rfl,rfl,ep,atV g1 (by lia),_,_,rfl,rfl,_,rfl,_,rfl,_,_,rfl,rfl,p,_,_,_,rfl,rfl,ep,atV g0 (by lia),_,_,rfl,rfl,rfl,_,rfl,?_⟩
  have e : ∀ x y : Bool,(!decide (V.bl x = V.bl y)) = (x != y):=fun x y=>by cases x <;> cases y <;> simp
  refine Fe (fun hc=>?_) (fun hc=>?_)
  ·rw [e] at hc
   rw [hc,if_pos rfl] at ha
   exact ⟨_,rfl,rfl,by rw [Ue,ha,hz]; rfl,by rw [Ue]; show zs.length + 1 ≤ _; lia⟩
  ·rw [e] at hc
   rw [if_neg hc] at ha
   exact ⟨rfl,by rw [ha,hz]; rfl,by lia⟩
 rintro zs H2 ⟨rfl,hz,hzi⟩ r hr2
 refine ⟨r,zs,rfl,.inl (SqL.of Ae),?_⟩
 rw [VC (by lia)] at hz
 rw [hz,← hq]
 exact q _ (sp.trans (Ag.new hr2))
theorem Bk : Ar ["tops","row","lower","upper"] ["tops"] (Af (top 41)):=⟨rfl,rfl,rfl,by decide +kernel,rfl,by decide +kernel,by decide +kernel⟩
theorem EY {f : Addr} {fd : FuncData} (F : Fun K "whole_halves" "whole_halves" (top 41) f fd) (Ru : mg "list" = none) (Rl : mg "len" = none) (Rm : mg "range" = none) (hT : P.given.tree = none) :
 AN P w K mg base CX0 33 f fd ["tops"] (Hj K):=by
 refine F.ok Bk (fun vs H Q E h=>?_) (fun cdv A outer s H vs Q E hr h=>?_)
 ·obtain ⟨_,_,rfl,_⟩:=h; rfl
 refine ⟨_,(Ac (K:=K) (Ai (i:=1) Bk.nd rfl (Or.inr rfl) (CG (Oq K) rfl Ru Ft (Aa (pv 0) Ab)))
  (Ac (K:=K) (Ai (i:=2) Bk.nd rfl (Or.inl rfl) (Be Ab))
  (Ac (K:=K) (Ai (i:=3) Bk.nd rfl (Or.inl rfl) (Be Ab))
  (Ac (K:=K) (Cg PassesOwn.never (Au Cu (Ak (Bt K) rfl Rl AF (Aa (pv 1) Ab)) Ad (Ay _)) (Ac (K:=K) (Ai (i:=2) Bk.nd rfl (Or.inl rfl) (Aj Dz (Ct rfl (N:=["top"]) (nt:=1) (js:=[]) (Bf.look (NX:=["tops","row","lower","upper"]) (sc:=Af (top 41)) rfl rfl (by decide +kernel)) (piL K (pv 2)) (fun u1 u2 u3 u4 u5=>(Av (i:=0) (show List.Nodup (["top"] : List Str) from by decide +kernel) rfl (Or.inl rfl))) (AI (by decide)) (fun u1 u2 u3 u4 u5=>BL) (fun u1 u2 u3 u4 u5=>(Aj Aq Ad (pv 0)))) (Be (Aa (Al (ixL K) (pv 1) Ad (fun u v=>rfl)) Ab))))
  (Ac (K:=K) (Ai (i:=3) Bk.nd rfl (Or.inl rfl) (Aj Dz (Be (Aa (Al (ixL K) (pv 1) (DR CS Ad) (fun u v=>rfl)) Ab)) (Ct rfl (N:=["top"]) (nt:=1) (js:=[]) (Bf.look (NX:=["tops","row","lower","upper"]) (sc:=Af (top 41)) rfl rfl (by decide +kernel)) (piL K (pv 3)) (fun u1 u2 u3 u4 u5=>(Av (i:=0) (show List.Nodup (["top"] : List Str) from by decide +kernel) rfl (Or.inl rfl))) (AI (by decide)) (fun u1 u2 u3 u4 u5=>BL) (fun u1 u2 u3 u4 u5=>(Aj Aq Ad (pv 0))))))
  (Ah (Ai (i:=1) Bk.nd rfl (Or.inr rfl) (Ct rfl (N:=["k","row"]) (nt:=1) (js:=[1]) (Bf.look (NX:=["tops","row","lower","upper"]) (sc:=Af (top 41)) rfl rfl (by decide +kernel)) (Bv rfl Rm (Aa (Aj Bo (Ak (Bt K) rfl Rl AF (Aa (pv 1) Ab)) Ad) Ab)) (fun u1 u2 u3 u4 u5=>(Av (i:=0) (show List.Nodup (["k","row"] : List Str) from by decide +kernel) rfl (Or.inl rfl))) (AI (by decide)) (fun u1 u2 u3 u4 u5=>BL) (fun u1 u2 u3 u4 u5=>(Aj AJ (Al (ixL K) (pv 1) (pv 0) (fun u v=>rfl)) (Al (ixL K) (pv 1) (Aj AJ (pv 0) Ad) (fun u v=>rfl))))))) (by rfl)) (by rfl)))
  (Ah (Ax (AG (Aa (pv 2) (Aa (pv 3) Ab))))) (by rfl)) (by rfl)) (by rfl)) (by rfl)),?_⟩
 obtain ⟨l,ts,rfl,hS,h20,q⟩:=h
 have P0 : 0 ≤ sizeLine:=by decide
 have P1 : 1 ≤ sizeLine:=by decide
 have P2 : 2 ≤ sizeLine:=by decide
 refine ⟨_,rfl,l,_,rfl,.inl hS,fun rw0 hrw=>⟨P0,fun l0 hl0=>⟨P0,fun u0 hu0=>?_⟩⟩⟩
 have s1:=((Ag.new (o:=.lst (ts.map V.int)) hrw).trans (Ag.new (o:=.lst []) hl0)).trans (Ag.new (o:=.lst []) hu0)
 have er : (upd (upd (upd H rw0 (.lst (ts.map V.int))) l0 (.lst [])) u0 (.lst [])) rw0 = some (.lst (ts.map V.int)):=(Ag.new hu0) _ _ ((Ag.new hl0) _ _ Ae)
 have el : (upd (upd (upd H rw0 (.lst (ts.map V.int))) l0 (.lst [])) u0 (.lst [])) l0 = some (.lst []):=(Ag.new hu0) _ _ Ae
 have eu : (upd (upd (upd H rw0 (.lst (ts.map V.int))) l0 (.lst [])) u0 (.lst [])) u0 = some (.lst []):=Ae
 generalize upd (upd (upd H rw0 (.lst (ts.map V.int))) l0 (.lst [])) u0 (.lst []) = H1 at s1 er el eu ⊢
 refine ⟨fun μ σ H'=>Ag H H' ∧ ∃ (i : Nat) (r la lb : Addr),σ = [some (.ref l),some (.ref r),some (.ref la),some (.ref lb)] ∧ i ≤ ts.length ∧ μ = ts.length - i ∧ H' r = some (.lst ((L2.aIN i ts).map V.int)) ∧ H' la = some (.lst ((CM ts i).map V.int)) ∧ H' lb = some (.lst ((upI ts i).map V.int)),
  ⟨_,s1,0,rw0,l0,u0,rfl,TQ _,rfl,er,el,eu⟩,?_⟩
 rintro μ σ H2 hR1
 refine BZ hR1 fun s2 hz96=>?_
 refine J2 hz96 fun i r la lb hz96'=>?_
 clear hz96
 refine Es hz96' fun hq94 hi hq95 er2 ea2 eb2=>?_
 clear hz96'
 obtain rfl:=hq94
 obtain rfl:=hq95
 try clear hR1
 have hrl:=L2.DO ts i
 refine ⟨_,rfl,r,_,rfl,.inl (SqL.of er2),_,_,rfl,rfl,_,rfl,?_⟩
 by_cases hgo : i < ts.length
 ·refine BA (by rw [decide_eq_true (show (0 : Int) < (((L2.aIN i ts).map V.int).length : Int) by rw [Ug]; lia)] <;> rfl) ⟨_,fun _ _ h=>h,?_⟩
  have g0 : ((L2.aIN i ts).map V.int)[0]? = some (.int ((L2.aIN i ts).getD 0 0)):=by rw [Uc,Bp (by lia)]; rfl
  have g1 : ((L2.aIN i ts).map V.int)[((L2.aIN i ts).map V.int).length - 1]? = some (.int ((L2.aIN i ts).getD (ts.length - 1 - i) 0)):=by
   rw [Uc,Ug,Bp (by lia),show (L2.aIN i ts).length - 1 = ts.length - 1 - i by lia]; rfl
  have hal : (CM ts i).length = i:=by unfold CM; rw [Ug,Vv]
  have hbl : (upI ts i).length = i:=by unfold upI; rw [Ug,Vv]
  have DBL : ∀ (a : Addr) (H : Hp) (ns : List Int),H a = some (.lst (ns.map V.int)) → ns.length ≤ 20 → ∀ (Q : VK) (σ : St) (n : Nat),σ[n]? = some (some (.ref a)) → (∀ p,H p = none → Q (.ref p) (upd H p (.lst ((ns.map fun z=>2 * z).map V.int)))) → tLC (GV K (FA n)) 1 [] (C6 0) LY (tOp (rI Bq fun i j=>.int (i * j)) (tC (.int 2)) (FA 0)) σ H Q:=fun a H ns e hl Q σ n hσ k=>by
   refine Ca ⟨_,hσ,a,rfl,⟨_,SqL.of e⟩,?_⟩
   refine DW (xs:=ns.map V.int) (fun i zs H'=>H' = H ∧ zs = ((ns.take i).map fun z=>2 * z).map V.int) ⟨rfl,rfl⟩ (fun i zs H' hi h=>⟨by rw [h.1]; exact SqL.of e,by rw [h.2,Ug,Ug,U8]; rw [Ug] at hi; lia⟩) (Ts (AX (by rw [Ug]; lia))) ?_ ?_
   ·rintro i v zs H' hv ⟨rfl,rfl⟩
    rw [Uc] at hv
    cases hz : ns[i]? with
    | none=>rw [hz] at hv; simp at hv
    | some z =>
      rw [hz] at hv
      cases hv
      refine ⟨_,rfl,_,_,rfl,rfl,.inl ⟨by decide,by decide⟩,rfl,?_⟩
      rw [UT,hz]
      simp
   ·rintro zs H' ⟨rfl,rfl⟩ p hp
    rw [Ug,UW]
    exact k p hp
  refine DBL la H2 (CM ts i) ea2 (by lia) _ _ 2 rfl fun p1 hp1=>?_
  have sa : Ag H2 (upd H2 p1 (.lst (((CM ts i).map fun z=>2 * z).map V.int))):=Ag.new hp1
  refine ⟨_,rfl,r,_,_,_,rfl,rfl,SqL.of (sa _ _ er2),AR (j:=0) g0,P1,fun p2 hp2=>?_⟩
  have sb:=sa.trans (Ag.new (o:=.lst [.int ((L2.aIN i ts).getD 0 0)]) hp2)
  refine ⟨p1,p2,_,_,rfl,rfl,(Ag.new hp2) _ _ Ae,Ae,Tr (show _ ≤ 300 by rw [Ug,Ug,hal]; show i + 1 ≤ 300; lia) (by decide),fun p3 hp3=>?_⟩
  have sc:=sb.trans (Ag.new (o:=.lst (((CM ts i).map fun z=>2 * z).map V.int ++ [.int ((L2.aIN i ts).getD 0 0)])) hp3)
  have e3 : (upd (upd (upd H2 p1 (.lst (((CM ts i).map fun z=>2 * z).map V.int))) p2 (.lst [.int ((L2.aIN i ts).getD 0 0)])) p3 (.lst (((CM ts i).map fun z=>2 * z).map V.int ++ [.int ((L2.aIN i ts).getD 0 0)]))) p3 = some (.lst ((CM ts (i + 1)).map V.int)):=by
   rw [Ae,← Lm,UU]; rfl
  generalize upd (upd (upd H2 p1 (.lst (((CM ts i).map fun z=>2 * z).map V.int))) p2 (.lst [.int ((L2.aIN i ts).getD 0 0)])) p3 (.lst (((CM ts i).map fun z=>2 * z).map V.int ++ [.int ((L2.aIN i ts).getD 0 0)])) = H3 at sc e3 ⊢
  refine ⟨_,rfl,_,rfl,r,_,_,_,rfl,rfl,SqL.of (sc _ _ er2),Df g1,P1,fun p4 hp4=>?_⟩
  have sd : Ag H3 (upd H3 p4 (.lst [.int ((L2.aIN i ts).getD (ts.length - 1 - i) 0)])):=Ag.new hp4
  refine DBL lb _ (upI ts i) (sd _ _ (sc _ _ eb2)) (by lia) _ _ 3 rfl fun p5 hp5=>?_
  have se:=sd.trans (Ag.new (o:=.lst (((upI ts i).map fun z=>2 * z).map V.int)) hp5)
  refine ⟨p4,p5,_,_,rfl,rfl,(Ag.new hp5) _ _ Ae,Ae,Tr (show _ ≤ 300 by rw [Ug,Ug,hbl]; show 1 + i ≤ 300; lia) (by decide),fun p6 hp6=>?_⟩
  have sf:=se.trans (Ag.new (o:=.lst ([.int ((L2.aIN i ts).getD (ts.length - 1 - i) 0)] ++ ((upI ts i).map fun z=>2 * z).map V.int)) hp6)
  have e6 : (upd (upd (upd H3 p4 (.lst [.int ((L2.aIN i ts).getD (ts.length - 1 - i) 0)])) p5 (.lst (((upI ts i).map fun z=>2 * z).map V.int))) p6 (.lst ([.int ((L2.aIN i ts).getD (ts.length - 1 - i) 0)] ++ ((upI ts i).map fun z=>2 * z).map V.int))) p6 = some (.lst ((upI ts (i + 1)).map V.int)):=by
   rw [Ae,← LQ,UU]; rfl
  generalize upd (upd (upd H3 p4 (.lst [.int ((L2.aIN i ts).getD (ts.length - 1 - i) 0)])) p5 (.lst (((upI ts i).map fun z=>2 * z).map V.int))) p6 (.lst ([.int ((L2.aIN i ts).getD (ts.length - 1 - i) 0)] ++ ((upI ts i).map fun z=>2 * z).map V.int)) = H4 at sf e6 ⊢
  have s24:=sc.trans sf
  have er4:=s24 _ _ er2
  refine Ca ⟨_,rfl,r,_,rfl,.inl (SqL.of er4),_,_,rfl,rfl,_,rfl,by rw [Ug]; lia,by rw [Ug]; lia,?_⟩
  rw [show ((((L2.aIN i ts).map V.int).length : Int) - 1).toNat = (L2.aIN i ts).length - 1 by rw [Ug]; lia]
  refine JM (L3 H4 i ts fun H4 i ts j zs H'=>H' = H4 ∧ zs = ((Th j).map fun j=>(L2.aIN i ts).getD j 0 + (L2.aIN i ts).getD (j + 1) 0).map V.int) ⟨rfl,rfl⟩ (fun j zs H' _ h=>by rw [h.2,Ug,Ug,Vv]) (Ts (AX (by lia))) ?_ ?_
  ·rintro j zs H' hj ⟨rfl,rfl⟩
   have k0 : ((L2.aIN i ts).map V.int)[j]? = some (.int ((L2.aIN i ts).getD j 0)):=by rw [Uc,Bp (by lia)]; rfl
   have k1 : ((L2.aIN i ts).map V.int)[j + 1]? = some (.int ((L2.aIN i ts).getD (j + 1) 0)):=by rw [Uc,Bp (by lia)]; rfl
   refine ⟨_,rfl,_,rfl,r,_,_,_,rfl,rfl,SqL.of er4,atV k0 (by lia),_,rfl,_,rfl,_,_,rfl,rfl,r,_,_,_,rfl,rfl,SqL.of er4,atV k1 (by lia),_,_,rfl,rfl,rfl,?_⟩
   rw [Wn,UU,UU]; rfl
  rintro zs Hq ⟨hq,rfl⟩ p7 hp7
  obtain rfl : H4 = Hq:=hq.symm
  have s7 : Ag H4 (upd H4 p7 (.lst (((Th ((L2.aIN i ts).length - 1)).map fun j=>(L2.aIN i ts).getD j 0 + (L2.aIN i ts).getD (j + 1) 0).map V.int))):=Ag.new hp7
  exact ⟨ts.length - (i + 1),by lia,(s2.trans s24).trans s7,i + 1,p7,p3,p6,rfl,by lia,rfl,Ae,s7 _ _ (sf _ _ e3),s7 _ _ e6⟩
 ·refine Bg (by rw [decide_eq_false (show ¬ ((0 : Int) < (((L2.aIN i ts).map V.int).length : Int)) by rw [Ug]; lia)] <;> rfl) ?_
  have ei : i = ts.length:=by lia
  subst ei
  refine ⟨_,rfl,_,rfl,P2,fun t ht=>?_⟩
  have s3 : Ag H2 (upd H2 t (.tup [.ref la,.ref lb])):=Ag.new ht
  exact q t la lb _ (s2.trans s3) Ae (s3 _ _ ea2) (s3 _ _ eb2)
theorem Nx : Ar ["a","b"] ["a","b"] (Af (top 15)):=⟨rfl,rfl,rfl,by decide +kernel,rfl,by decide +kernel,by decide +kernel⟩
theorem NH {f : Addr} {fd : FuncData} (F : Fun K "plus" "plus" (top 15) f fd) (Rr : Fd P w K mg base 34 "number_of" ["top","bottom"] (Cr)) (hT : P.given.tree = none) :
 AN P w K mg base CX0 35 f fd ["a","b"] (Cs K (· + ·)):=by
 refine F.ok Nx (fun vs H Q E h=>?_) (fun cdv A outer s H vs Q E hr h=>?_)
 ·obtain ⟨_,_,_,_,_,_,rfl,_⟩:=h; rfl
 refine ⟨_,(Ah (Ax (Am Rr hr rfl (Aa (Aj AJ (Aj Aq (Al (ixT K) (pv 0) Ad (fun u v=>rfl)) (Al (ixT K) (pv 1) Ad (fun u v=>rfl))) (Aj Aq (Al (ixT K) (pv 1) Ad (fun u v=>rfl)) (Al (ixT K) (pv 0) Ad (fun u v=>rfl)))) (Aa (Aj Aq (Al (ixT K) (pv 0) Ad (fun u v=>rfl)) (Al (ixT K) (pv 1) Ad (fun u v=>rfl))) Ab))))),?_⟩
 obtain ⟨x,y,p,q,m,n,rfl,⟨r,rfl,hr⟩,⟨u,rfl,hu⟩,hp,hq,hmn,k⟩:=h
 refine ⟨_,rfl,r,_,_,_,rfl,rfl,hr,rfl,_,rfl,u,_,_,_,rfl,rfl,hu,rfl,_,_,rfl,rfl,Bq.bd hp.1 hq.2,_,rfl,u,_,_,_,rfl,rfl,hu,rfl,_,rfl,r,_,_,_,rfl,rfl,hr,rfl,_,_,rfl,rfl,Bq.bd hq.1 hp.2,_,_,rfl,rfl,?_⟩
 refine ⟨_,rfl,r,_,_,_,rfl,rfl,hr,rfl,_,rfl,u,_,_,_,rfl,rfl,hu,rfl,_,_,rfl,rfl,Bq.bd hp.2 hq.2,?_⟩
 refine ⟨_,_,rfl,UL (Nm.den_ne p) (Nm.den_ne q),fun z hz=>?_⟩
 have e:=k z hz
 try dsimp only at e
 rw [← Nm.plus_eq] at e
 exact e
theorem D7 : Ar ["piece","middle","halves","depth"] ["piece"] (Af (top 47)):=⟨rfl,rfl,rfl,by decide +kernel,rfl,by decide +kernel,by decide +kernel⟩
theorem GK {f : Addr} {fd : FuncData} (F : Fun K "halved" "halved" (top 47) f fd) (RL : Fd P w K mg base 35 "over" ["a","b"] (FD K)) (S9 : Fd P w K mg base 33 "whole_halves" ["tops"] (Hj K)) (F_plus : Fd P w K mg base 35 "plus" ["a","b"] (Cs K (· + ·))) {t_DEEPEST : Tok} (c_DEEPEST : mg "DEEPEST" = some (.int 16 t_DEEPEST)) (hT : P.given.tree = none) :
 AN P w K mg base CX0 36 f fd ["piece"] (CZ K):=by
 refine F.ok D7 (fun vs H Q E h=>?_) (fun cdv A outer s H vs Q E hr h=>?_)
 ·obtain ⟨_,_,_,_,_,_,_,_,rfl,_⟩:=h; rfl
 refine ⟨_,(Ac (K:=K) (AV (K:=K) (Au CK (Al (ixT K) (pv 0) Ad (fun u v=>rfl)) (BF (v:=.int 16) rfl c_DEEPEST ⟨_,rfl⟩) (Ay _)) (Ah D8) AL (by rfl) (by rfl))
  (Ac (K:=K) (Ai (i:=1) D7.nd rfl (Or.inl rfl) (Am RL hr rfl (Aa (Am F_plus hr rfl (Aa (Al (ixT K) (pv 0) Ad (fun u v=>rfl)) (Aa (Al (ixT K) (pv 0) Ad (fun u v=>rfl)) Ab))) (Aa (AG (Aa Ad (Aa Ad Ab))) Ab))))
  (Ac (K:=K) (Ai (i:=2) D7.nd rfl (Or.inl rfl) (Am S9 hr rfl (Aa (Al (ixT K) (pv 0) Ad (fun u v=>rfl)) Ab)))
  (Ac (K:=K) (Ai (i:=3) D7.nd rfl (Or.inl rfl) (Aj AJ (Al (ixT K) (pv 0) Ad (fun u v=>rfl)) Ad))
  (Ah (Ax (Be (Aa (AG (Aa (pv 1) (Aa (Al (ixT K) (pv 0) Ad (fun u v=>rfl)) (Aa (Al (ixT K) (pv 2) Ad (fun u v=>rfl)) (Aa (pv 3) Ab))))) (Aa (AG (Aa (Al (ixT K) (pv 0) Ad (fun u v=>rfl)) (Aa (pv 1) (Aa (Al (ixT K) (pv 2) Ad (fun u v=>rfl)) (Aa (pv 3) Ab))))) Ab))))) (by rfl)) (by rfl)) (by rfl)) (by rfl)),?_⟩
 obtain ⟨p,rl,rh,rt,lo,hi,ts,d,rfl,hS,hlo,hhi,blo,bhi,ht,h20,hd,q⟩:=h
 have P2 : 2 ≤ sizeLine:=by decide
 have P4 : 4 ≤ sizeLine:=by decide
 refine ⟨_,rfl,p,_,_,_,rfl,rfl,hS,AR (j:=3) rfl,rfl,_,rfl,?_⟩
 refine Bg (by rw [decide_eq_false (show ¬ V.int (d : Int) = V.int 16 from fun z=>hd (by have:=V.int.inj z; lia))] <;> rfl) ?_
 refine ⟨_,rfl,p,_,_,_,rfl,rfl,hS,AR (j:=0) rfl,_,rfl,p,_,_,_,rfl,rfl,hS,AR (j:=1) rfl,_,_,lo,hi,80,80,rfl,hlo,hhi,blo,bhi,by decide,fun t1 ht1=>⟨P2,fun t2 ht2=>?_⟩⟩
 have o2 : HO.tup [.int 2,.int 1] = nT 2:=rfl
 have b2 : RB 3 (2 : Rat):=⟨by unfold Bd; decide,by unfold Bd; decide⟩
 refine ⟨_,_,lo + hi,2,161,3,rfl,AA.of ((Ag.new ht2) _ _ Ae),AA.of (by rw [Ae,o2]),by decide,blo.plus bhi,b2,by decide,fun rm hrm=>?_⟩
 have e2 : (lo + hi) / 2 = (lo + hi) * hf:=by
  have h1 : hf * 2 = 1:=by have:=hf2; grind
  rw [Wb]
  have h2 : (2 : Rat)⁻¹ = hf:=by decide +kernel
  rw [h2]
 rw [e2]
 have s3 : Ag H (upd (upd (upd H t1 (nT (lo + hi))) t2 (.tup [.int 2,.int 1])) rm (nT ((lo + hi) * hf))):=((Ag.new ht1).trans (Ag.new ht2)).trans (Ag.new hrm)
 have em : AA K (upd (upd (upd H t1 (nT (lo + hi))) t2 (.tup [.int 2,.int 1])) rm (nT ((lo + hi) * hf))) (.ref rm) ((lo + hi) * hf):=AA.of Ae
 generalize upd (upd (upd H t1 (nT (lo + hi))) t2 (.tup [.int 2,.int 1])) rm (nT ((lo + hi) * hf)) = H1 at s3 em ⊢
 have hS1:=hS.same s3
 refine ⟨_,rfl,p,_,_,_,rfl,rfl,hS1,AR (j:=2) rfl,rt,ts,rfl,SqL.of (s3 _ _ ht),h20,fun t la lb H2 s4 et ela elb=>?_⟩
 have hS2:=hS1.same s4
 have em2:=em.same s4
 refine ⟨_,rfl,p,_,_,_,rfl,rfl,hS2,AR (j:=3) rfl,_,_,rfl,rfl,?_⟩
 refine ⟨_,rfl,_,rfl,p,_,_,_,rfl,rfl,hS2,AR (j:=1) rfl,_,rfl,t,_,_,_,rfl,rfl,SqT.of et,AR (j:=1) rfl,_,rfl,P4,fun p1 hp1=>?_⟩
 have s5:=Ag.new (o:=.tup [.ref rm,.ref rh,.ref lb,.int ((d : Int) + 1)]) hp1
 refine ⟨_,rfl,p,_,_,_,rfl,rfl,hS2.same s5,AR (j:=0) rfl,_,rfl,_,rfl,t,_,_,_,rfl,rfl,SqT.of (s5 _ _ et),AR (j:=0) rfl,_,rfl,P4,fun p2 hp2=>⟨P2,fun u hu=>?_⟩⟩
 have s6:=Ag.new (o:=.tup [.ref rl,.ref rm,.ref la,.int ((d : Int) + 1)]) hp2
 have s7:=Ag.new (o:=.lst [.ref p1,.ref p2]) hu
 exact q u p1 p2 rm la lb _ (((s3.trans s4).trans s5).trans (s6.trans s7)) Ae (SqT.of (s7 _ _ (s6 _ _ Ae))) (SqT.of (s7 _ _ Ae)) (em2.same ((s5.trans s6).trans s7)) (s7 _ _ (s6 _ _ (s5 _ _ ela))) (s7 _ _ (s6 _ _ (s5 _ _ elb)))
theorem JF {f : Addr} {fd : FuncData} (F : Fun K "halved" "halved" (top 47) f fd) {a_TooDeep : Addr} (k_TooDeep : Oe K "TooDeep" a_TooDeep) (RL : Fd P w K mg base 35 "over" ["a","b"] (FD K)) (S9 : Fd P w K mg base 33 "whole_halves" ["tops"] (Hj K)) (F_plus : Fd P w K mg base 35 "plus" ["a","b"] (Cs K (· + ·))) {t_DEEPEST : Tok} (c_DEEPEST : mg "DEEPEST" = some (.int 16 t_DEEPEST)) (hT : P.given.tree = none) :
 AN P w K mg base (CX2 P w) 36 f fd ["piece"] (CF K a_TooDeep):=by
 refine F.okY D7 (fun vs H Q E h=>?_) (fun cdv A outer s H vs Q E hr h=>?_)
 ·obtain ⟨_,_,_,_,rfl,_⟩:=h; rfl
 refine ⟨_,(IE (AV (K:=K) (Au CK (Al (ixT K) (pv 0) Ad (fun u v=>rfl)) (BF (v:=.int 16) rfl c_DEEPEST ⟨_,rfl⟩) (Ay _)) (Ah (Mm k_TooDeep rfl Pt rfl (Aa C5 Ab))) AL (by rfl) (by rfl))
  Ld),?_⟩
 obtain ⟨p,x,y,z,rfl,hS,q⟩:=h
 have P1 : 1 ≤ sizeLine:=by decide
 refine ⟨_,rfl,p,_,_,_,rfl,rfl,hS,AR (j:=3) rfl,rfl,_,rfl,BA (by first | rfl | decide) ⟨P1,q⟩⟩
theorem BD : Ar ["curve","low","high","heights","waiting","pieces","piece","changes"] ["curve","low","high"] (Af (top 46)):=⟨rfl,rfl,rfl,by decide +kernel,rfl,by decide +kernel,by decide +kernel⟩
theorem Ee {f : Addr} {fd : FuncData} (F : Fun K "pieces_of" "pieces_of" (top 46) f fd) (Sa : Fd P w K mg base 37 "heights_of" ["curve","low","high"] (K5 K)) (Sb : Fd P w K mg base 37 "lone_part" ["curve"] (Hn K)) (Sd : Fd P w K mg base 33 "sign_changes" ["tops"] (Nv K)) (Rq : Fd P w K mg base 33 "tops_over" ["numbers","bottom"] (Dh K)) (Rp : Fd P w K mg base 34 "bottom_of" ["numbers"] (E4 K)) (F_halved : Fd P w K mg base 36 "halved" ["piece"] (CZ K)) (Rl : mg "len" = none) (hT : P.given.tree = none) :
 AN P w K mg base CX0 38 f fd ["curve","low","high"] ((fun _ _ _ _=>False : Sp)):=F.ok BD (fun vs H Q E h=>False.elim h) (fun cdv A outer s H vs Q E hr h=>False.elim h)
theorem Gm {f : Addr} {fd : FuncData} (F : Fun K "pieces_of" "pieces_of" (top 46) f fd) {a_TooDeep : Addr} (Y_halved : FdY P w K mg base 36 "halved" ["piece"] (fun vs H Q E=>(CZ K : Sp) vs H Q E ∨ (CF K a_TooDeep : Sp) vs H Q E)) (Sa : Fd P w K mg base 37 "heights_of" ["curve","low","high"] (K5 K)) (Sb : Fd P w K mg base 37 "lone_part" ["curve"] (Hn K)) (Sd : Fd P w K mg base 33 "sign_changes" ["tops"] (Nv K)) (Rq : Fd P w K mg base 33 "tops_over" ["numbers","bottom"] (Dh K)) (Rp : Fd P w K mg base 34 "bottom_of" ["numbers"] (E4 K)) (F_halved : Fd P w K mg base 36 "halved" ["piece"] (CZ K)) (Rl : mg "len" = none) (hT : P.given.tree = none) :
 AN P w K mg base (CX2 P w) 38 f fd ["curve","low","high"] (Cb K a_TooDeep):=by
 refine F.okY BD (fun vs H Q E h=>?_) (fun cdv A outer s H vs Q E hr h=>?_)
 ·obtain ⟨_,_,_,_,_,_,_,_,rfl,_⟩:=h; rfl
 refine ⟨_,(Ac (K:=K) (Ai (i:=3) BD.nd rfl (Or.inl rfl) (Am Sa hr rfl (Aa (Am Sb hr rfl (Aa (pv 0) Ab)) (Aa (pv 1) (Aa (pv 2) Ab)))))
  (Ac (K:=K) (Ai (i:=4) BD.nd rfl (Or.inl rfl) (Be (Aa (AG (Aa (pv 1) (Aa (pv 2) (Aa (Am Rq hr rfl (Aa (pv 3) (Aa (Am Rp hr rfl (Aa (pv 3) Ab)) Ab))) (Aa Ad Ab))))) Ab)))
  (Ac (K:=K) (Ai (i:=5) BD.nd rfl (Or.inl rfl) (Be Ab))
  (Ac (K:=K) (Cg PassesOwn.leaving (Au Cu (Ak (Bt K) rfl Rl AF (Aa (pv 4) Ab)) Ad (Ay _)) (Ac (K:=K) (Ai (i:=6) BD.nd rfl (Or.inl rfl) (ND K PySem.F.plainAttrs_list PySem.F.slot_list_pop PySem.F.type_list_pop Pq (pv 4)))
  (Ac (K:=K) (Ai (i:=7) BD.nd rfl (Or.inl rfl) (Am Sd hr rfl (Aa (Al (ixT K) (pv 6) Ad (fun u v=>rfl)) Ab)))
  (Ah (AV (K:=K) (Au Cu (pv 7) Ad (Ay _)) (Ah (Fg (HE K PySem.F.plainAttrs_list PySem.F.slot_list_extend PySem.F.type_list_extend Ll (pv 4) (Aa (Mr Y_halved hr rfl Om (Aa (pv 6) Ab)) Ab)))) (Ah (Fg (HE K PySem.F.plainAttrs_list PySem.F.slot_list_append PySem.F.type_list_append EN (pv 5) (Aa (AG (Aa (Al (ixT K) (pv 6) Ad (fun u v=>rfl)) (Aa (Al (ixT K) (pv 6) Ad (fun u v=>rfl)) (Aa (pv 7) Ab)))) Ab)))) (by rfl) (by rfl))) (by rfl)) (by rfl)))
  (Ah (Ax (pv 5))) (by rfl)) (by rfl)) (by rfl)) (by rfl)),?_⟩
 obtain ⟨r,rl,rh,fs,ls,lo,hi,n,rfl,hc,gf,nf,bf,hn1,hn2,lf,hL,bl,ll,hlo,hhi,hlt,blo,bhi,q1,q2⟩:=h
 have P0 : 0 ≤ sizeLine:=by decide
 have P1 : 1 ≤ sizeLine:=by decide
 have P3 : 3 ≤ sizeLine:=by decide
 have P4 : 4 ≤ sizeLine:=by decide
 refine ⟨_,rfl,r,fs,n,rfl,hc,gf,nf,bf,hn1,hn2,lf,fun p1 H1 g os s1 c1 go PP eo lo' _=>?_⟩
 obtain rfl:=hL g os PP go eo
 refine ⟨_,rfl,_,rfl,p1,rl,rh,os,lo,hi,100,rfl,c1,go,hlo.same s1,hhi.same s1,hlt,bl,blo.mono (by decide),bhi.mono (by decide),by decide,by lia,fun p2 H2 zs s2 hp2 e2 hz bz=>?_⟩
 have s12:=s1.trans s2
 have hhl:=L2.BR os lo hi
 obtain ⟨hs,ehs⟩ : ∃ hs,hs = L2.hts os lo hi:=⟨_,rfl⟩
 rw [← ehs] at hz bz hhl
 have hh6 : hs.length ≤ 6:=by lia
 have hnl : 60000 * hs.length ≤ 60000 * 6:=Wf _ hh6
 refine ⟨_,rfl,_,rfl,_,rfl,_,rfl,true,p2,zs,hs,60000,rfl,SqL.of e2,hz,(fun c hc=>(bz c hc).2),by rw [Vq]; lia,fun B hB0 hdv hbB=>?_⟩
 have hB : B ≠ 0:=by lia
 refine ⟨true,p2,zs,hs,B,60000 * hs.length + 1,60000,rfl,SqL.of e2,hz,hbB,(fun c hc=>(bz c hc).1),by lia,by lia,fun r0 hr0=>⟨P4,fun p3 hp3=>⟨P1,fun w hw=>⟨P0,fun z hzn=>?_⟩⟩⟩⟩
 have ez0:=Ag.new (o:=.lst []) hzn
 have ew0:=Ag.new (o:=.lst [.ref p3]) hw
 have ep0:=Ag.new (o:=.tup [.ref rl,.ref rh,.ref r0,.int 0]) hp3
 have er0:=Ag.new (o:=.lst ((hs.map (As B)).map V.int)) hr0
 have sA:=((er0.trans ep0).trans ew0).trans ez0
 have eW:=ez0 _ _ Ae
 have eZ:=Ae (H:=upd (upd (upd H2 r0 (.lst ((hs.map (As B)).map V.int))) p3 (.tup [.ref rl,.ref rh,.ref r0,.int 0])) w (.lst [.ref p3])) (a:=z) (o:=.lst [])
 have hHw : H w = none:=((s12.trans er0).trans ep0).free hw
 have hHz : H z = none:=(((s12.trans er0).trans ep0).trans ew0).free hzn
 have wz : w ≠ z:=AB Ae hzn
 obtain ⟨D,d0,d1,y1,y2⟩:=Dy.start blo bhi
 have B0 : (0 : Rat) < (B : Rat):=by
  have : ((0 : Int) : Rat) < (B : Rat):=Wr.mpr (by lia)
  exact this
 have k0 : PcI K os D (upd (upd (upd (upd H2 r0 (.lst ((hs.map (As B)).map V.int))) p3 (.tup [.ref rl,.ref rh,.ref r0,.int 0])) w (.lst [.ref p3])) z (.lst [])) (.ref p3) (lo,hi,0):=⟨p3,rl,rh,r0,hs.map (As B),rfl,SqT.of (ez0 _ _ (ew0 _ _ Ae)),(hlo.same s12).same sA,(hhi.same s12).same sA,ez0 _ _ (ew0 _ _ (ep0 _ _ Ae)),fun z=>by have:=congrArg U7 z; rw [Ug] at this; simp only [UB] at this; lia,by rw [Ug]; lia,by rw [← ehs]; exact ⟨(B : Rat),B0,EV hs fun q hq=>CC (hdv q hq)⟩,y1,y2,TQ _⟩
 have sH:=s12.trans sA
 generalize upd (upd (upd (upd H2 r0 (.lst ((hs.map (As B)).map V.int))) p3 (.tup [.ref rl,.ref rh,.ref r0,.int 0])) w (.lst [.ref p3])) z (.lst []) = H3 at k0 sH eW eZ ⊢
 clear ez0 ew0 ep0 er0 sA hw hzn hp3 hr0 hz bz hnl e2 s1 s2 s12 c1 PP eo hdv hbB B0
 refine ⟨fun μ σ G=>Ag H G ∧ ∃ (ws ys : List V) (st : List Wt) (found : List Pc) (z6 z7 : Option V),σ = [some (.ref r),some (.ref rl),some (.ref rh),some (.ref p2),some (.ref w),some (.ref z),z6,z7] ∧ G w = some (.lst ws) ∧ G z = some (.lst ys) ∧ Paired (PcI K os D G) ws.reverse st ∧ Pcs K G ys found ∧ pcs os 16 lo hi = (com os st).map (found ++ ·) ∧ μ = wgt st ∧ found.length + wgt st ≤ 2 ^ 18,
  ⟨_,sH,[.ref p3],[],[(lo,hi,0)],[],none,none,rfl,eW,eZ,.cons k0 .nil,.nil,LJ os lo hi,rfl,by show 0 + (2 ^ 18 - 1 + 0) ≤ 2 ^ 18; decide⟩,?_⟩
 clear k0 sH eW eZ
 rintro μ σ G ⟨sg,ws,ys,st,found,z6,z7,rfl,ew,ez,hst,hfn,hpc,rfl,h18⟩
 have hwl : ws.length = st.length:=by rw [← List.length_reverse,hst.length]
 refine ⟨_,rfl,w,ws,rfl,.inl (SqL.of ew),_,_,rfl,rfl,_,rfl,?_⟩
 have hrf:=PcI.refs hst
 have hdp:=PcI.deep hst
 have hwg:=K2 st hdp
 cases st with
 | nil =>
   rw [decide_eq_false (show ¬ (0 : Int) < ((ws.length : Nat) : Int) by rw [hwl]; decide)]
   refine CN ⟨_,rfl,q1 found z G ys ?_ sg hHz ez hfn⟩
   rw [hpc]
   show some (found ++ []) = some found
   rw [U1]
 | cons t st' =>
 obtain ⟨lo',hi',d⟩:=t
 rw [decide_eq_true (show (0 : Int) < ((ws.length : Nat) : Int) by rw [hwl]; show (0 : Int) < ((st'.length + 1 : Nat) : Int); lia)]
 refine Gw ⟨_,fun _ _ h=>h,?_⟩
 obtain ⟨v,rr,hvr⟩ : ∃ v rr,ws.reverse = v :: rr:=by
  cases e : ws.reverse with
  | nil=>rw [e] at hst; cases hst
  | cons v rr=>exact ⟨v,rr,rfl⟩
 have ews : ws = rr.reverse ++ [v]:=by rw [← WC ws,hvr,List.reverse_cons]
 rw [hvr] at hst hrf
 cases hst with
 | cons hv hrest =>
 have hrw : ∀ x ∈ ws,∃ r,x = .ref r:=fun x hx=>hrf x (by rw [← hvr]; exact List.mem_reverse.mpr hx)
 have hys:=Pcs.refs hfn
 refine ⟨_,rfl,.inl ⟨rfl,_,SqL.of ew⟩,w,ws,v,rfl,rfl,ew,by rw [ews,Ue,Ut,show rr.reverse.length + 1 - 1 = rr.reverse.length by lia]; simp,?_⟩
 rw [show ws.dropLast = rr.reverse by rw [ews,List.dropLast_concat]]
 have sg1 : Ag H (upd G w (.lst rr.reverse)):=sg.put hHw
 have hv1:=hv.put (o:=.lst rr.reverse) ew hrw
 have hr1 : Paired (PcI K os D (upd G w (.lst rr.reverse))) rr st':=Paired.mapP hrest fun _ _ z=>z.put ew hrw
 have hf1:=Pcs.put (o:=.lst rr.reverse) hfn ew
 have ew1:=Ae (H:=G) (a:=w) (o:=.lst rr.reverse)
 have ez1 : (upd G w (.lst rr.reverse)) z = some (.lst ys):=by rw [Aw wz.symm]; exact ez
 generalize upd G w (.lst rr.reverse) = G1 at sg1 hv1 hr1 hf1 ew1 ez1 ⊢
 clear hv hrest hfn ew ez sg
 obtain ⟨pp,rl',rh',rt,ts,rfl,hS,nlo,nhi,ert,tne,t20,tp,dy1,dy2,hd16⟩:=id hv1
 have hd16 : d ≤ 16:=hd16
 refine ⟨_,rfl,pp,_,_,_,rfl,rfl,hS,AR (j:=2) rfl,rt,ts,rfl,SqL.of ert,by lia,fun G2 s2=>?_⟩
 have hV:=tp.chg
 rw [hV]
 replace hS:=hS.same s2
 have hf2:=Pcs.same hf1 s2
 have hr2 : Paired (PcI K os D G2) rr st':=Paired.mapP hr1 fun _ _ z=>z.same s2
 have ew2:=s2 _ _ ew1
 have ez2:=s2 _ _ ez1
 replace nlo:=nlo.same s2
 replace nhi:=nhi.same s2
 replace ert:=s2 _ _ ert
 have sg2:=sg1.trans s2
 clear hv1 hf1 hr1 ew1 ez1 sg1 s2
 refine ⟨_,rfl,_,_,rfl,rfl,_,rfl,?_⟩
 have hfl:=hf2.length
 have hwe : wgt ((lo',hi',d) :: st') = 2 ^ (18 - d) - 1 + wgt st':=rfl
 have hp2 : 2 ^ 2 ≤ 2 ^ (18 - d):=Vb (by decide) (by lia)
 by_cases hf2' : VQ (L2.hts os lo' hi') < 2
 ·rw [decide_eq_false (show ¬ (1 : Int) < ((VQ (L2.hts os lo' hi') : Nat) : Int) by lia)]
  refine CN ⟨_,rfl,.inl ⟨rfl,_,SqL.of ez2⟩,_,rfl,pp,_,_,_,rfl,rfl,hS,AR (j:=0) rfl,_,rfl,pp,_,_,_,rfl,rfl,hS,AR (j:=1) rfl,_,rfl,P3,fun u hu=>?_⟩
  have s3:=Ag.new (o:=.tup [.ref rl',.ref rh',.int ((VQ (L2.hts os lo' hi') : Nat) : Int)]) hu
  have ez3:=s3 _ _ ez2
  refine ⟨z,ys,.ref u,rfl,rfl,ez3,Te (show ys.length < 300000 by lia) (by decide),?_⟩
  have hu1 : PcV K (upd G2 u (.tup [.ref rl',.ref rh',.int ((VQ (L2.hts os lo' hi') : Nat) : Int)])) (.ref u) (one os lo' hi'):=⟨u,rl',rh',rfl,SqT.of Ae,nlo.same s3,nhi.same s3⟩
  refine ⟨wgt st',by lia,(sg2.trans s3).put hHz,rr.reverse,ys ++ [.ref u],st',found ++ [one os lo' hi'],_,_,rfl,by rw [Aw wz]; exact s3 _ _ ew2,Ae,by rw [WC]; exact Paired.mapP hr2 fun _ _ z=>(z.same s3).put ez3 hys,Paired.snoc (Pcs.put (Pcs.same hf2 s3) ez3) (hu1.put ez3),?_,rfl,by rw [Ue,Ut]; lia⟩
  rw [hpc,O7 hf2',map_map]
 ·rw [decide_eq_true (show (1 : Int) < ((VQ (L2.hts os lo' hi') : Nat) : Int) by lia)]
  refine Gw ⟨_,rfl,.inl ⟨rfl,_,SqL.of ew2⟩,_,rfl,?_⟩
  by_cases hd : d = 16
  ·subst hd
   refine .inr ⟨pp,_,_,_,rfl,hS,q2 G2 ?_ sg2⟩
   rw [hpc,N2 hf2']; rfl
  ·have hd' : d < 16:=by lia
   refine .inl ⟨pp,rl',rh',rt,lo',hi',ts,d,rfl,hS,nlo,nhi,dy1.rb d0 d1 (by lia),dy2.rb d0 d1 (by lia),ert,t20,hd,fun u q1' q2' rm la lb G3 s3 eu h1 h2 em ela elb=>?_⟩
   have ew3:=s3 _ _ ew2
   have hrl : rr.length = st'.length:=hr2.length
   have hw1 : st'.length + 1 ≤ wgt ((lo',hi',d) :: st'):=hwg
   refine ⟨w,u,rr.reverse,_,rfl,rfl,ew3,eu,Tr (show rr.reverse.length + 2 ≤ 300000 by rw [List.length_reverse]; lia) (by decide),?_⟩
   have lne : CM ts ts.length ≠ []:=fun z=>by
    have:=congrArg U7 z
    unfold CM at this
    rw [Ug,Vv] at this
    exact tne (UX this)
   have une : upI ts ts.length ≠ []:=fun z=>by
    have:=congrArg U7 z
    unfold upI at this
    rw [Ug,Vv] at this
    exact tne (UX this)
   have ll1 : (CM ts ts.length).length ≤ 20:=by unfold CM; rw [Ug,Vv]; exact t20
   have ul1 : (upI ts ts.length).length ≤ 20:=by unfold upI; rw [Ug,Vv]; exact t20
   have k1 : PcI K os D G3 (.ref q2') (lo',(lo' + hi') * hf,d + 1):=⟨q2',rl',rm,la,_,rfl,h2,nlo.same s3,em,ela,lne,ll1,by show Tp _ (L2.hts os lo' ((lo' + hi') * hf)); rw [NW]; exact tp.low,dy1.next,dy1.mid dy2,hd'⟩
   have k2 : PcI K os D G3 (.ref q1') ((lo' + hi') * hf,hi',d + 1):=⟨q1',rm,rh',lb,_,rfl,h1,em,nhi.same s3,elb,une,ul1,by show Tp _ (L2.hts os ((lo' + hi') * hf) hi'); rw [PU]; exact tp.up,dy1.mid dy2,dy2.next,hd'⟩
   have hrw2 : ∀ x ∈ rr.reverse,∃ r,x = .ref r:=fun x hx=>hrf x (Tv _ (List.mem_reverse.mp hx))
   have hg:=Nj d hd'
   have hwe2 : wgt ((lo',(lo' + hi') * hf,d + 1) :: ((lo' + hi') * hf,hi',d + 1) :: st') = 2 ^ (18 - (d + 1)) - 1 + (2 ^ (18 - (d + 1)) - 1 + wgt st'):=rfl
   refine ⟨wgt ((lo',(lo' + hi') * hf,d + 1) :: ((lo' + hi') * hf,hi',d + 1) :: st'),by lia,(sg2.trans s3).put hHw,rr.reverse ++ [.ref q1',.ref q2'],ys,(lo',(lo' + hi') * hf,d + 1) :: ((lo' + hi') * hf,hi',d + 1) :: st',found,_,_,rfl,Ae,by rw [Aw wz.symm]; exact s3 _ _ ez2,?_,Pcs.put (Pcs.same hf2 s3) ew3,by rw [hpc,N3 hd' hf2'],rfl,by lia⟩
   rw [List.reverse_append,WC]
   exact .cons (k1.put ew3 hrw2) (.cons (k2.put ew3 hrw2) (Paired.mapP hr2 fun _ _ z=>(z.same s3).put ew3 hrw2))
theorem Bu : Ar ["tops","x","height","scale","top"] ["tops","x"] (Af (top 26)):=⟨rfl,rfl,rfl,by decide +kernel,rfl,by decide +kernel,by decide +kernel⟩
theorem EX {f : Addr} {fd : FuncData} (F : Fun K "whole_height" "whole_height" (top 26) f fd) (RE : mg "reversed" = none) (hT : P.given.tree = none) :
 AN P w K mg base CX0 33 f fd ["tops","x"] (OQ K):=by
 refine F.ok Bu (fun vs H Q E h=>?_) (fun cdv A outer s H vs Q E hr h=>?_)
 ·obtain ⟨_,_,_,_,_,_,rfl,_⟩:=h; rfl
 refine ⟨_,(Ac (K:=K) (Ai (i:=2) Bu.nd rfl (Or.inl rfl) Ad)
  (Ac (K:=K) (Ai (i:=3) Bu.nd rfl (Or.inl rfl) Ad)
  (Ac (K:=K) (BE (K:=K) PassesOwn.never rfl (Ol K rfl RE (pv 0)) (Av (i:=4) Bu.nd rfl (Or.inl rfl)) (Ac (K:=K) (Ai (i:=2) Bu.nd rfl (Or.inl rfl) (Aj AJ (Aj Aq (pv 2) (Al (ixT K) (pv 1) Ad (fun u v=>rfl))) (Aj Aq (pv 4) (pv 3))))
  (Ah (Ai (i:=3) Bu.nd rfl (Or.inl rfl) (Aj Aq (pv 3) (Al (ixT K) (pv 1) Ad (fun u v=>rfl))))) (by rfl)) (by rfl))
  (Ah (Ax (AG (Aa (Aj Aq (pv 2) (Al (ixT K) (pv 1) Ad (fun u v=>rfl))) (Aa (pv 3) Ab))))) (by rfl)) (by rfl)) (by rfl)),?_⟩
 obtain ⟨l,rx,ts,x,m,n,rfl,hS,⟨_,erx,hx⟩,hB,hbx,hz,q⟩:=h
 cases erx
 have tl : (ts.map V.int).length = ts.length:=Ug _
 have hz2 : m + n * ts.length + 4 * n + ts.length + 4 ≤ 100000000:=by
  have e : (n + 1) * (ts.length + 4) = n * ts.length + 4 * n + ts.length + 4:=by rw [Vh,Vq]; lia
  lia
 have P2 : 2 ≤ sizeLine:=by decide
 refine ⟨_,rfl,_,rfl,l,_,rfl,hS,?_⟩
 refine Kt (L7 H l rx x ts m n fun H l rx x ts m n i σ H'=>H' = H ∧ ∃ (h s : Int) (z : Option V),σ = [some (.ref l),some (.ref rx),some (.int h),some (.int s),z] ∧ s = (x.den : Int) ^ i ∧ s ≠ 0 ∧
  (h : Rat) * ((x.den : Int) : Rat) = Cv.evI (ts.drop (ts.length - i)) x * (s : Rat) ∧ Bd (m + n * i + i + 2) h ∧ Bd (n * i + 1) s)
  ⟨rfl,0,1,none,rfl,rfl,by decide,?_,?_,?_⟩ (fun i σ H' _ p=>by rw [p.1]; exact hS) ?_ ?_
 ·rw [Vn,List.drop_eq_nil_of_le (TL _)]
  show ((0 : Int) : Rat) * _ = 0 * _
  rw [VP]; grind
 ·exact (show Bd 1 0 by unfold Bd; decide).mono (by lia)
 ·exact (show Bd 1 1 by unfold Bd; decide).mono (by lia)
 ·rintro i v σ H' hi hv hR1
  refine BZ hR1 fun hq97 hz99=>?_
  refine DD hz99 fun h s z hz99'=>?_
  clear hz99
  refine Es hz99' fun hq98 es hs0 he hbh hbs=>?_
  clear hz99'
  obtain rfl:=hq97
  obtain rfl:=hq98
  try clear hR1
  rw [tl] at hi hv
  have hj : ts.length - 1 - i < ts.length:=by lia
  have htq : ts[ts.length - 1 - i]? = some ts[ts.length - 1 - i]:=V9 hj
  have htm : ts[ts.length - 1 - i] ∈ ts:=Va hj
  rw [Uc,htq] at hv
  cases hv
  generalize ts[ts.length - 1 - i] = t at htq htm
  have bt:=hB _ htm
  have hni : n * i ≤ n * ts.length:=Wf n (by lia)
  have hni1 : n * (i + 1) = n * i + n:=by rw [Vq,Nat.mul_one]
  refine ⟨_,rfl,_,rfl,rx,_,_,_,rfl,rfl,hx,rfl,_,_,rfl,rfl,Bq.bd hbh hbx.1 (by lia),_,rfl,_,rfl,_,_,rfl,rfl,Bq.bd bt hbs (by lia),_,_,rfl,rfl,?_⟩
  refine ⟨_,rfl,_,rfl,rx,_,_,_,rfl,rfl,hx,rfl,_,_,rfl,rfl,Bq.bd hbs hbx.2 (by lia),⟨rfl,_,_,_,rfl,?_,UL hs0 (Nm.den_ne x),?_,?_,?_⟩⟩
  ·rw [es,Vp]
  ·rw [O3 rfl hi htq,Cv.evI_cons,UM,UN,UN,UN,Nm.num_mul x]
   grind
  ·have b1:=hbh.mul hbx.1
   have b2:=bt.mul hbs
   exact (Bd.add (b1.mono (n:=m + n * i + i + 2 + n) (by lia)) (b2.mono (by lia))).mono (by lia)
  ·exact (hbs.mul hbx.2).mono (by lia)
 ·rintro σ H' hR2
  refine BZ hR2 fun hq100 hz102=>?_
  refine DD hz102 fun h s z hz102'=>?_
  clear hz102
  refine Es hz102' fun hq101 es hs0 he hbh hbs=>?_
  clear hz102'
  obtain rfl:=hq100
  obtain rfl:=hq101
  try clear hR2
  rw [tl] at es he hbh hbs
  rw [VJ,Vm] at he
  refine ⟨_,rfl,_,rfl,rx,_,_,_,rfl,rfl,hx,rfl,_,_,rfl,rfl,Bq.bd hbh hbx.2 (by lia),_,rfl,P2,fun p hp=>?_⟩
  exact q _ _ p es hs0 (by rw [UN]; exact he) ((hbh.mul hbx.2).mono (by rw [Vh,Vq]; lia)) hbs hp
theorem Dj : Ar ["curve","x","bottom","told"] ["curve","x"] (Af (top 27)):=⟨rfl,rfl,rfl,by decide +kernel,rfl,by decide +kernel,by decide +kernel⟩
theorem HM {f : Addr} {fd : FuncData} (F : Fun K "height_at" "height_at" (top 27) f fd) (Rp : Fd P w K mg base 34 "bottom_of" ["numbers"] (E4 K)) (SD : Fd P w K mg base 33 "whole_height" ["tops","x"] (OQ K)) (Rr : Fd P w K mg base 34 "number_of" ["top","bottom"] (Cr)) (Rq : Fd P w K mg base 33 "tops_over" ["numbers","bottom"] (Dh K)) (hT : P.given.tree = none) :
 AN P w K mg base CX0 35 f fd ["curve","x"] (E3 K):=by
 refine F.ok Dj (fun vs H Q E h=>?_) (fun cdv A outer s H vs Q E hr h=>?_)
 ·obtain ⟨_,_,_,_,_,rfl,_⟩:=h; rfl
 refine ⟨_,(Ac (K:=K) (Ai (i:=2) Dj.nd rfl (Or.inl rfl) (Am Rp hr rfl (Aa (pv 0) Ab)))
  (Ac (K:=K) (Ai (i:=3) Dj.nd rfl (Or.inl rfl) (Am SD hr rfl (Aa (Am Rq hr rfl (Aa (pv 0) (Aa (pv 2) Ab))) (Aa (pv 1) Ab))))
  (Ah (Ax (Am Rr hr rfl (Aa (Al (ixT K) (pv 3) Ad (fun u v=>rfl)) (Aa (Aj Aq (pv 2) (Al (ixT K) (pv 3) Ad (fun u v=>rfl))) Ab))))) (by rfl)) (by rfl)),?_⟩
 obtain ⟨r,rx,qs,x,n,rfl,⟨xs,hS,hn⟩,⟨_,erx,hx⟩,hB,hbx,hz,h1000,q⟩:=h
 cases erx
 have hl:=hn.length
 have hsq : (qs.length + 4) ≤ (qs.length + 4) * (qs.length + 4):=Nat.le_mul_of_pos_left _ (by lia)
 have hz1 : (n + 1) * (qs.length + 4) ≤ 30000000:=Tr (Wf _ hsq) hz
 have hz2 : n * qs.length + 4 * n + qs.length + 4 ≤ 30000000:=by
  have e : (n + 1) * (qs.length + 4) = n * qs.length + 4 * n + qs.length + 4:=by rw [Vh,Vq]; lia
  lia
 refine ⟨_,rfl,false,r,xs,qs,n,rfl,hS,hn,(fun q hq=>(hB q hq).2),by rw [Vq]; lia,fun B hB0 hdv hbB=>?_⟩
 refine ⟨_,rfl,_,rfl,false,r,xs,qs,B,n * qs.length + 1,n,rfl,hS,hn,hbB,(fun q hq=>(hB q hq).1),by lia,h1000,fun l hl0=>?_⟩
 have tl : (qs.map (As B)).length = qs.length:=Ug _
 have hx1 : SqT K (upd H l (.lst ((qs.map (As B)).map V.int))) rx [.int x.num,.int x.den]:=SqT.same hx (Ag.new hl0)
 have tB : ∀ t ∈ qs.map (As B),Bd (n * qs.length + n + 1) t:=fun t ht=>by
  obtain ⟨c,hc,rfl⟩:=(VX.mp ht)
  exact ((hB c hc).1.mul (hbB.fdiv (y:=c.den))).mono (by lia)
 refine ⟨_,rfl,l,rx,qs.map (As B),x,n * qs.length + n + 1,n,rfl,SqL.of Ae,⟨rx,rfl,hx1⟩,tB,hbx,by rw [tl]; lia,fun h s p es hs0 he hbh hbs hp=>?_⟩
 rw [tl] at hbs
 have ep : SqT K (upd (upd H l (.lst ((qs.map (As B)).map V.int))) p (.tup [.int h,.int s])) p [.int h,.int s]:=SqT.of Ae
 have hb0 : B * s ≠ 0:=UL (by lia) hs0
 refine ⟨_,rfl,p,_,_,_,rfl,rfl,ep,rfl,_,rfl,_,rfl,p,_,_,_,rfl,rfl,ep,rfl,_,_,rfl,rfl,Bq.bd hbB hbs (by lia),_,_,rfl,hb0,fun u hu=>?_⟩
 have ev:=DG hdv x
 have e : UE h (B * s) = Cv.ev qs x:=Nm.div_eq hb0 (by
  have he' : (h : Rat) = Cv.ev ((qs.map (As B)).map fun t : Int=>(t : Rat)) x * (s : Rat):=he
  rw [he',ev,UN]; grind)
 refine q u _ (((Ag.new hl0).trans (Ag.new hp)).trans (Ag.new hu)) ?_
 rw [← e]; exact Ae
theorem BU : Ar ["curve","low","high","pieces","ends","at_ends"] ["curve","low","high"] (Af (top 48)):=⟨rfl,rfl,rfl,by decide +kernel,rfl,by decide +kernel,by decide +kernel⟩
theorem DT {f : Addr} {fd : FuncData} (F : Fun K "noughts_of" "noughts_of" (top 48) f fd) (Se : Fd P w K mg base 38 "pieces_of" ["curve","low","high"] ((fun _ _ _ _=>False : Sp))) (Sf : Fd P w K mg base 35 "height_at" ["curve","x"] (E3 K)) (Rl : mg "len" = none) (RF : mg "sum" = none) {a_NOUGHT : Addr} (c_NOUGHT : mg "NOUGHT" = some (.ref a_NOUGHT)) (n_NOUGHT : ∀ H : Hp,AA K H (.ref a_NOUGHT) (0)) (hT : P.given.tree = none) :
 AN P w K mg base CX0 39 f fd ["curve","low","high"] ((fun _ _ _ _=>False : Sp)):=F.ok BU (fun vs H Q E h=>False.elim h) (fun cdv A outer s H vs Q E hr h=>False.elim h)
theorem FJ {f : Addr} {fd : FuncData} (F : Fun K "noughts_of" "noughts_of" (top 48) f fd) {a_TooDeep : Addr} (Y_pieces_of : FdY P w K mg base 38 "pieces_of" ["curve","low","high"] (fun vs H Q E=>((fun _ _ _ _=>False : Sp) : Sp) vs H Q E ∨ (Cb K a_TooDeep : Sp) vs H Q E)) (Se : Fd P w K mg base 38 "pieces_of" ["curve","low","high"] ((fun _ _ _ _=>False : Sp))) (Sf : Fd P w K mg base 35 "height_at" ["curve","x"] (E3 K)) (Rl : mg "len" = none) (RF : mg "sum" = none) {a_NOUGHT : Addr} (c_NOUGHT : mg "NOUGHT" = some (.ref a_NOUGHT)) (n_NOUGHT : ∀ H : Hp,AA K H (.ref a_NOUGHT) (0)) (hT : P.given.tree = none) :
 AN P w K mg base (CX2 P w) 39 f fd ["curve","low","high"] (EA K a_TooDeep):=by
 refine F.okY BU (fun vs H Q E h=>?_) (fun cdv A outer s H vs Q E hr h=>?_)
 ·obtain ⟨_,_,_,_,_,_,_,_,rfl,_⟩:=h; rfl
 refine ⟨_,(Ac (K:=K) (Ai (i:=3) BU.nd rfl (Or.inl rfl) (Mr Y_pieces_of hr rfl Om (Aa (pv 0) (Aa (pv 1) (Aa (pv 2) Ab)))))
  (Ac (K:=K) (Ai (i:=4) BU.nd rfl (Or.inl rfl) (Aj Dz (Be (Aa (pv 1) Ab)) (Ct rfl (N:=["piece"]) (nt:=1) (js:=[]) (Bf.look (NX:=["curve","low","high","pieces","ends","at_ends"]) (sc:=Af (top 48)) rfl rfl (by decide +kernel)) (piL K (pv 3)) (fun u1 u2 u3 u4 u5=>(Av (i:=0) (show List.Nodup (["piece"] : List Str) from by decide +kernel) rfl (Or.inl rfl))) (AI (by decide)) (fun u1 u2 u3 u4 u5=>BL) (fun u1 u2 u3 u4 u5=>(Al (ixT K) (pv 0) Ad (fun u v=>rfl))))))
  (Ac (K:=K) (Mo (i:=5) rfl BU.nd rfl rfl (N:=["end","curve"]) (nt:=1) (js:=[0]) (Bf.look (NX:=["curve","low","high","pieces","ends","at_ends"]) (sc:=Af (top 48)) rfl rfl (by decide +kernel)) (piL K (pv 4)) (fun u1 u2 u3 u4 u5=>(Av (i:=0) (show List.Nodup (["end","curve"] : List Str) from by decide +kernel) rfl (Or.inl rfl))) (AI (by decide)) (fun u1 u2 u3 u4 u5=>DI (Au (eqD K hr.units) (Am Sf hr rfl (Aa (pv 1) (Aa (pv 0) Ab))) (BF (v:=.ref a_NOUGHT) rfl c_NOUGHT rfl) (Ay _))) (fun u1 u2 u3 u4 u5=>(pv 0)) rfl)
  (Ah (Ax (Aj AJ (Ak (Bt K) rfl Rl AF (Aa (pv 5) Ab)) (Ak (LL rfl) rfl RF Q5 (Aa (Ct rfl (N:=["piece"]) (nt:=1) (js:=[]) (Bf.look (NX:=["curve","low","high","pieces","ends","at_ends"]) (sc:=Af (top 48)) rfl rfl (by decide +kernel)) (piL K (pv 3)) (fun u1 u2 u3 u4 u5=>(Av (i:=0) (show List.Nodup (["piece"] : List Str) from by decide +kernel) rfl (Or.inl rfl))) (AI (by decide)) (fun u1 u2 u3 u4 u5=>BL) (fun u1 u2 u3 u4 u5=>(Al (ixT K) (pv 0) Ad (fun u v=>rfl)))) Ab))))) (by rfl)) (by rfl)) (by rfl)),?_⟩
 obtain ⟨r,rl,rh,fs,ls,xs,lo,hi,rfl,hc,kf,hlo,hhi,hlt,blo,bhi,q1,q2⟩:=h
 have P1 : 1 ≤ sizeLine:=by decide
 have l5:=kf.l5
 have hle:=kf.le
 have b9:=GO fs.length
 have b8:=Ot fs.length
 refine ⟨_,rfl,_,rfl,_,rfl,.inr ⟨r,rl,rh,fs,ls,lo,hi,lb fs.length,rfl,hc,kf.gf,kf.nf,kf.bf,by lia,by lia,by lia,kf.hl,kf.b100,by lia,hlo,hhi,hlt,blo,bhi,fun ps p H1 ys e s1 hp ep hps=>?_,fun H1 e s1=>q2 H1 e s1⟩⟩
 obtain ⟨D,d0,d1,y1,y2⟩:=Dy.start blo bhi
 have hrb:=HF d0 d1 16 0 lo hi ps (by decide) y1 y2 e
 have hpl:=(Fm ls 16 lo hi ps e).2
 have hyl:=hps.length
 refine ⟨_,rfl,P1,fun la hla=>?_⟩
 have s2:=Ag.new (o:=.lst [.ref rl]) hla
 refine Ca ⟨_,rfl,p,rfl,⟨_,SqL.of (s2 _ _ ep)⟩,?_⟩
 have hps0:=Pcs.same hps s2
 have ep0:=s2 _ _ ep
 have ela:=Ae (H:=H1) (a:=la) (o:=.lst [.ref rl])
 have s12:=s1.trans s2
 generalize upd H1 la (.lst [.ref rl]) = G0 at hps0 ep0 ela s12 ⊢
 refine DW (xs:=ys) (fun i zs H'=>H' = G0 ∧ AS K G0 zs ((ps.take i).map fun t=>t.2.1) ∧ zs.length = i) ⟨rfl,.nil,rfl⟩ (fun i zs H' hi h=>⟨by rw [h.1]; exact SqL.of ep0,h.2.2⟩) (Tr (show ys.length ≤ 300000 by lia) (by decide)) ?_ ?_
 ·rintro i v zs H' hv ⟨rfl,hz,hzl⟩
  obtain ⟨t,ht,pp,ra,rb,rfl,hS,na,nb⟩:=Paired.get hps0 hv
  refine ⟨_,rfl,pp,_,_,_,rfl,rfl,hS,AR (j:=1) rfl,rfl,?_,by rw [Ue,hzl]; rfl⟩
  rw [UT,ht]
  show AS K _ _ ((ps.take i ++ [t]).map fun t=>t.2.1)
  rw [UU]
  exact Paired.snoc hz nb
 rintro zs H' ⟨rfl,hz,hzl⟩ p2 hp2
 rw [hyl,UW] at hz
 have s3:=Ag.new (o:=.lst zs) hp2
 refine ⟨la,p2,[.ref rl],zs,rfl,rfl,s3 _ _ ela,Ae,Tr (show _ ≤ 300000 by rw [Ut]; lia) (by decide),fun en hen=>?_⟩
 have s4:=s3.trans (Ag.new (o:=.lst ([.ref rl] ++ zs)) hen)
 have een:=Ae (H:=upd H' p2 (.lst zs)) (a:=en) (o:=.lst ([.ref rl] ++ zs))
 have hes : AS K (upd (upd H' p2 (.lst zs)) en (.lst ([.ref rl] ++ zs))) ([.ref rl] ++ zs) (lo :: ps.map fun t=>t.2.1):=.cons ((hlo.same s12).same s4) (AS.same hz s4)
 have s14:=s12.trans s4
 have hps4:=Pcs.same hps0 s4
 have ep4:=s4 _ _ ep0
 generalize upd (upd H' p2 (.lst zs)) en (.lst ([.ref rl] ++ zs)) = G1 at een hes s14 hps4 ep4 ⊢
 have hbe : ∀ e ∈ (lo :: ps.map fun t=>t.2.1),RB 809 e:=fun e he=>by
  rcases Tw.mp he with z | z
  ·rw [z]; exact blo.mono (by decide)
  ·obtain ⟨t,ht,rfl⟩:=VX.mp z
   exact (hrb t ht).2.mono (by decide)
 have hel : (lo :: ps.map fun t=>t.2.1).length = ps.length + 1:=by rw [UA,Ug]
 have hcnt : Ep xs (lo :: ps.map fun t=>t.2.1) = C9 xs lo + Dq xs ps:=by show C9 xs lo + _ = _; rw [KH]
 generalize (lo :: ps.map fun t=>t.2.1) = es at hes hbe hel hcnt
 generalize ([V.ref rl] ++ zs) = us at een hes
 have hul:=hes.length
 have hsz : (809 + 1) * ((fs.length + 4) * (fs.length + 4)) ≤ 810 * (9 * 9):=Wf _ (VU (by lia) (by lia))
 refine Ca ⟨_,rfl,en,rfl,⟨_,SqL.of een⟩,?_⟩
 refine Kl (xs:=us) (fun i zs' H'=>Ag G1 H' ∧ zs'.length = Ep xs (es.take i)) ⟨Ag.refl _,rfl⟩ (fun i zs' H' hi h=>⟨SqL.of (h.1 _ _ een),by rw [h.2]; exact Tr (KG xs _) (by rw [U8]; lia)⟩) (Tr (show us.length ≤ 300000 by lia) (by decide)) ?_ ?_
 ·rintro i v zs' H' hv ⟨sg,hzc⟩
  obtain ⟨x,hx,rx,rfl,hrx⟩:=Paired.get hes hv
  have nx : AA K H' (.ref rx) x:=⟨rx,rfl,hrx.same sg⟩
  have e1 : es.take (i + 1) = es.take i ++ [x]:=by rw [UT,hx]; rfl
  refine ⟨_,rfl,_,rfl,r,rx,fs,x,809,rfl,(hc.same s14).same sg,nx,(fun q hq=>(kf.bf q hq).mono (by lia)),hbe x (Ud hx),by lia,by lia,fun t G' s' et=>?_⟩
  refine eqN (AA.of et) (n_NOUGHT _) ?_
  refine ⟨_,rfl,?_⟩
  have ha:=kf.at0 x
  by_cases hin : x ∈ xs
  ·rw [decide_eq_true hin] at ha
   rw [ha]
   refine Gw ⟨_,rfl,sg.trans s',?_⟩
   rw [e1,Je,Ue,hzc]
   show _ = _ + (C9 xs x + 0)
   unfold C9
   rw [if_pos hin]; rfl
  ·rw [decide_eq_false hin] at ha
   rw [ha]
   refine CN ⟨sg.trans s',?_⟩
   rw [e1,Je,hzc]
   show _ = _ + (C9 xs x + 0)
   unfold C9
   rw [if_neg hin]
   rfl
 rintro zs' H2 ⟨sg,hzc⟩ ae hae
 rw [hul,UW,hcnt] at hzc
 have s5:=sg.trans (Ag.new (o:=.lst zs') hae)
 have eae:=Ae (H:=H2) (a:=ae) (o:=.lst zs')
 generalize upd H2 ae (.lst zs') = G2 at s5 eae ⊢
 refine ⟨_,rfl,ae,zs',rfl,.inl (SqL.of eae),?_⟩
 have ep5:=s5 _ _ ep4
 have hps5:=Pcs.same hps4 s5
 refine Ca ⟨_,rfl,p,rfl,⟨_,SqL.of ep5⟩,?_⟩
 refine DW (xs:=ys) (fun i zs H'=>H' = G2 ∧ zs = ((ps.take i).map fun t=>((t.2.2 : Nat) : Int)).map V.int ∧ zs.length = i) ⟨rfl,rfl,rfl⟩ (fun i zs H' hi h=>⟨by rw [h.1]; exact SqL.of ep5,h.2.2⟩) (Tr (show ys.length ≤ 300000 by lia) (by decide)) ?_ ?_
 ·rintro i v zs H' hv ⟨rfl,hz,hzl⟩
  obtain ⟨t,ht,pp,ra,rb,rfl,hS,na,nb⟩:=Paired.get hps5 hv
  refine ⟨_,rfl,pp,_,_,_,rfl,rfl,hS,AR (j:=2) rfl,rfl,?_,by rw [Ue,hzl]; rfl⟩
  rw [UT,ht,hz]
  show _ = ((ps.take i ++ [t]).map fun t=>((t.2.2 : Nat) : Int)).map V.int
  rw [UU,UU]
  rfl
 rintro zs H' ⟨rfl,hz,hzl⟩ sl hsl
 rw [hyl,UW] at hz
 refine ⟨sl,ps.map fun t=>((t.2.2 : Nat) : Int),rfl,by rw [Ae,hz],_,_,rfl,rfl,?_⟩
 rw [M5,hzc]
 have:=q1 ps _ e (s14.trans (s5.trans (Ag.new (o:=.lst zs) hsl)))
 rw [show ((C9 xs lo + Dq xs ps : Nat) : Int) + ((Dp ps : Nat) : Int) = ((C9 xs lo + Dq xs ps + Dp ps : Nat) : Int) by lia]
 exact this
theorem Bl : Ar ["_law_caught","_law_some","_law_found"] ["_law_caught"] (Af (top 62)):=⟨rfl,rfl,rfl,by decide +kernel,rfl,by decide +kernel,by decide +kernel⟩
theorem EK {f : Addr} {fd : FuncData} (F : Fun K "_law_refusal" "_law_refusal" (top 62) f fd) {a_TooMany a_NoPoints a_NoPoint a_NoNumber a_NoCurve a_NoStretch a_TooDeep a_TooFew a_NoText a_NoRow : Addr} (c_TooMany : mg "TooMany" = some (.ref a_TooMany)) (c_NoPoints : mg "NoPoints" = some (.ref a_NoPoints)) (c_NoPoint : mg "NoPoint" = some (.ref a_NoPoint)) (c_NoNumber : mg "NoNumber" = some (.ref a_NoNumber)) (c_NoCurve : mg "NoCurve" = some (.ref a_NoCurve)) (c_NoStretch : mg "NoStretch" = some (.ref a_NoStretch)) (c_TooDeep : mg "TooDeep" = some (.ref a_TooDeep)) (c_TooFew : mg "TooFew" = some (.ref a_TooFew)) (c_NoText : mg "NoText" = some (.ref a_NoText)) (c_NoRow : mg "NoRow" = some (.ref a_NoRow)) (Ro : mg "isinstance" = none) (Rl : mg "len" = none) (RS : mg "ValueError" = none) (hT : P.given.tree = none) :
 FnH P w K mg base 33 f fd "_law_caught" (Jz K [a_TooMany,a_NoPoints,a_NoPoint,a_NoNumber,a_NoCurve,a_NoStretch,a_TooDeep,a_TooFew,a_NoText,a_NoRow]):=by
 refine F.okH Bl (fun cdv A outer s H ea oe Q hr hx h=>?_)
 refine ⟨_,(Ac (K:=K) (Ai (i:=1) Bl.nd rfl (Or.inl rfl) (Be (Aa (AG (Aa C5 (Aa (Ak (FT K hx) rfl Ro AH (Aa (pv 0) (Aa (BF (v:=.ref a_TooMany) rfl c_TooMany rfl) Ab))) Ab))) (Aa (AG (Aa C5 (Aa (Ak (FT K hx) rfl Ro AH (Aa (pv 0) (Aa (BF (v:=.ref a_NoPoints) rfl c_NoPoints rfl) Ab))) Ab))) Ab))))
  (Ac (K:=K) (Ai (i:=1) Bl.nd rfl (Or.inl rfl) (Aj Dz (pv 1) (Be (Aa (AG (Aa C5 (Aa (Ak (FT K hx) rfl Ro AH (Aa (pv 0) (Aa (BF (v:=.ref a_NoPoint) rfl c_NoPoint rfl) Ab))) Ab))) (Aa (AG (Aa C5 (Aa (Ak (FT K hx) rfl Ro AH (Aa (pv 0) (Aa (BF (v:=.ref a_NoNumber) rfl c_NoNumber rfl) Ab))) Ab))) Ab)))))
  (Ac (K:=K) (Ai (i:=1) Bl.nd rfl (Or.inl rfl) (Aj Dz (pv 1) (Be (Aa (AG (Aa C5 (Aa (Ak (FT K hx) rfl Ro AH (Aa (pv 0) (Aa (BF (v:=.ref a_NoCurve) rfl c_NoCurve rfl) Ab))) Ab))) (Aa (AG (Aa C5 (Aa (Ak (FT K hx) rfl Ro AH (Aa (pv 0) (Aa (BF (v:=.ref a_NoStretch) rfl c_NoStretch rfl) Ab))) Ab))) Ab)))))
  (Ac (K:=K) (Ai (i:=1) Bl.nd rfl (Or.inl rfl) (Aj Dz (pv 1) (Be (Aa (AG (Aa C5 (Aa (Ak (FT K hx) rfl Ro AH (Aa (pv 0) (Aa (BF (v:=.ref a_TooDeep) rfl c_TooDeep rfl) Ab))) Ab))) (Aa (AG (Aa C5 (Aa (Ak (FT K hx) rfl Ro AH (Aa (pv 0) (Aa (BF (v:=.ref a_TooFew) rfl c_TooFew rfl) Ab))) Ab))) Ab)))))
  (Ac (K:=K) (Ai (i:=1) Bl.nd rfl (Or.inl rfl) (Aj Dz (pv 1) (Be (Aa (AG (Aa C5 (Aa (Ak (FT K hx) rfl Ro AH (Aa (pv 0) (Aa (BF (v:=.ref a_NoText) rfl c_NoText rfl) Ab))) Ab))) (Aa (AG (Aa C5 (Aa (Ak (FT K hx) rfl Ro AH (Aa (pv 0) (Aa (BF (v:=.ref a_NoRow) rfl c_NoRow rfl) Ab))) Ab))) Ab)))))
  (Ac (K:=K) (P5 (K:=K) hx (i:=2) Bl.nd rfl rfl (N:=["_law_word","_law_one"]) (nt:=2) (js:=[]) (Bf.look (NX:=["_law_caught","_law_some","_law_found"]) (sc:=Af (top 62)) rfl rfl (by decide +kernel)) (pv 1) (fun u1 u2 u3 u4 u5 hxx=>(R7 (K:=K) (n:=2) hxx (Bw (Av (i:=0) (show List.Nodup (["_law_word","_law_one"] : List Str) from by decide +kernel) rfl (Or.inl rfl)) (Bw (Av (i:=1) (show List.Nodup (["_law_word","_law_one"] : List Str) from by decide +kernel) rfl (Or.inl rfl)) DJ)))) (La (ET (by decide) (ET (by decide) Jy))) (fun u1 u2 u3 u4 u5=>DI (CT (pv 1))) (fun u1 u2 u3 u4 u5=>(pv 0)) rfl)
  (Ac (K:=K) (AV (K:=K) (PW.pt (Kb (Au GJ (Ak (Bt K) rfl Rl AF (Aa (pv 2) Ab)) Ad (Ay _)) (HD (EF (CT (Ak (FT K hx) rfl Ro AH (Aa (pv 0) (Aa (Fl (v:=.ty "ValueError") rfl RS GB rfl) Ab)))))))) (Ah (Ax C5)) AL (by rfl) (by rfl))
  (Ah (Ax (Al (ixL K) (pv 2) Ad (fun u v=>rfl)))) (by rfl)) (by rfl)) (by rfl)) (by rfl)) (by rfl)) (by rfl)) (by rfl)),?_⟩
 obtain ⟨D,n,w,hD,R,hw,q⟩:=h
 have P2 : 2 ≤ sizeLine:=by decide
 have P10 : 10 ≤ sizeLine:=by decide
 refine ⟨_,rfl,D,_,_,_,hD,R.ty,rfl,rfl,R.of 0 _ rfl,P2,fun p0 h1=>?_⟩
 have s1 : Ag H (upd H p0 (.tup [.str "many",.bl (0 == n)])):=Ag.new h1
 have w1 : WB K (upd H p0 (.tup [.str "many",.bl (0 == n)])) (.ref p0) ("many",(0 == n)):=⟨p0,rfl,SqT.of Ae⟩
 generalize upd H p0 (.tup [.str "many",.bl (0 == n)]) = A0 at s1 w1 ⊢
 refine ⟨_,rfl,D,_,_,_,hD,R.ty,rfl,rfl,R.of 1 _ rfl,P2,fun u0 h2=>?_⟩
 have s2 : Ag A0 (upd A0 u0 (.tup [.str "points",.bl (1 == n)])):=Ag.new h2
 have w2 : WB K (upd A0 u0 (.tup [.str "points",.bl (1 == n)])) (.ref u0) ("points",(1 == n)):=⟨u0,rfl,SqT.of Ae⟩
 have w1:=w1.same s2
 have s2:=s1.trans s2
 generalize upd A0 u0 (.tup [.str "points",.bl (1 == n)]) = B0 at s2 w1 w2 ⊢
 refine ⟨P2,fun b0 hl=>?_⟩
 have s3 : Ag B0 (upd B0 b0 (.lst [.ref p0,.ref u0])):=Ag.new hl
 have eb : upd B0 b0 (.lst [.ref p0,.ref u0]) b0 = some (.lst [.ref p0,.ref u0]):=Ae
 have w1:=w1.same s3
 have w2:=w2.same s3
 have sT:=s2.trans s3
 generalize upd B0 b0 (.lst [.ref p0,.ref u0]) = C0 at sT eb w1 w2 ⊢
 clear s1 s2 s3 h1 h2 hl
 have l0:=b0
 have S0:=sT
 have el0:=eb
 have hn0 : [V.ref p0,V.ref u0].length = 2:=rfl
 have wS0 : Paired (WB K C0) [.ref p0,.ref u0] [("many",(0 == n)),("points",(1 == n))]:=.cons w1 (.cons w2 .nil)
 generalize [V.ref p0,V.ref u0] = xs0 at el0 wS0 hn0
 clear sT eb w1 w2
 refine ⟨_,rfl,_,rfl,D,_,_,_,hD,R.ty,rfl,rfl,R.of 2 _ rfl,P2,fun p1 h1=>?_⟩
 have s1 : Ag C0 (upd C0 p1 (.tup [.str "point",.bl (2 == n)])):=Ag.new h1
 have w1 : WB K (upd C0 p1 (.tup [.str "point",.bl (2 == n)])) (.ref p1) ("point",(2 == n)):=⟨p1,rfl,SqT.of Ae⟩
 generalize upd C0 p1 (.tup [.str "point",.bl (2 == n)]) = A1 at s1 w1 ⊢
 refine ⟨_,rfl,D,_,_,_,hD,R.ty,rfl,rfl,R.of 3 _ rfl,P2,fun u1 h2=>?_⟩
 have s2 : Ag A1 (upd A1 u1 (.tup [.str "number",.bl (3 == n)])):=Ag.new h2
 have w2 : WB K (upd A1 u1 (.tup [.str "number",.bl (3 == n)])) (.ref u1) ("number",(3 == n)):=⟨u1,rfl,SqT.of Ae⟩
 have w1:=w1.same s2
 have s2:=s1.trans s2
 generalize upd A1 u1 (.tup [.str "number",.bl (3 == n)]) = B1 at s2 w1 w2 ⊢
 refine ⟨P2,fun b1 hl=>?_⟩
 have s3 : Ag B1 (upd B1 b1 (.lst [.ref p1,.ref u1])):=Ag.new hl
 have eb : upd B1 b1 (.lst [.ref p1,.ref u1]) b1 = some (.lst [.ref p1,.ref u1]):=Ae
 have w1:=w1.same s3
 have w2:=w2.same s3
 have sT:=s2.trans s3
 generalize upd B1 b1 (.lst [.ref p1,.ref u1]) = C1 at sT eb w1 w2 ⊢
 clear s1 s2 s3 h1 h2 hl
 have wS:=WBs.snoc (WBs.same wS0 sT) w1 w2
 have ST:=S0.trans sT
 refine ⟨b0,b1,xs0,_,rfl,rfl,sT _ _ el0,eb,by rw [hn0]; exact (show 2 + 2 ≤ sizeLine by decide),fun l1 hl=>?_⟩
 have s4 : Ag C1 (upd C1 l1 (.lst (xs0 ++ [.ref p1,.ref u1]))):=Ag.new hl
 have el1 : upd C1 l1 (.lst (xs0 ++ [.ref p1,.ref u1])) l1 = some (.lst (xs0 ++ [.ref p1,.ref u1])):=Ae
 have wS1 : Paired (WB K (upd C1 l1 (.lst (xs0 ++ [.ref p1,.ref u1])))) _ [("many",(0 == n)),("points",(1 == n)),("point",(2 == n)),("number",(3 == n))]:=WBs.same wS s4
 have S1:=ST.trans s4
 have hn1 : (xs0 ++ [V.ref p1,V.ref u1]).length = 2 + 2:=by rw [Ue,hn0]; rfl
 generalize upd C1 l1 (.lst (xs0 ++ [.ref p1,.ref u1])) = D1 at S1 el1 wS1 ⊢
 generalize xs0 ++ [V.ref p1,V.ref u1] = xs1 at el1 wS1 hn1
 clear wS sT ST S0 eb w1 w2 s4 hl wS0 el0 hn0
 refine ⟨_,rfl,_,rfl,D,_,_,_,hD,R.ty,rfl,rfl,R.of 4 _ rfl,P2,fun p2 h1=>?_⟩
 have s1 : Ag D1 (upd D1 p2 (.tup [.str "curve",.bl (4 == n)])):=Ag.new h1
 have w1 : WB K (upd D1 p2 (.tup [.str "curve",.bl (4 == n)])) (.ref p2) ("curve",(4 == n)):=⟨p2,rfl,SqT.of Ae⟩
 generalize upd D1 p2 (.tup [.str "curve",.bl (4 == n)]) = A2 at s1 w1 ⊢
 refine ⟨_,rfl,D,_,_,_,hD,R.ty,rfl,rfl,R.of 5 _ rfl,P2,fun u2 h2=>?_⟩
 have s2 : Ag A2 (upd A2 u2 (.tup [.str "stretch",.bl (5 == n)])):=Ag.new h2
 have w2 : WB K (upd A2 u2 (.tup [.str "stretch",.bl (5 == n)])) (.ref u2) ("stretch",(5 == n)):=⟨u2,rfl,SqT.of Ae⟩
 have w1:=w1.same s2
 have s2:=s1.trans s2
 generalize upd A2 u2 (.tup [.str "stretch",.bl (5 == n)]) = B2 at s2 w1 w2 ⊢
 refine ⟨P2,fun b2 hl=>?_⟩
 have s3 : Ag B2 (upd B2 b2 (.lst [.ref p2,.ref u2])):=Ag.new hl
 have eb : upd B2 b2 (.lst [.ref p2,.ref u2]) b2 = some (.lst [.ref p2,.ref u2]):=Ae
 have w1:=w1.same s3
 have w2:=w2.same s3
 have sT:=s2.trans s3
 generalize upd B2 b2 (.lst [.ref p2,.ref u2]) = C2 at sT eb w1 w2 ⊢
 clear s1 s2 s3 h1 h2 hl
 have wS:=WBs.snoc (WBs.same wS1 sT) w1 w2
 have ST:=S1.trans sT
 refine ⟨l1,b2,xs1,_,rfl,rfl,sT _ _ el1,eb,by rw [hn1]; exact (show 4 + 2 ≤ sizeLine by decide),fun l2 hl=>?_⟩
 have s4 : Ag C2 (upd C2 l2 (.lst (xs1 ++ [.ref p2,.ref u2]))):=Ag.new hl
 have el2 : upd C2 l2 (.lst (xs1 ++ [.ref p2,.ref u2])) l2 = some (.lst (xs1 ++ [.ref p2,.ref u2])):=Ae
 have wS2 : Paired (WB K (upd C2 l2 (.lst (xs1 ++ [.ref p2,.ref u2])))) _ [("many",(0 == n)),("points",(1 == n)),("point",(2 == n)),("number",(3 == n)),("curve",(4 == n)),("stretch",(5 == n))]:=WBs.same wS s4
 have S2:=ST.trans s4
 have hn2 : (xs1 ++ [V.ref p2,V.ref u2]).length = 4 + 2:=by rw [Ue,hn1]; rfl
 generalize upd C2 l2 (.lst (xs1 ++ [.ref p2,.ref u2])) = D2 at S2 el2 wS2 ⊢
 generalize xs1 ++ [V.ref p2,V.ref u2] = xs2 at el2 wS2 hn2
 clear wS sT ST S1 eb w1 w2 s4 hl wS1 el1 hn1
 refine ⟨_,rfl,_,rfl,D,_,_,_,hD,R.ty,rfl,rfl,R.of 6 _ rfl,P2,fun p3 h1=>?_⟩
 have s1 : Ag D2 (upd D2 p3 (.tup [.str "deep",.bl (6 == n)])):=Ag.new h1
 have w1 : WB K (upd D2 p3 (.tup [.str "deep",.bl (6 == n)])) (.ref p3) ("deep",(6 == n)):=⟨p3,rfl,SqT.of Ae⟩
 generalize upd D2 p3 (.tup [.str "deep",.bl (6 == n)]) = A3 at s1 w1 ⊢
 refine ⟨_,rfl,D,_,_,_,hD,R.ty,rfl,rfl,R.of 7 _ rfl,P2,fun u3 h2=>?_⟩
 have s2 : Ag A3 (upd A3 u3 (.tup [.str "few",.bl (7 == n)])):=Ag.new h2
 have w2 : WB K (upd A3 u3 (.tup [.str "few",.bl (7 == n)])) (.ref u3) ("few",(7 == n)):=⟨u3,rfl,SqT.of Ae⟩
 have w1:=w1.same s2
 have s2:=s1.trans s2
 generalize upd A3 u3 (.tup [.str "few",.bl (7 == n)]) = B3 at s2 w1 w2 ⊢
 refine ⟨P2,fun b3 hl=>?_⟩
 have s3 : Ag B3 (upd B3 b3 (.lst [.ref p3,.ref u3])):=Ag.new hl
 have eb : upd B3 b3 (.lst [.ref p3,.ref u3]) b3 = some (.lst [.ref p3,.ref u3]):=Ae
 have w1:=w1.same s3
 have w2:=w2.same s3
 have sT:=s2.trans s3
 generalize upd B3 b3 (.lst [.ref p3,.ref u3]) = C3 at sT eb w1 w2 ⊢
 clear s1 s2 s3 h1 h2 hl
 have wS:=WBs.snoc (WBs.same wS2 sT) w1 w2
 have ST:=S2.trans sT
 refine ⟨l2,b3,xs2,_,rfl,rfl,sT _ _ el2,eb,by rw [hn2]; exact (show 6 + 2 ≤ sizeLine by decide),fun l3 hl=>?_⟩
 have s4 : Ag C3 (upd C3 l3 (.lst (xs2 ++ [.ref p3,.ref u3]))):=Ag.new hl
 have el3 : upd C3 l3 (.lst (xs2 ++ [.ref p3,.ref u3])) l3 = some (.lst (xs2 ++ [.ref p3,.ref u3])):=Ae
 have wS3 : Paired (WB K (upd C3 l3 (.lst (xs2 ++ [.ref p3,.ref u3])))) _ [("many",(0 == n)),("points",(1 == n)),("point",(2 == n)),("number",(3 == n)),("curve",(4 == n)),("stretch",(5 == n)),("deep",(6 == n)),("few",(7 == n))]:=WBs.same wS s4
 have S3:=ST.trans s4
 have hn3 : (xs2 ++ [V.ref p3,V.ref u3]).length = 6 + 2:=by rw [Ue,hn2]; rfl
 generalize upd C3 l3 (.lst (xs2 ++ [.ref p3,.ref u3])) = D3 at S3 el3 wS3 ⊢
 generalize xs2 ++ [V.ref p3,V.ref u3] = xs3 at el3 wS3 hn3
 clear wS sT ST S2 eb w1 w2 s4 hl wS2 el2 hn2
 refine ⟨_,rfl,_,rfl,D,_,_,_,hD,R.ty,rfl,rfl,R.of 8 _ rfl,P2,fun p4 h1=>?_⟩
 have s1 : Ag D3 (upd D3 p4 (.tup [.str "text",.bl (8 == n)])):=Ag.new h1
 have w1 : WB K (upd D3 p4 (.tup [.str "text",.bl (8 == n)])) (.ref p4) ("text",(8 == n)):=⟨p4,rfl,SqT.of Ae⟩
 generalize upd D3 p4 (.tup [.str "text",.bl (8 == n)]) = A4 at s1 w1 ⊢
 refine ⟨_,rfl,D,_,_,_,hD,R.ty,rfl,rfl,R.of 9 _ rfl,P2,fun u4 h2=>?_⟩
 have s2 : Ag A4 (upd A4 u4 (.tup [.str "row",.bl (9 == n)])):=Ag.new h2
 have w2 : WB K (upd A4 u4 (.tup [.str "row",.bl (9 == n)])) (.ref u4) ("row",(9 == n)):=⟨u4,rfl,SqT.of Ae⟩
 have w1:=w1.same s2
 have s2:=s1.trans s2
 generalize upd A4 u4 (.tup [.str "row",.bl (9 == n)]) = B4 at s2 w1 w2 ⊢
 refine ⟨P2,fun b4 hl=>?_⟩
 have s3 : Ag B4 (upd B4 b4 (.lst [.ref p4,.ref u4])):=Ag.new hl
 have eb : upd B4 b4 (.lst [.ref p4,.ref u4]) b4 = some (.lst [.ref p4,.ref u4]):=Ae
 have w1:=w1.same s3
 have w2:=w2.same s3
 have sT:=s2.trans s3
 generalize upd B4 b4 (.lst [.ref p4,.ref u4]) = C4 at sT eb w1 w2 ⊢
 clear s1 s2 s3 h1 h2 hl
 have wS:=WBs.snoc (WBs.same wS3 sT) w1 w2
 have ST:=S3.trans sT
 refine ⟨l3,b4,xs3,_,rfl,rfl,sT _ _ el3,eb,by rw [hn3]; exact (show 8 + 2 ≤ sizeLine by decide),fun l4 hl=>?_⟩
 have s4 : Ag C4 (upd C4 l4 (.lst (xs3 ++ [.ref p4,.ref u4]))):=Ag.new hl
 have el4 : upd C4 l4 (.lst (xs3 ++ [.ref p4,.ref u4])) l4 = some (.lst (xs3 ++ [.ref p4,.ref u4])):=Ae
 have wS4 : Paired (WB K (upd C4 l4 (.lst (xs3 ++ [.ref p4,.ref u4])))) _ [("many",(0 == n)),("points",(1 == n)),("point",(2 == n)),("number",(3 == n)),("curve",(4 == n)),("stretch",(5 == n)),("deep",(6 == n)),("few",(7 == n)),("text",(8 == n)),("row",(9 == n))]:=WBs.same wS s4
 have S4:=ST.trans s4
 have hn4 : (xs3 ++ [V.ref p4,V.ref u4]).length = 8 + 2:=by rw [Ue,hn3]; rfl
 generalize upd C4 l4 (.lst (xs3 ++ [.ref p4,.ref u4])) = D4 at S4 el4 wS4 ⊢
 generalize xs3 ++ [V.ref p4,V.ref u4] = xs4 at el4 wS4 hn4
 clear wS sT ST S3 eb w1 w2 s4 hl wS3 el3 hn3
 refine Ca ⟨_,rfl,l4,rfl,⟨xs4,SqL.of el4⟩,?_⟩
 have e : CJ [("many",(0 == n)),("points",(1 == n)),("point",(2 == n)),("number",(3 == n)),("curve",(4 == n)),("stretch",(5 == n)),("deep",(6 == n)),("few",(7 == n)),("text",(8 == n)),("row",(9 == n))] = [.str w]:=My hw
 generalize [("many",(0 == n)),("points",(1 == n)),("point",(2 == n)),("number",(3 == n)),("curve",(4 == n)),("stretch",(5 == n)),("deep",(6 == n)),("few",(7 == n)),("text",(8 == n)),("row",(9 == n))] = ps at wS4 e
 refine NO (SqL.of el4) wS4 (by rw [hn4]; exact P10) (fun f hf=>?_)
 rw [e]
 have sf : Ag D4 (upd D4 f (.lst [.str w])):=Ag.new hf
 have ef : upd D4 f (.lst [.str w]) f = some (.lst [.str w]):=Ae
 have SF:=S4.trans sf
 generalize upd D4 f (.lst [.str w]) = D5 at ef SF ⊢
 refine ⟨_,rfl,f,_,rfl,.inl (SqL.of ef),rfl,_,rfl,Bg (by first | rfl | decide) ?_⟩
 refine ⟨_,rfl,D,_,_,_,hD,R.ty,rfl,rfl,R.ve,_,rfl,Bg rfl ?_⟩
 exact ⟨_,rfl,f,_,_,_,rfl,rfl,SqL.of ef,rfl,q _ SF⟩
theorem BH : Ar ["_law_way","_law_curve","_law_low","_law_high","_law_found","e"] ["_law_way","_law_curve","_law_low","_law_high"] (Af (top 64)):=⟨rfl,rfl,rfl,by decide +kernel,rfl,by decide +kernel,by decide +kernel⟩
theorem F0 {f : Addr} {fd : FuncData} (F : Fun K "_law_told_of" "_law_told_of" (top 64) f fd) {a_CurveError a_TooMany a_NoPoints a_NoPoint a_NoNumber a_NoCurve a_NoStretch a_TooDeep a_TooFew a_NoText a_NoRow : Addr} (c_CurveError : mg "CurveError" = some (.ref a_CurveError)) (xm_TooDeep : W4 K (.ref a_TooDeep) (.ref a_CurveError) = some true) (xr_TooDeep : Qa K a_TooDeep [a_TooMany,a_NoPoints,a_NoPoint,a_NoNumber,a_NoCurve,a_NoStretch,a_TooDeep,a_TooFew,a_NoText,a_NoRow] 6) (H__law_refusal : FdH P w K mg base 33 "_law_refusal" "_law_caught" (Jz K [a_TooMany,a_NoPoints,a_NoPoint,a_NoNumber,a_NoCurve,a_NoStretch,a_TooDeep,a_TooFew,a_NoText,a_NoRow])) (Y_pieces_of : FdY P w K mg base 38 "pieces_of" ["curve","low","high"] (fun vs H Q E=>((fun _ _ _ _=>False : Sp) : Sp) vs H Q E ∨ (Cb K a_TooDeep : Sp) vs H Q E)) (Y_noughts_of : FdY P w K mg base 39 "noughts_of" ["curve","low","high"] (fun vs H Q E=>((fun _ _ _ _=>False : Sp) : Sp) vs H Q E ∨ (EA K a_TooDeep : Sp) vs H Q E)) (Se : Fd P w K mg base 38 "pieces_of" ["curve","low","high"] ((fun _ _ _ _=>False : Sp))) (F_noughts_of : Fd P w K mg base 39 "noughts_of" ["curve","low","high"] ((fun _ _ _ _=>False : Sp))) (hT : P.given.tree = none) :
 AN P w K mg base CX0 40 f fd ["_law_way","_law_curve","_law_low","_law_high"] (CY K):=by
 refine F.ok BH (fun vs H Q E h=>?_) (fun cdv A outer s H vs Q E hr h=>?_)
 ·obtain ⟨_,_,_,_,_,_,_,_,_,rfl,_⟩:=h; rfl
 refine ⟨_,(Ac (K:=K) (Ai (i:=4) BH.nd rfl (Or.inl rfl) Pe)
  (Ac (K:=K) (NA (Qz (Au CK (pv 0) Ad (Ay _)) (Mt Y_pieces_of hr rfl (Aa (pv 1) (Aa (pv 2) (Aa (pv 3) Ab))) BH.nd (j:=4) rfl (Or.inl rfl)) (Mt Y_noughts_of hr rfl (Aa (pv 1) (Aa (pv 2) (Aa (pv 3) Ab))) BH.nd (j:=4) rfl (Or.inl rfl))) H__law_refusal hr rfl rfl c_CurveError BH.nd (i:=5) rfl rfl (j:=4) rfl rfl rfl rfl)
  (Ah (Ax (pv 4))) (by rfl)) (by rfl)),?_⟩
 obtain ⟨w,r,rl,rh,fs,ls,xs,lo,hi,rfl,hc,kf,hlo,hhi,hlt,blo,bhi,q0,q1,q2⟩:=h
 have l5:=kf.l5
 have hle:=kf.le
 have b9:=GO fs.length
 have b8:=Ot fs.length
 refine ⟨_,rfl,rfl,_,rfl,?_⟩
 by_cases hw : w = 0
 ·refine BA (by rw [decide_eq_true (show V.int w = V.int 0 by rw [hw])] <;> rfl) ⟨_,rfl,_,rfl,_,rfl,.inr ⟨r,rl,rh,fs,ls,lo,hi,lb fs.length,rfl,hc,kf.gf,kf.nf,kf.bf,by lia,by lia,by lia,kf.hl,kf.b100,by lia,hlo,hhi,hlt,blo,bhi,fun ps p H' ys e s hp e1 h1=>?_,fun H' e s=>?_⟩⟩
  ·exact ⟨_,rfl,q0 ps p H' ys hw e s hp e1 h1⟩
  ·exact ⟨xm_TooDeep,fun ea hea=>⟨a_TooDeep,6,"deep",rfl,xr_TooDeep,rfl,fun H2 s2=>⟨_,rfl,q2 H2 e (s.trans s2)⟩⟩⟩
 ·refine Bg (by rw [decide_eq_false (show ¬ V.int w = V.int 0 from fun z=>hw (V.int.inj z))] <;> rfl) ⟨_,rfl,_,rfl,_,rfl,.inr ⟨r,rl,rh,fs,ls,xs,lo,hi,rfl,hc,kf,hlo,hhi,hlt,blo,bhi,fun ps H' e s=>?_,fun H' e s=>?_⟩⟩
  ·exact ⟨_,rfl,q1 ps H' hw e s⟩
  ·exact ⟨xm_TooDeep,fun ea hea=>⟨a_TooDeep,6,"deep",rfl,xr_TooDeep,rfl,fun H2 s2=>⟨_,rfl,q2 H2 e (s.trans s2)⟩⟩⟩
theorem Gi : Ar ["_law_thing"] ["_law_thing"] (Af (top 57)):=⟨rfl,rfl,rfl,by decide +kernel,rfl,by decide +kernel,by decide +kernel⟩
theorem Gq {f : Addr} {fd : FuncData} (F : Fun K "_law_whole" "_law_whole" (top 57) f fd) (Ro : mg "isinstance" = none) (RA : mg "int" = none) (RT : mg "bool" = none) (hT : P.given.tree = none) :
 AN P w K mg base CX0 33 f fd ["_law_thing"] (Hi K):=by
 refine F.ok Gi (fun vs H Q E h=>?_) (fun cdv A outer s H vs Q E hr h=>?_)
 ·obtain ⟨_,_,rfl,_⟩:=h; rfl
 refine ⟨_,(Ah (Ax (Ph (Ak (PQ K) rfl Ro AH (Aa (pv 0) (Aa (Fl (v:=.ty "int") rfl RA N6 rfl) Ab))) (Pb (Pd (Ak (PQ K) rfl Ro AH (Aa (pv 0) (Aa (Fl (v:=.ty "bool") rfl RT Oa rfl) Ab)))))))),?_⟩
 obtain ⟨x,b,rfl,wx,q⟩:=h
 cases wx with
 | int i=>exact ⟨_,rfl,_,_,_,_,rfl,.of (.int i),Pw K,true,rfl,Gw ⟨_,rfl,_,_,_,_,rfl,.of (.int i),Px K,false,rfl,q⟩⟩
 | bl y=>exact ⟨_,rfl,_,_,_,_,rfl,.of (.bl y),Py K,true,rfl,Gw ⟨_,rfl,_,_,_,_,rfl,.of (.bl y),Pz K,true,rfl,q⟩⟩
 | oth ty hk=>exact ⟨_,rfl,_,_,_,_,rfl,ty,hk,false,rfl,CN q⟩
theorem Cp : Ar ["_law_script","_law_pen_here","_law_curve","_law_places","_law_lone","_law_low","_law_high","_law_pieces","_law_found","_law_first","_law_last","_law_changes"] ["_law_script"] (Af (top 65)):=⟨rfl,rfl,rfl,by decide +kernel,rfl,by decide +kernel,by decide +kernel⟩
theorem Pn {f : Addr} {fd : FuncData} (F : Fun K "law" "law" (top 65) f fd) (SE : Fd P w K mg base 33 "_law_pen" ["_law_script","_law_k"] (Mc K)) (SG : Fd P w K mg base 36 "_law_known" ["_law_pen_here"] (Hr K)) (SH : Fd P w K mg base 36 "_law_ends" ["_law_pen_here","_law_places"] (JC K)) (Sg : Fd P w K mg base 40 "_law_told_of" ["_law_way","_law_curve","_law_low","_law_high"] (CY K)) (SI : Fd P w K mg base 33 "_law_whole" ["_law_thing"] (Hi K)) (RC : Fd P w K mg base 33 "_law_less" ["_law_a","_law_b"] (EB K)) (Rl : mg "len" = none) (Ro : mg "isinstance" = none) (Ru : mg "list" = none) (hT : P.given.tree = none) :
 AN P w K mg base CX0 41 f fd ["_law_script"] (Iz K):=by
 refine F.ok Cp (fun vs H Q E h=>?_) (fun cdv A outer s H vs Q E hr h=>?_)
 ·obtain ⟨_,_,rfl,_⟩:=h; rfl
 refine ⟨_,(Ac (K:=K) (Ai (i:=1) Cp.nd rfl (Or.inl rfl) (Am SE hr rfl (Aa (pv 0) (Aa Ad Ab))))
  (Ac (K:=K) (CU (Am SG hr rfl (Aa (pv 1) Ab)) (pgT K (n:=3) rfl (Bw (Av (i:=2) Cp.nd rfl (Or.inl rfl)) (Bw (Av (i:=3) Cp.nd rfl (Or.inl rfl)) (Bw (Av (i:=4) Cp.nd rfl (Or.inl rfl)) DJ)))))
  (Ac (K:=K) (CU (Am SH hr rfl (Aa (pv 1) (Aa (pv 3) Ab))) (pgT K (n:=2) rfl (Bw (Av (i:=5) Cp.nd rfl (Or.inr rfl)) (Bw (Av (i:=6) Cp.nd rfl (Or.inr rfl)) DJ))))
  (Ac (K:=K) (Ai (i:=7) Cp.nd rfl (Or.inl rfl) (Am Sg hr rfl (Aa Ad (Aa (pv 2) (Aa (pv 5) (Aa (pv 6) Ab))))))
  (Ac (K:=K) (Ai (i:=8) Cp.nd rfl (Or.inl rfl) (Am Sg hr rfl (Aa Ad (Aa (pv 2) (Aa (pv 5) (Aa (pv 6) Ab))))))
  (Ac (K:=K) (AV (K:=K) (PW.pt (Kb (Au (eqD K hr.units) (pv 7) C5 (Ay _)) (HD (Au (eqD K hr.units) (pv 8) C5 (Ay _))))) (Ah (Ax (DK (eqD K hr.units) (pv 7) (pv 8) (Ay _)))) AL (by rfl) (by rfl))
  (Ac (K:=K) (AV (K:=K) (PW.pt (Kb (EF (CT (Ak (PQ K) rfl Ro AH (Aa (pv 7) (Aa (Fl (v:=.ty "list") rfl Ru Ft rfl) Ab))))) (HD (EF (CT (Am SI hr rfl (Aa (pv 8) Ab))))))) (Ah (Ax Ke)) AL (by rfl) (by rfl))
  (Ac (K:=K) (AV (K:=K) (Au GJ (pv 8) (Ak (Bt K) rfl Rl AF (Aa (Ct rfl (N:=["_law_x","_law_low","_law_high"]) (nt:=1) (js:=[5,6]) (Bf.look (NX:=["_law_script","_law_pen_here","_law_curve","_law_places","_law_lone","_law_low","_law_high","_law_pieces","_law_found","_law_first","_law_last","_law_changes"]) (sc:=Af (top 65)) rfl rfl (by decide +kernel)) (piR (pv 3)) (fun u1 u2 u3 u4 u5=>(Av (i:=0) (show List.Nodup (["_law_x","_law_low","_law_high"] : List Str) from by decide +kernel) rfl (Or.inl rfl))) (AI (by decide)) (fun u1 u2 u3 u4 u5=>DI (PW.pt (Dk (EF (CT (Am RC hr rfl (Aa (pv 0) (Aa (pv 1) Ab))))) (CA (EF (CT (Am RC hr rfl (Aa (pv 2) (Aa (pv 0) Ab))))))))) (fun u1 u2 u3 u4 u5=>(pv 0))) Ab)) (Ay _)) (Ah (Ax Ke)) AL (by rfl) (by rfl))
  (Ac (K:=K) (BE (K:=K) PassesOwn.never rfl (piL K (pv 7)) (pgT K (n:=3) rfl (Bw (Av (i:=9) Cp.nd rfl (Or.inr rfl)) (Bw (Av (i:=10) Cp.nd rfl (Or.inr rfl)) (Bw (Av (i:=11) Cp.nd rfl (Or.inl rfl)) DJ)))) (Ah (AV (K:=K) (Au GJ (Ak (Bt K) rfl Rl AF (Aa (Ct rfl (N:=["_law_x","_law_first","_law_last"]) (nt:=1) (js:=[9,10]) (Bf.look (NX:=["_law_script","_law_pen_here","_law_curve","_law_places","_law_lone","_law_low","_law_high","_law_pieces","_law_found","_law_first","_law_last","_law_changes"]) (sc:=Af (top 65)) rfl rfl (by decide +kernel)) (piR (pv 3)) (fun u1 u2 u3 u4 u5=>(Av (i:=0) (show List.Nodup (["_law_x","_law_first","_law_last"] : List Str) from by decide +kernel) rfl (Or.inl rfl))) (AI (by decide)) (fun u1 u2 u3 u4 u5=>DI (PW.pt (Dk (CT (Am RC hr rfl (Aa (pv 1) (Aa (pv 0) Ab)))) (CA (CT (Am RC hr rfl (Aa (pv 0) (Aa (pv 2) Ab)))))))) (fun u1 u2 u3 u4 u5=>(pv 0))) Ab)) (pv 11) (Ay _)) (Ah (Ax Ke)) AL (by rfl) (by rfl))) (by rfl))
  (Ah (Ax Ke)) (by rfl)) (by rfl)) (by rfl)) (by rfl)) (by rfl)) (by rfl)) (by rfl)) (by rfl)) (by rfl)),?_⟩
 obtain ⟨a,ns,rfl,hS,h63,q⟩:=h
 have P0 : 0 ≤ sizeLine:=by decide
 refine ⟨_,rfl,a,ns,0,rfl,hS,h63,by lia,by lia,fun p c0 c1 hp=>?_⟩
 have pn : Pen (upd H p (.lst [.int c0,.int c1,.int 0])) p:=.put
 generalize upd H p (.lst [.int c0,.int c1,.int 0]) = H1 at pn ⊢
 clear hS hp
 refine ⟨_,rfl,p,rfl,pn,fun r c d l H2 fs ls xs kvs m2 p2 er cc cl _ dd ks kf hk10=>?_⟩
 refine ⟨r,_,rfl,SqT.of er,rfl,_,_,rfl,_,_,rfl,_,_,rfl,rfl,?_⟩
 refine ⟨_,rfl,_,rfl,p,d,xs,kvs,rfl,p2,dd,ks,kf.bx,kf.nd,hk10,fun t rl rh lo hi H3 m3 p3 et nlo nhi hlt blo bhi=>?_⟩
 refine ⟨t,_,rfl,SqT.of et,rfl,_,_,rfl,_,_,rfl,rfl,?_⟩
 replace cc:=cc.mv p2 m3
 replace dd:=m3 _ _ (p2.ne dd fun _ _ _ z=>by cases z) dd
 have R : Rts ls xs:=⟨kf.gl,kf.nl,kf.rt,kf.sg,kf.nd⟩
 have bx:=kf.bx
 have nd:=kf.nd
 clear er et cl m2 m3 pn p2
 refine ⟨_,rfl,_,rfl,_,rfl,CY.mk 0 c rl rh fs ls xs lo hi rfl cc kf nlo nhi hlt blo bhi (fun ps pf H4 ys _ e s4 hpf ef hps=>?_) (fun ps H4 h=>absurd rfl h) fun H4 e s4=>?_⟩
 rotate_left
 ·refine ⟨_,rfl,_,rfl,_,rfl,CY.mk 1 c rl rh fs ls xs lo hi rfl (cc.same s4) kf (nlo.same s4) (nhi.same s4) hlt blo bhi (fun ps p H' ys h=>absurd h (by decide)) (fun ps H' _ e'=>by rw [e] at e'; cases e') fun H5 _ s5=>?_⟩
  refine ⟨_,rfl,DN (.str _) (.str _) (by decide +kernel) (by decide +kernel) true (by decide +kernel) ?_⟩
  refine ⟨_,rfl,Gw ?_⟩
  exact Gw ⟨_,rfl,_,rfl,DN (.str _) (.str _) (by decide +kernel) (by decide +kernel) true (by decide +kernel) (q H5)⟩
 refine ⟨_,rfl,_,rfl,_,rfl,CY.mk 1 c rl rh fs ls xs lo hi rfl (cc.same s4) kf (nlo.same s4) (nhi.same s4) hlt blo bhi (fun ps p H' ys h=>absurd h (by decide)) (fun ps' H5 _ e' s5=>?_) fun H5 e'=>by rw [e] at e'; cases e'⟩
 obtain rfl : ps = ps':=Tb.inj (e.symm.trans e')
 replace ef:=s5 _ _ ef
 replace hps:=Pcs.same hps s5
 have s45:=s4.trans s5
 replace dd:=s45 _ _ dd
 replace nlo:=nlo.same s45
 replace nhi:=nhi.same s45
 have hyl:=hps.length
 have hpl:=(Fm ls 16 lo hi ps e).2
 obtain ⟨hcount,hone⟩:=(EI R 16 lo hi ps hlt e)
 refine O2 (Dy.start blo bhi) fun D hz103'=>?_
 refine FZ hz103' fun d0 d1 y1 y2=>?_
 clear hz103'
 have hrb:=HF d0 d1 16 0 lo hi ps (by decide) y1 y2 e
 have hcl:=Ig nd hlt
 clear y1 y2 cc R kf e e' s4 s5 s45 hpf
 refine ⟨_,rfl,DN (d:=.list (ps.map pcD)) (.lst (SqL.of ef) (by rw [hps.length,Ug]) hps.rds) (.str _) (NG _) (by decide +kernel) false rfl ?_⟩
 refine ⟨_,rfl,CN ?_⟩
 refine ⟨_,rfl,DN (.int _) (.str _) rfl (by decide +kernel) false rfl ?_⟩
 refine ⟨_,rfl,CN ?_⟩
 refine ⟨_,rfl,_,_,_,_,rfl,.lst (SqL.of ef),NQ K,true,rfl,CN ?_⟩
 refine ⟨_,rfl,_,true,rfl,.int _,_,rfl,CN ?_⟩
 refine ⟨_,rfl,Ca ⟨_,rfl,d,kvs,rfl,.inl dd,fun o=>?_⟩⟩
 have hxl : xs.length = kvs.length:=by have:=congrArg U7 ks; rw [Ug,Ug] at this; lia
 have rd : Rd H5 d (.dT kvs):=.inl dd
 have eG:=Ae (H:=H5) (a:=d) (o:=.frz o (.dT kvs))
 replace nlo:=AA.putR (o:=.frz o (.dT kvs)) nlo rd
 replace nhi:=AA.putR (o:=.frz o (.dT kvs)) nhi rd
 replace hps:=Pcs.putR (o:=.frz o (.dT kvs)) hps rd
 replace ef : (upd H5 d (.frz o (.dT kvs))) pf = some (.lst ys):=by rw [Aw (CL ef dd (fun z=>by cases z))]; exact ef
 generalize upd H5 d (.frz o (.dT kvs)) = G at eG nlo nhi hps ef ⊢
 clear rd dd
 refine IX (fun i zs H'=>H' = G ∧ zs.length = ((xs.take i).filter fun r=>!decide (r < lo) && !decide (hi < r)).length) ⟨rfl,rfl⟩ (fun i zs H' hi' h=>⟨by rw [h.1]; exact eG,by rw [h.2]; exact Tr (W6 _ _) (by rw [U8]; lia)⟩) (Ts (AX (by lia))) ?_ ?_
 ·rintro i b pp zs H' hi' hb ⟨rfl,hz⟩
  obtain ⟨x,hx,ex⟩:=(Ou ks hi')
  rw [ex] at hb
  have nb : AA K H' (.ref b) x:=AA.of hb
  have e1 : xs.take (i + 1) = xs.take i ++ [x]:=by rw [UT,hx]; rfl
  have bxx:=(bx x (Ud hx)).mono (show 8 ≤ 20 by decide)
  refine ⟨_,rfl,_,rfl,_,_,x,lo,20,20,rfl,nb,nlo,bxx,blo,by decide,_,rfl,?_⟩
  by_cases h1 : x < lo
  ·refine Bg (by rw [decide_eq_true h1] <;> rfl) (CN ⟨rfl,?_⟩)
   rw [e1,W5,Wo (by simp [h1]),WA,U1]; exact hz
  ·refine BA (by rw [decide_eq_false h1] <;> rfl) ⟨_,rfl,_,rfl,_,_,hi,x,20,20,rfl,nhi,nb,bhi,bxx,by decide,_,rfl,?_⟩
   by_cases h2 : hi < x
   ·refine Bg (by rw [decide_eq_true h2] <;> rfl) ⟨rfl,?_⟩
    rw [e1,W5,Wo (by simp [h2]),WA,U1]; exact hz
   ·refine BA (by rw [decide_eq_false h2] <;> rfl) ⟨_,rfl,rfl,?_⟩
    rw [e1,W5,Wq (by simp [h1,h2]),WA,Ue,Ue,hz]; rfl
 rintro zs H' ⟨rfl,hz⟩ l1 hl1
 rw [← hxl,UW,hcl] at hz
 refine ⟨l1,zs,rfl,.inl (SqL.of Ae),?_⟩
 refine ⟨rfl,_,rfl,?_⟩
 refine Bg (by rw [decide_eq_true (show V.int ((C9 xs lo + Dq xs ps + Dp ps : Nat) : Int) = V.int ((zs.length : Nat) : Int) by rw [hz]; congr 2; lia)] <;> rfl) ?_
 have s1:=Ag.new (o:=.lst zs) hl1
 have rd : Rd (upd H' l1 (.lst zs)) d (.dT kvs):=.inr ⟨o,s1 _ _ eG⟩
 replace hps:=Pcs.same hps s1
 replace ef:=s1 _ _ ef
 generalize upd H' l1 (.lst zs) = G at rd hps ef ⊢
 clear eG nlo nhi hl1 hz s1 hcl hcount
 refine ⟨_,rfl,pf,rfl,⟨_,SqL.of ef⟩,J1 (xs:=ys) (L14 a p c d l rl rh pf xs lo ps kvs ys K fun a p c d l rl rh pf xs lo ps kvs ys K i σ G=>∃ z9 z10 z11,σ = [some (.ref a),some (.ref p),some (.ref c),some (.ref d),some (.ref l),some (.ref rl),some (.ref rh),some (.ref pf),some (.int ((C9 xs lo + Dq xs ps + Dp ps : Nat) : Int)),z9,z10,z11] ∧ Rd G d (.dT kvs) ∧ G pf = some (.lst ys) ∧ Pcs K G ys ps) ⟨none,none,none,rfl,rd,ef,hps⟩ (fun i σ G _ h=>by obtain ⟨_,_,_,_,_,h,_⟩:=h; exact SqL.of h) ?_ ?_⟩
 rotate_left
 ·rintro σ G _
  exact q G
 clear rd ef hps
 rintro i v σ G hv hR1
 refine DD hR1 fun z9 z10 z11 hz105'=>?_
 refine FZ hz105' fun hq104 rd ef hps=>?_
 clear hz105'
 obtain rfl:=hq104
 try clear hR1
 obtain ⟨t',ht,pp,ra,rb,rfl,hS,na,nb⟩:=(Paired.get hps hv)
 obtain ⟨t1,t2,t3⟩:=(hone t' (Ud ht))
 obtain ⟨b1,b2⟩:=(hrb t' (Ud ht))
 refine ⟨pp,_,rfl,hS,rfl,_,_,rfl,_,_,rfl,_,_,rfl,rfl,?_⟩
 refine Ca ⟨_,rfl,d,kvs,rfl,rd,fun o2=>?_⟩
 have pfd : pf ≠ d:=by
  rcases rd with z | ⟨ob,z⟩
  ·exact CL ef z (fun y=>by cases y)
  ·exact CL ef z (fun y=>by cases y)
 have eG:=Ae (H:=G) (a:=d) (o:=.frz o2 (.dT kvs))
 replace na:=AA.putR (o:=.frz o2 (.dT kvs)) na rd
 replace nb:=AA.putR (o:=.frz o2 (.dT kvs)) nb rd
 replace hps:=Pcs.putR (o:=.frz o2 (.dT kvs)) hps rd
 replace ef : (upd G d (.frz o2 (.dT kvs))) pf = some (.lst ys):=by rw [Aw pfd]; exact ef
 generalize upd G d (.frz o2 (.dT kvs)) = G at eG na nb hps ef ⊢
 clear rd hS
 refine IX (fun i zs H'=>H' = G ∧ zs.length = ((xs.take i).filter fun r=>decide (t'.1 < r) && decide (r < t'.2.1)).length) ⟨rfl,rfl⟩ (fun i zs H' hi' h=>⟨by rw [h.1]; exact eG,by rw [h.2]; exact Tr (W6 _ _) (by rw [U8]; lia)⟩) (Ts (AX (by lia))) ?_ ?_
 ·rintro i b pp zs H' hi' hb ⟨rfl,hz⟩
  obtain ⟨x,hx,ex⟩:=(Ou ks hi')
  rw [ex] at hb
  have nx : AA K H' (.ref b) x:=AA.of hb
  have e1 : xs.take (i + 1) = xs.take i ++ [x]:=by rw [UT,hx]; rfl
  have bxx:=(bx x (Ud hx)).mono (show 8 ≤ 80 by decide)
  refine ⟨_,rfl,_,rfl,_,_,t'.1,x,80,80,rfl,na,nx,b1,bxx,by decide,_,rfl,?_⟩
  by_cases h1 : t'.1 < x
  ·refine BA (by rw [decide_eq_true h1] <;> rfl) ⟨_,rfl,_,rfl,_,_,x,t'.2.1,80,80,rfl,nx,nb,bxx,b2,by decide,_,rfl,?_⟩
   by_cases h2 : x < t'.2.1
   ·refine BA (by rw [decide_eq_true h2] <;> rfl) ⟨_,rfl,rfl,?_⟩
    rw [e1,W5,Wq (by simp [h1,h2]),WA,Ue,Ue,hz]; rfl
   ·refine Bg (by rw [decide_eq_false h2] <;> rfl) ⟨rfl,?_⟩
    rw [e1,W5,Wo (by simp [h2]),WA,U1]; exact hz
  ·refine Bg (by rw [decide_eq_false h1] <;> rfl) (CN ⟨rfl,?_⟩)
   rw [e1,W5,Wo (by simp [h1]),WA,U1]; exact hz
 rintro zs H' ⟨rfl,hz⟩ l1 hl1
 rw [← hxl,UW] at hz
 have hz : zs.length = t'.2.2:=hz.trans t2
 have s1:=Ag.new (o:=.lst zs) hl1
 refine ⟨l1,zs,rfl,.inl (SqL.of Ae),_,rfl,rfl,_,rfl,?_⟩
 exact Bg (by rw [decide_eq_true (show V.int ((zs.length : Nat) : Int) = V.int ((t'.2.2 : Nat) : Int) by rw [hz])] <;> rfl) ⟨_,_,_,rfl,.inr ⟨o2,s1 _ _ eG⟩,s1 _ _ ef,Pcs.same hps s1⟩
end
theorem fdm {P : Program} (w : World) {K : Tq} {mg : Str → Option Value} (base : Heap) {n : Nat} {x : Str} {ps : List Str} {sp : Sp} {f : Addr} {fd : FuncData} (a : AN P w K mg base CX0 n f fd ps sp) (b : CQ K fd ps []) (c : TX K (.ref f) = true) (d : mg x = some (.ref f)) : Fd P w K mg base n x ps sp:=⟨_,_,a,b,c,d⟩
theorem Q8 {l : Ux} {w : World} {K : Tq} {h : Heap} {mg : Str → Option Value} {fa f1 f2 f3 f4 f5 f6 f7 f8 f9 f10 f11 f12 f13 f14 f15 f16 f17 f18 f19 f20 f21 f22 f23 f24 f25 f26 f27 f28 f29 f30 f31 f32 f33 f34 f35 f36 f37 f38 f39 f40 f41 f42 f43 f44 f45 f46 : Addr} (hT : l.prog.given.tree = none) (X : K.In h) (G : h.Ns mainGlobals mg) (hfa : mg "law" = some (.ref fa))
 {od1 an1 od2 an2 od3 an3 od4 an4 od5 an5 od6 an6 od7 an7 od8 an8 od9 an9 od10 an10 od11 an11 od12 an12 od13 an13 od14 an14 od15 an15 od16 an16 od17 an17 od18 an18 od19 an19 od20 an20 od21 an21 od22 an22 od23 an23 od24 an24 od25 an25 od26 an26 od27 an27 od28 an28 od29 an29 od30 an30 od31 an31 od32 an32 od33 an33 od34 an34 od35 an35 od36 an36 od37 an37 od38 an38 od39 an39 od40 an40 od41 an41 od42 an42 od43 an43 od44 an44 od45 an45 od46 an46 : Option Addr} {sl1 sl2 sl3 sl4 sl5 sl6 sl7 sl8 sl9 sl10 sl11 sl12 sl13 sl14 sl15 sl16 sl17 sl18 sl19 sl20 sl21 sl22 sl23 sl24 sl25 sl26 sl27 sl28 sl29 sl30 sl31 sl32 sl33 sl34 sl35 sl36 sl37 sl38 sl39 sl40 sl41 sl42 sl43 sl44 sl45 sl46 : Array (Option Value)} {oc1 kV1 dc1 pm1 cd1 ct1 oc2 kV2 dc2 pm2 cd2 ct2 oc3 kV3 dc3 pm3 cd3 ct3 oc4 kV4 dc4 pm4 cd4 ct4 oc5 kV5 dc5 pm5 cd5 ct5 oc6 kV6 dc6 pm6 cd6 ct6 oc7 kV7 dc7 pm7 cd7 ct7 oc8 kV8 dc8 pm8 cd8 ct8 oc9 kV9 dc9 pm9 cd9 ct9 oc10 kV10 dc10 pm10 cd10 ct10 oc11 kV11 dc11 pm11 cd11 ct11 oc12 kV12 dc12 pm12 cd12 ct12 oc13 kV13 dc13 pm13 cd13 ct13 oc14 kV14 dc14 pm14 cd14 ct14 oc15 kV15 dc15 pm15 cd15 ct15 oc16 kV16 dc16 pm16 cd16 ct16 oc17 kV17 dc17 pm17 cd17 ct17 oc18 kV18 dc18 pm18 cd18 ct18 oc19 kV19 dc19 pm19 cd19 ct19 oc20 kV20 dc20 pm20 cd20 ct20 oc21 kV21 dc21 pm21 cd21 ct21 oc22 kV22 dc22 pm22 cd22 ct22 oc23 kV23 dc23 pm23 cd23 ct23 oc24 kV24 dc24 pm24 cd24 ct24 oc25 kV25 dc25 pm25 cd25 ct25 oc26 kV26 dc26 pm26 cd26 ct26 oc27 kV27 dc27 pm27 cd27 ct27 oc28 kV28 dc28 pm28 cd28 ct28 oc29 kV29 dc29 pm29 cd29 ct29 oc30 kV30 dc30 pm30 cd30 ct30 oc31 kV31 dc31 pm31 cd31 ct31 oc32 kV32 dc32 pm32 cd32 ct32 oc33 kV33 dc33 pm33 cd33 ct33 oc34 kV34 dc34 pm34 cd34 ct34 oc35 kV35 dc35 pm35 cd35 ct35 oc36 kV36 dc36 pm36 cd36 ct36 oc37 kV37 dc37 pm37 cd37 ct37 oc38 kV38 dc38 pm38 cd38 ct38 oc39 kV39 dc39 pm39 cd39 ct39 oc40 kV40 dc40 pm40 cd40 ct40 oc41 kV41 dc41 pm41 cd41 ct41 oc42 kV42 dc42 pm42 cd42 ct42 oc43 kV43 dc43 pm43 cd43 ct43 oc44 kV44 dc44 pm44 cd44 ct44 oc45 kV45 dc45 pm45 cd45 ct45 oc46 kV46 dc46 pm46 cd46 ct46 : Value}
 (a1 : Vk K mainGlobals "_law_pen" = some (some (.ref f1))) (l1 : K.lookup f1 = some ⟨oc1,od1,.func (Ui "_law_pen" "_law_pen" (Ap (top 50)) (Ao (top 50)) (Af (top 50)) .none kV1 dc1 pm1 an1 cd1 ct1),sl1⟩) (c1 : Uj K cd1 "_law_pen" = true) (k1 : TX K (.ref f1) = true)
 (a2 : Vk K mainGlobals "_law_lowest" = some (some (.ref f2))) (l2 : K.lookup f2 = some ⟨oc2,od2,.func (Ui "_law_lowest" "_law_lowest" (Ap (top 52)) (Ao (top 52)) (Af (top 52)) .none kV2 dc2 pm2 an2 cd2 ct2),sl2⟩) (c2 : Uj K cd2 "_law_lowest" = true) (k2 : TX K (.ref f2) = true)
 (a3 : Vk K mainGlobals "_law_draw" = some (some (.ref f3))) (l3 : K.lookup f3 = some ⟨oc3,od3,.func (Ui "_law_draw" "_law_draw" (Ap (top 51)) (Ao (top 51)) (Af (top 51)) .none kV3 dc3 pm3 an3 cd3 ct3),sl3⟩) (c3 : Uj K cd3 "_law_draw" = true) (k3 : TX K (.ref f3) = true)
 (a4 : Vk K mainGlobals "_law_number" = some (some (.ref f4))) (l4 : K.lookup f4 = some ⟨oc4,od4,.func (Ui "_law_number" "_law_number" (Ap (top 56)) (Ao (top 56)) (Af (top 56)) .none kV4 dc4 pm4 an4 cd4 ct4),sl4⟩) (c4 : Uj K cd4 "_law_number" = true) (k4 : TX K (.ref f4) = true)
 (a5 : Vk K mainGlobals "_law_plus" = some (some (.ref f5))) (l5 : K.lookup f5 = some ⟨oc5,od5,.func (Ui "_law_plus" "_law_plus" (Ap (top 53)) (Ao (top 53)) (Af (top 53)) .none kV5 dc5 pm5 an5 cd5 ct5),sl5⟩) (c5 : Uj K cd5 "_law_plus" = true) (k5 : TX K (.ref f5) = true)
 (a6 : Vk K mainGlobals "_law_times" = some (some (.ref f6))) (l6 : K.lookup f6 = some ⟨oc6,od6,.func (Ui "_law_times" "_law_times" (Ap (top 55)) (Ao (top 55)) (Af (top 55)) .none kV6 dc6 pm6 an6 cd6 ct6),sl6⟩) (c6 : Uj K cd6 "_law_times" = true) (k6 : TX K (.ref f6) = true)
 (a7 : Vk K mainGlobals "_law_product" = some (some (.ref f7))) (l7 : K.lookup f7 = some ⟨oc7,od7,.func (Ui "_law_product" "_law_product" (Ap (top 59)) (Ao (top 59)) (Af (top 59)) .none kV7 dc7 pm7 an7 cd7 ct7),sl7⟩) (c7 : Uj K cd7 "_law_product" = true) (k7 : TX K (.ref f7) = true)
 (a8 : Vk K mainGlobals "_law_minus" = some (some (.ref f8))) (l8 : K.lookup f8 = some ⟨oc8,od8,.func (Ui "_law_minus" "_law_minus" (Ap (top 54)) (Ao (top 54)) (Af (top 54)) .none kV8 dc8 pm8 an8 cd8 ct8),sl8⟩) (c8 : Uj K cd8 "_law_minus" = true) (k8 : TX K (.ref f8) = true)
 (a9 : Vk K mainGlobals "_law_known" = some (some (.ref f9))) (l9 : K.lookup f9 = some ⟨oc9,od9,.func (Ui "_law_known" "_law_known" (Ap (top 60)) (Ao (top 60)) (Af (top 60)) .none kV9 dc9 pm9 an9 cd9 ct9),sl9⟩) (c9 : Uj K cd9 "_law_known" = true) (k9 : TX K (.ref f9) = true)
 (a10 : Vk K mainGlobals "_law_stretch" = some (some (.ref f10))) (l10 : K.lookup f10 = some ⟨oc10,od10,.func (Ui "_law_stretch" "_law_stretch" (Ap (top 58)) (Ao (top 58)) (Af (top 58)) .none kV10 dc10 pm10 an10 cd10 ct10),sl10⟩) (c10 : Uj K cd10 "_law_stretch" = true) (k10 : TX K (.ref f10) = true)
 (a11 : Vk K mainGlobals "_law_less" = some (some (.ref f11))) (l11 : K.lookup f11 = some ⟨oc11,od11,.func (Ui "_law_less" "_law_less" (Ap (top 61)) (Ao (top 61)) (Af (top 61)) .none kV11 dc11 pm11 an11 cd11 ct11),sl11⟩) (c11 : Uj K cd11 "_law_less" = true) (k11 : TX K (.ref f11) = true)
 (a12 : Vk K mainGlobals "_law_ends" = some (some (.ref f12))) (l12 : K.lookup f12 = some ⟨oc12,od12,.func (Ui "_law_ends" "_law_ends" (Ap (top 63)) (Ao (top 63)) (Af (top 63)) .none kV12 dc12 pm12 an12 cd12 ct12),sl12⟩) (c12 : Uj K cd12 "_law_ends" = true) (k12 : TX K (.ref f12) = true)
 (a13 : Vk K mainGlobals "common_measure" = some (some (.ref f13))) (l13 : K.lookup f13 = some ⟨oc13,od13,.func (Ui "common_measure" "common_measure" (Ap (top 13)) (Ao (top 13)) (Af (top 13)) .none kV13 dc13 pm13 an13 cd13 ct13),sl13⟩) (c13 : Uj K cd13 "common_measure" = true) (k13 : TX K (.ref f13) = true)
 (a14 : Vk K mainGlobals "number_of" = some (some (.ref f14))) (l14 : K.lookup f14 = some ⟨oc14,od14,.func (Ui "number_of" "number_of" (Ap (top 14)) (Ao (top 14)) (Af (top 14)) .none kV14 dc14 pm14 an14 cd14 ct14),sl14⟩) (c14 : Uj K cd14 "number_of" = true) (k14 : TX K (.ref f14) = true)
 (a15 : Vk K mainGlobals "over" = some (some (.ref f15))) (l15 : K.lookup f15 = some ⟨oc15,od15,.func (Ui "over" "over" (Ap (top 18)) (Ao (top 18)) (Af (top 18)) .none kV15 dc15 pm15 an15 cd15 ct15),sl15⟩) (c15 : Uj K cd15 "over" = true) (k15 : TX K (.ref f15) = true)
 (a16 : Vk K mainGlobals "parts_along" = some (some (.ref f16))) (l16 : K.lookup f16 = some ⟨oc16,od16,.func (Ui "parts_along" "parts_along" (Ap (top 39)) (Ao (top 39)) (Af (top 39)) .none kV16 dc16 pm16 an16 cd16 ct16),sl16⟩) (c16 : Uj K cd16 "parts_along" = true) (k16 : TX K (.ref f16) = true)
 (a17 : Vk K mainGlobals "bottom_of" = some (some (.ref f17))) (l17 : K.lookup f17 = some ⟨oc17,od17,.func (Ui "bottom_of" "bottom_of" (Ap (top 23)) (Ao (top 23)) (Af (top 23)) .none kV17 dc17 pm17 an17 cd17 ct17),sl17⟩) (c17 : Uj K cd17 "bottom_of" = true) (k17 : TX K (.ref f17) = true)
 (a18 : Vk K mainGlobals "tops_over" = some (some (.ref f18))) (l18 : K.lookup f18 = some ⟨oc18,od18,.func (Ui "tops_over" "tops_over" (Ap (top 24)) (Ao (top 24)) (Af (top 24)) .none kV18 dc18 pm18 an18 cd18 ct18),sl18⟩) (c18 : Uj K cd18 "tops_over" = true) (k18 : TX K (.ref f18) = true)
 (a19 : Vk K mainGlobals "is_less" = some (some (.ref f19))) (l19 : K.lookup f19 = some ⟨oc19,od19,.func (Ui "is_less" "is_less" (Ap (top 19)) (Ao (top 19)) (Af (top 19)) .none kV19 dc19 pm19 an19 cd19 ct19),sl19⟩) (c19 : Uj K cd19 "is_less" = true) (k19 : TX K (.ref f19) = true)
 (a20 : Vk K mainGlobals "curve_of" = some (some (.ref f20))) (l20 : K.lookup f20 = some ⟨oc20,od20,.func (Ui "curve_of" "curve_of" (Ap (top 22)) (Ao (top 22)) (Af (top 22)) .none kV20 dc20 pm20 an20 cd20 ct20),sl20⟩) (c20 : Uj K cd20 "curve_of" = true) (k20 : TX K (.ref f20) = true)
 (a21 : Vk K mainGlobals "curve_over" = some (some (.ref f21))) (l21 : K.lookup f21 = some ⟨oc21,od21,.func (Ui "curve_over" "curve_over" (Ap (top 25)) (Ao (top 25)) (Af (top 25)) .none kV21 dc21 pm21 an21 cd21 ct21),sl21⟩) (c21 : Uj K cd21 "curve_over" = true) (k21 : TX K (.ref f21) = true)
 (a22 : Vk K mainGlobals "whole_product" = some (some (.ref f22))) (l22 : K.lookup f22 = some ⟨oc22,od22,.func (Ui "whole_product" "whole_product" (Ap (top 28)) (Ao (top 28)) (Af (top 28)) .none kV22 dc22 pm22 an22 cd22 ct22),sl22⟩) (c22 : Uj K cd22 "whole_product" = true) (k22 : TX K (.ref f22) = true)
 (a23 : Vk K mainGlobals "with_line" = some (some (.ref f23))) (l23 : K.lookup f23 = some ⟨oc23,od23,.func (Ui "with_line" "with_line" (Ap (top 30)) (Ao (top 30)) (Af (top 30)) .none kV23 dc23 pm23 an23 cd23 ct23),sl23⟩) (c23 : Uj K cd23 "with_line" = true) (k23 : TX K (.ref f23) = true)
 (a24 : Vk K mainGlobals "minus" = some (some (.ref f24))) (l24 : K.lookup f24 = some ⟨oc24,od24,.func (Ui "minus" "minus" (Ap (top 16)) (Ao (top 16)) (Af (top 16)) .none kV24 dc24 pm24 an24 cd24 ct24),sl24⟩) (c24 : Uj K cd24 "minus" = true) (k24 : TX K (.ref f24) = true)
 (a25 : Vk K mainGlobals "heights_of" = some (some (.ref f25))) (l25 : K.lookup f25 = some ⟨oc25,od25,.func (Ui "heights_of" "heights_of" (Ap (top 40)) (Ao (top 40)) (Af (top 40)) .none kV25 dc25 pm25 an25 cd25 ct25),sl25⟩) (c25 : Uj K cd25 "heights_of" = true) (k25 : TX K (.ref f25) = true)
 (a26 : Vk K mainGlobals "whole_division" = some (some (.ref f26))) (l26 : K.lookup f26 = some ⟨oc26,od26,.func (Ui "whole_division" "whole_division" (Ap (top 33)) (Ao (top 33)) (Af (top 33)) .none kV26 dc26 pm26 an26 cd26 ct26),sl26⟩) (c26 : Uj K cd26 "whole_division" = true) (k26 : TX K (.ref f26) = true)
 (a27 : Vk K mainGlobals "raised" = some (some (.ref f27))) (l27 : K.lookup f27 = some ⟨oc27,od27,.func (Ui "raised" "raised" (Ap (top 32)) (Ao (top 32)) (Af (top 32)) .none kV27 dc27 pm27 an27 cd27 ct27),sl27⟩) (c27 : Uj K cd27 "raised" = true) (k27 : TX K (.ref f27) = true)
 (a28 : Vk K mainGlobals "divided" = some (some (.ref f28))) (l28 : K.lookup f28 = some ⟨oc28,od28,.func (Ui "divided" "divided" (Ap (top 34)) (Ao (top 34)) (Af (top 34)) .none kV28 dc28 pm28 an28 cd28 ct28),sl28⟩) (c28 : Uj K cd28 "divided" = true) (k28 : TX K (.ref f28) = true)
 (a29 : Vk K mainGlobals "without_last_noughts" = some (some (.ref f29))) (l29 : K.lookup f29 = some ⟨oc29,od29,.func (Ui "without_last_noughts" "without_last_noughts" (Ap (top 35)) (Ao (top 35)) (Af (top 35)) .none kV29 dc29 pm29 an29 cd29 ct29),sl29⟩) (c29 : Uj K cd29 "without_last_noughts" = true) (k29 : TX K (.ref f29) = true)
 (a30 : Vk K mainGlobals "last_rest" = some (some (.ref f30))) (l30 : K.lookup f30 = some ⟨oc30,od30,.func (Ui "last_rest" "last_rest" (Ap (top 36)) (Ao (top 36)) (Af (top 36)) .none kV30 dc30 pm30 an30 cd30 ct30),sl30⟩) (c30 : Uj K cd30 "last_rest" = true) (k30 : TX K (.ref f30) = true)
 (a31 : Vk K mainGlobals "common_part" = some (some (.ref f31))) (l31 : K.lookup f31 = some ⟨oc31,od31,.func (Ui "common_part" "common_part" (Ap (top 37)) (Ao (top 37)) (Af (top 37)) .none kV31 dc31 pm31 an31 cd31 ct31),sl31⟩) (c31 : Uj K cd31 "common_part" = true) (k31 : TX K (.ref f31) = true)
 (a32 : Vk K mainGlobals "times" = some (some (.ref f32))) (l32 : K.lookup f32 = some ⟨oc32,od32,.func (Ui "times" "times" (Ap (top 17)) (Ao (top 17)) (Af (top 17)) .none kV32 dc32 pm32 an32 cd32 ct32),sl32⟩) (c32 : Uj K cd32 "times" = true) (k32 : TX K (.ref f32) = true)
 (a33 : Vk K mainGlobals "slope_of" = some (some (.ref f33))) (l33 : K.lookup f33 = some ⟨oc33,od33,.func (Ui "slope_of" "slope_of" (Ap (top 29)) (Ao (top 29)) (Af (top 29)) .none kV33 dc33 pm33 an33 cd33 ct33),sl33⟩) (c33 : Uj K cd33 "slope_of" = true) (k33 : TX K (.ref f33) = true)
 (a34 : Vk K mainGlobals "lone_part" = some (some (.ref f34))) (l34 : K.lookup f34 = some ⟨oc34,od34,.func (Ui "lone_part" "lone_part" (Ap (top 44)) (Ao (top 44)) (Af (top 44)) .none kV34 dc34 pm34 an34 cd34 ct34),sl34⟩) (c34 : Uj K cd34 "lone_part" = true) (k34 : TX K (.ref f34) = true)
 (a35 : Vk K mainGlobals "sign_changes" = some (some (.ref f35))) (l35 : K.lookup f35 = some ⟨oc35,od35,.func (Ui "sign_changes" "sign_changes" (Ap (top 45)) (Ao (top 45)) (Af (top 45)) .none kV35 dc35 pm35 an35 cd35 ct35),sl35⟩) (c35 : Uj K cd35 "sign_changes" = true) (k35 : TX K (.ref f35) = true)
 (a36 : Vk K mainGlobals "whole_halves" = some (some (.ref f36))) (l36 : K.lookup f36 = some ⟨oc36,od36,.func (Ui "whole_halves" "whole_halves" (Ap (top 41)) (Ao (top 41)) (Af (top 41)) .none kV36 dc36 pm36 an36 cd36 ct36),sl36⟩) (c36 : Uj K cd36 "whole_halves" = true) (k36 : TX K (.ref f36) = true)
 (a37 : Vk K mainGlobals "plus" = some (some (.ref f37))) (l37 : K.lookup f37 = some ⟨oc37,od37,.func (Ui "plus" "plus" (Ap (top 15)) (Ao (top 15)) (Af (top 15)) .none kV37 dc37 pm37 an37 cd37 ct37),sl37⟩) (c37 : Uj K cd37 "plus" = true) (k37 : TX K (.ref f37) = true)
 (a38 : Vk K mainGlobals "halved" = some (some (.ref f38))) (l38 : K.lookup f38 = some ⟨oc38,od38,.func (Ui "halved" "halved" (Ap (top 47)) (Ao (top 47)) (Af (top 47)) .none kV38 dc38 pm38 an38 cd38 ct38),sl38⟩) (c38 : Uj K cd38 "halved" = true) (k38 : TX K (.ref f38) = true)
 (a39 : Vk K mainGlobals "pieces_of" = some (some (.ref f39))) (l39 : K.lookup f39 = some ⟨oc39,od39,.func (Ui "pieces_of" "pieces_of" (Ap (top 46)) (Ao (top 46)) (Af (top 46)) .none kV39 dc39 pm39 an39 cd39 ct39),sl39⟩) (c39 : Uj K cd39 "pieces_of" = true) (k39 : TX K (.ref f39) = true)
 (a40 : Vk K mainGlobals "whole_height" = some (some (.ref f40))) (l40 : K.lookup f40 = some ⟨oc40,od40,.func (Ui "whole_height" "whole_height" (Ap (top 26)) (Ao (top 26)) (Af (top 26)) .none kV40 dc40 pm40 an40 cd40 ct40),sl40⟩) (c40 : Uj K cd40 "whole_height" = true) (k40 : TX K (.ref f40) = true)
 (a41 : Vk K mainGlobals "height_at" = some (some (.ref f41))) (l41 : K.lookup f41 = some ⟨oc41,od41,.func (Ui "height_at" "height_at" (Ap (top 27)) (Ao (top 27)) (Af (top 27)) .none kV41 dc41 pm41 an41 cd41 ct41),sl41⟩) (c41 : Uj K cd41 "height_at" = true) (k41 : TX K (.ref f41) = true)
 (a42 : Vk K mainGlobals "noughts_of" = some (some (.ref f42))) (l42 : K.lookup f42 = some ⟨oc42,od42,.func (Ui "noughts_of" "noughts_of" (Ap (top 48)) (Ao (top 48)) (Af (top 48)) .none kV42 dc42 pm42 an42 cd42 ct42),sl42⟩) (c42 : Uj K cd42 "noughts_of" = true) (k42 : TX K (.ref f42) = true)
 (a43 : Vk K mainGlobals "_law_refusal" = some (some (.ref f43))) (l43 : K.lookup f43 = some ⟨oc43,od43,.func (Ui "_law_refusal" "_law_refusal" (Ap (top 62)) (Ao (top 62)) (Af (top 62)) .none kV43 dc43 pm43 an43 cd43 ct43),sl43⟩) (c43 : Uj K cd43 "_law_refusal" = true) (k43 : TX K (.ref f43) = true)
 (a44 : Vk K mainGlobals "_law_told_of" = some (some (.ref f44))) (l44 : K.lookup f44 = some ⟨oc44,od44,.func (Ui "_law_told_of" "_law_told_of" (Ap (top 64)) (Ao (top 64)) (Af (top 64)) .none kV44 dc44 pm44 an44 cd44 ct44),sl44⟩) (c44 : Uj K cd44 "_law_told_of" = true) (k44 : TX K (.ref f44) = true)
 (a45 : Vk K mainGlobals "_law_whole" = some (some (.ref f45))) (l45 : K.lookup f45 = some ⟨oc45,od45,.func (Ui "_law_whole" "_law_whole" (Ap (top 57)) (Ao (top 57)) (Af (top 57)) .none kV45 dc45 pm45 an45 cd45 ct45),sl45⟩) (c45 : Uj K cd45 "_law_whole" = true) (k45 : TX K (.ref f45) = true)
 (a46 : Vk K mainGlobals "law" = some (some (.ref f46))) (l46 : K.lookup f46 = some ⟨oc46,od46,.func (Ui "law" "law" (Ap (top 65)) (Ao (top 65)) (Af (top 65)) .none kV46 dc46 pm46 an46 cd46 ct46),sl46⟩) (c46 : Uj K cd46 "law" = true) (k46 : TX K (.ref f46) = true)
 (z_len : Vk K mainGlobals "len" = some none)
 (z_abs : Vk K mainGlobals "abs" = some none)
 (z_range : Vk K mainGlobals "range" = some none)
 (z_tuple : Vk K mainGlobals "tuple" = some none)
 (z_int : Vk K mainGlobals "int" = some none)
 (z_list : Vk K mainGlobals "list" = some none)
 (z_reversed : Vk K mainGlobals "reversed" = some none)
 (z_sum : Vk K mainGlobals "sum" = some none)
 (z_isinstance : Vk K mainGlobals "isinstance" = some none)
 (z_ValueError : Vk K mainGlobals "ValueError" = some none)
 (z_bool : Vk K mainGlobals "bool" = some none)
 {t_DEEPEST : Tok} (x_DEEPEST : Vk K mainGlobals "DEEPEST" = some (some (.int 16 t_DEEPEST)))
 {g_NOUGHT : Addr} {o_NOUGHT : Obj} {v_NOUGHT : Array Value} {m_NOUGHT : Nat} (x_NOUGHT : Vk K mainGlobals "NOUGHT" = some (some (.ref g_NOUGHT))) (y_NOUGHT : K.lookup g_NOUGHT = some o_NOUGHT) (w_NOUGHT : o_NOUGHT.cls = .type "tuple") (d_NOUGHT : o_NOUGHT.data = .seq v_NOUGHT m_NOUGHT) (e_NOUGHT : v_NOUGHT.toList.map LN = [some (.int (0 : Rat).num),some (.int ((0 : Rat).den : Int))])
 {a_CurveError : Addr} (nx_CurveError : Vk K mainGlobals "CurveError" = some (some (.ref a_CurveError)))
 {a_TooMany : Addr} (nx_TooMany : Vk K mainGlobals "TooMany" = some (some (.ref a_TooMany)))
 {a_NoPoints : Addr} (nx_NoPoints : Vk K mainGlobals "NoPoints" = some (some (.ref a_NoPoints)))
 {a_NoPoint : Addr} (nx_NoPoint : Vk K mainGlobals "NoPoint" = some (some (.ref a_NoPoint)))
 {a_NoNumber : Addr} (nx_NoNumber : Vk K mainGlobals "NoNumber" = some (some (.ref a_NoNumber)))
 {a_NoCurve : Addr} (nx_NoCurve : Vk K mainGlobals "NoCurve" = some (some (.ref a_NoCurve)))
 {a_NoStretch : Addr} (nx_NoStretch : Vk K mainGlobals "NoStretch" = some (some (.ref a_NoStretch)))
 {a_TooDeep : Addr} (nx_TooDeep : Vk K mainGlobals "TooDeep" = some (some (.ref a_TooDeep)))
 {a_TooFew : Addr} (nx_TooFew : Vk K mainGlobals "TooFew" = some (some (.ref a_TooFew)))
 {a_NoText : Addr} (nx_NoText : Vk K mainGlobals "NoText" = some (some (.ref a_NoText)))
 {a_NoRow : Addr} (nx_NoRow : Vk K mainGlobals "NoRow" = some (some (.ref a_NoRow)))
 {bm0TooDeep N0TooDeep nm0TooDeep q0TooDeep bs0TooDeep hd0TooDeep sn0TooDeep sub0TooDeep ab0TooDeep col0TooDeep dd0TooDeep j0TooDeep j1TooDeep j2TooDeep j3TooDeep j5TooDeep} (xl_TooDeep : K.lookup a_TooDeep = some (PySem.excClassObj nm0TooDeep q0TooDeep a_TooDeep N0TooDeep bs0TooDeep bm0TooDeep hd0TooDeep sn0TooDeep sub0TooDeep ab0TooDeep col0TooDeep dd0TooDeep j0TooDeep j1TooDeep j2TooDeep j3TooDeep j5TooDeep "ValueError.__new__"))
 (xex_TooDeep : PySem.W.excIn K a_TooDeep [.type "ValueError",.type "Exception",.type "BaseException",.type "object"] "ValueError.__new__" = true)
 (xga_TooDeep : TU K (.ref a_TooDeep) "__getattribute__" = some (some (.builtin "BaseException.__getattribute__"))) (xgt_TooDeep : TU K (.ref a_TooDeep) "__getattr__" = some none) (xca_TooDeep : TU K (.ref a_TooDeep) "__class__" = some (some (.builtin "object.__class__")))
 (xob_TooDeep : PySem.W.mroIn K a_TooDeep (.type "object") = some true) (xbe_TooDeep : PySem.W.mroIn K a_TooDeep (.type "BaseException") = some true)
 (xm_TooDeep : W4 K (.ref a_TooDeep) (.ref a_CurveError) = some true) (xv_TooDeep : TY K (.ref a_TooDeep) (.type "ValueError") = some true)
 (xk_TooDeep_0 : TY K (.ref a_TooDeep) (.ref a_TooMany) = some false)
 (xk_TooDeep_1 : TY K (.ref a_TooDeep) (.ref a_NoPoints) = some false)
 (xk_TooDeep_2 : TY K (.ref a_TooDeep) (.ref a_NoPoint) = some false)
 (xk_TooDeep_3 : TY K (.ref a_TooDeep) (.ref a_NoNumber) = some false)
 (xk_TooDeep_4 : TY K (.ref a_TooDeep) (.ref a_NoCurve) = some false)
 (xk_TooDeep_5 : TY K (.ref a_TooDeep) (.ref a_NoStretch) = some false)
 (xk_TooDeep_6 : TY K (.ref a_TooDeep) (.ref a_TooDeep) = some true)
 (xk_TooDeep_7 : TY K (.ref a_TooDeep) (.ref a_TooFew) = some false)
 (xk_TooDeep_8 : TY K (.ref a_TooDeep) (.ref a_NoText) = some false)
 (xk_TooDeep_9 : TY K (.ref a_TooDeep) (.ref a_NoRow) = some false)
 (xgg : TV K (.builtin "object.__class__") "__get__" = some (some (.builtin "getset_descriptor.__get__"))) (xtk : PySem.W.takesIn K (.builtin "object.__class__") = some true) :
 ∃ fd : FuncData,(∀ (s : Shared) (v : Value),BindsTo s fd ⟨[v],[]⟩ [("_law_script",v)]) ∧ ∀ base : Heap,K.In base → base.Ns mainGlobals mg → AN l.prog w K mg base CX0 41 fa fd ["_law_script"] (Iz K):=by
 have e:=hfa.symm.trans (Vl X G a46)
 cases e
 have Rl:=WD X G z_len
 have Rw:=WD X G z_abs
 have Rm:=WD X G z_range
 have Rv:=WD X G z_tuple
 have RA:=WD X G z_int
 have Ru:=WD X G z_list
 have RE:=WD X G z_reversed
 have RF:=WD X G z_sum
 have Ro:=WD X G z_isinstance
 have RS:=WD X G z_ValueError
 have RT:=WD X G z_bool
 have c_DEEPEST:=Vl X G x_DEEPEST
 have c_NOUGHT:=Vl X G x_NOUGHT
 have n_NOUGHT : ∀ H : Hp,AA K H (.ref g_NOUGHT) (0):=fun H=>⟨_,rfl,LH y_NOUGHT w_NOUGHT d_NOUGHT e_NOUGHT⟩
 have F1:=AE (st:=top 50) l1 c1 k1
 have B1:=Fun.binds2 "_law_script" "_law_k" F1 fun _ _ _ _ _ _ _ _=>rfl
 have F2:=AE (st:=top 52) l2 c2 k2
 have B2:=Fun.binds2 "_law_top" "_law_bottom" F2 fun _ _ _ _ _ _ _ _=>rfl
 have F3:=AE (st:=top 51) l3 c3 k3
 have B3:=Fun.binds2 "_law_pen_here" "_law_many" F3 fun _ _ _ _ _ _ _ _=>rfl
 have F4:=AE (st:=top 56) l4 c4 k4
 have B4:=Fun.binds1 "_law_pen_here" F4 fun _ _ _ _ _ _ _=>rfl
 have F5:=AE (st:=top 53) l5 c5 k5
 have B5:=Fun.binds2 "_law_a" "_law_b" F5 fun _ _ _ _ _ _ _ _=>rfl
 have F6:=AE (st:=top 55) l6 c6 k6
 have B6:=Fun.binds2 "_law_a" "_law_b" F6 fun _ _ _ _ _ _ _ _=>rfl
 have F7:=AE (st:=top 59) l7 c7 k7
 have B7:=Fun.binds2 "_law_one" "_law_other" F7 fun _ _ _ _ _ _ _ _=>rfl
 have F8:=AE (st:=top 54) l8 c8 k8
 have B8:=Fun.binds2 "_law_a" "_law_b" F8 fun _ _ _ _ _ _ _ _=>rfl
 have F9:=AE (st:=top 60) l9 c9 k9
 have B9:=Fun.binds1 "_law_pen_here" F9 fun _ _ _ _ _ _ _=>rfl
 have F10:=AE (st:=top 58) l10 c10 k10
 have B10:=Fun.binds1 "_law_pen_here" F10 fun _ _ _ _ _ _ _=>rfl
 have F11:=AE (st:=top 61) l11 c11 k11
 have B11:=Fun.binds2 "_law_a" "_law_b" F11 fun _ _ _ _ _ _ _ _=>rfl
 have F12:=AE (st:=top 63) l12 c12 k12
 have B12:=Fun.binds2 "_law_pen_here" "_law_places" F12 fun _ _ _ _ _ _ _ _=>rfl
 have F13:=AE (st:=top 13) l13 c13 k13
 have B13:=Fun.binds2 "one" "other" F13 fun _ _ _ _ _ _ _ _=>rfl
 have F14:=AE (st:=top 14) l14 c14 k14
 have B14:=Fun.binds2 "top" "bottom" F14 fun _ _ _ _ _ _ _ _=>rfl
 have F15:=AE (st:=top 18) l15 c15 k15
 have B15:=Fun.binds2 "a" "b" F15 fun _ _ _ _ _ _ _ _=>rfl
 have F16:=AE (st:=top 39) l16 c16 k16
 have B16:=Fun.binds1 "along" F16 fun _ _ _ _ _ _ _=>rfl
 have F17:=AE (st:=top 23) l17 c17 k17
 have B17:=Fun.binds1 "numbers" F17 fun _ _ _ _ _ _ _=>rfl
 have F18:=AE (st:=top 24) l18 c18 k18
 have B18:=Fun.binds2 "numbers" "bottom" F18 fun _ _ _ _ _ _ _ _=>rfl
 have F19:=AE (st:=top 19) l19 c19 k19
 have B19:=Fun.binds2 "a" "b" F19 fun _ _ _ _ _ _ _ _=>rfl
 have F20:=AE (st:=top 22) l20 c20 k20
 have B20:=Fun.binds1 "numbers" F20 fun _ _ _ _ _ _ _=>rfl
 have F21:=AE (st:=top 25) l21 c21 k21
 have B21:=Fun.binds2 "tops" "bottom" F21 fun _ _ _ _ _ _ _ _=>rfl
 have F22:=AE (st:=top 28) l22 c22 k22
 have B22:=Fun.binds2 "first" "second" F22 fun _ _ _ _ _ _ _ _=>rfl
 have F23:=AE (st:=top 30) l23 c23 k23
 have B23:=Fun.binds3 "curve" "a" "b" F23 fun _ _ _ _ _ _ _ _ _=>rfl
 have F24:=AE (st:=top 16) l24 c24 k24
 have B24:=Fun.binds2 "a" "b" F24 fun _ _ _ _ _ _ _ _=>rfl
 have F25:=AE (st:=top 40) l25 c25 k25
 have B25:=Fun.binds3 "curve" "low" "high" F25 fun _ _ _ _ _ _ _ _ _=>rfl
 have F26:=AE (st:=top 33) l26 c26 k26
 have B26:=Fun.binds2 "first" "second" F26 fun _ _ _ _ _ _ _ _=>rfl
 have F27:=AE (st:=top 32) l27 c27 k27
 have B27:=Fun.binds2 "base" "many" F27 fun _ _ _ _ _ _ _ _=>rfl
 have F28:=AE (st:=top 34) l28 c28 k28
 have B28:=Fun.binds2 "one" "other" F28 fun _ _ _ _ _ _ _ _=>rfl
 have F29:=AE (st:=top 35) l29 c29 k29
 have B29:=Fun.binds1 "tops" F29 fun _ _ _ _ _ _ _=>rfl
 have F30:=AE (st:=top 36) l30 c30 k30
 have B30:=Fun.binds2 "great" "small" F30 fun _ _ _ _ _ _ _ _=>rfl
 have F31:=AE (st:=top 37) l31 c31 k31
 have B31:=Fun.binds2 "one" "other" F31 fun _ _ _ _ _ _ _ _=>rfl
 have F32:=AE (st:=top 17) l32 c32 k32
 have B32:=Fun.binds2 "a" "b" F32 fun _ _ _ _ _ _ _ _=>rfl
 have F33:=AE (st:=top 29) l33 c33 k33
 have B33:=Fun.binds1 "curve" F33 fun _ _ _ _ _ _ _=>rfl
 have F34:=AE (st:=top 44) l34 c34 k34
 have B34:=Fun.binds1 "curve" F34 fun _ _ _ _ _ _ _=>rfl
 have F35:=AE (st:=top 45) l35 c35 k35
 have B35:=Fun.binds1 "tops" F35 fun _ _ _ _ _ _ _=>rfl
 have F36:=AE (st:=top 41) l36 c36 k36
 have B36:=Fun.binds1 "tops" F36 fun _ _ _ _ _ _ _=>rfl
 have F37:=AE (st:=top 15) l37 c37 k37
 have B37:=Fun.binds2 "a" "b" F37 fun _ _ _ _ _ _ _ _=>rfl
 have F38:=AE (st:=top 47) l38 c38 k38
 have B38:=Fun.binds1 "piece" F38 fun _ _ _ _ _ _ _=>rfl
 have F39:=AE (st:=top 46) l39 c39 k39
 have B39:=Fun.binds3 "curve" "low" "high" F39 fun _ _ _ _ _ _ _ _ _=>rfl
 have F40:=AE (st:=top 26) l40 c40 k40
 have B40:=Fun.binds2 "tops" "x" F40 fun _ _ _ _ _ _ _ _=>rfl
 have F41:=AE (st:=top 27) l41 c41 k41
 have B41:=Fun.binds2 "curve" "x" F41 fun _ _ _ _ _ _ _ _=>rfl
 have F42:=AE (st:=top 48) l42 c42 k42
 have B42:=Fun.binds3 "curve" "low" "high" F42 fun _ _ _ _ _ _ _ _ _=>rfl
 have F43:=AE (st:=top 62) l43 c43 k43
 have B43:=Fun.binds1 "_law_caught" F43 fun _ _ _ _ _ _ _=>rfl
 have F44:=AE (st:=top 64) l44 c44 k44
 have B44:=Fun.binds4 "_law_way" "_law_curve" "_law_low" "_law_high" F44 fun _ _ _ _ _ _ _ _ _ _=>rfl
 have F45:=AE (st:=top 57) l45 c45 k45
 have B45:=Fun.binds1 "_law_thing" F45 fun _ _ _ _ _ _ _=>rfl
 have F46:=AE (st:=top 65) l46 c46 k46
 refine ⟨Ui "law" "law" (Ap (top 65)) (Ao (top 65)) (Af (top 65)) .none kV46 dc46 pm46 an46 cd46 ct46,fun s v=>.of_eq rfl,fun base _ _=>?_⟩
 have c_CurveError:=Vl X G nx_CurveError
 have c_TooMany:=Vl X G nx_TooMany
 have c_NoPoints:=Vl X G nx_NoPoints
 have c_NoPoint:=Vl X G nx_NoPoint
 have c_NoNumber:=Vl X G nx_NoNumber
 have c_NoCurve:=Vl X G nx_NoCurve
 have c_NoStretch:=Vl X G nx_NoStretch
 have c_TooDeep:=Vl X G nx_TooDeep
 have c_TooFew:=Vl X G nx_TooFew
 have c_NoText:=Vl X G nx_NoText
 have c_NoRow:=Vl X G nx_NoRow
 have k_TooDeep : Oe K "TooDeep" a_TooDeep:=⟨nx_TooDeep,⟨_,_,_,_,_,_,_,_,_,_,_,_,_,_,_,_,xl_TooDeep⟩,xex_TooDeep⟩
 have xr_TooDeep : Qa K a_TooDeep [a_TooMany,a_NoPoints,a_NoPoint,a_NoNumber,a_NoCurve,a_NoStretch,a_TooDeep,a_TooFew,a_NoText,a_NoRow] 6:=⟨⟨xga_TooDeep,xgt_TooDeep,xca_TooDeep,xgg,xtk,xob_TooDeep,xbe_TooDeep,⟨_,_,_,_,xl_TooDeep⟩⟩,xv_TooDeep,fun i c h=>match i,h with | 0,h=>by cases h; exact xk_TooDeep_0 | 1,h=>by cases h; exact xk_TooDeep_1 | 2,h=>by cases h; exact xk_TooDeep_2 | 3,h=>by cases h; exact xk_TooDeep_3 | 4,h=>by cases h; exact xk_TooDeep_4 | 5,h=>by cases h; exact xk_TooDeep_5 | 6,h=>by cases h; exact xk_TooDeep_6 | 7,h=>by cases h; exact xk_TooDeep_7 | 8,h=>by cases h; exact xk_TooDeep_8 | 9,h=>by cases h; exact xk_TooDeep_9 | i + 10,h=>nomatch h⟩
 have SJ:=fdm w base (IK F1 Rl hT) B1 k1 (Vl X G a1)
 have RG:=fdm w base (FO F2 Rw hT) B2 k2 (Vl X G a2)
 have RM:=fdm w base (HU F3 hT) B3 k3 (Vl X G a3)
 have Sh:=fdm w base (FN F4 RG RM hT) B4 k4 (Vl X G a4)
 have RU:=fdm w base (HQ F5 RG hT) B5 k5 (Vl X G a5)
 have SK:=fdm w base (Gr F6 RG hT) B6 k6 (Vl X G a6)
 have SM:=fdm w base (Fc F7 RU SK Rm Rv Rl hT) B7 k7 (Vl X G a7)
 have SN:=fdm w base (Gs F8 RG hT) B8 k8 (Vl X G a8)
 have SO:=fdm w base (Gu F9 Sh RM SM RG SN Rm RA Rl hT) B9 k9 (Vl X G a9)
 have SQ:=fdm w base (Fb F10 Sh RU RM hT) B10 k10 (Vl X G a10)
 have Si:=fdm w base (HR F11 hT) B11 k11 (Vl X G a11)
 have SR:=fdm w base (HS F12 SQ RU Si RM RG Ru Rl hT) B12 k12 (Vl X G a12)
 have Sj:=fdm w base (Ef F13 Rw hT) B13 k13 (Vl X G a13)
 have Rz:=fdm w base (HJ F14 Sj hT) B14 k14 (Vl X G a14)
 have RN:=fdm w base (NI F15 Rz hT) B15 k15 (Vl X G a15)
 have SS:=fdm w base (FK F16 RN Rm Rl hT) B16 k16 (Vl X G a16)
 have Rx:=fdm w base (HN F17 Sj hT) B17 k17 (Vl X G a17)
 have Ry:=fdm w base (HI F18 hT) B18 k18 (Vl X G a18)
 have SU:=fdm w base (JG F19 hT) B19 k19 (Vl X G a19)
 have SV:=fdm w base (IJ F20 Rl Rv c_NOUGHT n_NOUGHT hT) B20 k20 (Vl X G a20)
 have RV:=fdm w base (Gp F21 SV Rz hT) B21 k21 (Vl X G a21)
 have SW:=fdm w base (EL F22 Rm Rl hT) B22 k22 (Vl X G a22)
 have SX:=fdm w base (HG F23 Rx Ry RV SW RE hT) B23 k23 (Vl X G a23)
 have E_minus:=fdm w base (MA F24 Rz hT) B24 k24 (Vl X G a24)
 have RW:=fdm w base (Gn F25 SS Rx Ry SU SX E_minus Rz Rl Rm c_NOUGHT n_NOUGHT hT) B25 k25 (Vl X G a25)
 have Sk:=fdm w base (Ed F26 Ru Rm Rl hT) B26 k26 (Vl X G a26)
 have Sl:=fdm w base (Lh F27 Rm hT) B27 k27 (Vl X G a27)
 have SY:=fdm w base (JH F28 Rx Ry Sk RV Sl Rl hT) B28 k28 (Vl X G a28)
 have T3:=fdm w base (D9 F29 Rl hT) B29 k29 (Vl X G a29)
 have T4:=fdm w base (HL F30 T3 Sl Sk Rl hT) B30 k30 (Vl X G a30)
 have T5:=fdm w base (FL F31 Ry RV Rx T4 Rl hT) B31 k31 (Vl X G a31)
 have E_times:=fdm w base (Mz F32 Rz hT) B32 k32 (Vl X G a32)
 have T6:=fdm w base (II F33 E_times Rv Rm Rl hT) B33 k33 (Vl X G a33)
 have RX:=fdm w base (HK F34 SY T5 T6 Rl hT) B34 k34 (Vl X G a34)
 have RY:=fdm w base (EZ F35 Rl Rm hT) B35 k35 (Vl X G a35)
 have RZ:=fdm w base (EY F36 Ru Rl Rm hT) B36 k36 (Vl X G a36)
 have S5:=fdm w base (NH F37 Rz hT) B37 k37 (Vl X G a37)
 have S6:=fdm w base (GK F38 RN RZ S5 c_DEEPEST hT) B38 k38 (Vl X G a38)
 have XF_halved : AN l.prog w K mg base (CX2 l.prog w) 36 _ _ ["piece"] (CF K a_TooDeep):=JF (base:=base) (w:=w) F38 k_TooDeep RN RZ S5 c_DEEPEST hT
 have X_halved : FdY l.prog w K mg base 36 "halved" ["piece"] (CF K a_TooDeep):=⟨_,_,XF_halved,B38,k38,Vl X G a38⟩
 have Y_halved : FdY l.prog w K mg base 36 "halved" ["piece"] (fun vs H Q E=>(CZ K : Sp) vs H Q E ∨ (CF K a_TooDeep : Sp) vs H Q E):=⟨_,_,(GK F38 RN RZ S5 c_DEEPEST hT).calm.or XF_halved,B38,k38,Vl X G a38⟩
 have RO:=fdm w base (Ee F39 RW RX RY Ry Rx S6 Rl hT) B39 k39 (Vl X G a39)
 have XF_pieces_of : AN l.prog w K mg base (CX2 l.prog w) 38 _ _ ["curve","low","high"] (Cb K a_TooDeep):=Gm (base:=base) (w:=w) F39 Y_halved RW RX RY Ry Rx S6 Rl hT
 have X_pieces_of : FdY l.prog w K mg base 38 "pieces_of" ["curve","low","high"] (Cb K a_TooDeep):=⟨_,_,XF_pieces_of,B39,k39,Vl X G a39⟩
 have Y_pieces_of : FdY l.prog w K mg base 38 "pieces_of" ["curve","low","high"] (fun vs H Q E=>((fun _ _ _ _=>False : Sp) : Sp) vs H Q E ∨ (Cb K a_TooDeep : Sp) vs H Q E):=⟨_,_,(Ee F39 RW RX RY Ry Rx S6 Rl hT).calm.or XF_pieces_of,B39,k39,Vl X G a39⟩
 have T7:=fdm w base (EX F40 RE hT) B40 k40 (Vl X G a40)
 have S7:=fdm w base (HM F41 Rx T7 Rz Ry hT) B41 k41 (Vl X G a41)
 have T8:=fdm w base (DT F42 RO S7 Rl RF c_NOUGHT n_NOUGHT hT) B42 k42 (Vl X G a42)
 have XF_noughts_of : AN l.prog w K mg base (CX2 l.prog w) 39 _ _ ["curve","low","high"] (EA K a_TooDeep):=FJ (base:=base) (w:=w) F42 Y_pieces_of RO S7 Rl RF c_NOUGHT n_NOUGHT hT
 have X_noughts_of : FdY l.prog w K mg base 39 "noughts_of" ["curve","low","high"] (EA K a_TooDeep):=⟨_,_,XF_noughts_of,B42,k42,Vl X G a42⟩
 have Y_noughts_of : FdY l.prog w K mg base 39 "noughts_of" ["curve","low","high"] (fun vs H Q E=>((fun _ _ _ _=>False : Sp) : Sp) vs H Q E ∨ (EA K a_TooDeep : Sp) vs H Q E):=⟨_,_,(DT F42 RO S7 Rl RF c_NOUGHT n_NOUGHT hT).calm.or XF_noughts_of,B42,k42,Vl X G a42⟩
 have H__law_refusal : FdH l.prog w K mg base 33 "_law_refusal" "_law_caught" (Jz K [a_TooMany,a_NoPoints,a_NoPoint,a_NoNumber,a_NoCurve,a_NoStretch,a_TooDeep,a_TooFew,a_NoText,a_NoRow]):=⟨_,_,EK F43 c_TooMany c_NoPoints c_NoPoint c_NoNumber c_NoCurve c_NoStretch c_TooDeep c_TooFew c_NoText c_NoRow Ro Rl RS hT,B43,k43,Vl X G a43⟩
 have T9:=fdm w base (F0 F44 c_CurveError xm_TooDeep xr_TooDeep H__law_refusal Y_pieces_of Y_noughts_of RO T8 hT) B44 k44 (Vl X G a44)
 have Ta:=fdm w base (Gq F45 Ro RA RT hT) B45 k45 (Vl X G a45)
 exact Pn F46 SJ SO SR T9 Ta Si Rl Ro Ru hT
theorem QY {l : Ux} {q : Program} {loose : List Str} {XP : (Str → Option Value) → Heap → Prop} {YP : World → Heap → Prop} {d : DefRec} {K : Params → Tq} (hI : PyProof.Rows.importsNone q = true) (hn : l.most = some 63) (hdf : d.params.defaults = [])
 (hY : ∀ (w : World) (h : Heap),YP w h → (K w.params).In h)
 (F : ∀ (w : World) (mg : Str → Option Value) (fa : Addr) (h : Heap),(K w.params).In h → h.Ns mainGlobals mg → mg d.name = some (.ref fa) →
  ∃ fd : FuncData,(∀ (s : Shared) (u : Value),BindsTo s fd ⟨[u],[]⟩ [("_law_script",u)]) ∧ ∀ base : Heap,(K w.params).In base → base.Ns mainGlobals mg → AN l.prog w (K w.params) mg base CX0 41 fa fd ["_law_script"] ((fun (K : Tq)=>(Iz K : Sp)) (K w.params))) :
 PySem.W.WalkO q loose XP YP l.row.toRowW d [] (fun f vs=>PySem.call f vs) :=
 L2.Nk (n:=63) (k:=41) (x:="_law_script") (CX:=fun _=>CX0) (sp:=fun w=>(fun (K : Tq)=>(Iz K : Sp)) (K w.params)) hI hn (by decide) hdf ⟨rfl,by decide,by decide⟩ hY F (fun _ _ a ns hl _ hS=>⟨a,ns,rfl,hS,hl,fun _=>rfl⟩) fun _ _ _ _ _ z=>z
end Pf
def PySem.W.Fast.tw2547485547215672005 : Unit:=()
def PySem.W.Fast.tw3276290951241252775 : Unit:=()
def PySem.W.Fast.tw11895309281846693226 : Unit:=()
def PySem.W.Fast.tw996901065819628169 : Unit:=()
def PySem.W.Fast.tw2420949154557788930 : Unit:=()
def PySem.W.Fast.tw4751137469551319595 : Unit:=()
def PySem.W.Fast.tw8579518493985057376 : Unit:=()
def PySem.W.Fast.tw10801693250772263359 : Unit:=()
def PySem.W.Fast.tw11422964670310540510 : Unit:=()
def PySem.W.Fast.tw4896367031814326517 : Unit:=()
def PySem.W.Fast.tw2759233296787637965 : Unit:=()
def PySem.W.Fast.tw1971304055230643996 : Unit:=()
def PySem.W.Fast.tw12698856203123340468 : Unit:=()
def PySem.W.Fast.tw3936510193055649217 : Unit:=()
def PySem.W.Fast.tw11704473074032983877 : Unit:=()
def PySem.W.Fast.tw16696773032062771957 : Unit:=()
def PySem.W.Fast.tw16494867530248985204 : Unit:=()
def PySem.W.Fast.tw3286222731618825213 : Unit:=()
def PySem.W.Fast.tw9254377723255795249 : Unit:=()
def PySem.W.Fast.tw4426538057236462209 : Unit:=()
def PySem.W.Fast.tw245930469241305946 : Unit:=()
def PySem.W.Fast.tw13792502775219117463 : Unit:=()
def PySem.W.Fast.tw8070806350122208451 : Unit:=()
def PySem.W.Fast.tw257292071626147255 : Unit:=()
def PySem.W.Fast.tw1756658098266344570 : Unit:=()
def PySem.W.Fast.tw2575582671892134931 : Unit:=()
def PySem.W.Fast.tw11630092266085727420 : Unit:=()
def PySem.W.Fast.tw9855944390204337581 : Unit:=()
def PySem.W.Fast.tw17134289104105819570 : Unit:=()
def PySem.W.Fast.tw10307474666135588273 : Unit:=()
def PySem.W.Fast.tw10713301109138002127 : Unit:=()
def PySem.W.Fast.tw3120462099211689732 : Unit:=()
def PySem.W.Fast.tw5095911529354915706 : Unit:=()
def PySem.W.Fast.tw14135339636156364327 : Unit:=()
def PySem.W.Fast.tw16453443934512501042 : Unit:=()
def PySem.W.Fast.tw10106388038806615726 : Unit:=()
def PySem.W.Fast.tw14622118587745042129 : Unit:=()
def PySem.W.Fast.tw8952940729910672859 : Unit:=()
def PySem.W.Fast.tw4905991170696987675 : Unit:=()
def PySem.W.Fast.tw6674373260964297438 : Unit:=()
def PySem.W.Fast.tw2617291140053164972 : Unit:=()
def PySem.W.Fast.tw4192439011765045873 : Unit:=()
def PySem.W.Fast.tw17900861649840814431 : Unit:=()
def PySem.W.Fast.tw6987480881121025484 : Unit:=()
def PySem.W.Fast.tw14453397871919872320 : Unit:=()
def PySem.W.Fast.tw890198066607264736 : Unit:=()
def PySem.W.Fast.tw15992063996772265099 : Unit:=()
def PySem.W.Fast.tw10448379833253831079 : Unit:=()
def PySem.W.Fast.tw16000506704587170369 : Unit:=()
def PySem.W.Fast.tw1233688913658993101 : Unit:=()
def PySem.W.Fast.tw17639257411149456838 : Unit:=()
def PySem.W.Fast.tw16774664357498922890 : Unit:=()
def PySem.W.Fast.tw13825852989466353922 : Unit:=()
def PySem.W.Fast.tw5152908767445381608 : Unit:=()
def PySem.W.Fast.tw17008491227257816522 : Unit:=()
def PySem.W.Fast.tw6371437548153362662 : Unit:=()
def PySem.W.Fast.tw10699456846538757414 : Unit:=()
def PySem.W.Fast.tw8515471275033014823 : Unit:=()
def PySem.W.Fast.tw6542272271963181072 : Unit:=()
def PySem.W.Fast.tw1015193287143596644 : Unit:=()
def PySem.W.Fast.tw16365195423925635553 : Unit:=()
def PySem.W.Fast.tw9811007093353065365 : Unit:=()
def PySem.W.Fast.tw17360270034289682789 : Unit:=()
def PySem.W.Fast.tw17211430134122322219 : Unit:=()
def PySem.W.Fast.tw9570519078422015285 : Unit:=()
def PySem.W.Fast.tw3645249417153586194 : Unit:=()
def PySem.W.Fast.tw17945944905899587673 : Unit:=()
def PySem.W.Fast.tw12490890951944244154 : Unit:=()
def PySem.W.Fast.tw13396778152454766890 : Unit:=()
def PySem.W.Fast.tw12214468929521044270 : Unit:=()
def PySem.W.Fast.tw15642171796070557915 : Unit:=()
def PySem.W.Fast.tw13997740302454452368 : Unit:=()
def PySem.W.Fast.tw6372183643518777126 : Unit:=()
def PySem.W.Fast.tw3576633525204069646 : Unit:=()
def PySem.W.Fast.tw6722213119140446210 : Unit:=()
def PySem.W.Fast.tw17475492255065883370 : Unit:=()
def PySem.W.Fast.tw7921103701744610717 : Unit:=()
def PySem.W.Fast.tw13297571904802704792 : Unit:=()
def PySem.W.Fast.tw14314516598629120279 : Unit:=()
def PySem.W.Fast.tw13335670289833500492 : Unit:=()
def PySem.W.Fast.tw4924361507233070596 : Unit:=()
def PySem.W.Fast.tw6520884223368576164 : Unit:=()
def PySem.W.Fast.tw13957622528712241203 : Unit:=()
def PySem.W.Fast.tw13599825677523561351 : Unit:=()
def PySem.W.Fast.tw18286055010597990702 : Unit:=()
def PySem.W.Fast.tw1449746085361802871 : Unit:=()
def PySem.W.Fast.tw6100289435303395652 : Unit:=()
def PySem.W.Fast.tw12224317480594471628 : Unit:=()
def PySem.W.Fast.tw4442910874236493432 : Unit:=()
def PySem.W.Fast.tw9421670326291960178 : Unit:=()
def PySem.W.Fast.tw5265841353377379072 : Unit:=()
def PySem.W.Fast.tw1571094120836732085 : Unit:=()
def PySem.W.Fast.tw17816114405446287696 : Unit:=()
def PySem.W.Fast.tw8197589105922929510 : Unit:=()
def PySem.W.Fast.tw2100832415755793205 : Unit:=()
def PySem.W.Fast.tw12301535084897736274 : Unit:=()
def PySem.W.Fast.tw10889048209329194170 : Unit:=()
def PySem.W.Fast.tw8712782206142673099 : Unit:=()
def PySem.W.Fast.tw1069649977628649026 : Unit:=()
def PySem.W.Fast.tw13612627348162034237 : Unit:=()
def PySem.W.Fast.tw15221796341200283845 : Unit:=()
def PySem.W.Fast.tw15741058049876961320 : Unit:=()
def PySem.W.Fast.tw8602025722334491596 : Unit:=()
def PySem.W.Fast.tw3866826940052890175 : Unit:=()
def PySem.W.Fast.tw107755281605887259 : Unit:=()
def PySem.W.Fast.tw15134892034034833675 : Unit:=()
open PySem PySem.W PyProof.Rows
set_option maxRecDepth 100000 in
set_option maxHeartbeats 0 in
theorem PySem.Challenge.cw_onecurve_k42_noughts_counted_holds : PySem.Challenge.rw_onecurve_k42_noughts_counted.Holds := by
 w_on; o_law; k_head; (case hw=>w_witness2)
 k_fill
 refine Pf.QY (l:=PySem.Challenge.rw_onecurve_k42_noughts_counted) (by decide +kernel) rfl rfl (fun w h Y=>PySem.W.kIn_of Y) ?F
 case F =>
  intro w mg fa h KX G hmg
  refine' Pf.Q8 rfl KX G hmg ?a1 ?l1 ?c1 ?k1 ?a2 ?l2 ?c2 ?k2 ?a3 ?l3 ?c3 ?k3 ?a4 ?l4 ?c4 ?k4 ?a5 ?l5 ?c5 ?k5 ?a6 ?l6 ?c6 ?k6 ?a7 ?l7 ?c7 ?k7 ?a8 ?l8 ?c8 ?k8 ?a9 ?l9 ?c9 ?k9 ?a10 ?l10 ?c10 ?k10 ?a11 ?l11 ?c11 ?k11 ?a12 ?l12 ?c12 ?k12 ?a13 ?l13 ?c13 ?k13 ?a14 ?l14 ?c14 ?k14 ?a15 ?l15 ?c15 ?k15 ?a16 ?l16 ?c16 ?k16 ?a17 ?l17 ?c17 ?k17 ?a18 ?l18 ?c18 ?k18 ?a19 ?l19 ?c19 ?k19 ?a20 ?l20 ?c20 ?k20 ?a21 ?l21 ?c21 ?k21 ?a22 ?l22 ?c22 ?k22 ?a23 ?l23 ?c23 ?k23 ?a24 ?l24 ?c24 ?k24 ?a25 ?l25 ?c25 ?k25 ?a26 ?l26 ?c26 ?k26 ?a27 ?l27 ?c27 ?k27 ?a28 ?l28 ?c28 ?k28 ?a29 ?l29 ?c29 ?k29 ?a30 ?l30 ?c30 ?k30 ?a31 ?l31 ?c31 ?k31 ?a32 ?l32 ?c32 ?k32 ?a33 ?l33 ?c33 ?k33 ?a34 ?l34 ?c34 ?k34 ?a35 ?l35 ?c35 ?k35 ?a36 ?l36 ?c36 ?k36 ?a37 ?l37 ?c37 ?k37 ?a38 ?l38 ?c38 ?k38 ?a39 ?l39 ?c39 ?k39 ?a40 ?l40 ?c40 ?k40 ?a41 ?l41 ?c41 ?k41 ?a42 ?l42 ?c42 ?k42 ?a43 ?l43 ?c43 ?k43 ?a44 ?l44 ?c44 ?k44 ?a45 ?l45 ?c45 ?k45 ?a46 ?l46 ?c46 ?k46 ?z_len ?z_abs ?z_range ?z_tuple ?z_int ?z_list ?z_reversed ?z_sum ?z_isinstance ?z_ValueError ?z_bool ?x_DEEPEST ?x_NOUGHT ?y_NOUGHT ?w_NOUGHT ?d_NOUGHT ?e_NOUGHT ?nx_CurveError ?nx_TooMany ?nx_NoPoints ?nx_NoPoint ?nx_NoNumber ?nx_NoCurve ?nx_NoStretch ?nx_TooDeep ?nx_TooFew ?nx_NoText ?nx_NoRow ?xl_TooDeep ?xex_TooDeep ?xga_TooDeep ?xgt_TooDeep ?xca_TooDeep ?xob_TooDeep ?xbe_TooDeep ?xm_TooDeep ?xv_TooDeep ?xk_TooDeep_0 ?xk_TooDeep_1 ?xk_TooDeep_2 ?xk_TooDeep_3 ?xk_TooDeep_4 ?xk_TooDeep_5 ?xk_TooDeep_6 ?xk_TooDeep_7 ?xk_TooDeep_8 ?xk_TooDeep_9 ?xgg ?xtk
  (case a1=>k_is)
  (case l1=>k_is)
  (case c1=>k_is)
  (case k1=>k_is)
  (case a2=>k_is)
  (case l2=>k_is)
  (case c2=>k_is)
  (case k2=>k_is)
  (case a3=>k_is)
  (case l3=>k_is)
  (case c3=>k_is)
  (case k3=>k_is)
  (case a4=>k_is)
  (case l4=>k_is)
  (case c4=>k_is)
  (case k4=>k_is)
  (case a5=>k_is)
  (case l5=>k_is)
  (case c5=>k_is)
  (case k5=>k_is)
  (case a6=>k_is)
  (case l6=>k_is)
  (case c6=>k_is)
  (case k6=>k_is)
  (case a7=>k_is)
  (case l7=>k_is)
  (case c7=>k_is)
  (case k7=>k_is)
  (case a8=>k_is)
  (case l8=>k_is)
  (case c8=>k_is)
  (case k8=>k_is)
  (case a9=>k_is)
  (case l9=>k_is)
  (case c9=>k_is)
  (case k9=>k_is)
  (case a10=>k_is)
  (case l10=>k_is)
  (case c10=>k_is)
  (case k10=>k_is)
  (case a11=>k_is)
  (case l11=>k_is)
  (case c11=>k_is)
  (case k11=>k_is)
  (case a12=>k_is)
  (case l12=>k_is)
  (case c12=>k_is)
  (case k12=>k_is)
  (case a13=>k_is)
  (case l13=>k_is)
  (case c13=>k_is)
  (case k13=>k_is)
  (case a14=>k_is)
  (case l14=>k_is)
  (case c14=>k_is)
  (case k14=>k_is)
  (case a15=>k_is)
  (case l15=>k_is)
  (case c15=>k_is)
  (case k15=>k_is)
  (case a16=>k_is)
  (case l16=>k_is)
  (case c16=>k_is)
  (case k16=>k_is)
  (case a17=>k_is)
  (case l17=>k_is)
  (case c17=>k_is)
  (case k17=>k_is)
  (case a18=>k_is)
  (case l18=>k_is)
  (case c18=>k_is)
  (case k18=>k_is)
  (case a19=>k_is)
  (case l19=>k_is)
  (case c19=>k_is)
  (case k19=>k_is)
  (case a20=>k_is)
  (case l20=>k_is)
  (case c20=>k_is)
  (case k20=>k_is)
  (case a21=>k_is)
  (case l21=>k_is)
  (case c21=>k_is)
  (case k21=>k_is)
  (case a22=>k_is)
  (case l22=>k_is)
  (case c22=>k_is)
  (case k22=>k_is)
  (case a23=>k_is)
  (case l23=>k_is)
  (case c23=>k_is)
  (case k23=>k_is)
  (case a24=>k_is)
  (case l24=>k_is)
  (case c24=>k_is)
  (case k24=>k_is)
  (case a25=>k_is)
  (case l25=>k_is)
  (case c25=>k_is)
  (case k25=>k_is)
  (case a26=>k_is)
  (case l26=>k_is)
  (case c26=>k_is)
  (case k26=>k_is)
  (case a27=>k_is)
  (case l27=>k_is)
  (case c27=>k_is)
  (case k27=>k_is)
  (case a28=>k_is)
  (case l28=>k_is)
  (case c28=>k_is)
  (case k28=>k_is)
  (case a29=>k_is)
  (case l29=>k_is)
  (case c29=>k_is)
  (case k29=>k_is)
  (case a30=>k_is)
  (case l30=>k_is)
  (case c30=>k_is)
  (case k30=>k_is)
  (case a31=>k_is)
  (case l31=>k_is)
  (case c31=>k_is)
  (case k31=>k_is)
  (case a32=>k_is)
  (case l32=>k_is)
  (case c32=>k_is)
  (case k32=>k_is)
  (case a33=>k_is)
  (case l33=>k_is)
  (case c33=>k_is)
  (case k33=>k_is)
  (case a34=>k_is)
  (case l34=>k_is)
  (case c34=>k_is)
  (case k34=>k_is)
  (case a35=>k_is)
  (case l35=>k_is)
  (case c35=>k_is)
  (case k35=>k_is)
  (case a36=>k_is)
  (case l36=>k_is)
  (case c36=>k_is)
  (case k36=>k_is)
  (case a37=>k_is)
  (case l37=>k_is)
  (case c37=>k_is)
  (case k37=>k_is)
  (case a38=>k_is)
  (case l38=>k_is)
  (case c38=>k_is)
  (case k38=>k_is)
  (case a39=>k_is)
  (case l39=>k_is)
  (case c39=>k_is)
  (case k39=>k_is)
  (case a40=>k_is)
  (case l40=>k_is)
  (case c40=>k_is)
  (case k40=>k_is)
  (case a41=>k_is)
  (case l41=>k_is)
  (case c41=>k_is)
  (case k41=>k_is)
  (case a42=>k_is)
  (case l42=>k_is)
  (case c42=>k_is)
  (case k42=>k_is)
  (case a43=>k_is)
  (case l43=>k_is)
  (case c43=>k_is)
  (case k43=>k_is)
  (case a44=>k_is)
  (case l44=>k_is)
  (case c44=>k_is)
  (case k44=>k_is)
  (case a45=>k_is)
  (case l45=>k_is)
  (case c45=>k_is)
  (case k45=>k_is)
  (case a46=>k_is)
  (case l46=>k_is)
  (case c46=>k_is)
  (case k46=>k_is)
  (case z_len=>k_is)
  (case z_abs=>k_is)
  (case z_range=>k_is)
  (case z_tuple=>k_is)
  (case z_int=>k_is)
  (case z_list=>k_is)
  (case z_reversed=>k_is)
  (case z_sum=>k_is)
  (case z_isinstance=>k_is)
  (case z_ValueError=>k_is)
  (case z_bool=>k_is)
  (case x_DEEPEST=>k_is)
  (case x_NOUGHT=>k_is)
  (case y_NOUGHT=>k_is)
  (case w_NOUGHT=>rfl)
  (case d_NOUGHT=>rfl)
  (case e_NOUGHT=>rfl)
  (case nx_CurveError=>k_is)
  (case nx_TooMany=>k_is)
  (case nx_NoPoints=>k_is)
  (case nx_NoPoint=>k_is)
  (case nx_NoNumber=>k_is)
  (case nx_NoCurve=>k_is)
  (case nx_NoStretch=>k_is)
  (case nx_TooDeep=>k_is)
  (case nx_TooFew=>k_is)
  (case nx_NoText=>k_is)
  (case nx_NoRow=>k_is)
  (case xl_TooDeep=>k_is)
  (case xex_TooDeep=>k_exc)
  (case xga_TooDeep=>k_is)
  (case xgt_TooDeep=>k_is)
  (case xca_TooDeep=>k_is)
  (case xob_TooDeep=>k_is)
  (case xbe_TooDeep=>k_is)
  (case xm_TooDeep=>kts_exm)
  (case xv_TooDeep=>kit_is)
  (case xk_TooDeep_0=>kit_is)
  (case xk_TooDeep_1=>kit_is)
  (case xk_TooDeep_2=>kit_is)
  (case xk_TooDeep_3=>kit_is)
  (case xk_TooDeep_4=>kit_is)
  (case xk_TooDeep_5=>kit_is)
  (case xk_TooDeep_6=>kit_is)
  (case xk_TooDeep_7=>kit_is)
  (case xk_TooDeep_8=>kit_is)
  (case xk_TooDeep_9=>kit_is)
  (case xgg=>k_is)
  (case xtk=>k_is)
#print axioms PySem.Challenge.cw_onecurve_k42_noughts_counted_holds
