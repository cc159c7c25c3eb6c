import PyProof.Rows.All
import Wide.All
import OpenK.AllK
import Wide.FinOn
import Lean
import PyProof.EqAt
import PyProof.EqKinds
import PyProof.TupleCall
import PySem.Challenge.RW_onecurve_k61_bent_texts
open Option renaming some → Su,getD_some → Ur,isNone → V9,map_eq_some_iff → Va
open PySem.W renaming instObj → Sv,methodObj → Sw,hideAll → SD,of_hideAll → SG,Frag → SI,lookIn → T6,findIn → T7,specialIn → T8,keepIn → T9,mroIn → Ta,kitOne → Tb,kia_one → Tc,kitx_list → Td,callWith_K → Tf,cellsFrom_some → Tn,fnOf → TH,codeIn → TJ,OpenLaw → U2,nsIn → Ut,excIn → Uu,mg_of → Uv,exmOne → UO,mg_none_of → Vj
open Nat renaming lt_of_lt_of_le → Sx,lt_irrefl → Sy,ne_of_lt → Sz,le_trans → SJ,le_of_lt → SK,ne_of_gt → SY,le_refl → T2,zero_le → T5,min_eq_left → TM,succ_mul → U0,lt_of_le_of_lt → U3,pos_of_ne_zero → U5,not_lt → Ue,lt_succ_self → Uj,lt_succ_of_lt → Uk,sub_lt_sub_left → Um,mod_lt → Ux,zero_add → UA,lt_or_ge → US,not_lt_zero → UT,lt_trichotomy → UU,le_add_right → UW,digitChar → V0,gcd → V7
open List renaming range → SA,mem_filter → SE,mem_range → SH,filterMap_cons → SM,mem_cons_self → SN,mem_cons_of_mem → SO,mem_cons → SQ,mem_append → SR,mem_append_left → SS,getElem?_eq_some_iff → SU,getElem?_set_self → SV,getElem?_set_ne → SW,mem_filterMap → T3,mem_append_right → T4,append_nil → Te,nodup_cons → Th,of_mem_zip → Ti,replicate → Tj,length → To,length_take → Tp,getElem?_append_right → Tq,getElem?_replicate → Tr,getElem?_append_left → Tt,getElem?_map → Tu,getElem?_take_of_lt → Tv,take_sublist → Tw,mem_of_getElem? → Tx,length_append → Tz,length_map → TC,length_replicate → TF,size_toArray → TK,length_drop → TN,length_set → TQ,any_cons → TR,replicate_succ → TU,flatten_cons → TV,append_assoc → TX,length_singleton → TY,map_cons → U1,length_pos_iff → U8,length_cons → U9,getElem?_cons_succ → Ua,lookup_cons → Ub,lookup → Uc,all_eq_true → Ud,getD_eq_getElem?_getD → Ug,ext_getElem? → Uh,getElem?_drop → Ui,mem_singleton → Ul,getElem?_eq_getElem → Uo,getElem_mem → Uq,cons → Us,take_of_length_le → Uw,length_range → UB,take_append_drop → UD,getElem?_of_mem → UG,getElem_range → UH,filterMap_cons_some → UJ,map_append → UK,length_eq_zero_iff → UM,filter_append → UP,take_add_one → UQ,take_length → UR,mem_map → UY,map_eq_nil_iff → UZ,map_map → V1,drop_drop → V3,drop_left' → V4,sum_cons → V5,mem_of_mem_take → V6,cons_ne_nil → V8,append_eq_nil_iff → Vb,count_append → Vc,mem_or_eq_of_mem_set → Vd,getElem?_take → Vf,replicate_succ' → Vg,eq_nil_of_length_eq_zero → Vh,not_mem_nil → Vi
open Array renaming length_toList → SX,getElem?_toList → TZ,getD_eq_getD_getElem? → UC,getElem?_setIfInBounds_ne → UE,getElem?_eq_getElem → UI,replicate → UL,getElem?_eq_some_iff → UN,getElem?_setIfInBounds → UX,all_eq_true' → V2
open Int renaming toNat_natCast → TL,gcd → U4,emod_nonneg → Uy,emod_lt_of_pos → Uz,natCast_nonneg → Ve
open Rat renaming divInt → U6,num_divInt_den → U7
set_option Elab.async false
set_option linter.all false
set_option maxRecDepth 100000
namespace L2
open PySem PySem.Spec PyProof.Rows
abbrev Key:=Sum Int Str
def HN : Key → Value → Bool
 | .inl k,v=>Value.isInt k v
 | .inr x,v=>Value.isStrOf x v
def QM (w : World) : Key → Int
 | .inl k=>hashInt k
 | .inr x=>hashStr w x
theorem Bu : ∀ {k : Key} {v : Value},HN k v = true → (∃ i t,k = Sum.inl i ∧ v = Value.int i t) ∨ (∃ x t,k = Sum.inr x ∧ v = Value.str x t)
 | .inl i,v,h=>by
   obtain ⟨t,e⟩:=Value.isInt_shape (k:=i) (v:=v) h
   exact .inl ⟨i,t,rfl,e⟩
 | .inr x,v,h=>by
   obtain ⟨t,e⟩:=Value.isStrOf_shape (x:=x) (v:=v) h
   exact .inr ⟨x,t,rfl,e⟩
theorem LQ (i : Int) (t : Tok) : HN (.inl i) (.int i t) = true:=by simp [HN,Value.isInt]
theorem LP (x : Str) (t : Tok) : HN (.inr x) (.str x t) = true:=by simp [HN,Value.isStrOf]
theorem Pg (a b : Int) : decide ((Sum.inl a : Key) = Sum.inl b) = (a == b):=by
 by_cases e : a = b
 ·subst e; simp
 ·have h : ¬ (Sum.inl a : Key) = Sum.inl b:=fun q=>e (Sum.inl.inj q)
  rw [decide_eq_false h]
  exact (beq_eq_false_iff_ne.mpr e).symm
theorem Pc (a b : Str) : decide ((Sum.inr a : Key) = Sum.inr b) = decide (a = b):=by
 by_cases e : a = b
 ·subst e; simp
 ·have h : ¬ (Sum.inr a : Key) = Sum.inr b:=fun q=>e (Sum.inr.inj q)
  rw [decide_eq_false h,decide_eq_false e]
theorem Pe (a : Int) (b : Str) : decide ((Sum.inl a : Key) = Sum.inr b) = false:=decide_eq_false (fun q=>nomatch q)
theorem Pd (a : Str) (b : Int) : decide ((Sum.inr a : Key) = Sum.inl b) = false:=decide_eq_false (fun q=>nomatch q)
def Dg (prog : Program) (w : World) : PySem.KeyKind prog w Key where
 is:=HN
 hash:=QM w
 inj:=fun v a b ha hb=>by
  rcases Bu ha with ⟨i,t,rfl,rfl⟩ | ⟨x,t,rfl,rfl⟩
  ·rcases Bu hb with ⟨j,u,rfl,e⟩ | ⟨y,u,rfl,e⟩
   ·injection e with e1 _; rw [e1]
   ·exact nomatch e
  ·rcases Bu hb with ⟨j,u,rfl,e⟩ | ⟨y,u,rfl,e⟩
   ·exact nomatch e
   ·injection e with e1 _; rw [e1]
 byValue:=fun k v h=>by
  rcases Bu h with ⟨i,t,rfl,rfl⟩ | ⟨x,t,rfl,rfl⟩ <;> rfl
 pyHash:=fun hv h=>by
  rcases Bu hv with ⟨i,t,rfl,rfl⟩ | ⟨x,t,rfl,rfl⟩
  ·exact wpAny_pyHash_int h
  ·exact wpAny_pyHash_str h
 eqBool:=fun hu hv h=>by
  rcases Bu hu with ⟨i,t,rfl,rfl⟩ | ⟨x,t,rfl,rfl⟩
  ·rcases Bu hv with ⟨j,u,rfl,rfl⟩ | ⟨y,u,rfl,rfl⟩
   ·rw [Pg] at h; exact wpAny_eqBool_int h
   ·rw [Pe] at h; exact SeqAt.EqAt.int_str i t y u _ _ _ _ h
  ·rcases Bu hv with ⟨j,u,rfl,rfl⟩ | ⟨y,u,rfl,rfl⟩
   ·rw [Pd] at h; exact SeqAt.EqAt.str_int x t j u _ _ _ _ h
   ·rw [Pc] at h; exact wpAny_eqBool_str h
 «strs»:=fun k x t v h=>by
  rcases Bu h with ⟨i,u,rfl,e⟩ | ⟨y,u,rfl,e⟩
  ·exact nomatch e
  ·injection e with e1 _
   subst e1
   cases v <;> rfl
theorem Jx (prog : Program) (w : World) (i : Int) (t : Tok) : (Dg prog w).is (.inl i) (.int i t) = true:=LQ i t
theorem Jw (prog : Program) (w : World) (x : Str) (t : Tok) : (Dg prog w).is (.inr x) (.str x t) = true:=LP x t
end L2
namespace L2
open PySem PySem.Spec PyProof.Rows
inductive V where
 | non | bl (b : Bool) | int (i : Int) | str (x : Str) | byt (b : Array UInt8) | flt (b : UInt64) | ref (a : Addr) | ty (n : String)
 deriving DecidableEq
def Ba : V → Value → Prop
 | .non,u=>u = Value.none
 | .bl b,u=>u = Value.bool b
 | .int i,u=>∃ t,u = Value.int i t
 | .str x,u=>∃ t,u = Value.str x t
 | .byt b,u=>∃ t,u = Value.bytes b t
 | .flt b,u=>∃ t,u = Value.float b t
 | .ref a,u=>u = Value.ref a
 | .ty n,u=>u = Value.type n
abbrev AH : List V → List Value → Prop:=Paired Ba
theorem AH.length {xs : List V} {us : List Value} (r : AH xs us) : xs.length = us.length:=Paired.length r
theorem AH.get : ∀ {xs : List V} {us : List Value} {i : Nat} {x : V},AH xs us → xs[i]? = some x → ∃ u,us[i]? = some u ∧ Ba x u
 | _,_,_,_,.nil,e=>by simp at e
 | _,_,0,_,.cons r _,e=>by simp at e; subst e; exact ⟨_,rfl,r⟩
 | _,_,i + 1,x,.cons _ t,e=>by
   obtain ⟨u,h1,h2⟩:=AH.get (i:=i) (x:=x) t (by simpa using e)
   exact ⟨u,by simpa using h1,h2⟩
theorem AH.set {x : V} {u : Value} (r : Ba x u) : ∀ {xs : List V} {us : List Value} (i : Nat),AH xs us → AH (xs.set i x) (us.set i u)
 | _,_,_,.nil=>.nil
 | _,_,0,.cons _ t=>.cons r t
 | _,_,i + 1,.cons q t=>.cons q (AH.set r i t)
theorem AH.append {xs ys : List V} {us ws : List Value} (a : AH xs us) (b : AH ys ws) : AH (xs ++ ys) (us ++ ws):=by
 induction a with
 | nil=>exact b
 | cons r t ih=>exact .cons r ih
theorem AH.take : ∀ {xs : List V} {us : List Value} (n : Nat),AH xs us → AH (xs.take n) (us.take n)
 | _,_,0,_=>.nil
 | _,_,_ + 1,.nil=>.nil
 | _,_,n + 1,.cons r t=>.cons r (AH.take n t)
theorem AH.drop : ∀ {xs : List V} {us : List Value} (n : Nat),AH xs us → AH (xs.drop n) (us.drop n)
 | _,_,0,r=>r
 | _,_,_ + 1,.nil=>.nil
 | _,_,n + 1,.cons _ t=>AH.drop n t
def PJ : Option V → Option Value → Prop
 | some v,some u=>Ba v u
 | none,none=>True
 | _,_=>False
def KV {κ : Type} : List (κ × V) → List (κ × Value) → Prop:=Paired fun (p : κ × V) (q : κ × Value)=>p.1 = q.1 ∧ Ba p.2 q.2
def kV : Key → V
 | .inl i=>.int i
 | .inr x=>.str x
inductive HO where
 | lst (xs : List V)
 | tup (xs : List V)
 | dK (kvs : List (Key × V)) | dT (kvs : List (List Key × V))
 | set (S : Int → Bool) (n : Nat)
 | ins (C dx : Addr) (fs : List (Str × V))
 | own (x : Addr)
 | xd (fs : List (Str × V))
 | met (f x : Addr)
 | rng (lo hi : Int)
 | frz (o : Obj) (u : HO)
 | tbl (ps : Array Value)
 | ext (φ : Heap → Prop)
abbrev Hp:=Addr → Option HO
def upd (H : Hp) (a : Addr) (o : HO) : Hp:=fun b=>if b = a then some o else H b
theorem A9 {H : Hp} {a : Addr} {o : HO} : upd H a o a = some o:=by unfold upd; rw [if_pos rfl]
theorem AA {H : Hp} {a b : Addr} {o : HO} (h : b ≠ a) : upd H a o b = H b:=by unfold upd; rw [if_neg h]
theorem Ng {H : Hp} {a : Addr} {o u : HO} : upd (upd H a o) a u = upd H a u:=by
 funext b; unfold upd; split <;> rfl
theorem EX {H : Hp} {a b : Addr} {o u : HO} (h : H a = some o) (h' : H b = some u) (d : o ≠ u) : a ≠ b:=by
 intro e; subst e; rw [h] at h'; exact d (Su.inj h')
theorem Az {H : Hp} {a b : Addr} {o : HO} (h : H a = some o) (h' : H b = none) : a ≠ b:=by
 intro e; subst e; rw [h] at h'; cases h'
section
variable (P : Program) (w : World)
def BG (H : Hp) (h : Heap) (a : Addr) : HO → Prop
 | .lst xs=>xs.length ≤ sizeLine ∧ ∃ (its : List Value) (n : Nat),AH xs its ∧ h.get? a = some { cls:=.type "list",data:=.seq its.toArray n }
 | .tup xs=>xs.length ≤ sizeLine ∧ ∃ its : List Value,AH xs its ∧ IsTup h a its.toArray
 | .dK kvs=>kvs.length ≤ sizeLine ∧ (a == sysModules) = false ∧ ∃ vs,KV kvs vs ∧ h.DictOf (Dg P w) a vs
 | .dT kvs=>kvs.length ≤ sizeLine ∧ (a == sysModules) = false ∧ ∃ xs : List (List Key × Addr × Value),
  Paired (fun (p : List Key × V) (q : List Key × Addr × Value)=>p.1 = q.1 ∧ H q.2.1 = some (.tup (p.1.map kV)) ∧ Ba p.2 q.2.2) kvs xs ∧
  ∃ o es ep,h.get? a = some o ∧ o.ExactDict ∧ o.data = .dict es ep ∧ es.toList = xs.map (entryOfKey (tupleKind (Dg P w))) ∧ (xs.map (·.1)).Nodup
 | .set S n=>h.SetOf (intKind P w) a S n
 | .ins C dx fs=>H dx = some (.own a) ∧ fs.length ≤ 1000 ∧ dx ≠ a ∧ h.get? a = some (Sv C dx) ∧
  ∃ mA,h.Ns1 dx mA ∧ (∀ f,PJ (fs.lookup f) (mA f)) ∧ PySem.Within mA (fs.map (·.1))
 | .own _=>∃ o,h.get? a = some o
 | .xd fs=>∃ mA,h.Ns1 a mA ∧ ∀ f,PJ (fs.lookup f) (mA f)
 | .rng lo hi=>∃ t u v,h.get? a = some { cls:=.type "range",data:=.fields #[.int lo t,.int hi u,.int 1 v] }
 | .frz o u=>h.get? a = some o ∧ BG H h a u
 | .tbl ps=>h.get? a = some { cls:=.none,data:=.fields ps }
 | .met f x=>h.get? a = some (Sw (.ref f) (.ref x))
 | .ext φ=>φ h ∧ (∃ o,h.get? a = some o) ∧ ∀ h1 h2 : Heap,φ h1 → (∀ o,h1.get? a = some o → h2.get? a = some o) → φ h2
def HOk (H : Hp) (h : Heap) : Prop:=∀ a o,H a = some o → BG P w H h a o
end
section
variable {P : Program} {w : World} {H H' : Hp} {h h' : Heap} {a : Addr} {o : HO}
theorem BG.lt (x : BG P w H h a o) : a < h.objs.size:=by
 cases o with
 | lst xs=>obtain ⟨_,_,_,_,e⟩:=x; exact Heap.lt_size e
 | tup xs=>obtain ⟨_,_,_,p⟩:=x; exact p.lt
 | dK kvs=>obtain ⟨_,_,_,_,o,_,_,e,_⟩:=x; exact Heap.lt_size e
 | dT kvs=>obtain ⟨_,_,_,_,o,_,_,e,_⟩:=x; exact Heap.lt_size e
 | set S n=>obtain ⟨o,_,_,_,e,_⟩:=x; exact Heap.lt_size e
 | ins C dx fs=>obtain ⟨_,_,_,e,_⟩:=x; exact Heap.lt_size e
 | own y=>obtain ⟨_,e⟩:=x; exact Heap.lt_size e
 | xd fs=>obtain ⟨_,⟨_,_,_,e,_⟩,_⟩:=x; exact Heap.lt_size e
 | rng lo hi=>obtain ⟨_,_,_,e⟩:=x; exact Heap.lt_size e
 | frz ob u=>obtain ⟨e,_⟩:=x; exact Heap.lt_size e
 | tbl ps=>exact Heap.lt_size (show h.get? a = some _ from x)
 | met f y=>exact Heap.lt_size (show h.get? a = some _ from x)
 | ext φ=>obtain ⟨_,⟨_,e⟩,_⟩:=x; exact Heap.lt_size e
theorem Paired.mapP {α β : Type} {F G : α → β → Prop} {l₁ : List α} {l₂ : List β} (h : Paired F l₁ l₂) (f : ∀ a b,F a b → G a b) : Paired G l₁ l₂:=by
 induction h with
 | nil=>exact .nil
 | cons r t ih=>exact .cons (f _ _ r) ih
theorem BG.stay (x : BG P w H h a o) (k : ∀ b u,(b = a ∨ H b = some (.own a)) → h.get? b = some u → h'.get? b = some u)
 (ho : ∀ b,H b = some (.own a) → H' b = some (.own a)) (ht : ∀ b xs,H b = some (.tup xs) → H' b = some (.tup xs)) : BG P w H' h' a o:=by
 induction o with
 | lst xs=>obtain ⟨z,its,n,r,e⟩:=x; exact ⟨z,its,n,r,k _ _ (.inl rfl) e⟩
 | tup xs=>obtain ⟨z,its,r,ob,e,c⟩:=x; exact ⟨z,its,r,ob,k _ _ (.inl rfl) e,c⟩
 | dK kvs=>obtain ⟨z,y,vs,r,ob,es,ep,e,c⟩:=x; exact ⟨z,y,vs,r,ob,es,ep,k _ _ (.inl rfl) e,c⟩
 | dT kvs =>
   obtain ⟨z,y,xs,r,ob,es,ep,e,c⟩:=x
   exact ⟨z,y,xs,Paired.mapP r fun p q z=>⟨z.1,ht _ _ z.2.1,z.2.2⟩,ob,es,ep,k _ _ (.inl rfl) e,c⟩
 | set S n=>obtain ⟨ob,es,ep,t,e,c⟩:=x; exact ⟨ob,es,ep,t,k _ _ (.inl rfl) e,c⟩
 | ins C dx fs =>
   obtain ⟨d,z,ne,e,mA,⟨od,es,ep,e2,c⟩,r⟩:=x
   exact ⟨ho _ d,z,ne,k _ _ (.inl rfl) e,mA,⟨od,es,ep,k _ _ (.inr d) e2,c⟩,r⟩
 | own y=>obtain ⟨ob,e⟩:=x; exact ⟨ob,k _ _ (.inl rfl) e⟩
 | xd fs=>obtain ⟨mA,⟨od,es,ep,e,c⟩,r⟩:=x; exact ⟨mA,⟨od,es,ep,k _ _ (.inl rfl) e,c⟩,r⟩
 | rng lo hi=>obtain ⟨t,u,v,e⟩:=x; exact ⟨t,u,v,k _ _ (.inl rfl) e⟩
 | frz ob u ih=>obtain ⟨e,q⟩:=x; exact ⟨k _ _ (.inl rfl) e,ih q⟩
 | tbl ps =>
   have e : h.get? a = some { cls:=.none,data:=.fields ps }:=x
   show h'.get? a = some { cls:=.none,data:=.fields ps }
   exact k a _ (.inl rfl) e
 | met f y =>
   have e : h.get? a = some (Sw (.ref f) (.ref y)):=x
   show h'.get? a = some (Sw (.ref f) (.ref y))
   exact k a _ (.inl rfl) e
 | ext φ=>obtain ⟨p,⟨o,e⟩,st⟩:=x; exact ⟨st _ _ p fun o q=>k _ _ (.inl rfl) q,⟨o,k _ _ (.inl rfl) e⟩,st⟩
theorem HOk.lt (x : HOk P w H h) (e : H a = some o) : a < h.objs.size:=(x a o e).lt
theorem HOk.fresh (x : HOk P w H h) (e : h.objs.size ≤ a) : H a = none:=by
 cases q : H a with
 | none=>rfl
 | some u=>exact absurd (Sx (x.lt q) e) (Sy _)
theorem HOk.kept (x : HOk P w H h) (k : ∀ b u,h.get? b = some u → h'.get? b = some u) : HOk P w H h':=fun a o e =>
 (x a o e).stay (fun b u _ q=>k b u q) (fun _ q=>q) fun _ _ q=>q
theorem HOk.laid (x : HOk P w H h) (k : ∀ b u,h.get? b = some u → h'.get? b = some u) (hp : h.objs.size ≤ a) (new : BG P w (upd H a o) h' a o) : HOk P w (upd H a o) h':=fun b u e=>by
 have hn:=x.fresh hp
 by_cases hb : b = a
 ·subst hb; rw [A9] at e; cases e; exact new
 ·rw [AA hb] at e
  exact (x b u e).stay (fun c v _ q=>k c v q) (fun c q=>by rw [AA (Az q hn)]; exact q) fun c xs q=>by rw [AA (Az q hn)]; exact q
end
def Rd (H : Hp) (a : Addr) (u : HO) : Prop:=H a = some u ∨ ∃ o,H a = some (.frz o u)
theorem Rd.ok {P : Program} {w : World} {H : Hp} {h : Heap} {a : Addr} {u : HO} (r : Rd H a u) (x : HOk P w H h) : BG P w H h a u:=by
 rcases r with r | ⟨o,r⟩
 ·exact x a u r
 ·obtain ⟨_,q⟩:=x a _ r
  exact q
def Mut : Option HO → Prop
 | some (.lst _)=>True
 | some (.dK _)=>True
 | some (.dT _)=>True
 | some (.set _ _)=>True
 | some (.ins _ _ _)=>True
 | some (.ext _)=>True
 | _=>False
section
variable {P : Program} {w : World} {H : Hp} {h h' : Heap} {x e : Addr} {o' : HO}
theorem HOk.write (ok : HOk P w H h) (mu : Mut (H x)) (he : e = x ∨ H e = some (.own x)) (k : ∀ b u,b ≠ e → h.get? b = some u → h'.get? b = some u) (heo : ∃ u,h'.get? e = some u)
 (new : BG P w (upd H x o') h' x o') : HOk P w (upd H x o') h':=fun b u q=>by
 have nown : ∀ c y,H c = some (.own y) → c ≠ x:=fun c y r z=>by subst z; rw [r] at mu; exact mu
 have ntup : ∀ c xs,H c = some (.tup xs) → c ≠ x:=fun c xs r z=>by subst z; rw [r] at mu; exact mu
 by_cases hb : b = x
 ·subst hb; rw [A9] at q; cases q; exact new
 ·rw [AA hb] at q
  by_cases hbe : b = e
  ·have q' : H b = some (.own x):=by
    rcases he with z | z
    ·exact absurd (hbe.trans z) hb
    ·rw [hbe]; exact z
   rw [q] at q'; cases q'
   obtain ⟨v,hv⟩:=heo
   exact ⟨v,by rw [hbe]; exact hv⟩
  ·refine (ok b u q).stay (fun c v hc r=>k c v ?_ r) (fun c r=>by rw [AA (nown c b r)]; exact r) fun c xs r=>by rw [AA (ntup c xs r)]; exact r
   rcases hc with rfl | hc
   ·exact hbe
   ·rintro rfl
    rcases he with z | z
    ·exact nown c b hc z
    ·rw [hc] at z; cases z; exact hb rfl
end
structure Un (fs ex : List Addr) (H H' : Hp) (h h' : Heap) : Prop where
 keep : ∀ b o,h.get? b = some o → H b = none → b ∉ fs → b ∉ ex → h'.get? b = some o
 slot : ∀ b o,h.get? b = some o → H b = none → b ∈ fs → b ∉ ex → ∃ sl,h'.get? b = some { o with slots:=sl }
 free : ∀ b o,h.get? b = some o → H b = none → b ∉ ex → H' b = none
 there : ∀ b o,h.get? b = some o → b ∉ ex → ∃ o',h'.get? b = some o'
 tups : ∀ b xs,H b = some (.tup xs) → H' b = some (.tup xs)
 frzs : ∀ b o u,H b = some (.frz o u) → H' b = some (.frz o u)
 tbls : ∀ b ps,H b = some (.tbl ps) → ∃ more,H' b = some (.tbl (ps ++ more))
section
variable {fs fs' ex ex' : List Addr} {H H1 H2 : Hp} {h h1 h2 h' : Heap} {a x e : Addr} {o : HO}
theorem Un.any (u : Un fs ex H H1 h h1) {b : Addr} {ob : Obj} (q : h.get? b = some ob) (n : H b = none) (hx : b ∉ ex) : ∃ sl,h1.get? b = some { ob with slots:=sl }:=by
 by_cases hb : b ∈ fs
 ·exact u.slot b ob q n hb hx
 ·exact ⟨ob.slots,u.keep b ob q n hb hx⟩
theorem Un.kept (k : ∀ b u,h.get? b = some u → h'.get? b = some u) : Un fs ex H H h h' :=
 ⟨fun b ob q _ _ _=>k b ob q,fun b ob q _ _ _=>⟨ob.slots,k b ob q⟩,fun _ _ _ n _=>n,fun b ob q _=>⟨ob,k b ob q⟩,fun _ _ q=>q,fun _ _ _ q=>q,fun _ ps q=>⟨#[],by rw [q]; simp⟩⟩
theorem Un.refl : Un fs ex H H h h:=Un.kept fun _ _ q=>q
theorem Un.laid (k : ∀ b u,h.get? b = some u → h'.get? b = some u) (hp : h.objs.size ≤ a) (hn : H a = none) : Un fs ex H (upd H a o) h h' where
 keep:=fun b u q _ _ _=>k b u q
 slot:=fun b u q _ _ _=>⟨u.slots,k b u q⟩
 free:=fun b u q n _=>by rw [AA (Sz (Sx (Heap.lt_size q) hp))]; exact n
 there:=fun b u q _=>⟨u,k b u q⟩
 tups:=fun b xs q=>by rw [AA (Az q hn)]; exact q
 frzs:=fun b u xs q=>by rw [AA (Az q hn)]; exact q
 tbls:=fun b ps q=>⟨#[],by rw [AA (Az q hn),q]; simp⟩
theorem Un.write (mu : Mut (H x)) (he : e = x ∨ H e = some (.own x)) (k : ∀ b u,b ≠ e → h.get? b = some u → h'.get? b = some u) (heo : ∃ u,h'.get? e = some u) : Un fs ex H (upd H x o) h h':=by
 have hx : ∀ b,H b = none → b ≠ x:=fun b n z=>by subst z; rw [n] at mu; exact mu
 have hb : ∀ b,H b = none → b ≠ e:=fun b n z=>by
  subst z
  rcases he with r | r
  ·exact hx b n r
  ·rw [n] at r; cases r
 have hm : ∀ b u,H b = some u → ¬ Mut (some u) → b ≠ x:=fun b u q nm z=>by subst z; rw [q] at mu; exact nm mu
 refine ⟨fun b u q n _ _=>k b u (hb b n) q,fun b u q n _ _=>⟨u.slots,k b u (hb b n) q⟩,fun b u q n _=>by rw [AA (hx b n)]; exact n,fun b u q _=>?_,
  fun b xs q=>by rw [AA (hm b _ q fun z=>z)]; exact q,fun b u xs q=>by rw [AA (hm b _ q fun z=>z)]; exact q,fun b ps q=>⟨#[],by rw [AA (hm b _ q fun z=>z),q]; simp⟩⟩
 by_cases hbe : b = e
 ·subst hbe; exact heo
 ·exact ⟨u,k b u hbe q⟩
end
def trk (h : Heap) (H : Hp) : List Addr:=(SA h.objs.size).filter fun a=>(H a).isSome
def Hy (h : Heap) (H : Hp) : Heap:=SD h (trk h H)
theorem LU (h : Heap) (H : Hp) : (Hy h H).objs.size = h.objs.size:=PySem.W.hideAll_size _ _
theorem MX {h : Heap} {H : Hp} {b : Addr} {o : Obj} (e : h.get? b = some o) (n : H b = none) : (Hy h H).get? b = some o :=
 PySem.W.hideAll_get _ e fun hm=>by
  have q : (H b).isSome = true:=(SE.mp hm).2
  rw [n] at q; simp at q
theorem Nx {h : Heap} {H : Hp} {b : Addr} {o : Obj} (e : (Hy h H).get? b = some o) : h.get? b = some o ∧ H b = none:=by
 have e' : h.get? b = some o:=SG (trk h H) e
 refine ⟨e',?_⟩
 cases q : H b with
 | none=>rfl
 | some x =>
   have hm : b ∈ trk h H:=SE.mpr ⟨SH.mpr (Heap.lt_size e'),by simp [q]⟩
   have z : (Hy h H).get? b = none:=PySem.W.hideAll_none (trk h H) hm
   rw [z] at e; cases e
def NR (g h : Heap) (L : Addr) : List (Addr × Obj):=(SA h.objs.size).filterMap fun a=>if a = L ∨ (g.get? a).isSome = true then none else (h.get? a).map fun o=>(a,o)
def Bj (g h : Heap) (L d : Addr) : List (Addr × Obj):=(NR g h L).filter fun p=>decide (p.1 ≠ d)
end L2
namespace L2
open PySem PySem.Spec PyProof.Rows
structure Mod (K : SI) (mg : Str → Option Value) (base : Heap) : Prop where
 kin : K.In base
 glob : base.Ns mainGlobals mg
 blt : ∃ mb,base.Ns builtinsNs mb ∧ ∀ x : Str,x ≠ "__name__" → mb x = bootBuiltins x
 nolimit : base.NoLimit
 seer : base.NoSeer
structure Cx where
 prog : Program
 w : World
 K : SI
 mg : Str → Option Value
 base : Heap
 A : Around
 N : List Str
 s₀ : Shared
 H₀ : Hp
 env : Env
 outer : List Env
 stack : List Env
 ex : List Addr
 fn : Str → Bool
 calm : Bool
 pn : List (Addr × Obj)
 xe : Value → Shared → Prop
def frs (l : List Env) : List Addr:=l.filterMap (·.frame)
abbrev Cx.fs (X : Cx) : List Addr:=frs X.outer
def Vis (sc : Scope) (x : Str) : Prop:=sc.names.lookup x = some .local ∨ sc.names.lookup x = some .cell ∨ sc.names.lookup x = some .free
def Loc (sc : Scope) (x : Str) : Prop:=sc.names.lookup x = some .local ∨ sc.names.lookup x = some .cell
def Qz (env : Env) (h : Heap) (m : Str → Option Value) (x : Str) (u : Value) : Prop :=
 (env.kindOf x = some .local ∧ m x = some u) ∨ ((env.kindOf x = some .cell ∨ env.kindOf x = some .free) ∧ ∃ c,env.cells.lookup x = some c ∧ h.IsCell c (some u))
structure Cx.Ok (X : Cx) : Prop where
 mod : Mod X.K X.mg X.base
 kind : X.env.scope.kind = .function
 glob : X.env.globals = mainGlobals
 blt : X.env.builtins = builtinsNs
 above : X.s₀.heap.objs.size ≤ X.env.locals
 inj : ∀ x y c,X.env.cells.lookup x = some c → X.env.cells.lookup y = some c → x = y
 has : ∀ x,(X.env.kindOf x = some .cell ∨ X.env.kindOf x = some .free) → ∃ c,X.env.cells.lookup x = some c
 cab : ∀ x c,X.fn x = true → X.env.cells.lookup x = some c → X.s₀.heap.objs.size ≤ c
 hd : X.calm = true → X.A.handled = none
 frames : X.A.frames = some X.stack
 stk : X.stack = X.outer ∨ (X.stack = X.env :: X.outer ∧ X.env.frame = some X.env.locals)
 exf : ∀ b ∈ X.ex,b ≠ X.env.locals ∧ ∀ x c,X.env.cells.lookup x = some c → c ≠ b
 bs : ∀ b o,X.base.get? b = some o → X.s₀.heap.get? b = some o ∧ X.H₀ b = none
 bsz : X.base.objs.size ≤ X.s₀.heap.objs.size
 noex : ∀ b o,X.base.get? b = some o → b ∉ X.ex
 exfs : ∀ b ∈ X.ex,b ∉ X.fs
 funs : X.s₀.heap.FunFrames X.base X.outer
 frf : ∀ b ∈ X.fs,X.H₀ b = none
structure Inv (X : Cx) (pins : List (Addr × Obj)) (σ : List (Option V)) (H : Hp) (s : Shared) : Prop where
 ok : X.Ok
 os : s.os = X.s₀.os
 bare : AllBare s.gens
 base : Un X.fs X.ex X.H₀ H X.s₀.heap s.heap
 loc : ∃ m,s.heap.Ns X.env.locals m ∧ ∀ (i : Nat) (x : Str) (v : V),X.N[i]? = some x → σ[i]? = some (some v) → Vis X.env.scope x → ∃ u,Ba v u ∧ Qz X.env s.heap m x u
 cell : ∀ x c,X.env.cells.lookup x = some c → ∃ v,s.heap.IsCell c v
 free : H X.env.locals = none
 freeC : ∀ x c,X.env.cells.lookup x = some c → H c = none
 pin : ∀ p ∈ X.pn ++ pins,s.heap.get? p.1 = some p.2 ∧ H p.1 = none ∧ p.1 ≠ X.env.locals ∧ p.1 ∉ X.fs ∧ ∀ v,p.2.data ≠ .cell v
 hok : HOk X.prog X.w H s.heap
 len : σ.length = X.N.length
section
variable {X : Cx} {pins : List (Addr × Obj)} {σ : List (Option V)} {H H' : Hp} {s : Shared} {h' : Heap}
theorem Cx.Ok.nofr (ok : X.Ok) {b : Addr} {o : Obj} (e : X.base.get? b = some o) : b ∉ X.fs:=fun hb=>by
 have:=(ok.funs.mem hb).1
 rw [e] at this; cases this
theorem Inv.bs (I : Inv X pins σ H s) : ∀ b o,X.base.get? b = some o → s.heap.get? b = some o ∧ H b = none:=fun b o e =>
 ⟨I.base.keep b o (I.ok.bs b o e).1 (I.ok.bs b o e).2 (I.ok.nofr e) (I.ok.noex b o e),I.base.free b o (I.ok.bs b o e).1 (I.ok.bs b o e).2 (I.ok.noex b o e)⟩
theorem Inv.bk (I : Inv X pins σ H s) : ∀ b o,X.base.get? b = some o → s.heap.get? b = some o:=fun b o e=>(I.bs b o e).1
theorem Inv.mod (I : Inv X pins σ H s) : Mod X.K X.mg X.base:=I.ok.mod
theorem Inv.kIn (I : Inv X pins σ H s) : X.K.In s.heap:=I.ok.mod.kin.keeps I.bk
theorem Inv.nolimit (I : Inv X pins σ H s) : s.heap.NoLimit:=I.ok.mod.nolimit.keeps I.bk
theorem Inv.lt (I : Inv X pins σ H s) : X.env.locals < s.heap.objs.size:=let ⟨_,hn,_⟩:=I.loc; hn.lt
theorem Inv.sz (I : Inv X pins σ H s) : X.s₀.heap.objs.size ≤ s.heap.objs.size:=SJ I.ok.above (SK I.lt)
theorem Inv.nofs (I : Inv X pins σ H s) {a : Addr} (h : s.heap.objs.size ≤ a) : a ∉ X.fs:=fun hb=>by
 obtain ⟨_,o,ho,_⟩:=I.ok.funs.mem hb
 exact absurd (Sx (Heap.lt_size ho) (SJ I.sz h)) (Sy _)
theorem Inv.cne (I : Inv X pins σ H s) : ∀ x c,X.env.cells.lookup x = some c → c ≠ X.env.locals:=fun x c e z=>by
 obtain ⟨v,o,ho,hd⟩:=I.cell x c e
 obtain ⟨m,⟨o',es,ep,ho',hd',_⟩,_⟩:=I.loc
 rw [z,ho'] at ho; cases ho; rw [hd'] at hd; cases hd
theorem Inv.funs (I : Inv X pins σ H s) : s.heap.FunFrames X.base X.outer:=by
 have all : ∀ (l : List Env),(∀ b ∈ frs l,b ∈ X.fs) → X.s₀.heap.FunFrames X.base l → s.heap.FunFrames X.base l:=by
  intro l
  induction l with
  | nil=>intro _ _; trivial
  | cons env r ih =>
    intro hs hl
    obtain ⟨hk,⟨L,o,hf,hn,ho,hd⟩,hr⟩:=hl
    have hL : L ∈ X.fs:=hs L (by unfold frs; rw [SM,hf]; exact SN)
    obtain ⟨sl,e⟩:=I.base.slot L o ho (I.ok.frf L hL) hL fun z=>I.ok.exfs L z hL
    exact ⟨hk,⟨L,_,hf,hn,e,hd⟩,ih (fun b hb=>hs b (by unfold frs; rw [SM,hf]; exact SO _ hb)) hr⟩
 exact all X.outer (fun _ hb=>hb) I.ok.funs
theorem Inv.stack (I : Inv X pins σ H s) : s.heap.FunFrames X.base X.stack:=by
 rcases I.ok.stk with e | ⟨e,hf⟩
 ·rw [e]; exact I.funs
 ·rw [e]
  obtain ⟨m,hn,_⟩:=I.loc
  refine .cons (by rw [I.ok.kind]; decide) hf hn ?_ I.funs
  exact Heap.get?_none_of_le (SJ I.ok.bsz I.ok.above)
theorem Inv.stkSub (I : Inv X pins σ H s) : ∀ b ∈ frs X.stack,b ∈ X.env.locals :: X.fs:=fun b hb=>by
 rcases I.ok.stk with e | ⟨e,hf⟩
 ·rw [e] at hb; exact SO _ hb
 ·rw [e] at hb
  unfold frs at hb
  rw [SM,hf] at hb
  exact hb
theorem Inv.stkFree (I : Inv X pins σ H s) : ∀ b ∈ frs X.stack,H b = none:=fun b hb=>by
 rcases SQ.mp (I.stkSub b hb) with e | hb
 ·rw [e]; exact I.free
 ·obtain ⟨_,o,ho,_⟩:=I.ok.funs.mem hb
  exact I.base.free b o ho (I.ok.frf b hb) fun z=>I.ok.exfs b z hb
theorem Inv.step {g' : Array GenState} {t' : Nat} {d' : Drawn} {ch : List Addr} (I : Inv X pins σ H s)
 (hch : ∀ b ∈ ch,(b ∈ X.ex ∨ X.s₀.heap.objs.size ≤ b) ∧ b ≠ X.env.locals ∧ (∀ x c,X.env.cells.lookup x = some c → c ≠ b) ∧ ∀ p ∈ X.pn ++ pins,p.1 ≠ b)
 (keep : ∀ b o,b ≠ X.env.locals → b ∉ X.fs → b ∉ ch → s.heap.get? b = some o → H b = none → h'.get? b = some o)
 (slot : ∀ b o,b ≠ X.env.locals → b ∈ X.fs → b ∉ ch → s.heap.get? b = some o → H b = none → ∃ sl,h'.get? b = some { o with slots:=sl }) (free : ∀ b o,b ∉ ch → s.heap.get? b = some o → H b = none → H' b = none)
 (there : ∀ b o,b ∉ ch → s.heap.get? b = some o → ∃ o',h'.get? b = some o')
 (tups : ∀ b xs,H b = some (.tup xs) → H' b = some (.tup xs)) (frzs : ∀ b o u,H b = some (.frz o u) → H' b = some (.frz o u)) (tbls : ∀ b ps,H b = some (.tbl ps) → ∃ more,H' b = some (.tbl (ps ++ more)))
 (ns : ∀ m,s.heap.Ns X.env.locals m → h'.Ns X.env.locals m) (hok : HOk X.prog X.w H' h') (hg : AllBare g') :
 Inv X pins σ H' { s with heap:=h',gens:=g',drawn:=d',toks:=t' }:=by
 have neL : ∀ b o,X.s₀.heap.get? b = some o → b ≠ X.env.locals:=fun b o e=>Sz (Sx (Heap.lt_size e) I.ok.above)
 have neC : ∀ b o,X.s₀.heap.get? b = some o → b ∉ X.ex → b ∉ ch:=fun b o e hx hb=>by
  rcases (hch b hb).1 with z | z
  ·exact hx z
  ·exact absurd (Sx (Heap.lt_size e) z) (Sy _)
 have cellK : ∀ x c,X.env.cells.lookup x = some c → ∀ v,s.heap.IsCell c v → h'.IsCell c v:=fun x c e v ⟨o,ho,hd⟩=>by
  have nch : c ∉ ch:=fun z=>(hch c z).2.2.1 x c e rfl
  by_cases hc : c ∈ X.fs
  ·obtain ⟨sl,q⟩:=slot c o (I.cne x c e) hc nch ho (I.freeC x c e)
   exact ⟨_,q,hd⟩
  ·exact ⟨o,keep c o (I.cne x c e) hc nch ho (I.freeC x c e),hd⟩
 refine ⟨I.ok,I.os,hg,⟨fun b o e n hb hx=>?_,fun b o e n hb hx=>?_,fun b o e n hx=>?_,fun b o e hx=>?_,fun b xs e=>tups b xs (I.base.tups b xs e),fun b o xs e=>frzs b o xs (I.base.frzs b o xs e),fun b ps e=>?_⟩,?_,fun x c e=>?_,?_,fun x c e=>?_,fun p hp=>?_,hok,I.len⟩
 ·exact keep b o (neL b o e) hb (neC b o e hx) (I.base.keep b o e n hb hx) (I.base.free b o e n hx)
 ·obtain ⟨sl,e1⟩:=I.base.slot b o e n hb hx
  obtain ⟨sl',e2⟩:=slot b _ (neL b o e) hb (neC b o e hx) e1 (I.base.free b o e n hx)
  exact ⟨sl',e2⟩
 ·obtain ⟨o',e1⟩:=I.base.there b o e hx
  exact free b o' (neC b o e hx) e1 (I.base.free b o e n hx)
 ·obtain ⟨o',e1⟩:=I.base.there b o e hx
  exact there b o' (neC b o e hx) e1
 ·obtain ⟨m1,e1⟩:=I.base.tbls b ps e
  obtain ⟨m2,e2⟩:=tbls b _ e1
  exact ⟨m1 ++ m2,by rw [e2,Array.append_assoc]⟩
 ·obtain ⟨m,hn,hl⟩:=I.loc
  refine ⟨m,ns m hn,fun i x v e1 e2 e3=>?_⟩
  obtain ⟨u,r,l⟩:=hl i x v e1 e2 e3
  refine ⟨u,r,?_⟩
  rcases l with l | ⟨k,c,e,z⟩
  ·exact .inl l
  ·exact .inr ⟨k,c,e,cellK x c e _ z⟩
 ·obtain ⟨v,z⟩:=I.cell x c e
  exact ⟨v,cellK x c e v z⟩
 ·obtain ⟨m,⟨o,_,_,ho,_⟩,_⟩:=I.loc
  exact free _ o (fun z=>(hch _ z).2.1 rfl) ho I.free
 ·obtain ⟨v,o,ho,hd⟩:=I.cell x c e
  exact free c o (fun z=>(hch c z).2.2.1 x c e rfl) ho (I.freeC x c e)
 ·obtain ⟨e,n,ne,nf,d⟩:=I.pin p hp
  have nch : p.1 ∉ ch:=fun z=>(hch p.1 z).2.2.2 p hp rfl
  exact ⟨keep p.1 p.2 ne nf nch e n,free p.1 p.2 nch e n,ne,nf,d⟩
theorem Inv.un {t' : Nat} (I : Inv X pins σ H s) (u : Un X.fs [] H H' s.heap h') (hok : HOk X.prog X.w H' h') : Inv X pins σ H' { s with heap:=h',toks:=t' }:=by
 obtain ⟨m,⟨o,es,ep,ho,r⟩,_⟩:=id I.loc
 obtain ⟨sl,hL⟩:=u.any ho I.free (by simp)
 exact I.step (g':=s.gens) (d':=s.drawn) (ch:=[]) (fun _ z=>nomatch z) (fun b o _ hb _ e n=>u.keep b o e n hb (by simp)) (fun b o _ hb _ e n=>u.slot b o e n hb (by simp)) (fun b o _ e n=>u.free b o e n (by simp)) (fun b o _ e=>u.there b o e (by simp)) u.tups u.frzs u.tbls (fun m' hm=>by
  obtain ⟨o',es',ep',ho',r'⟩:=hm
  rw [ho] at ho'; cases ho'
  exact ⟨_,es',ep',hL,r'⟩) hok I.bare
theorem Inv.call {g' : Array GenState} {t' : Nat} {d' : Drawn} {ch : List Addr} (I : Inv X pins σ H s) (u : Un (frs X.stack) ch H H' s.heap h') (hok : HOk X.prog X.w H' h') (hg : AllBare g')
 (hch : ∀ b ∈ ch,(b ∈ X.ex ∨ X.s₀.heap.objs.size ≤ b) ∧ b ≠ X.env.locals ∧ (∀ x c,X.env.cells.lookup x = some c → c ≠ b) ∧ ∀ p ∈ X.pn ++ pins,p.1 ≠ b) :
 Inv X pins σ H' { s with heap:=h',gens:=g',drawn:=d',toks:=t' }:=by
 obtain ⟨m,⟨o,es,ep,ho,r⟩,_⟩:=id I.loc
 obtain ⟨sl,hL⟩:=u.any ho I.free fun z=>(hch _ z).2.1 rfl
 exact I.step (ch:=ch) hch (fun b o hL hb hc e n=>u.keep b o e n (fun z=>(SQ.mp (I.stkSub b z)).elim hL hb) hc) (fun b o _ _ hc e n=>u.any e n hc) (fun b o hc e n=>u.free b o e n hc) (fun b o hc e=>u.there b o e hc) u.tups u.frzs u.tbls (fun m' hm=>by
  obtain ⟨o',es',ep',ho',r'⟩:=hm
  rw [ho] at ho'; cases ho'
  exact ⟨_,es',ep',hL,r'⟩) hok hg
theorem Inv.turned {t' : Nat} {it : Addr} (I : Inv X pins σ H s) (k : ∀ b o,b ≠ it → s.heap.get? b = some o → h'.get? b = some o) (hn : H it = none) (hL : it ≠ X.env.locals)
 (h1 : it ∈ X.ex ∨ X.s₀.heap.objs.size ≤ it) (h2 : ∀ x c,X.env.cells.lookup x = some c → c ≠ it) (h3 : ∀ p ∈ X.pn ++ pins,p.1 ≠ it) : Inv X pins σ H { s with heap:=h',toks:=t' }:=by
 have nit : ∀ b u,H b = some u → b ≠ it:=fun b u e z=>by rw [z,hn] at e; cases e
 refine I.step (g':=s.gens) (d':=s.drawn) (ch:=[it]) (fun b hb=>?_) (fun b o _ _ hc e _=>k b o (fun z=>hc (by simp [z])) e) (fun b o _ _ hc e _=>⟨o.slots,k b o (fun z=>hc (by simp [z])) e⟩) (fun _ _ _ _ n=>n)
  (fun b o hc e=>⟨o,k b o (fun z=>hc (by simp [z])) e⟩) (fun _ _ e=>e) (fun _ _ _ e=>e) (fun b ps e=>⟨#[],by rw [e]; simp⟩) (fun m hm=>?_) (fun b u e=>?_) I.bare
 ·have e : b = it:=by simpa using hb
  subst e
  exact ⟨h1,hL,h2,h3⟩
 ·obtain ⟨o,es,ep,ho,r⟩:=hm
  exact ⟨o,es,ep,k _ o (Ne.symm hL) ho,r⟩
 ·refine (I.hok b u e).stay (fun c v hc q=>k c v ?_ q) (fun _ q=>q) fun _ _ q=>q
  rcases hc with z | z
  ·rw [z]; exact nit b u e
  ·exact nit c _ z
theorem Inv.tok (I : Inv X pins σ H s) (t : Nat) : Inv X pins σ H { s with toks:=t }:=I.un (h':=s.heap) (t':=t) Un.refl I.hok
theorem Inv.kept {t' : Nat} (I : Inv X pins σ H s) (k : ∀ b u,s.heap.get? b = some u → h'.get? b = some u) : Inv X pins σ H { s with heap:=h',toks:=t' }:=I.un (Un.kept k) (I.hok.kept k)
theorem Inv.laid {a : Addr} {o : HO} {t' : Nat} (I : Inv X pins σ H s) (k : ∀ b u,s.heap.get? b = some u → h'.get? b = some u) (hp : s.heap.objs.size ≤ a) (new : BG X.prog X.w (upd H a o) h' a o) :
 Inv X pins σ (upd H a o) { s with heap:=h',toks:=t' }:=I.un (Un.laid k hp (I.hok.fresh hp)) (I.hok.laid k hp new)
theorem Inv.write {x e : Addr} {o : HO} {t' : Nat} (I : Inv X pins σ H s) (mu : Mut (H x)) (he : e = x ∨ H e = some (.own x)) (k : ∀ b u,b ≠ e → s.heap.get? b = some u → h'.get? b = some u) (heo : ∃ u,h'.get? e = some u)
 (new : BG X.prog X.w (upd H x o) h' x o) : Inv X pins σ (upd H x o) { s with heap:=h',toks:=t' }:=I.un (Un.write mu he k heo) (I.hok.write mu he k heo new)
theorem Inv.weak {σ' : List (Option V)} (I : Inv X pins σ H s) (hl : σ'.length = σ.length) (w : ∀ (i : Nat) v,σ'[i]? = some (some v) → σ[i]? = some (some v)) : Inv X pins σ' H s :=
 ⟨I.ok,I.os,I.bare,I.base,let ⟨m,hn,hl'⟩:=I.loc; ⟨m,hn,fun i x v e1 e2 e3=>hl' i x v e1 (w i v e2) e3⟩,I.cell,I.free,I.freeC,I.pin,I.hok,hl.trans I.len⟩
theorem Inv.pins_of {pins' : List (Addr × Obj)} (I : Inv X pins σ H s) (h : ∀ p ∈ pins',s.heap.get? p.1 = some p.2 ∧ H p.1 = none ∧ p.1 ≠ X.env.locals ∧ p.1 ∉ X.fs ∧ ∀ v,p.2.data ≠ .cell v) : Inv X pins' σ H s :=
 ⟨I.ok,I.os,I.bare,I.base,I.loc,I.cell,I.free,I.freeC,fun p hp=>(SR.mp hp).elim (fun z=>I.pin p (SS _ z)) (h p),I.hok,I.len⟩
theorem GD {N : List Str} (hN : N.Nodup) {i j : Nat} {x : Str} (a : N[i]? = some x) (b : N[j]? = some x) : i = j:=by
 obtain ⟨h1,e1⟩:=SU.mp a
 obtain ⟨h2,e2⟩:=SU.mp b
 exact (List.getElem_inj hN).mp (e1.trans e2.symm)
theorem Fi {M : Model} {A : Around} {E : Value → Shared → Prop} {i : Nat} {x : Str} {v : V} {u : Value} {Q : Unit → Shared → Prop} (I : Inv X pins σ H s) (hN : X.N.Nodup) (hi : X.N[i]? = some x) (hx : Loc X.env.scope x) (r : Ba v u)
 (h : ∀ s',Inv X pins (σ.set i (some v)) H s' → (∃ a,Heap.SameBut a s.heap s'.heap ∧ (a = X.env.locals ∨ X.env.cells.lookup x = some a)) → Q () s') (hf : X.fn x = true ∨ X.env.scope.names.lookup x = some .local:=by first | exact .inl rfl | exact .inr rfl | assumption) : wpAny M A (storeName X.env x u) Q E s:=by
 obtain ⟨m,hn,hl⟩:=id I.loc
 have hcls : (X.env.scope.kind == .class || (X.env.scope.kind == .module && X.env.locals != X.env.globals)) = false:=by rw [I.ok.kind]; rfl
 have hiσ : i < σ.length:=by rw [I.len]; exact (SU.mp hi).1
 have cne:=I.cne
 have tracked : ∀ {a : Addr} {h' : Heap},(∃ o,s.heap.get? a = some o ∧ H a = none) → Heap.SameBut a s.heap h' → HOk X.prog X.w H h':=fun {a h'} ha hs b ob e=>by
  obtain ⟨_,_,hfree⟩:=ha
  refine (I.hok b ob e).stay (fun c w' hc q=>(hs.2 c ?_).trans q) (fun _ q=>q) fun _ _ q=>q
  rintro rfl
  rcases hc with rfl | hc
  ·rw [hfree] at e; cases e
  ·rw [hfree] at hc; cases hc
 rcases hx with hk | hk
 ·refine wpAny_storeName_local hk hn (fun h' hn' hs=>?_) hcls
  obtain ⟨oL,_,_,hoL,_⟩:=id hn
  refine h _ ⟨I.ok,I.os,I.bare,⟨fun b o e n hb hx=>?_,fun b o e n hb hx=>?_,I.base.free,fun b o e hx=>?_,I.base.tups,I.base.frzs,I.base.tbls⟩,⟨_,hn',fun j y v' e1 e2 e3=>?_⟩,fun y c e=>?_,I.free,I.freeC,fun p hp=>?_,tracked ⟨oL,hoL,I.free⟩ hs,by simpa using I.len⟩ ⟨_,hs,.inl rfl⟩
  ·exact (hs.2 b (Sz (Sx (Heap.lt_size e) I.ok.above))).trans (I.base.keep b o e n hb hx)
  ·obtain ⟨sl,e1⟩:=I.base.slot b o e n hb hx
   exact ⟨sl,(hs.2 b (Sz (Sx (Heap.lt_size e) I.ok.above))).trans e1⟩
  ·obtain ⟨o',e1⟩:=I.base.there b o e hx
   exact ⟨o',(hs.2 b (Sz (Sx (Heap.lt_size e) I.ok.above))).trans e1⟩
  ·by_cases hj : j = i
   ·subst hj
    rw [hi] at e1; cases e1
    rw [SV hiσ] at e2
    cases e2
    exact ⟨u,r,.inl ⟨hk,by simp⟩⟩
   ·rw [SW (Ne.symm hj)] at e2
    obtain ⟨u',r',q⟩:=hl j y v' e1 e2 e3
    refine ⟨u',r',?_⟩
    rcases q with ⟨k,e⟩ | ⟨k,c,e,z⟩
    ·refine .inl ⟨k,?_⟩
     have : y ≠ x:=fun e=>hj (GD hN e1 (e ▸ hi))
     simp [this,e]
    ·exact .inr ⟨k,c,e,z.sameBut hs (cne y c e)⟩
  ·obtain ⟨w',z⟩:=I.cell y c e
   exact ⟨w',z.sameBut hs (cne y c e)⟩
  ·obtain ⟨e,n,ne,nf,d⟩:=I.pin p hp
   exact ⟨(hs.2 p.1 ne).trans e,n,ne,nf,d⟩
 ·have hfn : X.fn x = true:=by
   rcases hf with z | z
   ·exact z
   ·rw [z] at hk; cases hk
  obtain ⟨c,hc⟩:=I.ok.has x (.inl hk)
  obtain ⟨w',z⟩:=I.cell x c hc
  refine wpAny_storeName_cell I.ok.kind hk hc z (fun h' hc' hs=>?_)
  obtain ⟨oc,hoc,hocd⟩:=id z
  refine h { s with heap:=h' } ⟨I.ok,I.os,I.bare,⟨fun b o e n hb hx=>?_,fun b o e n hb hx=>?_,I.base.free,fun b o e hx=>?_,I.base.tups,I.base.frzs,I.base.tbls⟩,⟨m,hn.sameBut hs (Ne.symm (cne x c hc)),fun j y v' e1 e2 e3=>?_⟩,fun y c' e=>?_,I.free,I.freeC,fun p hp=>?_,tracked ⟨oc,hoc,I.freeC x c hc⟩ hs,by simpa using I.len⟩ ⟨c,hs,.inr hc⟩
  ·exact (hs.2 b (Sz (Sx (Heap.lt_size e) (I.ok.cab x c hfn hc)))).trans (I.base.keep b o e n hb hx)
  ·obtain ⟨sl,e1⟩:=I.base.slot b o e n hb hx
   exact ⟨sl,(hs.2 b (Sz (Sx (Heap.lt_size e) (I.ok.cab x c hfn hc)))).trans e1⟩
  ·obtain ⟨o',e1⟩:=I.base.there b o e hx
   exact ⟨o',(hs.2 b (Sz (Sx (Heap.lt_size e) (I.ok.cab x c hfn hc)))).trans e1⟩
  ·by_cases hj : j = i
   ·subst hj
    rw [hi] at e1; cases e1
    rw [SV hiσ] at e2
    cases e2
    exact ⟨u,r,.inr ⟨.inl hk,c,hc,hc'⟩⟩
   ·rw [SW (Ne.symm hj)] at e2
    obtain ⟨u',r',q⟩:=hl j y v' e1 e2 e3
    refine ⟨u',r',?_⟩
    rcases q with q | ⟨k,c',e,z'⟩
    ·exact .inl q
    ·refine .inr ⟨k,c',e,z'.sameBut hs ?_⟩
     rintro rfl
     exact hj (GD hN e1 (I.ok.inj _ _ _ e hc ▸ hi))
  ·by_cases hcc : c' = c
   ·subst hcc; exact ⟨_,hc'⟩
   ·obtain ⟨w2,z2⟩:=I.cell y c' e
    exact ⟨w2,z2.sameBut hs hcc⟩
  ·obtain ⟨e,n,ne,nf,d⟩:=I.pin p hp
   refine ⟨(hs.2 p.1 ?_).trans e,n,ne,nf,d⟩
   intro q
   rw [q,hoc] at e
   have q' : oc = p.2:=Su.inj e
   exact d w' (by rw [← q']; exact hocd)
theorem Dp {M : Model} {A : Around} {E : Value → Shared → Prop} {i : Nat} {x : Str} {v : V} {u : Value} {Q : Unit → Shared → Prop} (I : Inv X pins σ H s) (hN : X.N.Nodup) (hi : X.N[i]? = some x) (hx : Loc X.env.scope x) (r : Ba v u)
 (h : ∀ s',Inv X pins (σ.set i (some v)) H s' → Q () s') (hf : X.fn x = true ∨ X.env.scope.names.lookup x = some .local:=by first | exact .inl rfl | exact .inr rfl | assumption) : wpAny M A (storeName X.env x u) Q E s :=
 Fi I hN hi hx r (fun s' I' _=>h s' I') hf
theorem Inv.call' {s' : Shared} {ch : List Addr} (I : Inv X pins σ H s) (ho : s'.os = s.os) (u : Un (frs X.stack) ch H H' s.heap s'.heap) (hok : HOk X.prog X.w H' s'.heap) (hg : AllBare s'.gens)
 (hch : ∀ b ∈ ch,(b ∈ X.ex ∨ X.s₀.heap.objs.size ≤ b) ∧ b ≠ X.env.locals ∧ (∀ x c,X.env.cells.lookup x = some c → c ≠ b) ∧ ∀ p ∈ X.pn ++ pins,p.1 ≠ b) : Inv X pins σ H' s':=by
 obtain ⟨h',g',d',t',o'⟩:=s'
 have e : o' = s.os:=ho
 subst e
 exact I.call (g':=g') (t':=t') (d':=d') u hok hg hch
end
abbrev XK:=Value → Option Addr → Hp → Prop
abbrev St:=List (Option V)
abbrev VK:=V → Hp → Prop
abbrev TE:=St → Hp → VK → Prop
abbrev TT:=St → Hp → (Bool → Hp → Prop) → Prop
abbrev TA:=St → Hp → (List V → Hp → Prop) → Prop
structure El where
 nx : St → Hp → Prop
 rt : VK
 bk : St → Hp → Prop:=fun _ _=>False
 ct : St → Hp → Prop:=fun _ _=>False
abbrev TS:=El → St → Hp → Prop
inductive EP (X : Cx) (pins : List (Addr × Obj)) (σ : St) (Q : VK) (u : Value) (s' : Shared) : Prop
 | mk (v : _) (H' : _) (h1 : Inv X pins σ H' s') (h2 : Ba v u) (h3 : Q v H') : EP X pins σ Q u s'
def TP (X : Cx) (pins : List (Addr × Obj)) (σ : St) (Q : Bool → Hp → Prop) (b : Bool) (s' : Shared) : Prop:=∃ H',Inv X pins σ H' s' ∧ Q b H'
inductive AP (X : Cx) (pins : List (Addr × Obj)) (σ : St) (Q : List V → Hp → Prop) (us : List Value) (s' : Shared) : Prop
 | mk (vs : _) (H' : _) (h1 : Inv X pins σ H' s') (h2 : AH vs us) (h3 : Q vs H') : AP X pins σ Q us s'
def SP (X : Cx) (pins : List (Addr × Obj)) (D : El) (f : Flow) (s' : Shared) : Prop :=
 match f with
 | .next=>∃ σ' H',Inv X pins σ' H' s' ∧ D.nx σ' H'
 | .brk=>∃ σ' H',Inv X pins σ' H' s' ∧ D.bk σ' H'
 | .cont=>∃ σ' H',Inv X pins σ' H' s' ∧ D.ct σ' H'
 | .ret u=>∃ v σ' H',Inv X pins σ' H' s' ∧ Ba v u ∧ D.rt v H'
def PE (X : Cx) (e : Expr) (t : TE) : Prop :=
 ∀ (pins : List (Addr × Obj)) (s : Shared) (σ : St) (H : Hp) (Q : VK),Inv X pins σ H s → t σ H Q → wpAny (model X.prog X.w) X.A (eval e X.env) (EP X pins σ Q) X.xe s
def PT (X : Cx) (e : Expr) (t : TT) : Prop :=
 ∀ (pins : List (Addr × Obj)) (s : Shared) (σ : St) (H : Hp) (Q : Bool → Hp → Prop),Inv X pins σ H s → t σ H Q → wpAny (model X.prog X.w) X.A (isTrue e X.env (eval e X.env)) (TP X pins σ Q) X.xe s
def PW (X : Cx) (e : Expr) (t : TT) : Prop :=
 ∀ (whole : Sem Value) (pins : List (Addr × Obj)) (s : Shared) (σ : St) (H : Hp) (Q : Bool → Hp → Prop),Inv X pins σ H s → t σ H Q → wpAny (model X.prog X.w) X.A (isTrue e X.env whole) (TP X pins σ Q) X.xe s
theorem PW.pt {X : Cx} {e : Expr} {t : TT} (h : PW X e t) : PT X e t:=h _
def PA (X : Cx) (es : List Expr) (t : TA) : Prop :=
 ∀ (pos : Pos) (pins : List (Addr × Obj)) (s : Shared) (σ : St) (H : Hp) (Q : List V → Hp → Prop),Inv X pins σ H s → t σ H Q → wpAny (model X.prog X.w) X.A (spliced (backTo pos (starEach es X.env))) (AP X pins σ Q) X.xe s
def PS (X : Cx) (st : Stmt) (t : TS) : Prop :=
 ∀ (pins : List (Addr × Obj)) (s : Shared) (σ : St) (H : Hp) (D : El),Inv X pins σ H s → t D σ H → wpAny (model X.prog X.w) X.A (exec st X.env) (SP X pins D) X.xe s
def PSs (X : Cx) (st : List Stmt) (t : TS) : Prop :=
 ∀ (pins : List (Addr × Obj)) (s : Shared) (σ : St) (H : Hp) (D : El),Inv X pins σ H s → t D σ H → wpAny (model X.prog X.w) X.A (execs st X.env) (SP X pins D) X.xe s
theorem thn {α : Type} {t : Sem α} {Q Q' : α → Shared → Prop} {M : Model} {A : Around} {E : Value → Shared → Prop} {s : Shared} (h : wpAny M A t Q E s) (hQ : ∀ a s,Q a s → Q' a s) : wpAny M A t Q' E s:=wpAny_mono h hQ fun _ _ x=>x
end L2
namespace L2
open PySem PySem.Spec PyProof.Rows
section
variable {X : Cx}
inductive Ij (i : Nat) (σ : St) (H : Hp) (Q : VK) : Prop
 | mk (v : _) (h1 : σ[i]? = some (some v)) (h2 : Q v H) : Ij i σ H Q
def tC (v : V) : TE:=fun _ H Q=>Q v H
theorem ME {i : Nat} {x : Str} {pos : Pos} (hN : X.N[i]? = some x) (hv : Vis X.env.scope x) (hd : (x == ("__debug__" : Str)) = false:=by decide) (hcd : (x == ("__classdict__" : Str)) = false:=by decide) : PE X (.Name x pos) (Ij i):=by
 intro pins s σ H Q I h
 obtain ⟨v,e,h⟩:=h
 obtain ⟨m,hn,hl⟩:=I.loc
 obtain ⟨u,r,l⟩:=hl i x v hN e hv
 have fin : EP X pins σ Q u s:=⟨v,H,I,r,h⟩
 rcases l with ⟨hk,hm⟩ | ⟨hk,c,hc,hcell⟩
 ·exact wpAny_Name (wpAny_loadName_local I.ok.kind hk hn hm fin) hd
 ·rcases hk with hk | hk
  ·exact wpAny_Name (wpAny_loadName_cell I.ok.kind hk hc hcell fin) hd
  ·exact wpAny_Name (wpAny_loadName_free I.ok.kind hk hc hcell fin hcd) hd
theorem Ab {i j pos} : PE X (.Constant (.int i) j pos) (tC (.int i)):=fun _ _ _ H _ I h=>wpAny_Constant_int ⟨.int i,H,I.tok _,⟨_,rfl⟩,h⟩
theorem E1 {b j pos} : PE X (.Constant (.bool b) j pos) (tC (.bl b)):=fun _ _ _ H _ I h=>Constant_bool ⟨.bl b,H,I,rfl,h⟩
theorem D0 {j pos} : PE X (.Constant .none j pos) (tC .non):=fun _ _ _ H _ I h=>Constant_none ⟨.non,H,I,rfl,h⟩
theorem Ah {x j pos} : PE X (.Constant (.str x) j pos) (tC (.str x)):=fun _ _ _ H _ I h=>Calls.Constant_str ⟨.str x,H,I.tok _,⟨_,rfl⟩,h⟩
def Gl (X : Cx) (x : Str) : Prop:=X.env.kindOf x = some .globalImplicit
theorem EZ {E : Value → Shared → Prop} {pins : List (Addr × Obj)} {s : Shared} {σ : St} {H : Hp} {x : Str} {u : Value} {pos : Pos} {Q : Value → Shared → Prop} (I : Inv X pins σ H s) (hg : Gl X x) (hm : X.mg x = some u) (h : Q u s)
 (hd : (x == ("__debug__" : Str)) = false:=by decide) : wpAny (model X.prog X.w) X.A (eval (.Name x pos) X.env) Q E s :=
 Calls.Name_function_global I.ok.kind hg (Calls.loadGlobal_global (by rw [I.ok.glob]; exact I.mod.glob.keeps I.bk) hm h) hd
theorem IM {E : Value → Shared → Prop} {pins : List (Addr × Obj)} {s : Shared} {σ : St} {H : Hp} {x : Str} {u : Value} {pos : Pos} {Q : Value → Shared → Prop} (I : Inv X pins σ H s) (hg : Gl X x) (hm : X.mg x = none) (hv : bootBuiltins x = some u) (h : Q u s)
 (hn : x ≠ "__name__":=by decide) (hd : (x == ("__debug__" : Str)) = false:=by decide) : wpAny (model X.prog X.w) X.A (eval (.Name x pos) X.env) Q E s:=by
 obtain ⟨mb,h1,h2⟩:=I.mod.blt
 exact Calls.Name_function_global I.ok.kind hg (Calls.loadGlobal_builtin (by rw [I.ok.glob]; exact I.mod.glob.keeps I.bk) hm (by rw [I.ok.blt]; exact h1.keeps I.bk) ((h2 x hn).trans hv) h) hd
theorem AK {x : Str} {v : V} {u : Value} {pos : Pos} (hg : Gl X x) (hm : X.mg x = some u) (r : Ba v u) (hd : (x == ("__debug__" : Str)) = false:=by decide) : PE X (.Name x pos) (tC v) :=
 fun _ _ _ H _ I h=>EZ I hg hm ⟨v,H,I,r,h⟩ hd
theorem BP {x : Str} {v : V} {u : Value} {pos : Pos} (hg : Gl X x) (hm : X.mg x = none) (hv : bootBuiltins x = some u) (r : Ba v u) (hn : x ≠ "__name__":=by decide) (hd : (x == ("__debug__" : Str)) = false:=by decide) : PE X (.Name x pos) (tC v) :=
 fun _ _ _ H _ I h=>IM I hg hm hv ⟨v,H,I,r,h⟩ hn hd
variable {a b : Expr} {ta tb : TE} {pos : Pos}
def PC (X : Cx) (op : CmpOp) (a b : Expr) (t : TE) : Prop :=
 ∀ (pins : List (Addr × Obj)) (s : Shared) (σ : St) (H : Hp) (Q : VK),Inv X pins σ H s → t σ H Q →
   wpAny (model X.prog X.w) X.A (eval a X.env) (fun v s₁=>wpAny (model X.prog X.w) X.A (eval b X.env) (fun u s₂=>wpAny (model X.prog X.w) X.A (compareOp op v u) (EP X pins σ Q) X.xe s₂) X.xe s₁) X.xe s
def tB (t : TE) : TT:=fun σ H Q=>t σ H fun x H1=>∃ c,x = .bl c ∧ Q c H1
theorem Bq {e : Expr} {t : TE} (h : PE X e t) (he : ∀ whole,isTrue e X.env whole = (do let v ← whole; standAt e.pos; holding [v] (truthy v)):=by intro _; rfl) : PT X e (tB t):=by
 intro pins s σ H Q I hw
 refine isTrue_plain (thn (h pins s σ H _ I hw) fun v s1 ⟨x,H1,I1,r1,q1⟩=>?_) (he _)
 obtain ⟨d,rfl,q⟩:=q1
 cases r1
 exact wpAny_truthy_bool ⟨H1,I1,q⟩
variable {tA tB' : TT} {Bj : List Expr}
def QG (t u : TT) : TT:=fun σ H Q=>t σ H fun c H1=>if c = true then u σ H1 Q else Q false H1
def tOr (t u : TT) : TT:=fun σ H Q=>t σ H fun c H1=>if c = true then Q true H1 else u σ H1 Q
def QF (t : TT) : TT:=fun σ H Q=>t σ H fun c H1=>Q (!c) H1
theorem DF (ha : PT X a tA) : PW X (.BoolOp .And [a] pos) tA:=by
 intro wh pins s σ H Q I h
 refine isTrue_and (thn (ha pins s σ H Q I h) fun c s1 e=>?_)
 cases c with
 | true=>exact isTrue_and_nil e
 | false=>exact e
theorem Co (ha : PT X a tA) : PW X (.BoolOp .Or [a] pos) tA:=by
 intro wh pins s σ H Q I h
 refine isTrue_or (thn (ha pins s σ H Q I h) fun c s1 e=>?_)
 cases c with
 | false=>exact isTrue_or_nil e
 | true=>exact e
theorem Ey (ha : PT X a tA) (hb : PW X (.BoolOp .And (b :: Bj) pos) tB') : PW X (.BoolOp .And (a :: b :: Bj) pos) (QG tA tB'):=by
 intro wh pins s σ H Q I h
 refine isTrue_and (thn (ha pins s σ H _ I h) fun c s1 ⟨H1,I1,q1⟩=>?_)
 cases c with
 | true=>exact hb wh pins s1 σ H1 Q I1 q1
 | false=>exact ⟨H1,I1,q1⟩
theorem CY (ha : PT X a tA) (hb : PW X (.BoolOp .Or (b :: Bj) pos) tB') : PW X (.BoolOp .Or (a :: b :: Bj) pos) (tOr tA tB'):=by
 intro wh pins s σ H Q I h
 refine isTrue_or (thn (ha pins s σ H _ I h) fun c s1 ⟨H1,I1,q1⟩=>?_)
 cases c with
 | true=>exact ⟨H1,I1,q1⟩
 | false=>exact hb wh pins s1 σ H1 Q I1 q1
theorem Bx (ha : PT X a tA) : PT X (.UnaryOp .Not a pos) (QF tA):=by
 intro pins s σ H Q I h
 exact isTrue_not (ha pins s σ H (fun c H1=>Q (!c) H1) I h)
def Q6 (ta tb : TE) : TE:=fun σ H Q=>ta σ H fun x H1=>∃ c,x = .bl c ∧ if c = true then tb σ H1 Q else Q (.bl false) H1
def QE (ta tb : TE) : TE:=fun σ H Q=>ta σ H fun x H1=>∃ c,x = .bl c ∧ if c = true then Q (.bl true) H1 else tb σ H1 Q
def PY (ta : TE) : TE:=fun σ H Q=>ta σ H fun x H1=>∃ c,x = .bl c ∧ Q (.bl (!c)) H1
theorem Gm {op} {t : TE} (h : PE X a t) : PE X (.BoolOp op [a] pos) t:=fun pins s σ H Q I hw=>BoolOp_one (h pins s σ H Q I hw)
theorem Gn (ha : PE X a ta) (hb : PE X (.BoolOp .And (b :: Bj) pos) tb) : PE X (.BoolOp .And (a :: b :: Bj) pos) (Q6 ta tb):=by
 intro pins s σ H Q I h
 refine BoolOp_and (thn (ha pins s σ H _ I h) fun v s1 ⟨x,H1,I1,r1,q1⟩=>?_)
 obtain ⟨c,rfl,q1⟩:=q1
 cases r1
 refine wpAny_truthy_bool ?_
 cases c with
 | true=>exact hb pins s1 σ H1 Q I1 q1
 | false=>exact ⟨.bl false,H1,I1,rfl,q1⟩
theorem Qi (ha : PE X a ta) (hb : PE X (.BoolOp .Or (b :: Bj) pos) tb) : PE X (.BoolOp .Or (a :: b :: Bj) pos) (QE ta tb):=by
 intro pins s σ H Q I h
 refine BoolOp_or (thn (ha pins s σ H _ I h) fun v s1 ⟨x,H1,I1,r1,q1⟩=>?_)
 obtain ⟨c,rfl,q1⟩:=q1
 cases r1
 refine wpAny_truthy_bool ?_
 cases c with
 | false=>exact hb pins s1 σ H1 Q I1 q1
 | true=>exact ⟨.bl true,H1,I1,rfl,q1⟩
theorem OK (ha : PE X a ta) : PE X (.UnaryOp .Not a pos) (PY ta):=by
 intro pins s σ H Q I h
 refine UnaryOp_ (thn (ha pins s σ H _ I h) fun v s1 ⟨x,H1,I1,r1,q1⟩=>?_)
 obtain ⟨c,rfl,q1⟩:=q1
 cases r1
 exact not_of (wpAny_truthy_bool ⟨.bl (!c),H1,I1,rfl,q1⟩)
def tIf (t : TT) (ta tb : TE) : TE:=fun σ H Q=>t σ H fun c H1=>if c = true then ta σ H1 Q else tb σ H1 Q
theorem Jo {c : Expr} (hc : PT X c tA) (ha : PE X a ta) (hb : PE X b tb) : PE X (.IfExp c a b pos) (tIf tA ta tb):=by
 intro pins s σ H Q I h
 refine wpAny_IfExp (thn (hc pins s σ H _ I h) fun d s1 ⟨H1,I1,q1⟩=>?_)
 cases d with
 | true=>exact ha pins s1 σ H1 Q I1 q1
 | false=>exact hb pins s1 σ H1 Q I1 q1
end
end L2
namespace L2
open PySem PySem.Spec PyProof.Rows
def SqL (K : SI) (H : Hp) (a : Addr) (xs : List V) : Prop :=
 Rd H a (.lst xs) ∨
  ∃ (o : Obj) (its : Array Value) (n : Nat),K.lookup a = some o ∧ o.cls = .type "list" ∧ o.dict = none ∧ o.data = .seq its n ∧ its.size ≤ sizeLine ∧ AH xs its.toList
def SqT (K : SI) (H : Hp) (a : Addr) (xs : List V) : Prop :=
 Rd H a (.tup xs) ∨
  ∃ (o : Obj) (its : Array Value) (n : Nat),K.lookup a = some o ∧ o.cls = .type "tuple" ∧ o.data = .seq its n ∧ its.size ≤ sizeLine ∧ AH xs its.toList
def M7 : Value → Option V
 | .none=>some .non
 | .bool b=>some (.bl b)
 | .int i _=>some (.int i)
 | .str x _=>some (.str x)
 | .bytes b _=>some (.byt b)
 | .float b _=>some (.flt b)
 | .ref a=>some (.ref a)
 | .type n=>some (.ty n)
 | _=>none
theorem Ba.abs {x : V} {u : Value} (r : Ba x u) : M7 u = some x:=by
 cases x with
 | non=>cases r; rfl
 | bl _=>cases r; rfl
 | int _=>obtain ⟨t,rfl⟩:=r; rfl
 | str _=>obtain ⟨t,rfl⟩:=r; rfl
 | byt _=>obtain ⟨t,rfl⟩:=r; rfl
 | flt _=>obtain ⟨t,rfl⟩:=r; rfl
 | ref _=>cases r; rfl
 | ty _=>cases r; rfl
theorem Ba.inj {x y : V} {u : Value} (r : Ba x u) (q : Ba y u) : x = y:=Su.inj (r.abs.symm.trans q.abs)
theorem AH.inj {xs ys : List V} {us : List Value} (a : AH xs us) (b : AH ys us) : xs = ys:=by
 induction a generalizing ys with
 | nil=>cases b; rfl
 | cons r t ih=>cases b with | cons r' t'=>rw [r.inj r',ih t']
section
variable {X : Cx} {pins : List (Addr × Obj)} {σ : St} {H : Hp} {s : Shared} {a : Addr} {xs ys : List V}
theorem SqL.of {K : SI} (h : H a = some (.lst xs)) : SqL K H a xs:=.inl (.inl h)
theorem SqT.of {K : SI} (h : H a = some (.tup xs)) : SqT K H a xs:=.inl (.inl h)
theorem Inv.list (I : Inv X pins σ H s) (h : SqL X.K H a xs) : ∃ its : List Value,AH xs its ∧ PlainL s.heap a its.toArray ∧ xs.length ≤ sizeLine:=by
 rcases h with h | ⟨o,its,n,hk,hc,hd,hs,hz,r⟩
 ·obtain ⟨z,its,n,r,e⟩:=h.ok I.hok
  exact ⟨its,r,⟨_,n,e,rfl,rfl,rfl⟩,z⟩
 ·refine ⟨its.toList,r,⟨o,n,I.kIn a o hk,hc,hd,by simpa using hs⟩,?_⟩
  have e:=r.length
  simp only [SX] at e
  lia
theorem Inv.tuple (I : Inv X pins σ H s) (h : SqT X.K H a xs) : ∃ its : List Value,AH xs its ∧ IsTup s.heap a its.toArray ∧ xs.length ≤ sizeLine:=by
 rcases h with h | ⟨o,its,n,hk,hc,hs,hz,r⟩
 ·obtain ⟨z,its,r,p⟩:=h.ok I.hok
  exact ⟨its,r,p,z⟩
 ·refine ⟨its.toList,r,⟨o,I.kIn a o hk,hc,n,by simpa using hs⟩,?_⟩
  have e:=r.length
  simp only [SX] at e
  lia
theorem Inv.list_inj (I : Inv X pins σ H s) (h : SqL X.K H a xs) (h' : SqL X.K H a ys) : xs = ys:=by
 obtain ⟨its,r,⟨o,n,e,_,_,d⟩,_⟩:=I.list h
 obtain ⟨its',r',⟨o',n',e',_,_,d'⟩,_⟩:=I.list h'
 rw [e] at e'; cases e'
 rw [d] at d'
 injection d' with d1 _
 have : its = its':=by simpa using congrArg Array.toList d1
 subst this
 exact r.inj r'
theorem Inv.tuple_inj (I : Inv X pins σ H s) (h : SqT X.K H a xs) (h' : SqT X.K H a ys) : xs = ys:=by
 obtain ⟨its,r,⟨o,e,_,n,d⟩,_⟩:=I.tuple h
 obtain ⟨its',r',⟨o',e',_,n',d'⟩,_⟩:=I.tuple h'
 rw [e] at e'; cases e'
 rw [d] at d'
 injection d' with d1 _
 have : its = its':=by simpa using congrArg Array.toList d1
 subst this
 exact r.inj r'
end
abbrev Cx.wish (X : Cx) (E : Value → Shared → Prop) : Cx:={ X with xe:=E }
abbrev Cx.nox (X : Cx) : Cx:=X.wish fun _ _=>False
theorem Cx.Ok.wish {X : Cx} (ok : X.Ok) (E : Value → Shared → Prop) : (X.wish E).Ok :=
 ⟨ok.mod,ok.kind,ok.glob,ok.blt,ok.above,ok.inj,ok.has,ok.cab,ok.hd,ok.frames,ok.stk,ok.exf,ok.bs,ok.bsz,ok.noex,ok.exfs,ok.funs,ok.frf⟩
theorem Cx.Ok.unwish {X : Cx} {E : Value → Shared → Prop} (ok : (X.wish E).Ok) : X.Ok :=
 ⟨ok.mod,ok.kind,ok.glob,ok.blt,ok.above,ok.inj,ok.has,ok.cab,ok.hd,ok.frames,ok.stk,ok.exf,ok.bs,ok.bsz,ok.noex,ok.exfs,ok.funs,ok.frf⟩
section
variable {X : Cx} {pins : List (Addr × Obj)} {σ : St} {H : Hp} {s : Shared} {E : Value → Shared → Prop}
theorem Inv.wish (I : Inv X pins σ H s) (E : Value → Shared → Prop) : Inv (X.wish E) pins σ H s:=⟨I.ok.wish E,I.os,I.bare,I.base,I.loc,I.cell,I.free,I.freeC,I.pin,I.hok,I.len⟩
theorem Inv.unwish (I : Inv (X.wish E) pins σ H s) : Inv X pins σ H s:=⟨I.ok.unwish,I.os,I.bare,I.base,I.loc,I.cell,I.free,I.freeC,I.pin,I.hok,I.len⟩
theorem SP.unwish {D : El} {f : Flow} {s' : Shared} (h : SP (X.wish E) pins D f s') : SP X pins D f s':=by
 cases f with
 | next=>obtain ⟨σ',H',I,q⟩:=h; exact ⟨σ',H',I.unwish,q⟩
 | brk=>obtain ⟨σ',H',I,q⟩:=h; exact ⟨σ',H',I.unwish,q⟩
 | cont=>obtain ⟨σ',H',I,q⟩:=h; exact ⟨σ',H',I.unwish,q⟩
 | ret u=>obtain ⟨v,σ',H',I,r,q⟩:=h; exact ⟨v,σ',H',I.unwish,r,q⟩
theorem PSs.nox {st : List Stmt} {t : TS} (h : PSs X.nox st t) : PSs X st t:=fun pins s σ H D I hw =>
 wpAny_mono (h pins s σ H D (I.wish _) hw) (fun _ _ q=>q.unwish) fun _ _ z=>False.elim z
end
section
variable {X : Cx} {st : Stmt} {Bj : List Stmt} {t u : TS} {e : Expr} {te : TE} {pos : Pos}
def PZ : TS:=fun D σ H=>D.nx σ H
@[reducible] def El.to (D : El) (n : St → Hp → Prop) : El:={ D with nx:=n }
def Ni (t u : TS) : TS:=fun D σ H=>t (D.to (u D)) σ H
theorem Am : PSs X [] PZ:=fun _ _ σ H _ I h=>wpAny_execs_nil ⟨σ,H,I,h⟩
theorem BX (h1 : PS X st t) (h2 : PSs X Bj u) : PSs X (st :: Bj) (Ni t u):=by
 intro pins s σ H D I h
 refine wpAny_execs_cons (thn (h1 pins s σ H { D with nx:=u D } I h) fun f s1 q=>?_)
 cases f with
 | next =>
   obtain ⟨σ',H',I',q⟩:=q
   exact h2 pins s1 σ' H' D I' q
 | ret v=>exact q
 | brk=>exact q
 | cont=>exact q
theorem Ae (h1 : PS X st t) : PSs X [st] t:=by
 intro pins s σ H D I h
 refine wpAny_execs_cons (thn (h1 pins s σ H D I h) fun f s1 q=>?_)
 cases f with
 | next=>exact wpAny_execs_nil q
 | ret v=>exact q
 | brk=>exact q
 | cont=>exact q
theorem Inv.quiet {pins : List (Addr × Obj)} {σ : St} {H : Hp} {s : Shared} (I : Inv X pins σ H s) : interactive X.env = false:=by simp [interactive,I.ok.kind]
def Q4 (te : TE) : TS:=fun D σ H=>te σ H fun _ H1=>D.nx σ H1
theorem Bt (he : PE X e te) (hs : swapsWith e none pos.line X.env = pure false:=by rfl) : PS X (.Expr e pos) (Q4 te):=by
 intro pins s σ H D I h
 exact wpAny_Expr_any (thn (he pins s σ H _ I h) fun v s1 ⟨x,H1,I1,r1,q1⟩=>⟨σ,H1,I1,q1⟩) I.quiet hs
def QC (te : TE) : TS:=fun D σ H=>te σ H D.rt
theorem Aj (he : PE X e te) : PS X (.Return (some e) pos) (QC te):=by
 intro pins s σ H D I h
 exact wpAny_Return_some (thn (he pins s σ H _ I h) fun v s1 ⟨x,H1,I1,r1,q1⟩=>⟨x,σ,H1,I1,r1,q1⟩)
def Lw (c : TT) (t u : TS) : TS:=fun D σ H=>c σ H fun b H1=>if b = true then t D σ H1 else u D σ H1
theorem Qh {c : Expr} {a b : List Stmt} {tc : TT} (hc : PT X c tc) (ha : PSs X a t) (hb : PSs X b u) : PS X (.If c a b pos) (Lw tc t u):=by
 intro pins s σ H D I h
 refine wpAny_If (thn (hc pins s σ H _ I h) fun d s1 ⟨H1,I1,q1⟩=>?_)
 cases d with
 | true=>exact ha pins s1 σ H1 D I1 q1
 | false=>exact hb pins s1 σ H1 D I1 q1
def Mh : TS:=fun _ _ _=>False
theorem Ci : PS X st Mh:=fun _ _ _ _ _ _ h=>h.elim
theorem Ef {sts : List Stmt} : PSs X sts Mh:=fun _ _ _ _ _ _ h=>h.elim
end
abbrev TG:=V → St → Hp → (St → Hp → Prop) → Prop
abbrev TGs:=List V → St → Hp → (St → Hp → Prop) → Prop
def PG (X : Cx) (target : Expr) (t : TG) : Prop :=
 ∀ (pins : List (Addr × Obj)) (s : Shared) (σ : St) (H : Hp) (v : V) (u : Value) (Q : St → Hp → Prop),Inv X pins σ H s → Ba v u → t v σ H Q →
   wpAny (model X.prog X.w) X.A (assign target X.env u) (fun _ s'=>∃ σ' H',Inv X pins σ' H' s' ∧ Q σ' H') X.xe s
def PGs (X : Cx) (ts : List Expr) (t : TGs) : Prop :=
 ∀ (pins : List (Addr × Obj)) (s : Shared) (σ : St) (H : Hp) (vs : List V) (us : List Value) (Q : St → Hp → Prop),Inv X pins σ H s → AH vs us → t vs σ H Q →
   wpAny (model X.prog X.w) X.A (assignInOrder ((assignEach ts X.env).map (·.2)) us) (fun _ s'=>∃ σ' H',Inv X pins σ' H' s' ∧ Q σ' H') X.xe s
abbrev PH:=V → V → V → Hp → (Hp → Prop) → Prop
def Qy (X : Cx) (t : PH) : Prop :=
 ∀ (pins : List (Addr × Obj)) (s : Shared) (σ : St) (H : Hp) (o i v : V) (ov iv u : Value) (Q : Hp → Prop),Inv X pins σ H s → Ba o ov → Ba i iv → Ba v u → t o i v H Q →
   wpAny (model X.prog X.w) X.A (setItem ov iv u) (fun _ s'=>∃ H',Inv X pins σ H' s' ∧ Q H') X.xe s
section
variable {X : Cx} {pos : Pos}
def Ck (i : Nat) : TG:=fun v σ H Q=>Q (σ.set i (some v)) H
theorem AG {i : Nat} {x : Str} (hN : X.N.Nodup) (hi : X.N[i]? = some x) (hx : Loc X.env.scope x) (hf : X.fn x = true ∨ X.env.scope.names.lookup x = some .local:=by first | exact .inl rfl | exact .inr rfl | assumption) : PG X (.Name x pos) (Ck i):=by
 intro pins s σ H v u Q I r h
 exact wpAny_assign_Name (Dp I hN hi hx r (fun s' I'=>⟨_,H,I',h⟩) hf)
def Po : TGs:=fun vs σ H Q=>vs = [] ∧ Q σ H
inductive JK (t : TG) (u : TGs) (vs : List V) (σ : St) (H : Hp) (Q : (St → Hp → Prop)) : Prop
 | mk (v : _) (r : _) (h1 : vs = v :: r) (h2 : t v σ H fun σ' H'=>u r σ' H' Q) : JK t u vs σ H Q
theorem KW : PGs X [] Po:=by
 intro pins s σ H vs us Q I r h
 obtain ⟨e,h⟩:=h
 subst e
 cases r
 exact assignInOrder_nil ⟨σ,H,I,h⟩
theorem EO {e : Expr} {es : List Expr} {t : TG} {u : TGs} (h1 : PG X e t) (h2 : PGs X es u)
 (hs : (assignEach (e :: es) X.env).map (·.2) = assign e X.env :: (assignEach es X.env).map (·.2):=by rfl) : PGs X (e :: es) (JK t u):=by
 intro pins s σ H vs us Q I r h
 obtain ⟨v,vr,e1,h⟩:=h
 subst e1
 cases r with
 | cons r rr =>
   rw [hs]
   refine assignInOrder_cons (thn (h1 pins s σ H _ _ _ I r h) fun _ s1 ⟨σ1,H1,I1,q1⟩=>?_)
   exact h2 pins s1 σ1 H1 _ _ Q I1 rr q1
inductive LV (K : SI) (n : Nat) (t : TGs) (v : V) (σ : St) (H : Hp) (Q : (St → Hp → Prop)) : Prop
 | mk (a : _) (xs : _) (h1 : v = .ref a) (h2 : SqT K H a xs) (h3 : xs.length = n) (h4 : t xs σ H Q) : LV K n t v σ H Q
theorem OF {es : List Expr} {k : Nat} {t : TGs} {n : Nat} (hc : X.calm = true) (h : PGs X es t)
 (hn : (assignEach es X.env).length = n:=by rfl) (hst : (assignEach es X.env).findIdx? (·.1) = none:=by rfl) : PG X (.Tuple es k pos) (LV X.K n t):=by
 intro pins s σ H v u Q I r hw
 obtain ⟨a,xs,e1,hq,hl,hw⟩:=hw
 subst e1
 cases r
 obtain ⟨its,rv,ht,hz⟩:=I.tuple hq
 refine assign_Tuple_tuple (I.ok.hd hc) ht (by simp [hn,← hl,rv.length]) hst fun h' hx=>?_
 have I1 : Inv X pins σ H { s with heap:=h' }:=I.kept (t':=s.toks) fun b o e=>hx b o (Sz (Heap.lt_size e)) e
 exact h pins _ σ H xs _ Q I1 (by simpa using rv) hw
def QQ (to ti : TE) (t : PH) : TG:=fun v σ H Q=>to σ H fun o H1=>ti σ H1 fun i H2=>t o i v H2 fun H3=>Q σ H3
theorem Gk {o i : Expr} {to ti : TE} {t : PH} (ho : PE X o to) (hi : PE X i ti) (hs : Qy X t)
 (ha : ∀ v,assign (.Subscript o i pos) X.env v = (do
  let ov ← holding [v] (eval o X.env)
  let iv ← holding [v,ov] (eval i X.env)
  standAt pos
  holding [v,ov,iv] (setItem ov iv v)
  release [v,ov,iv] []):=by intro _; rfl) : PG X (.Subscript o i pos) (QQ to ti t):=by
 intro pins s σ H v u Q I r h
 rw [ha]
 refine wpAny_bind (wpAny_holding (thn (ho pins s σ H _ I h) fun ov s1 ⟨x,H1,I1,r1,q1⟩=>?_))
 refine wpAny_bind (wpAny_holding (thn (hi pins s1 σ H1 _ I1 q1) fun iv s2 ⟨y,H2,I2,r2,q2⟩=>?_))
 refine wpAny_bind (wpAny_standAt (wpAny_bind (wpAny_holding (thn (hs pins s2 σ H2 x y v ov iv u _ I2 r1 r2 r q2) fun _ s3 ⟨H3,I3,q3⟩=>?_))))
 exact wpAny_release ⟨σ,H3,I3,q3⟩
def Lz (te : TE) (g : TG) : TS:=fun D σ H=>te σ H fun x H1=>g x σ H1 D.nx
theorem Iy {tg e : Expr} {te : TE} {g : TG} (he : PE X e te) (hg : PG X tg g) (hs : swapsWithSole [tg] e pos.line X.env = pure false:=by rfl) (hw : swappedStores [tg] e X.env = pure none:=by rfl)
 (h1 : (assignEach [tg] X.env).map (·.2) = [assign tg X.env]:=by rfl) : PS X (.Assign [tg] e pos) (Lz te g):=by
 intro pins s σ H D I h
 refine wpAny_Assign_stores (thn (he pins s σ H _ I h) fun v s1 ⟨x,H1,I1,r1,q1⟩=>?_) hs hw
 rw [h1]
 exact thn (hg pins s1 σ H1 x v _ I1 r1 q1) fun _ s2 q=>q
theorem Aq {i : Nat} {x : Str} {e : Expr} {te : TE} {pos' : Pos} (hN : X.N.Nodup) (hi : X.N[i]? = some x) (hx : Loc X.env.scope x) (he : PE X e te) (hs : swapsWith e (some (.Name x pos')) pos.line X.env = pure false:=by rfl) (hf : X.fn x = true ∨ X.env.scope.names.lookup x = some .local:=by first | exact .inl rfl | exact .inr rfl | assumption) :
 PS X (.Assign [.Name x pos'] e pos) (Lz te (Ck i)):=by
 intro pins s σ H D I h
 refine wpAny_Assign_Name (thn (he pins s σ H _ I h) fun v s1 ⟨y,H1,I1,r1,q1⟩=>?_) hs
 exact Dp I1 hN hi hx r1 (fun s2 I2=>⟨_,H1,I2,q1⟩) hf
def QD (i j : Nat) (ta : TA) : TS:=fun D σ H=>ta σ H fun vs H1=>∃ v w,vs = [v,w] ∧ D.nx ((σ.set i (some v)).set j (some w)) H1
theorem OC {i j : Nat} {x y : Str} {a b : Expr} {ta : TA} {px py pt : Pos} {kt k2 pt2} (hc : X.calm = true) (hN : X.N.Nodup) (hi : X.N[i]? = some x) (hj : X.N[j]? = some y) (hij : i ≠ j)
 (hx : X.env.scope.names.lookup x = some .local) (hy : X.env.scope.names.lookup y = some .local) (ha : PA X [a,b] ta)
 (hw : swappedStores [.Tuple [.Name x px,.Name y py] kt pt] (.Tuple [a,b] k2 pt2) X.env = pure (some [x,y]))
 (hs : swapsWithSole [.Tuple [.Name x px,.Name y py] kt pt] (.Tuple [a,b] k2 pt2) pos.line X.env = pure false:=by rfl) :
 PS X (.Assign [.Tuple [.Name x px,.Name y py] kt pt] (.Tuple [a,b] k2 pt2) pos) (QD i j ta):=by
 intro pins s σ H D I h
 rw [exec_Assign_arm]
 refine wpAny_bind (wpAny_standAt ?_)
 rw [hs]
 refine wpAny_bind (wpAny_pure ?_)
 rw [if_neg (by decide)]
 refine wpAny_bind (Tuple_ (thn (ha _ pins s σ H _ I h) fun us s1 ⟨vs,H1,I1,r1,q1⟩=>?_))
 obtain ⟨v,w,e1,q1⟩:=q1
 subst e1
 obtain ⟨u1,u2,rfl,rv,rw'⟩ : ∃ u1 u2,us = [u1,u2] ∧ Ba v u1 ∧ Ba w u2:=by
  cases r1 with
  | cons p q =>
    cases q with
    | cons p' q' =>
      cases q'
      exact ⟨_,_,rfl,p,p'⟩
 refine wpAny_newObj_type ?_ (by show 2 ≤ sizeLine; decide)
 have I2 : Inv X pins σ H1 { s1 with heap:=s1.heap.push { cls:=.type "tuple",data:=.seq [u1,u2].toArray } }:=I1.kept (t':=s1.toks) fun b o e=>Heap.get?_push_of_some _ e
 rw [hw]
 refine wpAny_bind (wpAny_pure ?_)
 show wpAny (model X.prog X.w) X.A (do rule "assign.swapped-stores"; let items ← unpackItems (.ref s1.heap.objs.size) 2 none; assignInOrder [fun v=>bindName X.env y v,fun v=>bindName X.env x v] items.reverse; pure Flow.next) _ _ _
 refine wpAny_bind (wpAny_rule (wpAny_bind (unpackItems_tuple (items:=#[u1,u2]) (I.ok.hd hc) (IsTup.new s1.heap _) fun h' hx'=>?_)))
 have I3:=I2.kept (h':=h') (t':=s1.toks) fun b o e=>hx' b o (Sz (Heap.lt_size e)) e
 show wpAny _ _ (assignInOrder [fun v=>bindName X.env y v,fun v=>bindName X.env x v] [u2,u1] >>= fun _=>pure Flow.next) _ _ _
 refine wpAny_bind (assignInOrder_cons (wpAny_bindName (Dp I3 hN hj (.inl hy) rw' (fun s2 I4=>?_) (.inr hy))))
 refine assignInOrder_cons (wpAny_bindName (Dp I4 hN hi (.inl hx) rv (fun s3 I5=>assignInOrder_nil (wpAny_pure ?_)) (.inr hx)))
 rw [List.set_comm _ _ (Ne.symm hij)] at I5
 exact ⟨_,H1,I5,q1⟩
end
section
variable {X : Cx} {pos : Pos}
def K0 (c : TT) (tb : TS) : TS:=fun D σ H=>∃ W : Nat → St → Hp → Prop,(∃ m,W m σ H) ∧ ∀ m σ H,W m σ H →
 c σ H fun b H1=>if b = true then ∃ N : St → Hp → Prop,(∀ σ' H',N σ' H' → ∃ m',m' < m ∧ W m' σ' H') ∧ tb { D with nx:=N,ct:=N,bk:=D.nx } σ H1 else D.nx σ H1
theorem DY {c : Expr} {body : List Stmt} {tc : TT} {tb : TS} (hp : PassesOwn (model X.prog X.w) X.A X.env X.xe) (hc : PT X c tc) (hb : PSs X body tb) : PS X (.While c body [] pos) (K0 tc tb):=by
 intro pins s σ H D I h
 obtain ⟨W,⟨m0,w0⟩,turn⟩:=h
 refine wpAny_While (codeAny_whileLoop (fun n s'=>∃ σ' H',Inv X pins σ' H' s' ∧ W n σ' H') ?_ m0 ⟨σ,H,I,w0⟩)
 rintro n s1 ⟨σ1,H1,I1,w1⟩
 refine wpAny_passesOwn hp (thn (hc pins s1 σ1 H1 _ I1 (turn n σ1 H1 w1)) fun b s2 ⟨H2,I2,q2⟩=>?_)
 cases b with
 | true =>
   obtain ⟨N,hN,q2⟩:=q2
   rw [if_pos rfl]
   refine wpAny_passesOwn hp (thn (hb pins s2 σ1 H2 _ I2 q2) fun f s3 q3=>?_)
   cases f with
   | next =>
     obtain ⟨σ3,H3,I3,n3⟩:=q3
     obtain ⟨m',hm,w3⟩:=hN σ3 H3 n3
     exact ⟨m',hm,σ3,H3,I3,w3⟩
   | cont =>
     obtain ⟨σ3,H3,I3,n3⟩:=q3
     obtain ⟨m',hm,w3⟩:=hN σ3 H3 n3
     exact ⟨m',hm,σ3,H3,I3,w3⟩
   | brk=>exact q3
   | ret v=>exact q3
 | false =>
   rw [if_neg Bool.false_ne_true]
   exact wpAny_execs_nil ⟨σ1,H2,I2,q2⟩
end
structure It where
 go : Nat → Hp → Prop
 yld : Nat → Hp → V → Hp → Prop
 stop : Nat → Hp → Prop
def EF (X : Cx) (pins : List (Addr × Obj)) (H : Hp) (b : Addr) : Prop :=
 H b = none ∧ b ≠ X.env.locals ∧ b ∉ X.fs ∧ (b ∈ X.ex ∨ X.s₀.heap.objs.size ≤ b) ∧ (∀ x c,X.env.cells.lookup x = some c → c ≠ b) ∧ ∀ p ∈ X.pn ++ pins,p.1 ≠ b
theorem Inv.fpOk {X : Cx} {pins : List (Addr × Obj)} {σ : St} {H H' : Hp} {s : Shared} {b : Addr} (I : Inv X pins σ H s) (hb : s.heap.objs.size ≤ b) (hn : H' b = none) : EF X pins H' b:=by
 refine ⟨hn,SY (Sx I.lt hb),I.nofs hb,.inr (SJ I.sz hb),fun x c e z=>?_,fun p hp z=>?_⟩
 ·obtain ⟨v,q⟩:=I.cell x c e
  exact absurd (Sx q.lt (by rw [z]; exact hb)) (Sy _)
 ·exact absurd (Sx (Heap.lt_size (I.pin p hp).1) (by rw [z]; exact hb)) (Sy _)
structure Ku (P : Program) (w : World) (K : SI) (tg : Expr) (J : It) (fp : List Addr) (it : Addr) (tn : Nat → Heap → Prop) : Prop where
 mem : it ∈ fp
 obj : ∀ i h,tn i h → ∀ b ∈ fp,∃ o,h.get? b = some o ∧ ∀ v,o.data ≠ .cell v
 keep : ∀ i h h',tn i h → (∀ b ∈ fp,∀ o,h.get? b = some o → h'.get? b = some o) → tn i h'
 item : ∀ (X : Cx),X.prog = P → X.w = w → X.K = K → X.calm = true → ∀ (i : Nat) (pins : List (Addr × Obj)) (s : Shared) (σ : St) (H : Hp) (E : Value → Shared → Prop),Inv X pins σ H s → (∀ b ∈ fp,EF X pins H b) → tn i s.heap → J.go i H →
  wpAny (model P w) X.A (pyNext (.ref it)) (fun r s1=>∃ u,r = some u ∧
   wpAny (model P w) X.A (letOwnedTupleGo tg (.ref it) u) (fun _ s2=>∃ x H',Inv X pins σ H' s2 ∧ Ba x u ∧ J.yld i H x H' ∧ tn (i + 1) s2.heap ∧ ∀ b ∈ fp,H' b = none) E s1) E s
 done : ∀ (X : Cx),X.prog = P → X.w = w → X.K = K → X.calm = true → ∀ (i : Nat) (pins : List (Addr × Obj)) (s : Shared) (σ : St) (H : Hp) (E : Value → Shared → Prop),Inv X pins σ H s → (∀ b ∈ fp,EF X pins H b) → tn i s.heap → J.stop i H →
  wpAny (model P w) X.A (pyNext (.ref it)) (fun r s1=>r = none ∧ Inv X pins σ H s1) E s
 self : ∀ (A : Around) (i : Nat) (s : Shared) (Q : Value → Shared → Prop) (E : Value → Shared → Prop),tn i s.heap → Q (.ref it) s → wpAny (model P w) A (pyIter (.ref it)) Q E s
abbrev TI:=St → Hp → (It → Hp → Prop) → Prop
def PIE (X : Cx) (pins : List (Addr × Obj)) (σ : St) (tg : Expr) (R : It → Hp → Prop) (itv : Value) (s2 : Shared) : Prop :=
 ∃ (it : Addr) (fp : List Addr) (tn : Nat → Heap → Prop) (J : It) (H' : Hp),itv = .ref it ∧ Inv X pins σ H' s2 ∧ Ku X.prog X.w X.K tg J fp it tn ∧ tn 0 s2.heap ∧ (∀ b ∈ fp,EF X pins H' b) ∧ R J H'
def PI (X : Cx) (tg iter : Expr) (wi : TI) : Prop :=
 ∀ (pins : List (Addr × Obj)) (s : Shared) (σ : St) (H : Hp) (R : It → Hp → Prop),Inv X pins σ H s → wi σ H R →
   wpAny (model X.prog X.w) X.A (eval iter X.env) (fun v s1=>wpAny (model X.prog X.w) X.A (pyIter v) (PIE X pins σ tg R) X.xe s1) X.xe s
theorem JJ {M : Model} {A : Around} {E : Value → Shared → Prop} {s : Shared} {tg : Expr} {it : Addr} {u : Value} {o : Obj} {n : String} {vs : Array Value} {Q : Unit → Shared → Prop} (ho : s.heap.get? it = some o) (hc : o.cls = .type n) (hd : o.data = .fields vs)
 (hn : ["enumerate","zip","dict_itemiterator","dict_reverseitemiterator","odict_iterator","itertools.zip_longest","itertools.pairwise"].contains n = false) (hQ : Q () s) : wpAny M A (letOwnedTupleGo tg (.ref it) u) Q E s:=by
 unfold letOwnedTupleGo
 cases tg <;> first
  | exact wpAny_pure hQ
  | (cases u <;> first
   | exact wpAny_pure hQ
   | (refine wpAny_bind (wpAny_load ho ?_)
      rw [hc,hd]
      show wpAny M A (if (["enumerate","zip","dict_itemiterator","dict_reverseitemiterator","odict_iterator","itertools.zip_longest","itertools.pairwise"].contains n && vs[0]? == some (rawInt _)) = true then _ else _) Q E s
      rw [if_neg (by intro h; rw [hn,Bool.false_and] at h; cases h)]
      exact wpAny_pure hQ))
def Itl (K : SI) (a : Addr) : It :=
 ⟨fun i H=>∃ xs x,SqL K H a xs ∧ xs[i]? = some x,fun i H x H'=>H' = H ∧ ∀ xs,SqL K H a xs → xs[i]? = some x,fun i H=>∃ xs,SqL K H a xs ∧ xs.length ≤ i⟩
def Itt (K : SI) (a : Addr) : It :=
 ⟨fun i H=>∃ xs x,SqT K H a xs ∧ xs[i]? = some x,fun i H x H'=>H' = H ∧ ∀ xs,SqT K H a xs → xs[i]? = some x,fun i H=>∃ xs,SqT K H a xs ∧ xs.length ≤ i⟩
def Itr (lo : Int) (n : Nat) : It:=⟨fun i _=>i < n,fun i H x H'=>H' = H ∧ x = .int (lo + i),fun i _=>n ≤ i⟩
theorem HH {P : Program} {w : World} {K : SI} {tg : Expr} (a it : Addr) : Ku P w K tg (Itl K a) [it] it (fun i h=>h.IsListIter it a i) where
 mem:=by simp
 obj:=fun i h st b hb=>by
  have e : b = it:=by simpa using hb
  subst e
  obtain ⟨o,e,c,d⟩:=st
  exact ⟨o,e,fun v z=>by rw [d] at z; cases z⟩
 keep:=fun i h h' st k=>st.at fun o e=>k it (by simp) o e
 item:=by
  intro X hP hw hK hc i pins s σ H E I hf st hg
  subst hP hw hK
  obtain ⟨xs,x,hq,hx⟩:=hg
  obtain ⟨its,rv,p,hz⟩:=I.list hq
  obtain ⟨u,hu,ru⟩:=rv.get hx
  obtain ⟨f0,f1,f2,f3,f4,f5⟩:=hf it (by simp)
  refine wpAny_pyNext_list_item st p.isList (x:=u) (by simpa using hu) fun h' st' sb=>?_
  have I1 : Inv X pins σ H { s with heap:=h' }:=I.turned (t':=s.toks) (fun b o hb e=>(sb.2 b hb).trans e) f0 f1 f3 f4 f5
  obtain ⟨o,e,c,d⟩:=id st'
  exact ⟨u,rfl,JJ (s:={ s with heap:=h' }) e c d (by decide) ⟨x,H,I1,ru,⟨rfl,fun ys hy=>by rw [I.list_inj hy hq]; exact hx⟩,st',fun b hb=>(hf b hb).1⟩⟩
 done:=by
  intro X hP hw hK hc i pins s σ H E I hf st hg
  subst hP hw hK
  obtain ⟨xs,hq,hx⟩:=hg
  obtain ⟨its,rv,p,hz⟩:=I.list hq
  obtain ⟨f0,f1,f2,f3,f4,f5⟩:=hf it (by simp)
  have hl:=rv.length
  exact wpAny_pyNext_list_end (I.ok.hd hc) st p.isList (by simp; lia) fun h' eb=>⟨rfl,I.turned (t':=s.toks) (fun b o hb e=>eb b o hb e) f0 f1 f3 f4 f5⟩
 self:=fun _ _ _ _ _ st h=>wpAny_pyIter_listiter st h
theorem JY {P : Program} {w : World} {K : SI} {tg : Expr} (a it : Addr) : Ku P w K tg (Itt K a) [it] it (fun i h=>h.IsTupleIter it a i) where
 mem:=by simp
 obj:=fun i h st b hb=>by
  have e : b = it:=by simpa using hb
  subst e
  obtain ⟨o,e,c,d⟩:=st
  exact ⟨o,e,fun v z=>by rw [d] at z; cases z⟩
 keep:=fun i h h' st k=>st.at fun o e=>k it (by simp) o e
 item:=by
  intro X hP hw hK hc i pins s σ H E I hf st hg
  subst hP hw hK
  obtain ⟨xs,x,hq,hx⟩:=hg
  obtain ⟨its,rv,p,hz⟩:=I.tuple hq
  obtain ⟨u,hu,ru⟩:=rv.get hx
  obtain ⟨f0,f1,f2,f3,f4,f5⟩:=hf it (by simp)
  refine wpAny_pyNext_tuple_item st (show s.heap.IsTuple a its.toArray from p) (x:=u) (by simpa using hu) fun h' st' sb=>?_
  have I1 : Inv X pins σ H { s with heap:=h' }:=I.turned (t':=s.toks) (fun b o hb e=>(sb.2 b hb).trans e) f0 f1 f3 f4 f5
  obtain ⟨o,e,c,d⟩:=id st'
  exact ⟨u,rfl,JJ (s:={ s with heap:=h' }) e c d (by decide) ⟨x,H,I1,ru,⟨rfl,fun ys hy=>by rw [I.tuple_inj hy hq]; exact hx⟩,st',fun b hb=>(hf b hb).1⟩⟩
 done:=by
  intro X hP hw hK hc i pins s σ H E I hf st hg
  subst hP hw hK
  obtain ⟨xs,hq,hx⟩:=hg
  obtain ⟨its,rv,p,hz⟩:=I.tuple hq
  obtain ⟨f0,f1,f2,f3,f4,f5⟩:=hf it (by simp)
  have hl:=rv.length
  exact wpAny_pyNext_tuple_end (I.ok.hd hc) st (show s.heap.IsTuple a its.toArray from p) (by simp; lia) fun h' eb=>⟨rfl,I.turned (t':=s.toks) (fun b o hb e=>eb b o hb e) f0 f1 f3 f4 f5⟩
 self:=fun _ _ _ _ _ st h=>wpAny_pyIter_tupleiter st h
theorem JZ {P : Program} {w : World} {K : SI} {tg : Expr} (it : Addr) (lo : Int) (n : Nat) : Ku P w K tg (Itr lo n) [it] it (fun i h=>IsRangeIter h it (lo + (i : Nat) * 1) ((n : Int) - (i : Nat)) 1) where
 mem:=by simp
 obj:=fun i h st b hb=>by
  have e : b = it:=by simpa using hb
  subst e
  exact ⟨_,st,fun v z=>by
   have z' : Data.fields _ = Data.cell v:=z
   cases z'⟩
 keep:=fun i h h' st k=>k it (by simp) _ st
 item:=by
  intro X hP hw hK hc i pins s σ H E I hf st hg
  subst hP hw hK
  obtain ⟨f0,f1,f2,f3,f4,f5⟩:=hf it (by simp)
  have W:=Walks.range (prog:=X.prog) (w:=X.w) (I.ok.hd hc) it lo 1 n
  refine W.item i s _ _ hg st fun v h' tk hv st' kk=>?_
  obtain ⟨t,rfl⟩:=hv
  have I1 : Inv X pins σ H { s with heap:=h',toks:=tk }:=I.turned (fun b o hb e=>kk b o (by simpa using hb) e) f0 f1 f3 f4 f5
  refine ⟨_,rfl,JJ (s:={ s with heap:=h',toks:=tk }) (n:="range_iterator") st' rfl rfl (by decide) ⟨.int (lo + i),H,I1,⟨t,?_⟩,⟨rfl,rfl⟩,st',fun b hb=>(hf b hb).1⟩⟩
  rw [Int.mul_one]
 done:=by
  intro X hP hw hK hc i pins s σ H E I hf st hg
  subst hP hw hK
  obtain ⟨f0,f1,f2,f3,f4,f5⟩:=hf it (by simp)
  exact wpAny_pyNext_range_end (I.ok.hd hc) st (by have : n ≤ i:=hg; lia) fun h' eb=>⟨rfl,I.turned (t':=s.toks) (fun b o hb e=>eb b o hb e) f0 f1 f3 f4 f5⟩
 self:=fun _ _ _ _ _ st h=>wpAny_pyIter_rangeiter st h
end L2
namespace L2
open PySem PySem.Spec PyProof.Rows
section
variable {X : Cx} {tg : Expr}
def JG (K : SI) (tl : TE) : TI:=fun σ H R=>tl σ H fun x H1=>∃ a,x = .ref a ∧ (∃ xs,SqL K H1 a xs) ∧ R (Itl K a) H1
def Pm (K : SI) (tl : TE) : TI:=fun σ H R=>tl σ H fun x H1=>∃ a,x = .ref a ∧ (∃ xs,SqT K H1 a xs) ∧ R (Itt K a) H1
theorem KU {l : Expr} {tl : TE} (hl : PE X l tl) : PI X tg l (JG X.K tl):=by
 intro pins s σ H R I h
 refine thn (hl pins s σ H _ I h) fun v s1 ⟨x,H1,I1,r1,q1⟩=>?_
 obtain ⟨a,e,⟨xs,hq⟩,q⟩:=q1
 subst e
 cases r1
 obtain ⟨its,rv,p,hz⟩:=I1.list hq
 refine wpAny_pyIter_list p.isList ?_
 refine ⟨s1.heap.objs.size,[s1.heap.objs.size],_,_,H1,rfl,I1.kept (t':=s1.toks) fun b o e=>Heap.get?_push_of_some _ e,HH a _,⟨_,Heap.get?_push_size _ rfl,rfl,rfl⟩,fun b hb=>?_,q⟩
 have e : b = s1.heap.objs.size:=by simpa using hb
 subst e
 exact I1.fpOk (T2 _) (I1.hok.fresh (T2 _))
theorem MD {l : Expr} {tl : TE} (hl : PE X l tl) : PI X tg l (Pm X.K tl):=by
 intro pins s σ H R I h
 refine thn (hl pins s σ H _ I h) fun v s1 ⟨x,H1,I1,r1,q1⟩=>?_
 obtain ⟨a,e,⟨xs,hq⟩,q⟩:=q1
 subst e
 cases r1
 obtain ⟨its,rv,p,hz⟩:=I1.tuple hq
 refine wpAny_pyIter_tuple (show s1.heap.IsTuple a its.toArray from p) ?_
 refine ⟨s1.heap.objs.size,[s1.heap.objs.size],_,_,H1,rfl,I1.kept (t':=s1.toks) fun b o e=>Heap.get?_push_of_some _ e,JY a _,⟨_,Heap.get?_push_size _ rfl,rfl,rfl⟩,fun b hb=>?_,q⟩
 have e : b = s1.heap.objs.size:=by simpa using hb
 subst e
 exact I1.fpOk (T2 _) (I1.hok.fresh (T2 _))
theorem My {pins : List (Addr × Obj)} {σ : St} {H : Hp} {s : Shared} {R : It → Hp → Prop} {E : Value → Shared → Prop} {lo hi : Int} {t u v : Tok} {tk : Nat} (I : Inv X pins σ H s) (h1 : -(2 ^ 62) ≤ lo) (h2 : lo < 2 ^ 62) (h3 : -(2 ^ 62) ≤ hi) (h4 : hi < 2 ^ 62)
 (q : R (Itr lo (hi - lo).toNat) H) : wpAny (model X.prog X.w) X.A (pyIter (.ref s.heap.objs.size)) (PIE X pins σ tg R) E { s with heap:=s.heap.push { cls:=.type "range",data:=.fields #[.int lo t,.int hi u,.int 1 v] },toks:=tk }:=by
 refine wpAny_pyIter_range (IsRange.new ..) (small_one h1 h2 h3 h4) ?_
 have I1 : Inv X pins σ H { s with heap:=s.heap.push { cls:=.type "range",data:=.fields #[.int lo t,.int hi u,.int 1 v] },toks:=tk }:=I.kept fun b o e=>Heap.get?_push_of_some _ e
 refine ⟨(s.heap.push { cls:=.type "range",data:=.fields #[.int lo t,.int hi u,.int 1 v] }).objs.size,[(s.heap.push { cls:=.type "range",data:=.fields #[.int lo t,.int hi u,.int 1 v] }).objs.size],_,_,H,rfl,
  I1.kept (t':=tk) fun b o e=>Heap.get?_push_of_some _ e,JZ _ lo (hi - lo).toNat,?_,fun b hb=>?_,q⟩
 ·have e1 : lo + ((0 : Nat) : Int) * 1 = lo:=by simp
  have e2 : (((hi - lo).toNat : Nat) : Int) - ((0 : Nat) : Int) = Builtin.Range.rangeSize lo hi 1:=by rw [rangeSize_one]; split <;> lia
  show IsRangeIter _ _ (lo + ((0 : Nat) : Int) * 1) ((((hi - lo).toNat : Nat) : Int) - ((0 : Nat) : Int)) 1
  rw [e1,e2]
  exact Heap.get?_push_size _ rfl
 ·have e : b = (s.heap.push { cls:=.type "range",data:=.fields #[.int lo t,.int hi u,.int 1 v] }).objs.size:=by simpa using hb
  subst e
  exact I1.fpOk (T2 _) (I1.hok.fresh (T2 _))
def Qp (ta : TA) : TI:=fun σ H R=>ta σ H fun vs H1=>∃ j : Int,vs = [.int j] ∧ -(2 ^ 62) ≤ j ∧ j < 2 ^ 62 ∧ R (Itr 0 j.toNat) H1
theorem CJ {a : Expr} {ta : TA} {p pos : Pos} (hg : Gl X "range") (hm : X.mg "range" = none) (ha : PA X [a] ta) (hs : starEach [a] X.env = [(false,eval a X.env)]:=by rfl) : PI X tg (.Call (.Name "range" p) [a] [] pos) (Qp ta):=by
 intro pins s σ H R I h
 refine Call_ (IM I hg hm boot_range (PyProof.Rows.callWith_type1 (thn (ha pos pins s σ H _ I h) fun us s1 ⟨vs,H1,I1,r1,q1⟩=>?_) hs rfl))
 obtain ⟨j,e,q1,q2,q⟩:=q1
 subst e
 cases r1 with
 | cons r rr =>
   cases rr
   obtain ⟨t,rfl⟩:=r
   exact call_range_1 (My I1 (by lia) (by lia) q1 q2 (by simpa using q))
def Q3 (wi : TI) (g : TG) (tb : TS) : TS:=fun D σ H=>wi σ H fun J H1=>∃ W : Nat → Nat → St → Hp → Prop,(∃ m,W 0 m σ H1) ∧ ∀ i m σ H,W i m σ H →
 (J.stop i H ∧ D.nx σ H) ∨ (J.go i H ∧ ∃ N : St → Hp → Prop,(∀ σ' H',N σ' H' → ∃ m',m' < m ∧ W (i + 1) m' σ' H') ∧ ∀ x H',J.yld i H x H' → g x σ H' fun σ2 H2=>tb { D with nx:=N,ct:=N,bk:=D.nx } σ2 H2)
def Fn (fp : List Addr) (h : Heap) : List (Addr × Obj):=fp.filterMap fun b=>(h.get? b).map fun o=>(b,o)
theorem Cp {fp : List Addr} {h : Heap} {b : Addr} {o : Obj} (hb : b ∈ fp) (e : h.get? b = some o) : (b,o) ∈ Fn fp h:=T3.mpr ⟨b,hb,by rw [e]; rfl⟩
theorem LK {fp : List Addr} {h : Heap} {p : Addr × Obj} (hp : p ∈ Fn fp h) : p.1 ∈ fp ∧ h.get? p.1 = some p.2:=by
 obtain ⟨b,hb,e⟩:=T3.mp hp
 cases q : h.get? b with
 | none=>rw [q] at e; cases e
 | some o =>
   rw [q] at e
   have e' : (b,o) = p:=Su.inj e
   subst e'
   exact ⟨hb,q⟩
theorem Inv.pinned {pins : List (Addr × Obj)} {σ : St} {H : Hp} {s : Shared} {fp : List Addr} (I : Inv X pins σ H s) (hf : ∀ b ∈ fp,EF X pins H b) (ho : ∀ b ∈ fp,∃ o,s.heap.get? b = some o ∧ ∀ v,o.data ≠ .cell v) : Inv X (pins ++ Fn fp s.heap) σ H s :=
 I.pins_of fun p hp=>(SR.mp hp).elim (fun z=>I.pin p (T4 _ z)) fun z=>by
  obtain ⟨hb,e⟩:=LK z
  obtain ⟨f0,f1,f2,_⟩:=hf p.1 hb
  obtain ⟨o,e',d⟩:=ho p.1 hb
  rw [e] at e'; cases e'
  exact ⟨e,f0,f1,f2,d⟩
theorem Inv.unpinned {pins pl : List (Addr × Obj)} {σ : St} {H : Hp} {s : Shared} (I : Inv X (pins ++ pl) σ H s) : Inv X pins σ H s:=I.pins_of fun p hp=>I.pin p (T4 _ (SS _ hp))
theorem OE {iter : Expr} {body : List Stmt} {wi : TI} {g : TG} {tb : TS} {pos : Pos} (hp : PassesOwn (model X.prog X.w) X.A X.env X.xe) (hc : X.calm = true) (hi : PI X tg iter wi) (hg : PG X tg g) (hb : PSs X body tb)
 (hs : ∀ x,foldedSetIterable iter X.env x = pure x:=by intro _; rfl) : PS X (.For tg iter body [] pos) (Q3 wi g tb):=by
 intro pins s σ H D I h
 refine wpAny_For (thn (hi pins s σ H _ I h) fun v s1 h1=>thn h1 fun itv s2 h2=>?_) hs
 obtain ⟨it,fp,tn,J,H2,e,I2,T,st2,f2,W,⟨m0,w0⟩,turn⟩:=h2
 subst e
 -- what stays true of the iterator's objects through the loop
 have stat : ∀ {H' : Hp},(∀ b ∈ fp,H' b = none) → ∀ b ∈ fp,EF X pins H' b:=fun hn b hb=>⟨hn b hb,(f2 b hb).2⟩
 refine codeAny_forLoop_any (fun n s'=>∃ i σ' H',Inv X pins σ' H' s' ∧ tn i s'.heap ∧ (∀ b ∈ fp,H' b = none) ∧ W i n σ' H') ?_ m0 ⟨0,σ,H2,I2,st2,fun b hb=>(f2 b hb).1,w0⟩
 rintro n s3 ⟨i,σ3,H3,I3,st3,fr3,w3⟩
 rcases turn i n σ3 H3 w3 with ⟨stop,qn⟩ | ⟨go,N,hN,step⟩
 ·refine wpAny_passesOwn hp (thn (T.done X rfl rfl rfl hc i pins s3 σ3 H3 X.xe I3 (stat fr3) st3 stop) fun r s4 ⟨hr,I4⟩=>?_)
  subst hr
  exact wpAny_execs_nil ⟨σ3,H3,I4,qn⟩
 ·refine wpAny_passesOwn hp (thn (T.item X rfl rfl rfl hc i pins s3 σ3 H3 X.xe I3 (stat fr3) st3 go) fun r s4 ⟨u,hr,h4⟩=>?_)
  subst hr
  refine wpAny_passesOwn hp (thn h4 fun _ s5 ⟨x,H5,I5,r5,y5,st5,fr5⟩=>?_)
  have I5':=I5.pinned (stat fr5) (T.obj _ _ st5)
  refine wpAny_passesOwn hp (thn (hg _ s5 σ3 H5 x u _ I5' r5 (step x H5 y5)) fun _ s6 ⟨σ6,H6,I6,q6⟩=>?_)
  refine wpAny_passesOwn hp (thn (hb _ s6 σ6 H6 _ I6 q6) fun f s7 q7=>?_)
  have again : ∀ {σ7 : St} {H7 : Hp},Inv X (pins ++ Fn fp s5.heap) σ7 H7 s7 → N σ7 H7 → ∃ m,m < n ∧ ∃ i σ' H',Inv X pins σ' H' s7 ∧ tn i s7.heap ∧ (∀ b ∈ fp,H' b = none) ∧ W i m σ' H':=fun {σ7 H7} I7 n7=>by
   obtain ⟨m',hm,w7⟩:=hN σ7 H7 n7
   refine ⟨m',hm,i + 1,σ7,H7,I7.unpinned,T.keep _ _ _ st5 fun b hb o e=>(I7.pin (b,o) (T4 _ (T4 _ (Cp hb e)))).1,fun b hb=>?_,w7⟩
   obtain ⟨o,e,d⟩:=T.obj _ _ st5 b hb
   exact (I7.pin (b,o) (T4 _ (T4 _ (Cp hb e)))).2.1
  cases f with
  | next=>obtain ⟨σ7,H7,I7,n7⟩:=q7; exact again I7 n7
  | cont=>obtain ⟨σ7,H7,I7,n7⟩:=q7; exact again I7 n7
  | brk=>obtain ⟨σ7,H7,I7,q7⟩:=q7; exact ⟨σ7,H7,I7.unpinned,q7⟩
  | ret v=>obtain ⟨x7,σ7,H7,I7,r7,q7⟩:=q7; exact ⟨x7,σ7,H7,I7.unpinned,r7,q7⟩
end
theorem E5 {K : SI} {a : Addr} {xs : List V} {g : TG} {tb : TS} {D : El} {σ : St} {H : Hp} (Pv : Nat → St → Hp → Prop) (h0 : Pv 0 σ H) (hl : ∀ i σ H,i ≤ xs.length → Pv i σ H → SqL K H a xs)
 (hs : ∀ i x σ H,xs[i]? = some x → Pv i σ H → g x σ H fun σ2 H2=>tb { D with nx:=Pv (i + 1),ct:=Pv (i + 1),bk:=D.nx } σ2 H2) (hd : ∀ σ H,Pv xs.length σ H → D.nx σ H) :
 ∃ W : Nat → Nat → St → Hp → Prop,(∃ m,W 0 m σ H) ∧ ∀ i m σ H,W i m σ H →
   ((Itl K a).stop i H ∧ D.nx σ H) ∨ ((Itl K a).go i H ∧ ∃ N : St → Hp → Prop,(∀ σ' H',N σ' H' → ∃ m',m' < m ∧ W (i + 1) m' σ' H') ∧ ∀ x H',(Itl K a).yld i H x H' → g x σ H' fun σ2 H2=>tb { D with nx:=N,ct:=N,bk:=D.nx } σ2 H2):=by
 refine ⟨fun i m σ H=>m = xs.length - i ∧ i ≤ xs.length ∧ Pv i σ H,⟨xs.length,by simp,T5 _,h0⟩,?_⟩
 rintro i m σ H ⟨rfl,hi,p⟩
 have q:=hl i σ H hi p
 by_cases hlt : i < xs.length
 ·refine .inr ⟨⟨xs,xs[i],q,by simp [hlt]⟩,Pv (i + 1),fun σ' H' p'=>⟨xs.length - (i + 1),by lia,rfl,hlt,p'⟩,fun x H' y=>?_⟩
  obtain ⟨e,y⟩:=y
  subst e
  exact hs i x σ _ (y xs q) p
 ·have e : i = xs.length:=by lia
  subst e
  exact .inl ⟨⟨xs,q,T2 _⟩,hd σ H p⟩
theorem Lh {K : SI} {a : Addr} {xs : List V} {g : TG} {tb : TS} {D : El} {σ : St} {H : Hp} (Pv : Nat → St → Hp → Prop) (h0 : Pv 0 σ H) (hl : ∀ i σ H,i ≤ xs.length → Pv i σ H → SqT K H a xs)
 (hs : ∀ i x σ H,xs[i]? = some x → Pv i σ H → g x σ H fun σ2 H2=>tb { D with nx:=Pv (i + 1),ct:=Pv (i + 1),bk:=D.nx } σ2 H2) (hd : ∀ σ H,Pv xs.length σ H → D.nx σ H) :
 ∃ W : Nat → Nat → St → Hp → Prop,(∃ m,W 0 m σ H) ∧ ∀ i m σ H,W i m σ H →
   ((Itt K a).stop i H ∧ D.nx σ H) ∨ ((Itt K a).go i H ∧ ∃ N : St → Hp → Prop,(∀ σ' H',N σ' H' → ∃ m',m' < m ∧ W (i + 1) m' σ' H') ∧ ∀ x H',(Itt K a).yld i H x H' → g x σ H' fun σ2 H2=>tb { D with nx:=N,ct:=N,bk:=D.nx } σ2 H2):=by
 refine ⟨fun i m σ H=>m = xs.length - i ∧ i ≤ xs.length ∧ Pv i σ H,⟨xs.length,by simp,T5 _,h0⟩,?_⟩
 rintro i m σ H ⟨rfl,hi,p⟩
 have q:=hl i σ H hi p
 by_cases hlt : i < xs.length
 ·refine .inr ⟨⟨xs,xs[i],q,by simp [hlt]⟩,Pv (i + 1),fun σ' H' p'=>⟨xs.length - (i + 1),by lia,rfl,hlt,p'⟩,fun x H' y=>?_⟩
  obtain ⟨e,y⟩:=y
  subst e
  exact hs i x σ _ (y xs q) p
 ·have e : i = xs.length:=by lia
  subst e
  exact .inl ⟨⟨xs,q,T2 _⟩,hd σ H p⟩
theorem Fy {lo : Int} {n : Nat} {g : TG} {tb : TS} {D : El} {σ : St} {H : Hp} (Pv : Nat → St → Hp → Prop) (h0 : Pv 0 σ H)
 (hs : ∀ i σ H,i < n → Pv i σ H → g (.int (lo + i)) σ H fun σ2 H2=>tb { D with nx:=Pv (i + 1),ct:=Pv (i + 1),bk:=D.nx } σ2 H2) (hd : ∀ σ H,Pv n σ H → D.nx σ H) :
 ∃ W : Nat → Nat → St → Hp → Prop,(∃ m,W 0 m σ H) ∧ ∀ i m σ H,W i m σ H →
   ((Itr lo n).stop i H ∧ D.nx σ H) ∨ ((Itr lo n).go i H ∧ ∃ N : St → Hp → Prop,(∀ σ' H',N σ' H' → ∃ m',m' < m ∧ W (i + 1) m' σ' H') ∧ ∀ x H',(Itr lo n).yld i H x H' → g x σ H' fun σ2 H2=>tb { D with nx:=N,ct:=N,bk:=D.nx } σ2 H2):=by
 refine ⟨fun i m σ H=>m = n - i ∧ i ≤ n ∧ Pv i σ H,⟨n,by simp,T5 _,h0⟩,?_⟩
 rintro i m σ H ⟨rfl,hi,p⟩
 by_cases hlt : i < n
 ·refine .inr ⟨hlt,Pv (i + 1),fun σ' H' p'=>⟨n - (i + 1),by lia,rfl,hlt,p'⟩,fun x H' y=>?_⟩
  obtain ⟨e,y⟩:=y
  subst e y
  exact hs i σ _ hlt p
 ·have e : i = n:=by lia
  subst e
  exact .inl ⟨T2 _,hd σ H p⟩
theorem J3 {c : TT} {tb : TS} {D : El} {σ : St} {H : Hp} (Pv : St → Hp → Prop) (μ : St → Hp → Nat) (h0 : Pv σ H)
 (hs : ∀ σ H,Pv σ H → c σ H fun b H1=>if b = true then tb { D with nx:=fun σ' H'=>Pv σ' H' ∧ μ σ' H' < μ σ H,ct:=fun σ' H'=>Pv σ' H' ∧ μ σ' H' < μ σ H,bk:=D.nx } σ H1 else D.nx σ H1)
 (mono : ∀ σ H Q Q',(∀ b H1,Q b H1 → Q' b H1) → c σ H Q → c σ H Q') : K0 c tb D σ H:=by
 refine ⟨fun m σ H=>m = μ σ H ∧ Pv σ H,⟨_,rfl,h0⟩,?_⟩
 rintro m σ H ⟨rfl,p⟩
 refine mono σ H _ _ (fun b H1 q=>?_) (hs σ H p)
 cases b with
 | true=>exact ⟨_,fun σ' H' ⟨p',l⟩=>⟨_,l,rfl,p'⟩,q⟩
 | false=>exact q
end L2
namespace L2
open PySem PySem.Spec PyProof.Rows
abbrev R2:=V → V → Hp → VK → Prop
def OpR (X : Cx) (f : Value → Value → Sem Value) (r : R2) : Prop :=
 ∀ (pins : List (Addr × Obj)) (s : Shared) (σ : St) (H : Hp) (x y : V) (v u : Value) (Q : VK),Inv X pins σ H s → Ba x v → Ba y u → r x y H Q →
   wpAny (model X.prog X.w) X.A (f v u) (EP X pins σ Q) X.xe s
def UnR (X : Cx) (f : Value → Sem Value) (r : V → Hp → VK → Prop) : Prop :=
 ∀ (pins : List (Addr × Obj)) (s : Shared) (σ : St) (H : Hp) (x : V) (v : Value) (Q : VK),Inv X pins σ H s → Ba x v → r x H Q →
   wpAny (model X.prog X.w) X.A (f v) (EP X pins σ Q) X.xe s
def C5 (X : Cx) (f : Value) (r : List V → Hp → VK → Prop) : Prop :=
 ∀ (pins : List (Addr × Obj)) (s : Shared) (σ : St) (H : Hp) (xs : List V) (us : List Value) (Q : VK),Inv X pins σ H s → AH xs us → r xs H Q →
   wpAny (model X.prog X.w) X.A (call f us) (EP X pins σ Q) X.xe s
def tOp (r : R2) (ta tb : TE) : TE:=fun σ H Q=>ta σ H fun x H1=>tb σ H1 fun y H2=>r x y H2 Q
def tUn (r : V → Hp → VK → Prop) (ta : TE) : TE:=fun σ H Q=>ta σ H fun x H1=>r x H1 Q
inductive rI (C : Int → Int → Prop) (g : Int → Int → V) (x : V) (y : V) (H : Hp) (Q : VK) : Prop
 | mk (i : _) (j : _) (h1 : x = .int i) (h2 : y = .int j) (h3 : C i j) (h4 : Q (g i j) H) : rI C g x y H Q
inductive rI0 (g : Int → Int → V) (x : V) (y : V) (H : Hp) (Q : VK) : Prop
 | mk (i : _) (j : _) (h1 : x = .int i) (h2 : y = .int j) (h3 : Q (g i j) H) : rI0 g x y H Q
inductive rU (g : Int → V) (x : V) (H : Hp) (Q : VK) : Prop
 | mk (i : _) (h1 : x = .int i) (h2 : Q (g i) H) : rU g x H Q
section
variable {X : Cx} {a b c : Expr} {ta tb tc : TE} {pos : Pos}
theorem Pw (ha : PE X a ta) (hb : PE X b tb) {pins : List (Addr × Obj)} {s : Shared} {σ : St} {H : Hp} {R : V → V → Hp → Prop} (I : Inv X pins σ H s)
 (h : ta σ H fun x H1=>tb σ H1 fun y H2=>R x y H2) {Q : Value → Shared → Prop} {f : Value → Value → Sem Value}
 (hf : ∀ v u s2 x y H2,Inv X pins σ H2 s2 → Ba x v → Ba y u → R x y H2 → wpAny (model X.prog X.w) X.A (f v u) Q X.xe s2) :
 wpAny (model X.prog X.w) X.A (eval a X.env) (fun v s₁=>wpAny (model X.prog X.w) X.A (eval b X.env) (fun u s₂=>wpAny (model X.prog X.w) X.A (f v u) Q X.xe s₂) X.xe s₁) X.xe s:=by
 refine thn (ha pins s σ H _ I h) fun v s1 ⟨x,H1,I1,r1,q1⟩=>?_
 refine thn (hb pins s1 σ H1 _ I1 q1) fun u s2 ⟨y,H2,I2,r2,q2⟩=>?_
 exact hf v u s2 x y H2 I2 r1 r2 q2
theorem Al {op : Operator} {r : R2} (ho : OpR X (binaryOp op) r) (ha : PE X a ta) (hb : PE X b tb) : PE X (.BinOp a op b pos) (tOp r ta tb):=by
 intro pins s σ H Q I h
 exact wpAny_BinOp (Pw ha hb I h fun v u s2 x y H2 I2 rx ry q=>ho pins s2 σ H2 x y v u Q I2 rx ry q)
theorem KZ {op : UnaryOp} {r : V → Hp → VK → Prop} (ho : UnR X (unaryOp op) r) (ha : PE X a ta) : PE X (.UnaryOp op a pos) (tUn r ta):=by
 intro pins s σ H Q I h
 exact UnaryOp_ (thn (ha pins s σ H _ I h) fun v s1 ⟨x,H1,I1,r1,q1⟩=>ho pins s1 σ H1 x v Q I1 r1 q1)
theorem opI {f : Value → Value → Sem Value} {C : Int → Int → Prop} {g : Int → Int → Int}
 (rule : ∀ (i j : Int) (t u : Tok) (s : Shared) (Q : Value → Shared → Prop) (E : Value → Shared → Prop),C i j → Q (.int (g i j) s.toks) { s with toks:=s.toks + 1 } → wpAny (model X.prog X.w) X.A (f (.int i t) (.int j u)) Q E s) :
 OpR X f (rI C fun i j=>.int (g i j)):=by
 intro pins s σ H x y v u Q I rx ry h
 obtain ⟨i,j,rfl,rfl,hc,q⟩:=h
 obtain ⟨t,rfl⟩:=rx
 obtain ⟨t',rfl⟩:=ry
 exact rule i j t t' s _ _ hc ⟨.int (g i j),H,I.tok _,⟨_,rfl⟩,q⟩
theorem Qk {f : Value → Value → Sem Value} {g : Int → Int → Int}
 (rule : ∀ (i j : Int) (t u : Tok) (s : Shared) (Q : Value → Shared → Prop) (E : Value → Shared → Prop),Q (.int (g i j) s.toks) { s with toks:=s.toks + 1 } → wpAny (model X.prog X.w) X.A (f (.int i t) (.int j u)) Q E s) :
 OpR X f (rI0 fun i j=>.int (g i j)):=by
 intro pins s σ H x y v u Q I rx ry h
 obtain ⟨i,j,rfl,rfl,q⟩:=h
 obtain ⟨t,rfl⟩:=rx
 obtain ⟨t',rfl⟩:=ry
 exact rule i j t t' s _ _ ⟨.int (g i j),H,I.tok _,⟨_,rfl⟩,q⟩
theorem Nv {f : Value → Value → Sem Value} {g : Int → Int → Bool}
 (rule : ∀ (i j : Int) (t u : Tok) (s : Shared) (Q : Value → Shared → Prop) (E : Value → Shared → Prop),Q (.bool (g i j)) s → wpAny (model X.prog X.w) X.A (f (.int i t) (.int j u)) Q E s) :
 OpR X f (rI0 fun i j=>.bl (g i j)):=by
 intro pins s σ H x y v u Q I rx ry h
 obtain ⟨i,j,rfl,rfl,q⟩:=h
 obtain ⟨t,rfl⟩:=rx
 obtain ⟨t',rfl⟩:=ry
 exact rule i j t t' s _ _ ⟨.bl (g i j),H,I,rfl,q⟩
def Ky (i j : Int) : Prop:=0 ≤ j ∧ j ≤ 1000000 ∧ i.natAbs < 2 ^ 64
theorem BA : OpR X (binaryOp .Add) (rI0 fun i j=>.int (i + j)):=Qk fun _ _ _ _ _ _ _ q=>add_int q
theorem D6 : OpR X (binaryOp .Sub) (rI0 fun i j=>.int (i - j)):=Qk fun _ _ _ _ _ _ _ q=>sub_int q
theorem C8 : OpR X (binaryOp .Mod) (rI (fun _ j=>0 < j) fun i j=>.int (i % j)):=opI fun i j _ _ _ _ _ hc q=>by
 have h1 : (0 : Int) < j:=hc
 exact mod_int' (by lia) (by rw [Int.fmod_eq_emod_of_nonneg i (by lia)]; exact q)
theorem EA : OpR X (binaryOp .Pow) (rI Ky fun i j=>.int (i ^ j.toNat)):=opI fun _ _ _ _ _ _ _ hc q=>pow_int_small hc.1 hc.2.1 hc.2.2 q
theorem unI {f : Value → Sem Value} {g : Int → Int}
 (rule : ∀ (i : Int) (t : Tok) (s : Shared) (Q : Value → Shared → Prop) (E : Value → Shared → Prop),Q (.int (g i) s.toks) { s with toks:=s.toks + 1 } → wpAny (model X.prog X.w) X.A (f (.int i t)) Q E s) :
 UnR X f (rU fun i=>.int (g i)):=by
 intro pins s σ H x v Q I rx h
 obtain ⟨i,rfl,q⟩:=h
 obtain ⟨t,rfl⟩:=rx
 exact rule i t s _ _ ⟨.int (g i),H,I.tok _,⟨_,rfl⟩,q⟩
theorem Ig : UnR X (unaryOp .USub) (rU fun i=>.int (-i)):=unI fun _ _ _ _ _ q=>neg_int q
end
def Q9 : V → V → Bool
 | .non,.non=>true | .non,.int _=>true | .int _,.non=>true | .non,.bl _=>true | .bl _,.non=>true | .non,.str _=>true | .str _,.non=>true
 | .int _,.int _=>true | .bl _,.bl _=>true | .str _,.str _=>true | .byt _,.byt _=>true
 | .int _,.str _=>true | .str _,.int _=>true | .bl _,.str _=>true | .str _,.bl _=>true
 | _,_=>false
def rEq : R2:=fun x y H Q=>Q9 x y = true ∧ Q (.bl (decide (x = y))) H
def rNe : R2:=fun x y H Q=>Q9 x y = true ∧ Q (.bl (!decide (x = y))) H
theorem Lm {i j : Int} : decide (V.int i = V.int j) = (i == j):=by
 rw [Bool.eq_iff_iff]
 simp
theorem N0 {i j : Bool} : decide (V.bl i = V.bl j) = (i == j):=by
 rw [Bool.eq_iff_iff]
 simp
theorem Ll {i j : Str} : decide (V.str i = V.str j) = (i == j):=by
 rw [Bool.eq_iff_iff]
 simp
theorem Ln {i j : Array UInt8} : decide (V.byt i = V.byt j) = (i.toList == j.toList):=by
 rw [Bool.eq_iff_iff]
 cases i
 cases j
 simp
section
variable {X : Cx} {a b c : Expr} {ta tb tc : TE} {pos : Pos}
theorem AS {pins : List (Addr × Obj)} {σ : St} {H : Hp} {s : Shared} {Q : VK} {k k' : Bool} (I : Inv X pins σ H s) (q : Q (.bl k) H) (e : k = k') : EP X pins σ Q (.bool k') s:=by
 subst e
 exact ⟨.bl k,H,I,rfl,q⟩
theorem BR : OpR X (compareOp .Eq) rEq:=by
 intro pins s σ H x y v u Q I rx ry h
 obtain ⟨hs,q⟩:=h
 cases x with
 | non =>
   cases rx
   cases y with
   | non=>cases ry; exact PySem.EqNone.eq_none_none (AS I q (by simp))
   | bl j=>cases ry; exact PySem.EqNone.eq_none_bool (AS I q (by simp))
   | int j=>obtain ⟨t',rfl⟩:=ry; exact PySem.EqNone.eq_none_int (AS I q (by simp))
   | str j=>obtain ⟨t',rfl⟩:=ry; exact PySem.EqNone.eq_none_str (AS I q (by simp))
   | _=>exact absurd (show false = true from hs) Bool.false_ne_true
 | bl i =>
   cases rx
   cases y with
   | non=>cases ry; exact PySem.EqNone.eq_bool_none (AS I q (by simp))
   | bl j=>cases ry; exact eq_bool (AS I q N0)
   | str j=>obtain ⟨t',rfl⟩:=ry; exact PySem.EqMixed.eq_bool_str (AS I q (by simp))
   | _=>exact absurd (show false = true from hs) Bool.false_ne_true
 | int i =>
   obtain ⟨t,rfl⟩:=rx
   cases y with
   | non=>cases ry; exact PySem.EqNone.eq_int_none (AS I q (by simp))
   | int j=>obtain ⟨t',rfl⟩:=ry; exact eq_int (AS I q Lm)
   | str j=>obtain ⟨t',rfl⟩:=ry; exact PySem.EqMixed.eq_int_str (AS I q (by simp))
   | _=>exact absurd (show false = true from hs) Bool.false_ne_true
 | str i =>
   obtain ⟨t,rfl⟩:=rx
   cases y with
   | non=>cases ry; exact PySem.EqNone.eq_str_none (AS I q (by simp))
   | bl j=>cases ry; exact PySem.EqMixed.eq_str_bool (AS I q (by simp))
   | int j=>obtain ⟨t',rfl⟩:=ry; exact PySem.EqMixed.eq_str_int (AS I q (by simp))
   | str j=>obtain ⟨t',rfl⟩:=ry; exact eq_str (AS I q Ll)
   | _=>exact absurd (show false = true from hs) Bool.false_ne_true
 | byt i =>
   obtain ⟨t,rfl⟩:=rx
   cases y with
   | byt j=>obtain ⟨t',rfl⟩:=ry; exact PySem.W.eq_bytes (AS I q Ln)
   | _=>exact absurd (show false = true from hs) Bool.false_ne_true
 | _=>cases y <;> exact absurd (show false = true from hs) Bool.false_ne_true
theorem Gp : OpR X (compareOp .NotEq) rNe:=by
 intro pins s σ H x y v u Q I rx ry h
 obtain ⟨hs,q⟩:=h
 cases x with
 | non =>
   cases rx
   cases y with
   | non=>cases ry; exact PySem.EqNone.ne_none_none (AS I q (by simp))
   | bl j=>cases ry; exact PySem.EqNone.ne_none_bool (AS I q (by simp))
   | int j=>obtain ⟨t',rfl⟩:=ry; exact PySem.EqNone.ne_none_int (AS I q (by simp))
   | str j=>obtain ⟨t',rfl⟩:=ry; exact PySem.EqNone.ne_none_str (AS I q (by simp))
   | _=>exact absurd (show false = true from hs) Bool.false_ne_true
 | bl i =>
   cases rx
   cases y with
   | non=>cases ry; exact PySem.EqNone.ne_bool_none (AS I q (by simp))
   | bl j=>cases ry; exact ne_bool (AS I q (congrArg not N0))
   | str j=>obtain ⟨t',rfl⟩:=ry; exact PySem.EqMixed.ne_bool_str (AS I q (by simp))
   | _=>exact absurd (show false = true from hs) Bool.false_ne_true
 | int i =>
   obtain ⟨t,rfl⟩:=rx
   cases y with
   | non=>cases ry; exact PySem.EqNone.ne_int_none (AS I q (by simp))
   | int j=>obtain ⟨t',rfl⟩:=ry; exact ne_int (AS I q (congrArg not Lm))
   | str j=>obtain ⟨t',rfl⟩:=ry; exact PySem.EqMixed.ne_int_str (AS I q (by simp))
   | _=>exact absurd (show false = true from hs) Bool.false_ne_true
 | str i =>
   obtain ⟨t,rfl⟩:=rx
   cases y with
   | non=>cases ry; exact PySem.EqNone.ne_str_none (AS I q (by simp))
   | bl j=>cases ry; exact PySem.EqMixed.ne_str_bool (AS I q (by simp))
   | int j=>obtain ⟨t',rfl⟩:=ry; exact PySem.EqMixed.ne_str_int (AS I q (by simp))
   | str j=>obtain ⟨t',rfl⟩:=ry; exact ne_str (AS I q (congrArg not Ll))
   | _=>exact absurd (show false = true from hs) Bool.false_ne_true
 | byt i =>
   obtain ⟨t,rfl⟩:=rx
   cases y with
   | byt j=>obtain ⟨t',rfl⟩:=ry; exact PySem.W.ne_bytes (AS I q (congrArg not Ln))
   | _=>exact absurd (show false = true from hs) Bool.false_ne_true
 | _=>cases y <;> exact absurd (show false = true from hs) Bool.false_ne_true
theorem FJ : OpR X (compareOp .Lt) (rI0 fun i j=>.bl (decide (i < j))):=Nv fun _ _ _ _ _ _ _ q=>lt_int q
theorem Jq : OpR X (compareOp .LtE) (rI0 fun i j=>.bl (decide (i ≤ j))):=Nv fun _ _ _ _ _ _ _ q=>le_int q
theorem Cy : OpR X (compareOp .Gt) (rI0 fun i j=>.bl (decide (j < i))):=Nv fun _ _ _ _ _ _ _ q=>gt_int q
theorem O8 : OpR X (compareOp .GtE) (rI0 fun i j=>.bl (decide (j ≤ i))):=Nv fun _ _ _ _ _ _ _ q=>ge_int q
theorem LI : OpR X (compareOp .In) (fun x y H Q=>∃ i j,x = .str i ∧ y = .str j ∧ Q (.bl (!(Builtin.Str.occurrences j i 0 j.length 1).isEmpty)) H):=by
 intro pins s σ H x y v u Q I rx ry h
 obtain ⟨i,j,rfl,rfl,q⟩:=h
 obtain ⟨t,rfl⟩:=rx
 obtain ⟨t',rfl⟩:=ry
 exact in_str (AS I q rfl)
theorem Nt : OpR X (compareOp .IsNot) (fun x y H Q=>y = .non ∧ Q (.bl (!decide (x = .non))) H):=by
 intro pins s σ H x y v u Q I rx ry h
 obtain ⟨rfl,q⟩:=h
 cases ry
 refine isnot_none_gen (AS I q ?_)
 cases x <;> first
  | (cases rx; rfl)
  | (obtain ⟨t,rfl⟩:=rx; rfl)
theorem IB : OpR X (compareOp .NotIn) (fun x y H Q=>∃ i j,x = .str i ∧ y = .str j ∧ Q (.bl (!(!(Builtin.Str.occurrences j i 0 j.length 1).isEmpty))) H):=by
 intro pins s σ H x y v u Q I rx ry h
 obtain ⟨i,j,rfl,rfl,q⟩:=h
 obtain ⟨t,rfl⟩:=rx
 obtain ⟨t',rfl⟩:=ry
 exact notIn_str (AS I q rfl)
theorem Ak (b : Expr) {op : CmpOp} (h : op ≠ .In:=by decide) (h2 : op ≠ .NotIn:=by decide) : behindInMarks op b = false:=by
 have e1 : (op == CmpOp.In) = false:=by cases op <;> first | rfl | exact absurd rfl h
 have e2 : (op == CmpOp.NotIn) = false:=by cases op <;> first | rfl | exact absurd rfl h2
 cases b <;> simp [behindInMarks,e1,e2]
theorem BO {op : CmpOp} {r : R2} (ho : OpR X (compareOp op) r) (ha : PE X a ta) (hb : PE X b tb) (hm : behindInMarks op b = false) : PE X (.Compare a [op] [b] pos) (tOp r ta tb):=by
 intro pins s σ H Q I h
 exact wpAny_Compare1 (Pw ha hb I h fun v u s2 x y H2 I2 rx ry q=>ho pins s2 σ H2 x y v u Q I2 rx ry q) hm
def O0 (t : TE) : TT:=fun σ H Q=>t σ H fun x H'=>∃ k,x = .bl k ∧ Q k H'
theorem Ag {op : CmpOp} {r : R2} (ho : OpR X (compareOp op) r) (ha : PE X a ta) (hb : PE X b tb) (hm : behindInMarks op b = false) : PT X (.Compare a [op] [b] pos) (O0 (tOp r ta tb)):=by
 intro pins s σ H Q I h
 refine wpAny_isTrue_Compare1 (thn (ha pins s σ H _ I h) fun v s1 ⟨x,H1,I1,r1,q1⟩=>thn (hb pins s1 σ H1 _ I1 q1) fun u s2 ⟨y,H2,I2,r2,q2⟩ =>
  thn (ho pins s2 σ H2 x y v u _ I2 r1 r2 q2) fun c s3 ⟨z,H3,I3,r3,k,e,q3⟩=>?_) hm
 subst e
 cases r3
 exact wpAny_truthy_bool ⟨H3,I3,q3⟩
def Oo (r r' : R2) (ta tb tc : TE) : TE:=fun σ H Q=>ta σ H fun x H1=>tb σ H1 fun y H2=>r x y H2 fun z H3=>∃ k,z = .bl k ∧
 (if k = true then tc σ H3 fun w' H4=>r' y w' H4 Q else Q (.bl false) H3)
theorem Jm {op op' : CmpOp} {r r' : R2} (ho : OpR X (compareOp op) r) (ho' : OpR X (compareOp op') r') (ha : PE X a ta) (hb : PE X b tb) (hc : PE X c tc)
 (hm : lastMarks [op,op'] [b,c] = false:=by with_unfolding_all rfl) : PT X (.Compare a [op,op'] [b,c] pos) (O0 (Oo r r' ta tb tc)):=by
 intro pins s σ H Q I h
 refine isTrue_chain (thn (ha pins s σ H _ I h) fun v s1 ⟨x,H1,I1,r1,q1⟩=>test_link (thn (hb pins s1 σ H1 _ I1 q1) fun u s2 ⟨y,H2,I2,r2,q2⟩ =>
  thn (ho pins s2 σ H2 x y v u _ I2 r1 r2 q2) fun d s3 ⟨z,H3,I3,r3,k,e,q3⟩=>?_)) hm
 subst e
 cases r3
 refine wpAny_truthy_bool ?_
 cases k with
 | false =>
   obtain ⟨k',e',q'⟩:=q3
   cases e'
   exact ite_ff ⟨H3,I3,q'⟩
 | true =>
   refine ite_tt (test_last (thn (hc pins s3 σ H3 _ I3 q3) fun w' s4 ⟨z',H4,I4,r4,q4⟩=>thn (ho' pins s4 σ H4 y z' u w' _ I4 r2 r4 q4) fun d' s5 ⟨z2,H5,I5,r5,k2,e2,q5⟩=>?_))
   subst e2
   cases r5
   exact wpAny_truthy_bool ⟨H5,I5,q5⟩
theorem Ft : (sizeLine : Nat) < 2 ^ 63:=by rw [sizeLine_eq]; decide
theorem Bp : OpR X (binaryOp .Add) (fun x y H Q=>∃ i j,x = .str i ∧ y = .str j ∧ i.length + j.length ≤ sizeLine ∧ Q (.str (i ++ j)) H):=by
 intro pins s σ H x y v u Q I rx ry h
 obtain ⟨i,j,rfl,rfl,hz,q⟩:=h
 obtain ⟨t,rfl⟩:=rx
 obtain ⟨t',rfl⟩:=ry
 exact add_str (fun t' tk=>⟨.str (i ++ j),H,I.tok _,⟨_,rfl⟩,q⟩) hz
theorem DL {x : V} {us : List Value} (r : AH [x] us) : ∃ u,us = [u] ∧ Ba x u:=by
 cases r with
 | cons r1 r2=>cases r2; exact ⟨_,rfl,r1⟩
theorem J8 {x y : V} {us : List Value} (r : AH [x,y] us) : ∃ u w',us = [u,w'] ∧ Ba x u ∧ Ba y w':=by
 cases r with
 | cons r1 r2 =>
   cases r2 with
   | cons r3 r4=>cases r4; exact ⟨_,_,rfl,r1,r3⟩
theorem Fe : C5 X (.builtin "abs") (fun xs H Q=>∃ i,xs = [.int i] ∧ Q (.int (if i < 0 then -i else i)) H):=by
 intro pins s σ H xs us Q I r h
 obtain ⟨i,rfl,q⟩:=h
 obtain ⟨u,rfl,t,rfl⟩:=DL r
 exact call_abs_int fun u tk=>⟨.int (if i < 0 then -i else i),H,I.tok _,⟨_,rfl⟩,q⟩
theorem M5 (hc : X.calm = true) : C5 X (.builtin "min") (fun xs H Q=>∃ i j,xs = [.int i,.int j] ∧ Q (.int (if j < i then j else i)) H):=by
 intro pins s σ H xs us Q I r h
 obtain ⟨i,j,rfl,q⟩:=h
 obtain ⟨u,w',rfl,⟨t,rfl⟩,⟨t',rfl⟩⟩:=J8 r
 refine min_two_ints (I.ok.hd hc) fun h' tk k=>⟨_,H,I.kept k,?_,q⟩
 by_cases hj : j < i
 ·rw [if_pos hj,if_pos hj]; exact ⟨_,rfl⟩
 ·rw [if_neg hj,if_neg hj]; exact ⟨_,rfl⟩
theorem FC : C5 X (.type "int") (fun xs H Q=>(∃ i,xs = [.int i] ∧ Q (.int i) H) ∨ ∃ k,xs = [.bl k] ∧ Q (.int (if k then 1 else 0)) H):=by
 intro pins s σ H xs us Q I r h
 rcases h with ⟨i,rfl,q⟩ | ⟨k,rfl,q⟩
 ·obtain ⟨u,rfl,t,rfl⟩:=DL r
  exact call_int_int ⟨.int i,H,I,⟨_,rfl⟩,q⟩
 ·obtain ⟨u,rfl,r1⟩:=DL r
  cases r1
  exact call_int_bool ⟨.int (if k then 1 else 0),H,I.tok _,⟨_,rfl⟩,q⟩
theorem BQ : C5 X (.type "str") (fun xs H Q=>∃ i,xs = [.int i] ∧ i.natAbs.log2 < 1920 ∧ Q (.str (toString i)) H):=by
 intro pins s σ H xs us Q I r h
 obtain ⟨i,rfl,hz,q⟩:=h
 obtain ⟨u,rfl,t,rfl⟩:=DL r
 exact PySem.P.str_of_int hz ⟨.str _,H,I.tok _,⟨_,rfl⟩,q⟩
end
end L2
namespace L2
open PySem PySem.Spec PyProof.Rows
structure PM (h : Heap) (x dx C : Addr) (mA : Str → Option Value) : Prop where
 obj : h.get? x = some (Sv C dx)
 ns : h.Ns1 dx mA
 ne : dx ≠ x
theorem LM {h : Heap} {dx : Addr} {mA : Str → Option Value} (n : h.Ns1 dx mA) : ∃ od,h.get? dx = some od ∧ ∀ name,T6 name od = some (mA name):=by
 obtain ⟨o,es,ep,ho,hd,hk,_,hm⟩:=n
 refine ⟨o,ho,fun name=>?_⟩
 have e:=hm name
 unfold nsFind findBy at e
 rw [← Array.find?_toList] at e
 unfold T6
 rw [hd]
 dsimp only
 split
 ·rename_i y q
  rw [q] at e
  exact congrArg some e
 ·rename_i q
  rw [q] at e
  have a : es.toList.any (·.refKey) = false:=by
   rw [List.any_eq_false]
   intro y hy
   obtain ⟨z,t,hkey⟩:=hk y (Array.mem_toList_iff.mp hy)
   simp [DictEntry.refKey,hkey]
  have a' : ¬ es.toList.any (·.refKey) = true:=by rw [a]; exact Bool.false_ne_true
  rw [if_neg a']
  exact congrArg some e
theorem PM.look {h : Heap} {x dx C : Addr} {mA : Str → Option Value} (I : PM h x dx C mA) : ∃ od,PySem.W.InstAt h x (Sv C dx) C (some od) ∧ ∀ name,T6 name od = some (mA name) :=
 let ⟨od,ho,hl⟩:=LM I.ns
 ⟨od,⟨I.obj,rfl,rfl,ho⟩,hl⟩
section
variable {prog : Program} {w : World} {A : Around} {E : Value → Shared → Prop} {s : Shared} {K : SI} {x dx C f : Addr} {mA : Str → Option Value} {name : Str} {v : Value}
end
section
variable {P : Program} {w : World} {H H' : Hp} {h h' : Heap} {a C dx : Addr} {fs fs' : List (Str × V)}
theorem NG (hok : HOk P w H h) (e : H a = some (.ins C dx fs)) : ∃ mA,PM h a dx C mA ∧ (∀ f,PJ (fs.lookup f) (mA f)) ∧ PySem.Within mA (fs.map (·.1)) ∧ fs.length ≤ 1000 ∧ H dx = some (.own a):=by
 obtain ⟨d,z,ne,ob,mA,n,r,q⟩:=(show BG P w H h a (.ins C dx fs) from hok a _ e)
 exact ⟨mA,⟨ob,n,ne⟩,r,q,z,d⟩
end
structure Cls (K : SI) (C : Addr) : Prop where
 pg : PySem.W.plainGet K C Str.empty = true
 hd : PySem.W.hasDictIn K C = true
 po : PySem.W.plainOver K C = true
 sa : T7 K (.ref C) "__setattr__" = some (some (.builtin "object.__setattr__"))
theorem Cls.get {K : SI} {C : Addr} (c : Cls K C) (f : Str) : PySem.W.plainGet K C f = true:=c.pg
structure Con (K : SI) (C : Addr) (f : Str) (v : V) (u : Value) : Prop where
 at_ : T7 K (.ref C) f = some (some u)
 rel : Ba v u
 get : T8 K u "__get__" = some none
 cp : PySem.W.copiedNames.contains f = false
structure QT (K : SI) (C : Addr) (m : Str) (f : Addr) : Prop where
 at_ : T7 K (.ref C) m = some (some (.ref f))
 fn : PySem.W.isFn K (.ref f) = true
 kp : T9 K (.ref f) = true
section
variable {X : Cx} {pins : List (Addr × Obj)} {σ : St} {H : Hp} {s : Shared} {a C dx : Addr} {fs : List (Str × V)} {f : Str} {v : V} {A : Around} {E : Value → Shared → Prop}
end
section
variable {X : Cx} {o e value : Expr} {f : Str} {pos pos' tpos : Pos} {ta tv : TE}
end
section
variable {X : Cx} {pins : List (Addr × Obj)} {σ : St} {H : Hp} {s : Shared} {A : Around} {E : Value → Shared → Prop} {Q : Value → Shared → Prop} {c : Value} {b : Bool}
inductive FD (K : SI) (H : Hp) : V → Value → Prop where
 | non : FD K H .non (.type "NoneType")
 | bl (x : Bool) : FD K H (.bl x) (.type "bool")
 | int (i : Int) : FD K H (.int i) (.type "int")
 | str (x : Str) : FD K H (.str x) (.type "str")
 | flt (x : UInt64) : FD K H (.flt x) (.type "float")
 | lst {a : Addr} {xs : List V} (e : H a = some (.lst xs)) : FD K H (.ref a) (.type "list")
 | frz {a : Addr} {o : Obj} {xs : List V} (e : H a = some (.frz o (.lst xs))) : FD K H (.ref a) (.type "list")
 | tup {a : Addr} {xs : List V} (e : H a = some (.tup xs)) : FD K H (.ref a) (.type "tuple")
 | dK {a : Addr} {kvs : List (Key × V)} (e : H a = some (.dK kvs)) : FD K H (.ref a) (.type "dict")
 | dT {a : Addr} {kvs : List (List Key × V)} (e : H a = some (.dT kvs)) : FD K H (.ref a) (.type "dict")
 | ins {a C dx : Addr} {fs : List (Str × V)} (e : H a = some (.ins C dx fs)) (cl : Cls K C) (ha : T7 K (.ref C) "__class__" = some (some (.builtin "object.__class__")))
  (hn : T8 K (.builtin "object.__class__") "__get__" = some (some (.builtin "getset_descriptor.__get__"))) (htk : PySem.W.takesIn K (.builtin "object.__class__") = some true)
  (hm : Ta K C (.type "object") = some true) : FD K H (.ref a) (.ref C)
theorem LS {x : V} {u t : Value} (I : Inv X pins σ H s) (rx : Ba x u) (ty : FD X.K H x t) (e : Tb X.K t c = some b) (h : ∀ tk,Q (.bool b) { s with toks:=tk }) :
 wpAny (model X.prog X.w) A (call (.builtin "isinstance") [u,c]) Q E s:=by
 cases ty with
 | non=>cases (show u = Value.none from rx); exact Tc PySem.W.kitx_none I.kIn True.intro e (fun z=>nomatch z) h
 | bl y=>cases (show u = Value.bool y from rx); exact Tc PySem.W.kitx_bool I.kIn True.intro e (fun z=>nomatch z) h
 | int i=>obtain ⟨t,q⟩:=(show ∃ t,u = Value.int i t from rx); cases q; exact Tc PySem.W.kitx_int I.kIn True.intro e (fun z=>nomatch z) h
 | str y=>obtain ⟨t,q⟩:=(show ∃ t,u = Value.str y t from rx); cases q; exact Tc PySem.W.kitx_str I.kIn True.intro e (fun z=>nomatch z) h
 | flt y=>obtain ⟨t,q⟩:=(show ∃ t,u = Value.float y t from rx); cases q; exact Tc PySem.W.kitx_float I.kIn True.intro e (fun z=>nomatch z) h
 | @lst a xs ea =>
   cases (show u = Value.ref a from rx)
   obtain ⟨_,_,n,_,h1⟩:=(show BG X.prog X.w H s.heap a (.lst xs) from I.hok a _ ea)
   exact Tc Td I.kIn ⟨_,h1,rfl⟩ e (fun z=>nomatch z) h
 | @frz a ob xs ea =>
   cases (show u = Value.ref a from rx)
   obtain ⟨_,_,_,n,_,h1⟩:=(show BG X.prog X.w H s.heap a (.frz ob (.lst xs)) from I.hok a _ ea)
   exact Tc Td I.kIn ⟨_,h1,rfl⟩ e (fun z=>nomatch z) h
 | @tup a xs ea =>
   cases (show u = Value.ref a from rx)
   obtain ⟨_,_,_,p⟩:=(show BG X.prog X.w H s.heap a (.tup xs) from I.hok a _ ea)
   obtain ⟨o,h1,h2,_⟩:=p
   exact Tc PySem.W.kitx_tuple I.kIn ⟨o,h1,h2⟩ e (fun z=>nomatch z) h
 | @dK a kvs ea =>
   cases (show u = Value.ref a from rx)
   obtain ⟨_,_,vs,_,p⟩:=(show BG X.prog X.w H s.heap a (.dK kvs) from I.hok a _ ea)
   obtain ⟨o,es,ep,h1,h2,_⟩:=p
   exact Tc PySem.W.kitx_dict I.kIn ⟨o,h1,h2.1⟩ e (fun z=>nomatch z) h
 | @dT a kvs ea =>
   cases (show u = Value.ref a from rx)
   obtain ⟨_,_,xs,_,o,es,ep,h1,h2,_⟩:=(show BG X.prog X.w H s.heap a (.dT kvs) from I.hok a _ ea)
   exact Tc PySem.W.kitx_dict I.kIn ⟨o,h1,h2.1⟩ e (fun z=>nomatch z) h
 | @ins a C dx fs ea cl ha hn htk hm =>
   cases (show u = Value.ref a from rx)
   obtain ⟨mA,O,_⟩:=NG I.hok ea
   obtain ⟨od,J,_⟩:=O.look
   exact Tc (PySem.W.kitx_own (cl.get _) cl.hd ha hn htk hm) I.kIn J e (fun z=>nomatch z) h
end
end L2
namespace L2
open PySem PySem.Spec PyProof.Rows
structure Cf (k : Nat) (A : Around) : Prop where
 hd : A.handled = none
 dp : A.depth + 3 * k + 5 < recursionLimit
 un : A.units + 16 * k + 200 < cLine
theorem Cf.mono {j k : Nat} {A : Around} (r : Cf k A) (h : j ≤ k) : Cf j A:=⟨r.hd,by have:=r.dp; lia,by have:=r.un; lia⟩
theorem Cf.deeper {k : Nat} {A : Around} (r : Cf (k + 1) A) (env : Env) : Cf k (A.deeper env) :=
 ⟨r.hd,by have:=r.dp; show A.depth + 1 + 3 * k + 5 < _; lia,by have:=r.un; show A.units + 3 + 16 * k + 200 < _; lia⟩
theorem Cf.depth {k : Nat} {A : Around} (r : Cf k A) : A.depth < recursionLimit:=by have:=r.dp; lia
theorem Cf.units {k : Nat} {A : Around} (r : Cf k A) : A.units + 64 < cLine:=by have:=r.un; lia
def Nk : TA:=fun _ H Q=>Q [] H
def KC (ta : TE) (tr : TA) : TA:=fun σ H Q=>ta σ H fun x H1=>tr σ H1 fun xs H2=>Q (x :: xs) H2
section
variable {X : Cx} {e : Expr} {es : List Expr} {te : TE} {t : TA} {pos : Pos}
theorem A8 : PA X [] Nk:=fun _ _ _ _ H Q I h=>Calls.spliced_nil ⟨[],H,I,.nil,h⟩
theorem A7 (ha : PE X e te) (hr : PA X es t) (hs : starEach (e :: es) X.env = (false,eval e X.env) :: starEach es X.env:=by rfl) : PA X (e :: es) (KC te t):=by
 intro pos pins s σ H Q I h
 rw [hs]
 show wpAny _ _ (spliced ((false,eval e X.env) :: backTo pos (starEach es X.env))) _ _ s
 refine Calls.spliced_cons (thn (ha pins s σ H _ I h) fun u s1 ⟨x,H1,I1,r1,q1⟩=>?_)
 exact thn (hr pos pins s1 σ H1 _ I1 q1) fun us s2 ⟨xs,H2,I2,r2,q2⟩=>⟨x :: xs,H2,I2,.cons r1 r2,q2⟩
def PR (t : TA) : TE:=fun σ H Q=>t σ H fun xs H1=>xs.length ≤ sizeLine ∧ ∀ p,H1 p = none → Q (.ref p) (upd H1 p (.tup xs))
def Q0 (t : TA) : TE:=fun σ H Q=>t σ H fun xs H1=>xs.length ≤ sizeLine ∧ ∀ p,H1 p = none → Q (.ref p) (upd H1 p (.lst xs))
theorem AV {x1} (h : PA X es t) : PE X (.Tuple es x1 pos) (PR t):=by
 intro pins s σ H Q I hq
 refine wpAny_Tuple_spliced (thn (h pos pins s σ H _ I hq) fun us s1 ⟨xs,H1,I1,r,z,q⟩=>⟨by rw [← r.length]; exact z,?_⟩)
 have hf : H1 s1.heap.objs.size = none:=I1.hok.fresh (T2 _)
 refine ⟨.ref s1.heap.objs.size,upd H1 s1.heap.objs.size (.tup xs),I1.laid (t':=s1.toks) (fun b u e=>Heap.get?_push_of_some _ e) (T2 _) ?_,rfl,q _ hf⟩
 exact ⟨z,us,r,⟨_,Heap.get?_push_size _ rfl,rfl,_,rfl⟩⟩
theorem AY (h : PA X es t) : PE X (.List es pos) (Q0 t):=by
 intro pins s σ H Q I hq
 refine wpAny_List_spliced (thn (h pos pins s σ H _ I hq) fun us s1 ⟨xs,H1,I1,r,z,q⟩=>⟨by rw [← r.length]; exact z,?_⟩)
 have hf : H1 s1.heap.objs.size = none:=I1.hok.fresh (T2 _)
 refine ⟨.ref s1.heap.objs.size,upd H1 s1.heap.objs.size (.lst xs),I1.laid (t':=s1.toks) (fun b u e=>Heap.get?_push_of_some _ e) (T2 _) ?_,rfl,q _ hf⟩
 exact ⟨z,us,0,r,Heap.get?_push_size _ rfl⟩
end
abbrev Sp:=List V → Hp → VK → XK → Prop
abbrev CXT:=List Env → Hp → Shared → XK → Value → Shared → Prop
structure M8 (P : Program) (w : World) (K : SI) (mg : Str → Option Value) (base : Heap) (A : Around) (outer : List Env) (s : Shared) (H : Hp) : Prop where
 frames : A.frames = some outer
 mod : Mod K mg base
 bs : ∀ b o,base.get? b = some o → s.heap.get? b = some o ∧ H b = none
 bsz : base.objs.size ≤ s.heap.objs.size
 funs : s.heap.FunFrames base outer
 frf : ∀ b ∈ frs outer,H b = none
 hok : HOk P w H s.heap
 bare : AllBare s.gens
def CE (outer : List Env) (P : Program) (w : World) (H : Hp) (s : Shared) (Q : VK) (u : Value) (s' : Shared) : Prop :=
 ∃ v H',s'.os = s.os ∧ AllBare s'.gens ∧ Un (frs outer) [] H H' s.heap s'.heap ∧ HOk P w H' s'.heap ∧ Ba v u ∧ Q v H'
def CR (CX : CXT) (outer : List Env) (P : Program) (w : World) (H : Hp) (s : Shared) (Q : VK) (E : XK) (r : Result) (s' : Shared) : Prop :=
 match r with
 | .ok (.ret u)=>CE outer P w H s Q u s'
 | .ok _=>False
 | .error e=>CX outer H s E e s'
structure AF (P : Program) (w : World) (K : SI) (mg : Str → Option Value) (base : Heap) (CX : CXT) (k : Nat) (f : Addr) (fd : FuncData) (ps : List Str) (sp : Sp) : Prop where
 len : ∀ vs H Q E,sp vs H Q E → vs.length = ps.length
 run : ∀ (A : Around) (outer : List Env) (s : Shared) (H : Hp) (args : Args) (us : List Value) (vs : List V) (Q : VK) (E : XK),Cf k A → M8 P w K mg base A outer s H → BindsTo s fd args (ps.zip us) → AH vs us → sp vs H Q E →
  codeAny (model P w) A (.call (.ref f) args) (CR CX outer P w H s Q E) s
section
variable {X : Cx} {pins : List (Addr × Obj)} {σ : St} {H : Hp} {s s' : Shared}
theorem Inv.env0 (I : Inv X pins σ H s) : M8 X.prog X.w X.K X.mg X.base X.A X.stack s H :=
 ⟨I.ok.frames,I.ok.mod,I.bs,SJ I.ok.bsz I.sz,I.stack,I.stkFree,I.hok,I.bare⟩
theorem Inv.after {Q : VK} {u : Value} (I : Inv X pins σ H s) (h : CE X.stack X.prog X.w H s Q u s') : EP X pins σ Q u s':=by
 obtain ⟨v,H',os,bare,un,hok,r,q⟩:=h
 obtain ⟨hh,g,d,t,os'⟩:=s'
 obtain rfl : os' = s.os:=os
 exact ⟨v,H',I.call (h':=hh) (g':=g) (d':=d) (t':=t) (ch:=[]) un hok bare (fun b z=>absurd z (by simp)),r,q⟩
end
def Mj (sp : Sp) (dvs : List V) (E : XK) (t : TA) : TE:=fun σ H Q=>t σ H fun vs H1=>sp (vs ++ dvs) H1 Q E
def Cz (K : SI) (fd : FuncData) (ps : List Str) (ds : List Value) : Prop :=
 ∀ (s : Shared) (us : List Value),K.In s.heap → (us ++ ds).length = ps.length → BindsTo s fd ⟨us,[]⟩ (ps.zip (us ++ ds))
theorem Cz.all {K : SI} {fd : FuncData} {ps : List Str} (h : ∀ us : List Value,us.length = ps.length → bindArgs fd ⟨us,[]⟩ = pure (ps.zip us)) : Cz K fd ps []:=fun s us _ hl=>by
 rw [Te] at hl ⊢
 exact .of_eq (h us hl)
def FE (CX : CXT) (X : Cx) (E : XK) : Prop:=∀ (pins : List (Addr × Obj)) (σ : St) (H : Hp) (s : Shared) (e : Value) (s' : Shared),Inv X pins σ H s → CX X.stack H s E e s' → X.xe e s'
section
variable {X : Cx} {CX : CXT} {k : Nat} {f C : Addr} {fd : FuncData} {ps : List Str} {sp : Sp} {dvs : List V} {ds : List Value} {E : XK} {x m : Str} {p pos apos : Pos} {e o : Expr} {es : List Expr} {ta : TE} {t : TA}
theorem Mu {pins : List (Addr × Obj)} {σ : St} {H : Hp} {s : Shared} {Q : VK} {us : List Value} {vs : List V} (F : AF X.prog X.w X.K X.mg X.base CX k f fd ps sp) (hr : Cf k X.A) (hb : Cz X.K fd ps ds) (hd : AH dvs ds) (hx : FE CX X E)
 (I : Inv X pins σ H s) (r : AH vs us) (h : sp (vs ++ dvs) H Q E) : wpAny (model X.prog X.w) X.A (call (.ref f) us) (EP X pins σ Q) X.xe s:=by
 have r2 : AH (vs ++ dvs) (us ++ ds):=r.append hd
 have hl : (us ++ ds).length = ps.length:=by rw [← r2.length]; exact F.len _ _ _ _ h
 refine wpAny_call (codeAny_mono (F.run X.A X.stack s H ⟨us,[]⟩ (us ++ ds) (vs ++ dvs) Q E hr I.env0 (hb s us I.kIn hl) r2 h) fun r s' hq=>?_)
 cases r with
 | error e=>exact hx pins σ H s e s' I hq
 | ok fl =>
   cases fl with
   | ret u=>exact I.after hq
   | next=>exact False.elim hq
   | brk=>exact False.elim hq
   | cont=>exact False.elim hq
theorem La (F : AF X.prog X.w X.K X.mg X.base CX k f fd ps sp) (hr : Cf k X.A) (hg : Gl X x) (hm : X.mg x = some (.ref f)) (hk : T9 X.K (.ref f) = true) (hb : Cz X.K fd ps ds) (hd : AH dvs ds) (hx : FE CX X E)
 (ha : PA X (e :: es) t) (hdb : (x == ("__debug__" : Str)) = false:=by decide) (he : starEach (e :: es) X.env = (false,eval e X.env) :: starEach es X.env:=by rfl) (hpl : (backTo pos (starEach es X.env)).any (·.1) = false:=by rfl) :
 PE X (.Call (.Name x p) (e :: es) [] pos) (Mj sp dvs E t):=by
 intro pins s σ H Q I h
 refine wpAny_Call_Name_kw (EZ I hg hm ?_ hdb)
 refine Tf (h₀:=X.base) I.ok.mod.kin hk (thn (ha pos pins s σ H _ I h) fun us s1 ⟨vs,H1,I1,r,q⟩=>⟨I1.kIn,?_⟩) he hpl
 exact Mu F hr hb hd hx I1 r q
structure Mk (K : SI) (C f : Addr) : Prop where
 makes : PySem.W.makesIn K C = true
 init : T7 K (.ref C) "__init__" = some (some (.ref f))
 fn : PySem.W.isFn K (.ref f) = true
 kp : T9 K (.ref C) = true
end
section
variable {X : Cx} {CX : CXT} {k : Nat} {f C : Addr} {fd : FuncData} {ps ks : List Str} {sp : Sp} {E : XK} {x m : Str} {p pos apos kpos : Pos} {e o : Expr} {es : List Expr} {kws : List Keyword} {te ta : TE} {t tk : TA} {nm : Option Str}
structure QU (K : SI) (fd : FuncData) (ps ks : List Str) (g : List Value → List Value → List Value) (gV : List V → List V → List V) : Prop where
 to : ∀ (s : Shared) (us ws : List Value),K.In s.heap → (g us ws).length = ps.length → BindsTo s fd ⟨us,ks.zip ws⟩ (ps.zip (g us ws))
 rel : ∀ {vs : List V} {us : List Value} {zs : List V} {ws : List Value},AH vs us → AH zs ws → AH (gV vs zs) (g us ws)
variable {g : List Value → List Value → List Value} {gV : List V → List V → List V}
end
structure Ax (N P : List Str) (sc : Scope) : Prop where
 kind : sc.kind = .function
 co : sc.isCoroutine = false
 gen : sc.isGenerator = false
 nd : N.Nodup
 pre : N.take P.length = P
 par : ∀ x ∈ P,sc.names.lookup x = some .local ∨ sc.names.lookup x = some .cell
 nofree : ∀ y ∈ sc.names,y.2 ≠ .free
theorem HX {kindOf : Str → Option NameKind} {x : Str} : ∀ {binds : List (Str × Value)} {m : Str → Option Value},(∀ v,(x,v) ∉ binds) → bindL kindOf binds m x = m x
 | [],_,_=>rfl
 | (n,v) :: r,m,h=>by
   unfold bindL
   rw [HX fun w hw=>h w (SO _ hw)]
   split
   ·have : x ≠ n:=by rintro rfl; exact h v SN
    simp [this]
   ·rfl
theorem HZ {kindOf : Str → Option NameKind} {x : Str} : ∀ {binds : List (Str × Value)} {m : Str → Option Value},(∀ v,(x,v) ∉ binds) → bindC kindOf binds m x = m x
 | [],_,_=>rfl
 | (n,v) :: r,m,h=>by
   unfold bindC
   rw [HZ fun w hw=>h w (SO _ hw)]
   split
   ·rfl
   ·have : x ≠ n:=by rintro rfl; exact h v SN
    simp [this]
theorem HY {kindOf : Str → Option NameKind} {x : Str} {v : Value} : ∀ {P : List Str} {vs : List Value} {i : Nat} {m : Str → Option Value},P.Nodup → P[i]? = some x → vs[i]? = some v → kindOf x = some .local →
 bindL kindOf (P.zip vs) m x = some v
 | [],_,_,_,_,h,_,_=>by simp at h
 | _ :: _,[],_,_,_,_,h,_=>by simp at h
 | p :: P,w :: vs,0,m,nd,h1,h2,hk=>by
   simp at h1 h2; subst h1; subst h2
   show bindL kindOf ((p,w) :: P.zip vs) m p = _
   unfold bindL
   rw [HX fun v hv=>(Th.mp nd).1 (Ti hv).1,if_pos hk]
   simp
 | p :: P,w :: vs,i + 1,m,nd,h1,h2,hk=>by
   show bindL kindOf ((p,w) :: P.zip vs) m x = _
   unfold bindL
   exact HY (i:=i) (Th.mp nd).2 (by simpa using h1) (by simpa using h2) hk
theorem Ia {kindOf : Str → Option NameKind} {x : Str} {v : Value} : ∀ {P : List Str} {vs : List Value} {i : Nat} {m : Str → Option Value},P.Nodup → P[i]? = some x → vs[i]? = some v → kindOf x ≠ some .local →
 bindC kindOf (P.zip vs) m x = some v
 | [],_,_,_,_,h,_,_=>by simp at h
 | _ :: _,[],_,_,_,_,h,_=>by simp at h
 | p :: P,w :: vs,0,m,nd,h1,h2,hk=>by
   simp at h1 h2; subst h1; subst h2
   show bindC kindOf ((p,w) :: P.zip vs) m p = _
   unfold bindC
   rw [HZ fun v hv=>(Th.mp nd).1 (Ti hv).1,if_neg hk]
   simp
 | p :: P,w :: vs,i + 1,m,nd,h1,h2,hk=>by
   show bindC kindOf ((p,w) :: P.zip vs) m x = _
   unfold bindC
   exact Ia (i:=i) (Th.mp nd).2 (by simpa using h1) (by simpa using h2) hk
def DN (N : List Str) (vs : List V) : St:=vs.map some ++ Tj (N.length - vs.length) none
def DP (CX : CXT) (P : Program) (w : World) (K : SI) (mg : Str → Option Value) (base : Heap) (N : List Str) (qual : Str) (scope : Scope) (f : Addr) (cd : Value) (A : Around) (outer : List Env) (s : Shared) (H : Hp) (E : XK) : Cx where
 prog:=P
 w:=w
 K:=K
 mg:=mg
 base:=base
 A:=A.deeper (envOfC qual scope s.heap.objs.size f cd)
 N:=N
 s₀:=s
 H₀:=H
 env:=envOfC qual scope s.heap.objs.size f cd
 outer:=outer
 stack:=envOfC qual scope s.heap.objs.size f cd :: outer
 ex:=[]
 calm:=true
 fn:=fun _=>true
 pn:=[]
 xe:=fun e s'=>wpAny (model P w) (A.deeper (envOfC qual scope s.heap.objs.size f cd)) (leaving (envOfC qual scope s.heap.objs.size f cd) e) (fun _ s''=>CX outer H s E e s'') (fun e' s''=>CX outer H s E e' s'') s'
theorem JS {sc : Scope} {n : Nat} {x : Str} (h : sc.names.lookup x = some .cell) : ∃ c,(cellsFrom n sc.names []).lookup x = some c:=by
 have q:=Tn sc.names n [] (.inl h)
 exact Option.isSome_iff_exists.mp q
theorem HQ {CX : CXT} {P : Program} {w : World} {K : SI} {mg : Str → Option Value} {base : Heap} {N ps : List Str} {qual : Str} {scope : Scope} {f : Addr} {cd : Value} {A : Around} {outer : List Env} {s s1 : Shared} {H : Hp} {E : XK} {us : List Value} {vs : List V}
 (S : Ax N ps scope) (hd : A.handled = none) (e0 : M8 P w K mg base A outer s H) (hl : vs.length = ps.length) (r : AH vs us)
 (x : InCallC s s.heap.objs.size (bindL (envOfC qual scope s.heap.objs.size f cd).kindOf (ps.zip us) fun _=>none) (cellsFrom (s.heap.objs.size + 1) scope.names []) (bindC (envOfC qual scope s.heap.objs.size f cd).kindOf (ps.zip us) fun _=>none) s1) :
 Inv (DP CX P w K mg base N qual scope f cd A outer s H E) [] (DN N vs) H s1:=by
 have hpl : ps.length ≤ N.length:=by have:=congrArg To S.pre; rw [Tp] at this; lia
 obtain ⟨h1,tk,rfl,hk⟩:=x.done
 have noA : ∀ b : Addr,b ∉ (DP CX P w K mg base N qual scope f cd A outer s H E).ex:=fun b z=>absurd (show b ∈ ([] : List Addr) from z) (by simp)
 refine ⟨⟨e0.mod,S.kind,rfl,rfl,T2 _,fun y z c h1 h2=>?_,fun y hy=>?_,fun y c _ h=>?_,fun _=>hd,Around.frames_deeper e0.frames,.inr ⟨rfl,rfl⟩,fun b z=>absurd z (noA b),e0.bs,e0.bsz,fun b _ _=>noA b,fun b z=>absurd z (noA b),e0.funs,e0.frf⟩,
  rfl,e0.bare,Un.kept hk,⟨_,x.toInCall.ns,fun i y v h1 h2 h3=>?_⟩,fun y c h=>⟨_,x.cell y c h⟩,e0.hok.fresh (T2 _),fun y c h=>?_,fun p hp=>absurd (show p ∈ ([] : List (Addr × Obj)) from hp) (by simp),e0.hok.kept hk,?_⟩
 ·exact name_of_addr x.apart (PySem.mem_of_lookup h1) (PySem.mem_of_lookup h2)
 ·have hy : scope.names.lookup y = some .cell ∨ scope.names.lookup y = some .free:=hy
  rcases hy with hy | hy
  ·exact JS hy
  ·exact absurd rfl (S.nofree _ (PySem.mem_of_lookup hy))
 ·exact SK (x.above y c (PySem.mem_of_lookup h))
 ·have hi : i < vs.length:=by
   unfold DN at h2
   by_cases hi : i < vs.length
   ·exact hi
   ·rw [Tq (by simpa using hi)] at h2
    rw [Tr] at h2
    split at h2 <;> cases h2
  have ha : vs[i]? = some v:=by
   unfold DN at h2
   rw [Tt (by simpa using hi),Tu] at h2
   cases e : vs[i]? with
   | none=>rw [e] at h2; cases h2
   | some a=>rw [e] at h2; cases h2; rfl
  obtain ⟨u,hu,rv⟩:=r.get ha
  have hp : ps[i]? = some y:=by
   rw [← S.pre,Tv (by lia)]; exact h1
  have ndP : ps.Nodup:=by rw [← S.pre]; exact S.nd.sublist (Tw _ _)
  refine ⟨u,rv,?_⟩
  rcases S.par y (Tx hp) with k | k
  ·exact .inl ⟨k,HY ndP hp hu k⟩
  ·obtain ⟨c,e⟩:=JS (n:=s.heap.objs.size + 1) k
   refine .inr ⟨.inl k,c,e,?_⟩
   have q:=x.cell y c e
   rw [Ia ndP hp hu (by show scope.names.lookup y ≠ _; rw [k]; decide)] at q
   exact q
 ·exact e0.hok.fresh (SK (x.above y c (PySem.mem_of_lookup h)))
 ·unfold DN
  show _ = N.length
  rw [Tz,TC,TF]
  lia
theorem Ob {CX : CXT} {P : Program} {w : World} {K : SI} {mg : Str → Option Value} {base : Heap} {k : Nat} {f : Addr} {name qual : Str} {params : Arguments} {body : List Stmt} {scope : Scope} {dV kV doc pm cdv ct oc : Value} {an od : Option Addr}
 {osl : Array (Option Value)} {N ps : List Str} {sp : Sp} (lk : K.lookup f = some ⟨oc,od,.func (TH name qual params body scope dV kV doc pm an cdv ct),osl⟩) (hcd : TJ K cdv qual = true) (S : Ax N ps scope)
 (len : ∀ vs H Q E,sp vs H Q E → vs.length = ps.length)
 (hbody : ∀ (A : Around) (outer : List Env) (s : Shared) (H : Hp) (vs : List V) (Q : VK) (E : XK),Cf k (A.deeper (envOfC qual scope s.heap.objs.size f cdv)) → sp vs H Q E →
  ∃ t,PSs (DP CX P w K mg base N qual scope f cdv A outer s H E) body t ∧ t { nx:=fun _ H'=>Q .non H',rt:=Q } (DN N vs) H) :
 AF P w K mg base CX (k + 1) f (TH name qual params body scope dV kV doc pm an cdv ct) ps sp:=by
 refine ⟨len,fun A outer s H args us vs Q E hr e0 hb r hsp=>?_⟩
 have hl:=len _ _ _ _ hsp
 have KX : K.In s.heap:=e0.mod.kin.keeps fun b o e=>(e0.bs b o e).1
 have lim : s.heap.NoLimit:=e0.mod.nolimit.keeps fun b o e=>(e0.bs b o e).1
 have hkind : ∀ y ∈ ps.zip us,scope.names.lookup y.1 = some .local ∨ (scope.names.lookup y.1 = some .cell ∧ ((cellsFrom (s.heap.objs.size + 1) scope.names []).lookup y.1).isSome = true):=fun ⟨n,v⟩ hy=>by
  rcases S.par n (Ti hy).1 with q | q
  ·exact .inl q
  ·exact .inr ⟨q,Tn _ _ _ (.inl q)⟩
 refine codeAny_call_function hr.depth (KX _ _ lk) rfl S.co S.gen rfl (PySem.W.codeRec_of KX hcd) (hb _ _ _ _ ?_)
 refine wpAny_newFunctionEnv_cells S.kind hkind fun env he s1 x=>?_
 subst he
 refine ⟨lim.keeps x.toInCall.keep,codeAny_func ?_⟩
 obtain ⟨t,ht,hq⟩:=hbody A outer s H vs Q E (hr.deeper _) hsp
 have I : Inv (DP CX P w K mg base N qual scope f cdv A outer s H E) [] (DN N vs) H s1:=HQ S hr.hd e0 hl r x
 refine wpAny_mono (ht [] s1 (DN N vs) H _ I hq) (fun fl s' hs=>?_) fun e s' hs=>hs
 have fin : ∀ {σ' : St} {H' : Hp} {v : V} {u : Value},Inv (DP CX P w K mg base N qual scope f cdv A outer s H E) [] σ' H' s' → Ba v u → Q v H' → CE outer P w H s Q u s' :=
  fun {σ' H' v u} J rv q=>⟨v,H',J.os,J.bare,J.base,J.hok,rv,q⟩
 cases fl with
 | ret u =>
   obtain ⟨v,σ',H',J,rv,q⟩:=hs
   exact fin J rv q
 | next =>
   obtain ⟨σ',H',J,q⟩:=hs
   exact fin (v:=V.non) (u:=Value.none) J rfl q
 | brk =>
   obtain ⟨_,_,_,q⟩:=hs
   exact False.elim q
 | cont =>
   obtain ⟨_,_,_,q⟩:=hs
   exact False.elim q
end L2
namespace L2
open PySem PySem.Spec PyProof.Rows
section
variable {X : Cx} {x : Str} {p pos : Pos} {e : Expr} {es : List Expr} {t : TA} {id T : String} {r : List V → Hp → VK → Prop}
def tCB (r : List V → Hp → VK → Prop) (t : TA) : TE:=fun σ H Q=>t σ H fun vs H1=>r vs H1 Q
theorem Af (hc : C5 X (.builtin id) r) (hg : Gl X x) (hm : X.mg x = none) (hv : bootBuiltins x = some (.builtin id)) (ha : PA X (e :: es) t) (hn : x ≠ "__name__":=by decide) (hdb : (x == ("__debug__" : Str)) = false:=by decide)
 (he : starEach (e :: es) X.env = (false,eval e X.env) :: starEach es X.env:=by rfl) (hpl : (backTo pos (starEach es X.env)).any (·.1) = false:=by rfl) : PE X (.Call (.Name x p) (e :: es) [] pos) (tCB r t):=by
 intro pins s σ H Q I h
 refine wpAny_Call_Name_kw (IM I hg hm hv ?_ hn hdb)
 exact PyProof.Rows.callWith_builtin1 (thn (ha pos pins s σ H _ I h) fun us s1 ⟨vs,H1,I1,r1,q1⟩=>hc pins s1 σ H1 vs us Q I1 r1 q1) he hpl
theorem Ay (hc : C5 X (.type T) r) (hg : Gl X x) (hm : X.mg x = none) (hv : bootBuiltins x = some (.type T)) (ha : PA X (e :: es) t) (hn : x ≠ "__name__":=by decide) (hdb : (x == ("__debug__" : Str)) = false:=by decide)
 (he : starEach (e :: es) X.env = (false,eval e X.env) :: starEach es X.env:=by rfl) (hpl : (backTo pos (starEach es X.env)).any (·.1) = false:=by rfl) : PE X (.Call (.Name x p) (e :: es) [] pos) (tCB r t):=by
 intro pins s σ H Q I h
 refine wpAny_Call_Name_kw (IM I hg hm hv ?_ hn hdb)
 exact PyProof.Rows.callWith_type1 (thn (ha pos pins s σ H _ I h) fun us s1 ⟨vs,H1,I1,r1,q1⟩=>hc pins s1 σ H1 vs us Q I1 r1 q1) he hpl
end
end L2
namespace HT
open PySem PyProof.Rows
section
open PySem.SeqAt
open PySem.AutoSeq1 (wpAny_loadPart')
open PySem.MeetsSeq PySem.MeetsSeq2 PySem.MeetsSeq3
end
section
variable {prog : Program} {w : World} {A : Around} {E : Value → Shared → Prop} {s : Shared}
theorem cat_tup {t b : Addr} {vs ws : List Value} {Q : Value → Shared → Prop} (ht : IsTup s.heap t vs.toArray) (hb : IsTup s.heap b ws.toArray) (hv : vs ≠ [])
 (h1 : ws = [] → Q (.ref t) s) (h2 : ws ≠ [] → Q (.ref s.heap.objs.size) { s with heap:=s.heap.push { cls:=.type "tuple",data:=.seq (vs ++ ws).toArray } })
 (hsz : vs.length + ws.length ≤ sizeLine) : wpAny (model prog w) A (binaryOp .Add (.ref t) (.ref b)) Q E s:=by
 obtain ⟨⟨cls,dd,data,sl⟩,ho,hc,n,hd⟩:=id ht
 obtain ⟨⟨cls2,dd2,data2,sl2⟩,ho2,hc2,n2,hd2⟩:=id hb
 simp only at hc hd hc2 hd2
 subst hc hd hc2 hd2
 have e : vs.toArray ++ ws.toArray = (vs ++ ws).toArray:=by simp
 by_cases hw : ws = []
 ·exact concat_meets ⟨_,ho,rfl⟩ ⟨_,ho2,rfl⟩ noFill_tuple_add seq_tuple_add PySem.F.slot_tuple_add PySem.F.entry_tuple_add (PySem.F.args_tuple_add_2 _ _)
   (tuple_addW1 t b vs.toArray ws.toArray n n2 dd dd2 sl sl2 (by simpa using hv) (by simp [hw])) ⟨ho,ho2,h1 hw⟩
 ·refine concat_meets ⟨_,ho,rfl⟩ ⟨_,ho2,rfl⟩ noFill_tuple_add seq_tuple_add PySem.F.slot_tuple_add PySem.F.entry_tuple_add (PySem.F.args_tuple_add_2 _ _)
   (tuple_addW2 t b vs.toArray ws.toArray n n2 dd dd2 sl sl2 (by simpa using hv) (by simpa using hw) (by rw [TK,TK]; exact hsz)) ⟨ho,ho2,?_⟩
  rw [e]
  exact h2 hw
def sIx (n d : Nat) : Option Int → Nat
 | none=>d
 | some v=>if v < 0 then (v + (n : Int)).toNat else min v.toNat n
theorem sIx_nat (n d k : Nat) : sIx n d (some (k : Int)) = min k n:=by
 show (if (k : Int) < 0 then ((k : Int) + (n : Int)).toNat else min (k : Int).toNat n) = min k n
 rw [if_neg (by lia),TL]
theorem clip_eq (v : Int) (n d : Nat) : (if v < 0 then max (v + (n : Int)) 0 else min v (n : Int)) = ((sIx n d (some v) : Nat) : Int):=by
 show (if v < 0 then max (v + (n : Int)) 0 else min v (n : Int)) = (((if v < 0 then (v + (n : Int)).toNat else min v.toNat n) : Nat) : Int)
 by_cases hv : v < 0
 ·rw [if_pos hv,if_pos hv,Int.toNat_eq_max]
 ·rw [if_neg hv,if_neg hv]
  obtain ⟨k,rfl⟩:=Int.eq_ofNat_of_zero_le (Int.not_lt.mp hv)
  rw [TL]
  rcases Nat.le_total k n with h | h
  ·rw [TM h,Int.min_eq_left (Int.ofNat_le.mpr h)]
  ·rw [Nat.min_eq_right h,Int.min_eq_right (Int.ofNat_le.mpr h)]
end
end HT
namespace L2
open PySem PySem.Spec PyProof.Rows
abbrev TO:=St → Hp → (Option Int → Hp → Prop) → Prop
def PO (X : Cx) (e : Option Expr) (t : TO) : Prop :=
 ∀ (pins : List (Addr × Obj)) (s : Shared) (σ : St) (H : Hp) (Q : Option Int → Hp → Prop),Inv X pins σ H s → t σ H Q →
   wpAny (model X.prog X.w) X.A (evalPart e X.env) (fun u s'=>∃ o H',Inv X pins σ H' s' ∧ IsPart u o ∧ Q o H') X.xe s
def Nj : TO:=fun _ H Q=>Q none H
def PX (t : TE) : TO:=fun σ H Q=>t σ H fun x H1=>∃ i,x = .int i ∧ Q (some i) H1
section
variable {X : Cx} {e : Expr} {te : TE} {lo hi : Option Expr} {tl th : TO} {pos p2 : Pos}
theorem De : PO X none Nj:=by
 intro pins s σ H Q I h
 rw [evalPart_none]
 exact wpAny_pure ⟨none,H,I,.none,h⟩
theorem Dd (h : PE X e te) : PO X (some e) (PX te):=by
 intro pins s σ H Q I hw
 rw [evalPart_some]
 refine thn (h pins s σ H _ I hw) fun u s1 ⟨x,H1,I1,r1,q1⟩=>?_
 obtain ⟨i,rfl,q⟩:=q1
 obtain ⟨t,rfl⟩:=r1
 exact ⟨some i,H1,I1,.int i t,q⟩
def SlR (X : Cx) (r : V → Option Int → Option Int → Hp → VK → Prop) : Prop :=
 ∀ (pins : List (Addr × Obj)) (s : Shared) (σ : St) (H : Hp) (x : V) (v vl vu : Value) (lo hi : Option Int) (sl : Addr) (Q : VK),Inv X pins σ H s → Ba x v → s.heap.IsSliceOf sl vl vu .none → IsPart vl lo → IsPart vu hi → r x lo hi H Q →
   ∃ T id,typeLookup (.type T) "__getitem__" = pure (some (.builtin id)) ∧ s.TypeIs v T ∧ wpAny (model X.prog X.w) X.A (getItem v (.ref sl)) (EP X pins σ Q) X.xe s
def tSl (r : V → Option Int → Option Int → Hp → VK → Prop) (te : TE) (tl th : TO) : TE:=fun σ H Q=>te σ H fun x H1=>tl σ H1 fun l H2=>th σ H2 fun u H3=>r x l u H3 Q
theorem Cw {r : V → Option Int → Option Int → Hp → VK → Prop} (hr : SlR X r) (he : PE X e te) (hl : PO X lo tl) (hu : PO X hi th) : PE X (.Subscript e (.Slice lo hi none p2) pos) (tSl r te tl th):=by
 intro pins s σ H Q I h
 refine Subscript_ (thn (he pins s σ H _ I h) fun v s1 ⟨x,H1,I1,r1,q1⟩=>?_)
 refine wpAny_Slice (thn (hl pins s1 σ H1 _ I1 q1) fun vl s2 ⟨l,H2,I2,pl,q2⟩=>thn (hu pins s2 σ H2 _ I2 q2) fun vu s3 ⟨u,H3,I3,pu,q3⟩=>?_)
 rw [evalPart_none]
 refine wpAny_pure ?_
 have I4 : Inv X pins σ H3 { s3 with heap:=s3.heap.push { cls:=.type "slice",data:=.fields #[vl,vu,.none] } }:=I3.kept (t':=s3.toks) fun b ob q=>Heap.get?_push_of_some _ q
 obtain ⟨T,id,hT,ht,hg⟩:=hr pins { s3 with heap:=s3.heap.push { cls:=.type "slice",data:=.fields #[vl,vu,.none] } } σ H3 x v vl vu l u s3.heap.objs.size Q I4 r1 (Heap.IsSliceOf.new ..) pl pu q3
 show wpAny (model X.prog X.w) X.A (subscriptTail e (.Slice lo hi none p2) v (.ref s3.heap.objs.size)) (EP X pins σ Q) X.xe { s3 with heap:=s3.heap.push { cls:=.type "slice",data:=.fields #[vl,vu,.none] } }
 exact tail_any (ops:=[.ref s3.heap.objs.size,v]) ht hT hg (by with_unfolding_all rfl)
def GZ (xs : List V) (lo hi : Option Int) : List V:=(xs.drop (HT.sIx xs.length 0 lo)).take (HT.sIx xs.length xs.length hi - HT.sIx xs.length 0 lo)
theorem JN (xs : List V) (lo hi : Option Int) : (GZ xs lo hi).length ≤ xs.length:=by
 unfold GZ
 rw [Tp,TN]
 exact SJ (Nat.min_le_right _ _) (Nat.sub_le _ _)
inductive MB (K : SI) (x : V) (y : V) (H : Hp) (Q : VK) : Prop
 | mk (a : _) (b : _) (xs : _) (ys : _) (h1 : x = .ref a) (h2 : y = .ref b) (h3 : SqT K H a xs) (h4 : SqT K H b ys) (h5 : xs ≠ []) (h6 : xs.length + ys.length ≤ sizeLine) (h7 : (ys = [] → Q (.ref a) H)) (h8 : (ys ≠ [] → ∀ p,H p = none → Q (.ref p) (upd H p (.tup (xs ++ ys))))) : MB K x y H Q
theorem AH.nil_iff {xs : List V} {us : List Value} (r : AH xs us) : us = [] ↔ xs = []:=by
 cases r with
 | nil=>simp
 | cons _ _=>simp
theorem Nu : OpR X (binaryOp .Add) (MB X.K):=by
 intro pins s σ H x y v u Q I rx ry h
 obtain ⟨a,b,xs,ys,rfl,rfl,ha,hb,hx,hz,q1,q2⟩:=h
 cases rx
 cases ry
 obtain ⟨its,r1,p1,_⟩:=I.tuple ha
 obtain ⟨its2,r2,p2,_⟩:=I.tuple hb
 refine HT.cat_tup p1 p2 (fun z=>hx (r1.nil_iff.mp z)) (fun z=>⟨.ref a,H,I,rfl,q1 (r2.nil_iff.mp z)⟩) (fun z=>?_) (by rw [← r1.length,← r2.length]; exact hz)
 refine ⟨.ref s.heap.objs.size,_,I.laid (t':=s.toks) (o:=.tup (xs ++ ys)) (fun b ob q=>Heap.get?_push_of_some _ q) (T2 _) ?_,rfl,q2 (fun w=>z (r2.nil_iff.mpr w)) _ (I.hok.fresh (T2 _))⟩
 exact ⟨by rw [Tz]; exact hz,_,r1.append r2,IsTup.new _ _⟩
end
end L2
namespace L2
open PySem PySem.Spec PyProof.Rows
def ixN (n : Nat) (i : Int) : Option Nat:=if 0 ≤ i then (if i < n then some i.toNat else none) else if -(n : Int) ≤ i then some (i + n).toNat else none
def atI {α : Type} (xs : List α) (i : Int) : Option α:=(ixN xs.length i).bind fun j=>xs[j]?
theorem Le {n : Nat} {i : Int} {j : Nat} (h : ixN n i = some j) : seqIndex? i n = some j ∧ j < n ∧ -(n : Int) ≤ i ∧ i < n:=by
 unfold ixN at h
 by_cases h0 : 0 ≤ i
 ·rw [if_pos h0] at h
  by_cases h1 : i < n
  ·rw [if_pos h1] at h
   have e : i.toNat = j:=Su.inj h
   exact ⟨by rw [seqIndex_of h0 h1,e],by lia,by lia,h1⟩
  ·rw [if_neg h1] at h; cases h
 ·rw [if_neg h0] at h
  by_cases h1 : -(n : Int) ≤ i
  ·rw [if_pos h1] at h
   have e : (i + n).toNat = j:=Su.inj h
   exact ⟨by rw [seqIndex_neg (by lia) h1,e],by lia,h1,by lia⟩
  ·rw [if_neg h1] at h; cases h
theorem IY {α : Type} {xs : List α} {i : Int} {v : α} (h : atI xs i = some v) : ∃ j,seqIndex? i xs.length = some j ∧ xs[j]? = some v ∧ j < xs.length ∧ -(xs.length : Int) ≤ i ∧ i < xs.length:=by
 unfold atI at h
 cases e : ixN xs.length i with
 | none=>rw [e] at h; cases h
 | some j =>
   rw [e] at h
   obtain ⟨h1,h2,h3,h4⟩:=Le e
   exact ⟨j,h1,h,h2,h3,h4⟩
theorem As {α : Type} {xs : List α} {j : Nat} {v : α} (h : xs[j]? = some v) : atI xs (j : Int) = some v:=by
 have hj : j < xs.length:=(SU.mp h).1
 have e : ixN xs.length (j : Int) = some j:=by
  unfold ixN
  rw [if_pos (by lia),if_pos (by lia)]; simp
 unfold atI; rw [e]; exact h
def Ls (b : Expr) : Prop:=∀ o i,subscripted b false o i = operate [o,i] (getItem o i)
def IxR (X : Cx) (r : R2) : Prop :=
 ∀ (value slice : Expr) (pins : List (Addr × Obj)) (s : Shared) (σ : St) (H : Hp) (x y : V) (v u : Value) (Q : VK),Inv X pins σ H s → Ba x v → Ba y u → r x y H Q →
   subscripted slice false v u = operate [v,u] (getItem v u) → wpAny (model X.prog X.w) X.A (subscriptTail value slice v u) (EP X pins σ Q) X.xe s
def MtR (X : Cx) (id : String) (r : V → List V → Hp → VK → Prop) : Prop :=
 ∀ (pins : List (Addr × Obj)) (s : Shared) (σ : St) (H : Hp) (x : V) (xs : List V) (v : Value) (us : List Value) (Q : VK),Inv X pins σ H s → Ba x v → AH xs us → r x xs H Q →
   wpAny (model X.prog X.w) X.A (call (.builtin id) (v :: us)) (EP X pins σ Q) X.xe s
section
variable {X : Cx} {a b : Expr} {ta tb : TE} {pos : Pos}
theorem Aw {r : R2} (hr : IxR X r) (ha : PE X a ta) (hb : PE X b tb) (hs : Ls b) : PE X (.Subscript a b pos) (tOp r ta tb):=by
 intro pins s σ H Q I h
 exact Subscript_ (Pw ha hb I h fun v u s2 x y H2 I2 rx ry q=>hr a b pins s2 σ H2 x y v u Q I2 rx ry q (hs _ _))
inductive OA (K : SI) (x : V) (y : V) (H : Hp) (Q : VK) : Prop
 | mk (p : _) (xs : _) (i : _) (v : _) (h1 : x = .ref p) (h2 : y = .int i) (h3 : SqL K H p xs) (h4 : atI xs i = some v) (h5 : Q v H) : OA K x y H Q
inductive Oz (K : SI) (x : V) (y : V) (H : Hp) (Q : VK) : Prop
 | mk (p : _) (xs : _) (i : _) (v : _) (h1 : x = .ref p) (h2 : y = .int i) (h3 : SqT K H p xs) (h4 : atI xs i = some v) (h5 : Q v H) : Oz K x y H Q
inductive Qf (x : V) (y : V) (H : Hp) (Q : VK) : Prop
 | mk (z : _) (i : _) (c : _) (h1 : x = .str z) (h2 : y = .int i) (h3 : z.length ≤ sizeLine) (h4 : atI z.cps.toList i = some c) (h5 : Q (.str ⟨#[c]⟩) H) : Qf x y H Q
theorem ND : IxR X (OA X.K):=by
 intro value slice pins s σ H x y v u Q I rx ry h hs
 obtain ⟨p,xs,i,z,rfl,rfl,hq,he,q⟩:=h
 cases rx
 obtain ⟨t,rfl⟩:=ry
 obtain ⟨its,r,pl,hz⟩:=I.list hq
 obtain ⟨j,h1,h2,h3,h4,h5⟩:=IY he
 obtain ⟨w,ew,rw'⟩:=r.get h2
 have hl:=r.length
 have hn:=Ft
 have fin : EP X pins σ Q w s:=⟨z,H,I,rw',q⟩
 by_cases h0 : 0 ≤ i
 ·have hj : i.toNat = j:=by
   rw [seqIndex_of h0 h5] at h1
   exact Su.inj h1
  exact item_listR pl.isList h0 (by lia) (by rw [hj]; simpa using ew) fin hs
 ·have hj : (i + (its.toArray.size : Int)).toNat = j:=by
   rw [seqIndex_neg (by lia) h4] at h1
   rw [TK,← hl]
   exact Su.inj h1
  exact subscriptTail_builtinR (x:=w) pl.isList.typeIs slot_list_getitem.lookup
   (wpAny_getItem_list_neg (Q:=fun r s'=>r = w ∧ EP X pins σ Q r s') pl.isList (by lia) (by rw [TK] <;> lia) (by lia) (by rw [hj]; simpa using ew) ⟨rfl,fin⟩) hs
theorem Pj : IxR X (Oz X.K):=by
 intro value slice pins s σ H x y v u Q I rx ry h hs
 obtain ⟨p,xs,i,z,rfl,rfl,hq,he,q⟩:=h
 cases rx
 obtain ⟨t,rfl⟩:=ry
 obtain ⟨its,r,pl,hz⟩:=I.tuple hq
 obtain ⟨j,h1,h2,h3,h4,h5⟩:=IY he
 obtain ⟨w,ew,rw'⟩:=r.get h2
 have hl:=r.length
 have hn:=Ft
 have fin : EP X pins σ Q w s:=⟨z,H,I,rw',q⟩
 exact subscriptTail_builtinR (x:=w) pl.typeIs slot_tuple_getitem.lookup
  (getItem_tuple (j:=j) (Q:=fun r s'=>r = w ∧ EP X pins σ Q r s') pl (by lia) (by lia) (by rw [TK,← hl]; exact h1) (by simpa using ew) ⟨rfl,fin⟩) hs
theorem Km : IxR X Qf:=by
 intro value slice pins s σ H x y v u Q I rx ry h hs
 obtain ⟨z,i,c,rfl,rfl,hz,he,q⟩:=h
 obtain ⟨t,rfl⟩:=rx
 obtain ⟨t',rfl⟩:=ry
 obtain ⟨j,h1,h2,h3,h4,h5⟩:=IY he
 have hl : z.cps.toList.length = z.length:=by simp [Str.length]
 rw [hl] at h1 h4 h5
 have hn:=Ft
 exact tail_any (typeIs_str s z t) slot_str_getitem.lookup (getItem_str (c:=c) (by
  have e1 : decide (i < -(2 ^ 63 : Int)) = false:=decide_eq_false (by lia)
  have e2 : decide (i ≥ 2 ^ 63) = false:=decide_eq_false (by lia)
  rw [e1,e2,Bool.or_false]) (by rw [h1]; simpa using h2) ⟨.str ⟨#[c]⟩,H,I.tok _,⟨_,rfl⟩,q⟩) hs
theorem Kg (its : List Value) (n j : Nat) (u : Value) : Obj.mapSeq (·.setIfInBounds j u) { cls:=.type "list",data:=.seq its.toArray n } = { cls:=.type "list",data:=.seq (its.set j u).toArray n }:=by
 simp [Obj.mapSeq]
theorem Inv.lst {pins : List (Addr × Obj)} {σ : St} {H : Hp} {s : Shared} {p : Addr} {xs : List V} (I : Inv X pins σ H s) (h : H p = some (.lst xs)) :
 ∃ (its : List Value) (n : Nat),AH xs its ∧ s.heap.get? p = some { cls:=.type "list",data:=.seq its.toArray n } ∧ xs.length ≤ sizeLine:=by
 obtain ⟨z,its,n,r,e⟩:=I.hok p _ h
 exact ⟨its,n,r,e,z⟩
theorem Inv.lstUpd {pins : List (Addr × Obj)} {σ : St} {H : Hp} {s : Shared} {p : Addr} {xs ys : List V} {its its' : List Value} {n n' : Nat} {f : Obj → Obj} (I : Inv X pins σ H s) (h : H p = some (.lst xs))
 (ho : s.heap.get? p = some { cls:=.type "list",data:=.seq its.toArray n }) (hf : f { cls:=.type "list",data:=.seq its.toArray n } = { cls:=.type "list",data:=.seq its'.toArray n' }) (r : AH ys its') (hz : ys.length ≤ sizeLine) (t : Nat) :
 Inv X pins σ (upd H p (.lst ys)) { s with heap:=s.heap.update p f,toks:=t }:=by
 have e : (s.heap.update p f).get? p = some { cls:=.type "list",data:=.seq its'.toArray n' }:=by
  rw [Heap.get?_update_self f ho (by rw [hf] <;> rfl),hf]
 refine I.write (x:=p) (e:=p) (by rw [h]; trivial) (.inl rfl) (fun b u hb q=>(Heap.get?_update_other _ _ (Ne.symm hb)).trans q) ⟨_,e⟩ ?_
 exact ⟨hz,its',n',r,e⟩
inductive O3 (o : V) (i : V) (v : V) (H : Hp) (Q : (Hp → Prop)) : Prop
 | mk (p : _) (xs : _) (k : _) (j : _) (h1 : o = .ref p) (h2 : i = .int k) (h3 : H p = some (.lst xs)) (h4 : ixN xs.length k = some j) (h5 : Q (upd H p (.lst (xs.set j v)))) : O3 o i v H Q
theorem DS : Qy X O3:=by
 intro pins s σ H o i v ov iv u Q I ro ri rv h
 obtain ⟨p,xs,k,j,rfl,rfl,hp,hj,q⟩:=h
 cases ro
 obtain ⟨t,rfl⟩:=ri
 obtain ⟨its,n,r,ho,hz⟩:=I.lst hp
 obtain ⟨h1,h2,h3,h4⟩:=Le hj
 have hl:=r.length
 have hn:=Ft
 have I' : Inv X pins σ (upd H p (.lst (xs.set j v))) { s with heap:=s.heap.update p (Obj.mapSeq (·.setIfInBounds j u)) } :=
  I.lstUpd hp ho (Kg its n j u) (r.set rv j) (by rw [TQ]; exact hz) s.toks
 by_cases h0 : 0 ≤ k
 ·have hk : k.toNat = j:=by
   rw [seqIndex_of h0 h4] at h1
   exact Su.inj h1
  exact PySem.W.ki_setAt ho h0 (by lia) (by rw [TK,← hl]; exact h4) (by rw [hk]; exact ⟨_,I',q⟩)
 ·have hk : (k + (its.toArray.size : Int)).toNat = j:=by
   rw [seqIndex_neg (by lia) h3] at h1
   rw [TK,← hl]
   exact Su.inj h1
  exact PySem.W.ki_setBack ho (by lia) (by rw [TK,← hl]; exact h3) (by lia) (by rw [hk]; exact ⟨_,I',q⟩)
theorem Iq (lo hi : Option Int) (n : Nat) : (sliceBounds lo hi none n).1 = ((HT.sIx n 0 lo : Nat) : Int) ∧ (sliceBounds lo hi none n).2.1 = ((HT.sIx n n hi : Nat) : Int) ∧ (sliceBounds lo hi none n).2.2 = 1:=by
 have key : ∀ (i : Int) (d : Nat),max 0 (min (if i < 0 then i + (n : Int) else i) (n : Int)) = ((HT.sIx n d (some i) : Nat) : Int):=by
  intro i d
  rw [← HT.clip_eq]
  by_cases h : i < 0
  ·rw [if_pos h,if_pos h,Int.min_eq_left (by lia),Int.max_comm]
  ·rw [if_neg h,if_neg h,Int.max_eq_right (Int.le_min.mpr ⟨by lia,by lia⟩)]
 refine ⟨?_,?_,rfl⟩
 ·cases lo with
  | none=>simp [sliceBounds,HT.sIx]
  | some i=>exact key i 0
 ·cases hi with
  | none=>simp [sliceBounds,HT.sIx]
  | some i=>exact key i n
theorem Hh (its : List Value) (lo hi : Option Int) : slicePick its.toArray lo hi none = ((its.drop (HT.sIx its.length 0 lo)).take (HT.sIx its.length its.length hi - HT.sIx its.length 0 lo)).toArray:=by
 obtain ⟨h1,h2,h3⟩:=Iq lo hi its.toArray.size
 unfold slicePick
 rw [h1,h2,h3]
 simp only [sliceRange_one,pick_run,TK] <;> rfl
inductive Ox (K : SI) (x : V) (lo : Option Int) (hi : Option Int) (H : Hp) (Q : VK) : Prop
 | mk (a : _) (xs : _) (h1 : x = .ref a) (h2 : SqL K H a xs) (h3 : ∀ p,H p = none → Q (.ref p) (upd H p (.lst (GZ xs lo hi)))) : Ox K x lo hi H Q
theorem Nl : SlR X (Ox X.K):=by
 intro pins s σ H x v vl vu lo hi sl Q I rx hs pl pu h
 obtain ⟨a,xs,rfl,hx,q⟩:=h
 cases rx
 obtain ⟨its,r,ht,hz⟩:=I.list hx
 have hlen:=r.length
 refine ⟨"list",_,slot_list_getitem.lookup,ht.isList.typeIs,?_⟩
 refine wpAny_getItem_list_slice ht.isList hs pl pu .none (by simp) ?_ (by rw [TK] <;> lia)
 rw [Hh,← hlen]
 refine ⟨.ref s.heap.objs.size,_,I.laid (t':=s.toks) (o:=.lst (GZ xs lo hi)) (fun b ob q=>Heap.get?_push_of_some _ q) (T2 _) ?_,rfl,q _ (I.hok.fresh (T2 _))⟩
 exact ⟨SJ (JN xs lo hi) hz,_,0,(r.drop (HT.sIx xs.length 0 lo)).take (HT.sIx xs.length xs.length hi - HT.sIx xs.length 0 lo),Heap.get?_push_size _ rfl⟩
def FL : V → Bool
 | .non=>true
 | .bl _=>true
 | .int _=>true
 | .str _=>true
 | _=>false
def eqV : V → V → Bool
 | .non,.non=>true
 | .bl a,.bl b=>a == b
 | .bl a,.int b=>(if a then 1 else 0) == b
 | .int a,.bl b=>a == (if b then 1 else 0)
 | .int a,.int b=>a == b
 | .str a,.str b=>a == b
 | _,_=>false
theorem Pr {A : Around} {s : Shared} {y x : V} {u v : Value} (ry : Ba y u) (rx : Ba x v) (fy : FL y = true) (fx : FL x = true) : SeqAt.EqAt A s u v (eqV y x):=by
 cases y with
 | non =>
   cases ry
   cases x with
   | non=>cases rx; exact SeqAt.EqAt.same _
   | bl b=>cases rx; exact SeqAt.EqAt.none_bool b
   | int b=>obtain ⟨t,rfl⟩:=rx; exact SeqAt.EqAt.none_int b t
   | str b=>obtain ⟨t,rfl⟩:=rx; exact SeqAt.EqAt.none_str b t
   | _=>exact absurd (show false = true from fx) Bool.false_ne_true
 | bl a =>
   cases ry
   cases x with
   | non=>cases rx; exact SeqAt.EqAt.bool_none a
   | bl b=>cases rx; exact SeqAt.EqAt.bool_bool a b
   | int b=>obtain ⟨t,rfl⟩:=rx; exact SeqAt.EqAt.bool_int a b t
   | str b=>obtain ⟨t,rfl⟩:=rx; exact SeqAt.EqAt.bool_str a b t
   | _=>exact absurd (show false = true from fx) Bool.false_ne_true
 | int a =>
   obtain ⟨t',rfl⟩:=ry
   cases x with
   | non=>cases rx; exact SeqAt.EqAt.int_none a t'
   | bl b=>cases rx; exact SeqAt.EqAt.int_bool a t' b
   | int b=>obtain ⟨t,rfl⟩:=rx; exact SeqAt.EqAt.int_int a t' b t
   | str b=>obtain ⟨t,rfl⟩:=rx; exact SeqAt.EqAt.int_str a t' b t
   | _=>exact absurd (show false = true from fx) Bool.false_ne_true
 | str a =>
   obtain ⟨t',rfl⟩:=ry
   cases x with
   | non=>cases rx; exact SeqAt.EqAt.str_none a t'
   | bl b=>cases rx; exact SeqAt.EqAt.str_bool a t' b
   | int b=>obtain ⟨t,rfl⟩:=rx; exact SeqAt.EqAt.str_int a t' b t
   | str b=>obtain ⟨t,rfl⟩:=rx; exact SeqAt.EqAt.str_str a t' b t
   | _=>exact absurd (show false = true from fx) Bool.false_ne_true
 | _=>exact absurd (show false = true from fy) Bool.false_ne_true
def eqU (x : V) (u : Value) : Bool:=match u with
 | .none=>eqV .non x
 | .bool b=>eqV (.bl b) x
 | .int i _=>eqV (.int i) x
 | .str z _=>eqV (.str z) x
 | _=>false
theorem MZ {x y : V} {u : Value} (r : Ba y u) (f : FL y = true) : eqU x u = eqV y x:=by
 cases y with
 | non=>cases r; rfl
 | bl b=>cases r; rfl
 | int i=>obtain ⟨t,rfl⟩:=r; rfl
 | str z=>obtain ⟨t,rfl⟩:=r; rfl
 | _=>exact absurd (show false = true from f) Bool.false_ne_true
theorem IZ {x : V} : ∀ {xs : List V} {us : List Value},AH xs us → xs.all FL = true → us.any (eqU x) = xs.any fun y=>eqV y x
 | _,_,.nil,_=>rfl
 | y :: xs,u :: us,.cons r t,f=>by
   rw [List.all_cons,Bool.and_eq_true] at f
   rw [TR,TR,MZ r f.1,IZ t f.2]
theorem GF {A : Around} {s : Shared} {x : V} {v : Value} (rx : Ba x v) (fx : FL x = true) : ∀ {xs : List V} {us : List Value},AH xs us → xs.all FL = true → ∀ u ∈ us,SeqAt.EqAt A s u v (eqU x u)
 | _,_,.nil,_=>fun u hu=>by cases hu
 | y :: xs,u :: us,.cons r t,f=>fun u' hu=>by
   rw [List.all_cons,Bool.and_eq_true] at f
   rcases SQ.mp hu with rfl | hu
   ·rw [MZ r f.1]; exact Pr r rx f.1 fx
   ·exact GF rx fx t f.2 u' hu
def inV (x : V) (xs : List V) : Bool:=xs.any fun y=>eqV y x
inductive rIn (K : SI) (neg : Bool) (x : V) (y : V) (H : Hp) (Q : VK) : Prop
 | mk (p : _) (xs : _) (h1 : y = .ref p) (h2 : (SqL K H p xs ∨ SqT K H p xs)) (h3 : FL x = true) (h4 : xs.all FL = true) (h5 : Q (.bl (if neg then !inV x xs else inV x xs)) H) : rIn K neg x y H Q
theorem IC : OpR X (compareOp .NotIn) (rIn X.K true):=by
 intro pins s σ H x y v u Q I rx ry h
 obtain ⟨p,xs,rfl,hq,fx,fs,q⟩:=h
 cases ry
 rcases hq with hq | hq
 ·obtain ⟨its,r,pl,hz⟩:=I.list hq
  refine SeqAt.notIn_listAt (eqU x) pl.isList (fun w hw=>GF rx fx r fs w (by simpa using hw)) ⟨.bl _,H,I,rfl,?_⟩
  rw [show its.toArray.any (eqU x) = its.any (eqU x) by simp,IZ r fs]
  exact q
 ·obtain ⟨its,r,pl,hz⟩:=I.tuple hq
  refine SeqAt.notIn_tupleAt (eqU x) pl (fun w hw=>GF rx fx r fs w (by simpa using hw)) ⟨.bl _,H,I,rfl,?_⟩
  rw [show its.toArray.any (eqU x) = its.any (eqU x) by simp,IZ r fs]
  exact q
theorem IV : C5 X (.builtin "len") (fun xs H Q=>∃ p ys,xs = [.ref p] ∧ (SqL X.K H p ys ∨ SqT X.K H p ys) ∧ Q (.int ys.length) H):=by
 intro pins s σ H xs us Q I r h
 obtain ⟨p,ys,rfl,hq,q⟩:=h
 obtain ⟨u,rfl,rx⟩:=DL r
 cases rx
 have hn:=Ft
 rcases hq with hq | hq
 ·obtain ⟨its,r',pl,hz⟩:=I.list hq
  have hlen:=r'.length
  exact Calls.call_len_list pl.isList (by simp only [TK] <;> lia) ⟨.int ys.length,H,I.tok _,⟨s.toks + 1,by rw [TK,hlen]⟩,q⟩
 ·obtain ⟨its,r',pl,hz⟩:=I.tuple hq
  have hlen:=r'.length
  exact len_tuple pl (by simp only [TK] <;> lia) ⟨.int ys.length,H,I.tok _,⟨s.toks + 1,by rw [TK,hlen]⟩,q⟩
theorem HB : C5 X (.type "tuple") (fun xs H Q=>∃ p ys,xs = [.ref p] ∧ ((SqL X.K H p ys ∧ ∀ l,H l = none → Q (.ref l) (upd H l (.tup ys))) ∨ (SqT X.K H p ys ∧ Q (.ref p) H))):=by
 intro pins s σ H xs us Q I r h
 obtain ⟨p,ys,rfl,h⟩:=h
 obtain ⟨u,rfl,rx⟩:=DL r
 cases rx
 rcases h with ⟨hq,q⟩ | ⟨hq,q⟩
 ·obtain ⟨its,r',pl,hz⟩:=I.list hq
  have hlen:=r'.length
  refine call_tuple_list pl.isList (fun h' kp=>?_) (by simp only [TK] <;> lia)
  have I1 : Inv X pins σ H { s with heap:=h' }:=I.kept (t':=s.toks) kp
  have I2 : Inv X pins σ (upd H h'.objs.size (.tup ys)) { s with heap:=h'.push { cls:=.type "tuple",data:=.seq its.toArray } } :=
   I1.laid (t':=s.toks) (fun b o e=>Heap.get?_push_of_some _ e) (T2 _) (show BG X.prog X.w _ _ _ (.tup ys) from ⟨hz,its,r',IsTup.new _ _⟩)
  exact ⟨.ref h'.objs.size,_,I2,rfl,q _ (I1.hok.fresh (T2 _))⟩
 ·obtain ⟨its,r',pl,hz⟩:=I.tuple hq
  exact call_tuple_same pl ⟨.ref p,H,I,rfl,q⟩
def tyV (K : SI) (T : String) (x : V) (H : Hp) : Prop:=match x with
 | .str _=>T = "str"
 | .int _=>T = "int"
 | .ref p=>(T = "list" ∧ ∃ xs,SqL K H p xs) ∨ (T = "tuple" ∧ ∃ o,K.lookup p = some o ∧ o.cls = .type "tuple" ∧ o.dict = none) ∨
  (T = "dict" ∧ ((∃ kvs,H p = some (.dK kvs)) ∨ ∃ kvs,H p = some (.dT kvs))) ∨ (T = "set" ∧ ∃ S n,H p = some (.set S n))
 | _=>False
theorem Mb {pins : List (Addr × Obj)} {σ : St} {H : Hp} {s : Shared} {T : String} {x : V} {v : Value} (I : Inv X pins σ H s) (r : Ba x v) (ty : tyV X.K T x H) :
 s.TypeIs v T ∧ ∀ a,v = .ref a → ∃ ob,s.heap.get? a = some ob ∧ ob.dict = none:=by
 cases x with
 | str z =>
   obtain ⟨t,rfl⟩:=r
   cases (show T = "str" from ty)
   exact ⟨typeIs_str s z t,fun _ e=>nomatch e⟩
 | int i =>
   obtain ⟨t,rfl⟩:=r
   cases (show T = "int" from ty)
   exact ⟨typeIs_int s i t,fun _ e=>nomatch e⟩
 | ref p =>
   cases r
   rcases ty with ⟨rfl,xs,hq⟩ | ⟨rfl,o,hk,hc,hd⟩ | ⟨rfl,hk⟩ | ⟨rfl,S,n,hk⟩
   ·obtain ⟨its,_,pl,_⟩:=I.list hq
    refine ⟨pl.isList.typeIs,fun a e=>?_⟩
    cases e
    obtain ⟨o,n,e,c,hd,_⟩:=pl
    exact ⟨o,e,hd⟩
   ·refine ⟨⟨o,I.kIn p o hk,hc⟩,fun a e=>?_⟩
    cases e
    exact ⟨o,I.kIn _ o hk,hd⟩
   ·have z : ∃ o,s.heap.get? p = some o ∧ o.ExactDict:=by
     rcases hk with ⟨kvs,hk⟩ | ⟨kvs,hk⟩
     ·obtain ⟨_,_,_,_,o,_,_,e,ex,_⟩:=I.hok p _ hk
      exact ⟨o,e,ex⟩
     ·obtain ⟨_,_,_,_,o,_,_,e,ex,_⟩:=I.hok p _ hk
      exact ⟨o,e,ex⟩
    obtain ⟨o,e,ex⟩:=z
    refine ⟨⟨o,e,ex.1⟩,fun a e2=>?_⟩
    cases e2
    exact ⟨o,e,ex.2.1⟩
   ·obtain ⟨o,_,_,_,e,ex,_⟩:=I.hok p _ hk
    refine ⟨⟨o,e,ex.1⟩,fun a e2=>?_⟩
    cases e2
    exact ⟨o,e,ex.2.1⟩
 | _=>exact False.elim ty
def Q5 (K : SI) (T : String) (r : V → List V → Hp → VK → Prop) (to : TE) : TE:=fun σ H Q=>to σ H fun x H1=>tyV K T x H1 ∧ r x [] H1 Q
def tBM (K : SI) (T : String) (r : V → List V → Hp → VK → Prop) (to : TE) (t : TA) : TE:=fun σ H Q=>to σ H fun x H1=>tyV K T x H1 ∧ t σ H1 fun xs H2=>r x xs H2 Q
variable {o e : Expr} {es : List Expr} {to : TE} {t : TA} {name : Str} {apos cpos : Pos} {T id : String} {r : V → List V → Hp → VK → Prop}
theorem OL (pa : PlainAttrs T) (slot : Slot T name id) (hty : typeOf (.builtin id) = pure (.type "method_descriptor")) (hm : MtR X id r) (ho : PE X o to)
 (hbase : attributeBase o name X.env (eval o X.env) = eval o X.env:=by rfl) (hline : (apos.endLine == cpos.line) = true:=by rfl) {K : SI} (eK : X.K = K:=by rfl) : PE X (.Call (.Attribute o name apos) [] [] cpos) (Q5 K T r to):=by
 subst eK
 intro pins s σ H Q I h
 refine wpAny_Call_method0_late hbase hline (thn (ho pins s σ H _ I h) fun v s1 ⟨x,H1,I1,r1,ty,q1⟩=>?_)
 obtain ⟨h1,h2⟩:=Mb I1 r1 ty
 exact ⟨T,id,pa,slot,hty,h1,h2,Calls.callWith_builtin rfl (PySem.evalArgs_none (hm pins s1 σ H1 x [] v [] Q I1 r1 .nil q1))⟩
theorem Qj (pa : PlainAttrs T) (slot : Slot T name id) (hty : typeOf (.builtin id) = pure (.type "method_descriptor")) (hm : MtR X id r) (ho : PE X o to) (ha : PA X (e :: es) t)
 (hbase : attributeBase o name X.env (eval o X.env) = eval o X.env:=by rfl)
 (hfew : ((backTo cpos (starEach (e :: es) X.env)).all (fun x=>!x.1) && (backToKw cpos (keywordEach [] X.env)).all (fun x=>x.1.isSome)
  && decide ((e :: es).length + ([] : List Keyword).length + (if ([] : List Keyword).isEmpty then 0 else 1) < 30)) = true:=by rfl)
 (hline : (apos.endLine == cpos.line) = true:=by rfl) (hs : starEach (e :: es) X.env = (false,eval e X.env) :: starEach es X.env:=by rfl) (hplain : (backTo cpos (starEach es X.env)).any (·.1) = false:=by rfl) {K : SI} (eK : X.K = K:=by rfl) :
 PE X (.Call (.Attribute o name apos) (e :: es) [] cpos) (tBM K T r to t):=by
 subst eK
 intro pins s σ H Q I h
 refine wpAny_Call_method_late hbase hfew hline rfl (thn (ho pins s σ H _ I h) fun v s1 ⟨x,H1,I1,r1,ty,q1⟩=>?_)
 obtain ⟨h1,h2⟩:=Mb I1 r1 ty
 refine ⟨T,id,pa,slot,hty,h1,h2,?_⟩
 have hA:=ha cpos pins s1 σ H1 _ I1 q1
 rw [hs] at hA ⊢
 refine Calls.callWith_builtin (by show (false || (backTo cpos (starEach es X.env)).any (·.1)) = false; rw [hplain] <;> rfl) (Calls.evalArgs_plain ?_)
 exact thn hA fun us s2 ⟨vs,H2,I2,r2,q2⟩=>hm pins s2 σ H2 x vs v us Q I2 r1 r2 q2
end
end L2
namespace L2
open PySem PySem.Spec PyProof.Rows
def MtM (X : Cx) (id : String) (r : V → List V → Hp → VK → Prop) : Prop :=
 ∀ (pins : List (Addr × Obj)) (s : Shared) (σ : St) (H : Hp) (x : V) (xs : List V) (v : Value) (us : List Value) (Q : VK),Inv X pins σ H s → Ba x v → AH xs us → r x xs H Q →
   wpAny (model X.prog X.w) X.A (call (.builtin id) (v :: us)) (EP X pins σ Q) X.xe s
theorem AH.one {x : V} {us : List Value} (h : AH [x] us) : ∃ u,us = [u] ∧ Ba x u:=by
 cases h with
 | cons r t=>cases t; exact ⟨_,rfl,r⟩
theorem AH.zero : ∀ {us : List Value},AH [] us → us = []
 | _,.nil=>rfl
theorem AH.dropLast {xs : List V} {us : List Value} (h : AH xs us) : AH xs.dropLast us.dropLast:=by
 induction h with
 | nil=>exact .nil
 | cons r t ih =>
   cases t with
   | nil=>exact .nil
   | cons q t'=>exact .cons r ih
theorem AH.rep {xs : List V} {us : List Value} (h : AH xs us) : ∀ k : Nat,AH (Tj k xs).flatten (Tj k us).flatten
 | 0=>.nil
 | k + 1=>by
   rw [TU,TU,TV,TV]
   exact AH.append h (AH.rep h k)
theorem Kp {α : Type} (l : List α) : l.eraseIdx (l.length - 1) = l.dropLast:=by
 induction l with
 | nil=>rfl
 | cons a r ih =>
   cases r with
   | nil=>rfl
   | cons b r =>
     have e : (a :: b :: r).length - 1 = ((b :: r).length - 1) + 1:=by
      have h1 : (a :: b :: r).length = r.length + 2:=rfl
      have h2 : (b :: r).length = r.length + 1:=rfl
      lia
     rw [e,List.eraseIdx_cons_succ,ih]
     all_goals rfl
theorem HR (its : List Value) : ∀ (k : Nat) (acc : List Value),
 List.foldl (fun x1 x2=>x1 ++ x2) acc.toArray (Tj k its.toArray) = (acc ++ (Tj k its).flatten).toArray
 | 0,acc=>by simp
 | k + 1,acc=>by
   have e : acc.toArray ++ its.toArray = (acc ++ its).toArray:=by simp
   have e2 : (acc ++ its) ++ (Tj k its).flatten = acc ++ (Tj (k + 1) its).flatten:=by
    rw [TU,TV,TX]
   rw [← e2,← HR its k (acc ++ its),← e,TU,List.foldl_cons]
section
variable {X : Cx} {pins : List (Addr × Obj)} {σ : St} {H : Hp} {s : Shared} {l b : Addr} {xs ys zs : List V}
theorem Inv.lset {its its' : List Value} {n : Nat} {f : Array Value → Array Value} {t' : Nat} (I : Inv X pins σ H s) (hH : H l = some (.lst xs))
 (e : s.heap.get? l = some { cls:=.type "list",data:=.seq its.toArray n }) (hf : f its.toArray = its'.toArray) (hv : AH ys its') (hz : ys.length ≤ sizeLine) :
 Inv X pins σ (upd H l (.lst ys)) { s with heap:=s.heap.update l (Obj.mapSeq f),toks:=t' }:=by
 have q:=PySem.IsL.update e f
 rw [hf] at q
 refine I.write (x:=l) (e:=l) (by rw [hH]; exact trivial) (.inl rfl) (fun b' u hb hu=>(Heap.get?_update_other s.heap (Obj.mapSeq f) (Ne.symm hb)).trans hu) ⟨_,q⟩ ?_
 exact ⟨hz,its',_,hv,q⟩
theorem Inv.lnew {its : List Value} {t' : Nat} (I : Inv X pins σ H s) (hv : AH ys its) (hz : ys.length ≤ sizeLine) :
 Inv X pins σ (upd H s.heap.objs.size (.lst ys)) { s with heap:=s.heap.push { cls:=.type "list",data:=.seq its.toArray },toks:=t' } :=
 I.laid (fun _ _ q=>Heap.get?_push_of_some _ q) (T2 _) ⟨hz,its,0,hv,Heap.get?_push_size _ rfl⟩
theorem Inv.fresh (I : Inv X pins σ H s) : H s.heap.objs.size = none:=I.hok.fresh (T2 _)
theorem Inv.lstM (I : Inv X pins σ H s) (hH : H l = some (.lst xs)) : xs.length ≤ sizeLine ∧ ∃ (its : List Value) (n : Nat),AH xs its ∧ xs.length = its.length ∧ s.heap.get? l = some { cls:=.type "list",data:=.seq its.toArray n }:=by
 obtain ⟨z,its,n,r,e⟩:=I.hok l _ hH
 exact ⟨z,its,n,r,r.length,e⟩
theorem ML {n : Nat} (h : n ≤ sizeLine) : Builtin.List.listTooLong n = false:=by
 unfold Builtin.List.listTooLong
 exact decide_eq_false (by lia)
end
section
variable {X : Cx}
inductive KQ (x : V) (vs : List V) (H : Hp) (Q : VK) : Prop
 | mk (l : _) (xs : _) (y : _) (h1 : x = .ref l) (h2 : vs = [y]) (h3 : H l = some (.lst xs)) (h4 : xs.length < sizeLine) (h5 : Q .non (upd H l (.lst (xs ++ [y])))) : KQ x vs H Q
theorem Cc : MtM X "list.append" KQ:=by
 intro pins s σ H x vs v us Q I rx rv h
 obtain ⟨l,xs,y,rfl,rfl,hH,hz,q⟩:=h
 cases rx
 obtain ⟨u,rfl,ru⟩:=rv.one
 obtain ⟨z,its,n,r,hl,e⟩:=I.lstM hH
 refine call_meets F.slot_list_append ⟨_,e,rfl⟩ F.entry_list_append (F.args_list_append_2 _ _) (PySem.list_append l its.toArray n u (by rw [TK]; lia)) ⟨e,?_⟩
 refine ⟨.non,_,I.lset (its':=its ++ [u]) hH e (by simp) (r.append (.cons ru .nil)) ?_,rfl,q⟩
 rw [Tz,TY]
 lia
inductive Qe (x : V) (vs : List V) (H : Hp) (Q : VK) : Prop
 | mk (l : _) (xs : _) (y : _) (h1 : x = .ref l) (h2 : vs = []) (h3 : H l = some (.lst xs)) (h4 : xs[xs.length - 1]? = some y) (h5 : Q y (upd H l (.lst xs.dropLast))) : Qe x vs H Q
theorem OW : MtM X "list.pop" Qe:=by
 intro pins s σ H x vs v us Q I rx rv h
 obtain ⟨l,xs,y,rfl,rfl,hH,hy,q⟩:=h
 cases rx
 have hus:=rv.zero
 subst hus
 obtain ⟨z,its,n,r,hl,e⟩:=I.lstM hH
 obtain ⟨u,hu,ru⟩:=r.get hy
 have hy' : its.toArray[its.toArray.size - 1]? = some u:=by
  show its.toArray[its.length - 1]? = some u
  rw [← TZ,← hl]
  exact hu
 refine call_meets F.slot_list_pop ⟨_,e,rfl⟩ F.entry_list_pop (F.args_list_pop_1 _) (MeetsSeq.list_pop_last l its.toArray n u hy' (by rw [TK]; lia)) ⟨e,?_⟩
 refine ⟨y,_,I.lset (its':=its.dropLast) hH e ?_ r.dropLast ?_,ru,q⟩
 ·show its.toArray.eraseIdxIfInBounds (its.toArray.size - 1) = its.dropLast.toArray
  rw [TK,List.eraseIdxIfInBounds_toArray,Kp]
 ·rw [List.length_dropLast]
  lia
inductive Qg (x : V) (y : V) (H : Hp) (Q : VK) : Prop
 | mk (l : _) (b : _) (xs : _) (zs : _) (h1 : x = .ref l) (h2 : y = .ref b) (h3 : H l = some (.lst xs)) (h4 : H b = some (.lst zs)) (h5 : xs.length + zs.length ≤ sizeLine) (h6 : ∀ p,H p = none → Q (.ref p) (upd H p (.lst (xs ++ zs)))) : Qg x y H Q
theorem Gq : OpR X (binaryOp .Add) Qg:=by
 intro pins s σ H x y v u Q I rx ry h
 obtain ⟨l,b,xs,zs,rfl,rfl,hH,hB,hz,q⟩:=h
 cases rx
 cases ry
 obtain ⟨z,its,n,r,hl,e⟩:=I.lstM hH
 obtain ⟨z2,its2,n2,r2,hl2,e2⟩:=I.lstM hB
 refine PySem.P.add_list e e2 ?_ (by rw [TK,TK]; lia)
 have ea : its.toArray ++ its2.toArray = (its ++ its2).toArray:=by simp
 rw [ea]
 exact ⟨.ref _,_,I.lnew (t':=s.toks) (r.append r2) (by rw [Tz]; lia),rfl,q _ I.fresh⟩
inductive Qd (x : V) (y : V) (H : Hp) (Q : VK) : Prop
 | mk (l : _) (k : _) (xs : _) (h1 : x = .ref l) (h2 : y = .int k) (h3 : H l = some (.lst xs)) (h4 : -(2 ^ 63) ≤ k) (h5 : k < 2 ^ 63) (h6 : xs.length * k.toNat ≤ sizeLine) (h7 : ∀ p,H p = none → Q (.ref p) (upd H p (.lst (Tj k.toNat xs).flatten))) : Qd x y H Q
theorem Nz {α : Type} (xs : List α) (k : Nat) : (Tj k xs).flatten.length = k * xs.length:=by
 induction k with
 | zero=>simp
 | succ k ih=>rw [TU,TV,Tz,ih,U0,Nat.add_comm]
theorem OO : OpR X (binaryOp .Mult) Qd:=by
 intro pins s σ H x y v u Q I rx ry h
 obtain ⟨l,k,xs,rfl,rfl,hH,h1,h2,hz,q⟩:=h
 cases rx
 obtain ⟨t,rfl⟩:=ry
 obtain ⟨z,its,n,r,hl,e⟩:=I.lstM hH
 have hlen : its.toArray.size * k.toNat ≤ sizeLine:=by rw [TK,← hl]; exact hz
 have hcap : ¬ its.toArray.size * k.toNat > (2 ^ 63 - 1) / 8:=by
  have : (sizeLine : Nat) ≤ (2 ^ 63 - 1) / 8:=by decide
  lia
 have hfit : ¬ (!Builtin.List.listFitsIndex k) = true:=by
  rw [fitsIndex_both h1 h2]
  exact Bool.false_ne_true
 have hlong : ¬ Builtin.List.listTooLong (its.toArray.size * k.toNat) = true:=by
  rw [ML hlen]
  exact Bool.false_ne_true
 have hnew : List.foldl (fun x1 x2=>x1 ++ x2) #[] (Tj (if its.toArray.isEmpty = true then 0 else k.toNat) its.toArray) = (Tj k.toNat its).flatten.toArray:=by
  have f0 : ∀ m : Nat,List.foldl (fun x1 x2=>x1 ++ x2) #[] (Tj m its.toArray) = (Tj m its).flatten.toArray:=fun m=>by
   have:=HR its m []
   rw [List.nil_append] at this
   exact this
  rw [f0]
  cases its with
  | nil=>simp
  | cons a r'=>rw [if_neg (by simp)]
 refine wpAny_binaryOp_repeat_ref (T:="list") (U:="int") (by decide) ⟨_,e,rfl⟩ (fun s'=>typeIs_int s' k t) noFill_list_mul F.fills_int_mul F.slot_int_rmul repeat_list F.slot_int_index.lookup
  (call_meets F.slot_int_rmul (typeIs_int s k t) F.entry_int_rmul (F.args_int_rmul_2 _ _) (int___rmul___int_list k t l its.toArray n)
   ⟨e,rfl,⟨_,e,rfl⟩,call_meets F.slot_list_mul ⟨_,e,rfl⟩ F.entry_list_mul (F.args_list_mul_2 _ _) (AutoListH.list___mul___list_int_3 l its.toArray n k t hfit hcap hlong) ⟨e,?_⟩⟩)
 rw [hnew]
 exact ⟨.ref _,_,I.lnew (t':=s.toks) (r.rep k.toNat) (by rw [Nz,Nat.mul_comm]; exact hz),rfl,q _ I.fresh⟩
end
section
variable {prog : Program} {w : World} {A : Around} {E : Value → Shared → Prop} {s : Shared}
set_option maxRecDepth 100000 in
end
section
variable {X : Cx}
end
end L2
namespace Att
open PySem PySem.W PySem.Calls PyProof.Rows
theorem ints_of_wellAll {P : Params} {h : Heap} : ∀ (ns : List Int) (vs : List Value),WellAll P h vs (ns.map WData.int) → IntsAre vs ns:=by
 intro ns
 induction ns with
 | nil =>
   intro vs w
   rw [List.map_nil] at w
   cases w
   exact .nil
 | cons n ns ih =>
   intro vs w
   rw [U1] at w
   cases w with
   | cons a b =>
     cases a
     exact .cons _ _ (ih _ b)
theorem script_of {l : OpenLaw} {n : Nat} (hn : l.most = some n) {P : Params} {h : Heap} {args : List WData} {vals : List Value}
 (hpre : l.row.toRowW.claim.pre args = true) (hwl : WellAll P h vals args) :
 ∃ a vs ns,vals = [Value.ref a] ∧ args = [WData.list (ns.map WData.int)] ∧ h.get? a = some { cls:=.type "list",data:=.seq vs.toArray } ∧ IntsAre vs ns ∧ ns.length ≤ n:=by
 have hsh : WShape.hasAll [] args [.list .int] = true:=(pre_splitW hpre).1
 have hc : l.pre.holds [] { args:=args } = true:=(pre_splitW hpre).2
 obtain ⟨d,r,rfl,h1,h2⟩:=hasAllW_cons hsh
 obtain rfl:=hasAllW_nil h2
 obtain ⟨xs,rfl,h3⟩:=hasW_list h1
 obtain ⟨ns,rfl⟩:=items_int h3
 have hlen : ns.length ≤ n:=by
  unfold OpenLaw.pre at hc
  have h4 : (WTm.not (.lt (.lit (.int (n : Int))) (.len (.arg 0)))).holds [] { args:=[.list (ns.map .int)] } = true:=by
   have h4:=(holds_andW hc).1
   rw [hn] at h4
   exact h4
  have h5:=condW_of h4 (w_not (w_lt w_lit (w_len_list (w_arg rfl))))
  rw [TC] at h5
  refine Nat.le_of_not_lt fun q=>?_
  have q' : (n : Int) < ((ns.length : Nat) : Int):=by lia
  first
   | (rw [decide_eq_true q'] at h5; exact absurd h5 (by decide))
   | (simp at h5; lia)
 cases hwl with
 | cons w1 w2 =>
   cases w2
   cases w1 with
   | list ho hall=>exact ⟨_,_,ns,rfl,rfl,ho,ints_of_wellAll ns _ hall,hlen⟩
theorem post_true (l : OpenLaw) (args : List WData) : l.row.toRowW.claim.post args (.bool true) args = true :=
 postW_of (r:=l.row.toRowW) (X:=(true == true))
  (show WShape.has [] (.bool true) .bool = true by first | rfl | decide | simp [WShape.has,WShape.arms,WShape.armsAll])
  (show (WTm.eq .res (.lit (.bool true))).value [] { args:=args,res:=some (.bool true),after:=args } = some (.bool (true == true)) from w_eq_bool (w_res rfl) w_lit) rfl
theorem attach_call {l : OpenLaw} {n : Nat} {q : Program} {loose : List Str} {XP : (Str → Option Value) → Heap → Prop} {YP : World → Heap → Prop} {d : DefRec}
 (hn : l.most = some n) (hdf : d.params.defaults = [])
 (call : ∀ (w : World) (s₀ s₁ : Shared) (mg mb : Str → Option Value) (fa : Addr) (o : Obj) (pm cd doc : Value) (a : Addr) (vs : List Value) (ns : List Int),
  Ground q loose [] XP w s₀ mg mb s₁.heap → YP w s₁.heap →
  s₁.heap.get? fa = some o → o.data = .func (docDef d.name d.params d.body d.scope pm cd doc) → s₁.heap.CodeRec cd d.name → mg d.name = some (.ref fa) →
  s₁.heap.get? a = some { cls:=.type "list",data:=.seq vs.toArray } → IntsAre vs ns → ns.length ≤ n → s₁.gens = #[] →
  codeAny (model l.prog w) callerA (.call (.ref fa) ⟨[.ref a],[]⟩) (fun r s'=>r = .ok (.ret (.bool true)) ∧ OldK s₁.heap s'.heap ∧ s'.os = s₁.os ∧ AllBare s'.gens) s₁) :
 WalkO q loose XP YP l.row.toRowW d [] (fun f vs=>PySem.call f vs):=by
 intro w s₀ s₁ mg mb G Y fa o pm cd doc dV kV ho hd hcd hD hmg hg args vals as hpre hlay hrd hwl hlo
 obtain rfl : dV = .none:=Dflts.none hD hdf
 obtain rfl : kV = .none:=Dflts.noKw hD
 obtain ⟨a,vs,ns,rfl,rfl,hobj,hints,hlen⟩:=script_of hn hpre hwl
 refine enter_call (codeAny_mono (call w s₀ s₁ mg mb fa o pm cd doc a vs ns G Y ho (fd_plain hd) hcd hmg hobj hints hlen hg) fun r s' hq=>?_)
 obtain ⟨rfl,h2,h3,h4⟩:=hq
 exact ⟨.inl ⟨.bool true,.bool true,[],rfl,fun _=>rfl,.bool true,post_true l _,fun _=>⟨List.Pairwise.nil,fun _ hm=>(nomatch hm)⟩⟩,h2,h3,h4⟩
section
variable {prog : Program} {w : World} {A : Around} {E : Value → Shared → Prop} {s : Shared} {K : Frag}
end
end Att
namespace L2
open PySem PySem.Spec PyProof.Rows
theorem Lu {vs : List Value} {ns : List Int} (h : IntsAre vs ns) : AH (ns.map V.int) vs:=by
 induction h with
 | nil=>exact .nil
 | cons n t h ih=>exact .cons ⟨t,rfl⟩ ih
def PL (H : Hp) : Prop:=∀ b,H b = none ∨ ∃ o xs,H b = some (.frz o (.lst xs))
theorem MT {P : Program} {w : World} {K : SI} {mg mb : Str → Option Value} {CX : CXT} {k : Nat} {fa a : Addr} {fd : FuncData} {x : Str} {sp : Sp} {s₁ : Shared} {vs : List Value} {ns : List Int}
 (KX : K.In s₁.heap) (hns : s₁.heap.Ns mainGlobals mg) (hb : s₁.heap.Ns builtinsNs mb) (hbb : ∀ x : Str,x ≠ "__name__" → mb x = bootBuiltins x) (hlim : s₁.heap.NoLimit) (hsee : s₁.heap.NoSeer) (hg : s₁.gens = #[])
 (ha : s₁.heap.get? a = some { cls:=.type "list",data:=.seq vs.toArray }) (hi : IntsAre vs ns) (hl : ns.length ≤ sizeLine) (hr : Cf k callerA)
 (F : ∀ base : Heap,K.In base → base.Ns mainGlobals mg → AF P w K mg base CX k fa fd [x] sp) (hbind : ∀ (s : Shared) (u : Value),BindsTo s fd ⟨[u],[]⟩ [(x,u)])
 (hsp : ∀ H : Hp,PL H → SqL K H a (ns.map V.int) → sp [.ref a] H (fun v _=>v = .bl true) fun _ _ _=>False)
 (hCX : ∀ H e s',CX [] H s₁ (fun _ _ _=>False) e s' → False) :
 codeAny (model P w) callerA (.call (.ref fa) ⟨[.ref a],[]⟩) (fun r s'=>r = .ok (.ret (.bool true)) ∧ OldK s₁.heap s'.heap ∧ s'.os = s₁.os ∧ AllBare s'.gens) s₁:=by
 have rv:=Lu hi
 have lenV:=hi.length
 -- from an abstract heap in which nothing but the script may be tracked
 have core : ∀ H : Hp,PL H → SqL K H a (ns.map V.int) → HOk P w H s₁.heap → (∀ b,H b ≠ none → b = a) → (H a ≠ none → K.lookup a = none) →
  codeAny (model P w) callerA (.call (.ref fa) ⟨[.ref a],[]⟩) (fun r s'=>r = .ok (.ret (.bool true)) ∧ OldK s₁.heap s'.heap ∧ s'.os = s₁.os ∧ AllBare s'.gens) s₁:=by
  intro H hO hS hok hA hK
  have base_of : ∀ {b : Addr} {o : Obj},s₁.heap.get? b = some o → H b = none → (Hy s₁.heap H).get? b = some o:=fun e n=>MX e n
  have noA : ∀ {b : Addr} {o : Obj} {es : Array DictEntry} {ep : Nat},s₁.heap.get? b = some o → o.data = .dict es ep → H b = none:=fun {b o es ep} e d=>by
   cases q : H b with
   | none=>rfl
   | some u =>
     have e' : b = a:=hA b (by rw [q]; simp)
     subst e'
     rw [ha] at e; cases e
     have d' : Data.seq vs.toArray _ = Data.dict es ep:=d
     cases d'
  have nsK : ∀ {b : Addr} {m : Str → Option Value},s₁.heap.Ns b m → (Hy s₁.heap H).Ns b m:=fun {b m} ⟨o,es,ep,e,d,r⟩=>⟨o,es,ep,base_of e (noA e d),d,r⟩
  have hKb : K.In (Hy s₁.heap H):=fun b o e=>base_of (KX b o e) (by
   cases q : H b with
   | none=>rfl
   | some u =>
     have e' : b = a:=hA b (by rw [q]; simp)
     subst e'
     rw [hK (by rw [q]; simp)] at e; cases e)
  have seerK : (Hy s₁.heap H).NoSeer:=⟨let ⟨mc,x,y⟩:=hsee.statics; ⟨mc,nsK x,y⟩,let ⟨mm,x,y⟩:=hsee.mods; ⟨mm,nsK x,y⟩,let ⟨mi,x,y⟩:=hsee.imp; ⟨mi,nsK x,y⟩,by
   obtain ⟨mg',bm,ob,x,y,z,u,v⟩:=hsee.main
   refine ⟨mg',bm,ob,nsK x,y,base_of z ?_,u,v⟩
   cases q : H bm with
   | none=>rfl
   | some o =>
     have e' : bm = a:=hA bm (by rw [q]; simp)
     subst e'
     rw [ha] at z
     cases z
     have u' : Value.type "list" = Value.type "module":=u
     exact absurd u' (by decide)⟩
  have hM : Mod K mg (Hy s₁.heap H):=⟨hKb,nsK hns,⟨mb,nsK hb,hbb⟩,let ⟨mc,h1,h2⟩:=hlim; ⟨mc,nsK h1,h2⟩,seerK⟩
  have e0 : M8 P w K mg (Hy s₁.heap H) callerA [] s₁ H:=⟨rfl,hM,fun b o e=>Nx e,Nat.le_of_eq (LU _ _),trivial,fun b hb=>absurd (show b ∈ ([] : List Addr) from hb) (by simp),hok,.of_eq hg⟩
  refine codeAny_mono ((F _ hKb (nsK hns)).run callerA [] s₁ H ⟨[.ref a],[]⟩ [.ref a] [.ref a] _ _ hr e0 (hbind s₁ (.ref a)) (.cons rfl .nil) (hsp H hO hS)) fun r s' h=>?_
  cases r with
  | error e=>exact (hCX H e s' h).elim
  | ok fl =>
    cases fl with
    | next=>exact False.elim h
    | brk=>exact False.elim h
    | cont=>exact False.elim h
    | ret u =>
      obtain ⟨v,H',os,bare,un,hok',r',q⟩:=h
      have q' : v = .bl true:=q
      subst q'
      obtain rfl : u = Value.bool true:=r'
      refine ⟨rfl,OldK.of_keep fun b o e=>?_,os,bare⟩
      cases q : H b with
      | none=>exact un.keep b o e q (by intro z; exact absurd (show b ∈ ([] : List Addr) from z) (by simp)) (by simp)
      | some u =>
        rcases hO b with z | ⟨ob,xs,z⟩
        ·rw [q] at z; cases z
        ·have z2:=un.frzs b ob _ z
         obtain ⟨e1,_⟩:=hok b _ z
         obtain ⟨e2,_⟩:=hok' b _ z2
         rw [e] at e1; cases e1
         exact e2
 cases hk : K.lookup a with
 | some o =>
   -- the script is one of the module's own objects
   have e:=KX a o hk
   rw [ha] at e
   cases e
   refine core (fun _=>none) (fun _=>.inl rfl) (.inr ⟨_,vs.toArray,_,hk,rfl,rfl,rfl,by rw [TK,lenV]; exact hl,by simpa using rv⟩) (fun b u z=>by have z' : (none : Option HO) = some u:=z; cases z') (fun b z=>absurd rfl z) fun z=>absurd rfl z
 | none =>
   refine core (fun b=>if b = a then some (.frz { cls:=.type "list",data:=.seq vs.toArray } (.lst (ns.map V.int))) else none) (fun b=>?_) (.inl (.inr ⟨{ cls:=.type "list",data:=.seq vs.toArray },if_pos rfl⟩)) (fun b u z=>?_) (fun b z=>?_) fun _=>hk
   ·by_cases hb : b = a
    ·exact .inr ⟨_,_,if_pos hb⟩
    ·exact .inl (if_neg hb)
   ·by_cases hb : b = a
    ·have z':=(if_pos hb).symm.trans z
     cases z'
     subst hb
     exact ⟨ha,by rw [TC]; exact hl,vs,_,rv,ha⟩
    ·have z':=(if_neg hb).symm.trans z
     cases z'
   ·by_cases hb : b = a
    ·exact hb
    ·exact absurd (if_neg hb) z
end L2
namespace L2
open PySem PySem.Spec PyProof.Rows
theorem Nf {l : U2} {n k : Nat} {q : Program} {loose : List Str} {XP : (Str → Option Value) → Heap → Prop} {YP : World → Heap → Prop} {d : DefRec} {K : Params → SI} {CX : World → CXT} {sp : World → Sp} {x : Str}
 (hI : importsNone q = true) (hn : l.most = some n) (hn2 : n ≤ sizeLine) (hdf : d.params.defaults = []) (hr : Cf k callerA)
 (hY : ∀ (w : World) (h : Heap),YP w h → (K w.params).In h)
 (F : ∀ (w : World) (mg : Str → Option Value) (fa : Addr) (h : Heap),(K w.params).In h → h.Ns mainGlobals mg → mg d.name = some (.ref fa) →
  ∃ fd : FuncData,(∀ (s : Shared) (u : Value),BindsTo s fd ⟨[u],[]⟩ [(x,u)]) ∧
    ∀ base : Heap,(K w.params).In base → base.Ns mainGlobals mg → AF l.prog w (K w.params) mg base (CX w) k fa fd [x] (sp w))
 (hsp : ∀ (w : World) (H : Hp) (a : Addr) (ns : List Int),ns.length ≤ n → PL H → SqL (K w.params) H a (ns.map V.int) → sp w [.ref a] H (fun v _=>v = .bl true) fun _ _ _=>False)
 (hCX : ∀ (w : World) (H : Hp) (s : Shared) (e : Value) (s' : Shared),CX w [] H s (fun _ _ _=>False) e s' → False) :
 PySem.W.WalkO q loose XP YP l.row.toRowW d [] (fun f vs=>PySem.call f vs):=by
 refine Att.attach_call hn hdf fun w s₀ s₁ mg mb fa o pm cd doc a vs ns G Y ho hd hcd hmg hobj hints hlen hg=>?_
 have KX:=hY w _ Y
 obtain ⟨fd,hb,hF⟩:=F w mg fa _ KX G.T.g hmg
 exact MT KX G.T.g G.T.b G.T.builtins G.T.nolimit (G.T.seer hI) hg hobj hints (SJ hlen hn2) hr hF hb (fun H hO hS=>hsp w H a ns hlen hO hS) fun H e s'=>hCX w H s₁ e s'
end L2
namespace L2
open PySem PySem.Spec PyProof.Rows
def Ar (s : Stmt) : Arguments:=match s with
 | .FunctionDef _ a _ _ _ _ _ _ _ _=>a
 | _=>{ posonlyargs:=[],args:=[],vararg:=none,kwonlyargs:=[],kw_defaults:=[],kwarg:=none,defaults:=[] }
def Ao (s : Stmt) : List Stmt:=match s with
 | .FunctionDef _ _ b _ _ _ _ _ _ _=>b
 | _=>[]
def Ac (s : Stmt) : Scope:=match s with
 | .FunctionDef _ _ _ _ _ _ sc _ _ _=>sc
 | _=>{ kind:=.function,names:=[],isGenerator:=false,isCoroutine:=false }
abbrev CX0 : CXT:=fun _ _ _ _ _ _=>False
abbrev E0 : XK:=fun _ _ _=>False
theorem O7 {X : Cx} : FE CX0 X E0:=fun _ _ _ _ _ _ _ h=>h.elim
structure Fun (K : SI) (x qual : Str) (st : Stmt) (f : Addr) (fd : FuncData) : Prop where
 ex : ∃ (oc : Value) (od : Option Addr) (kV doc pm : Value) (an : Option Addr) (cdv ct : Value) (osl : Array (Option Value)),
  fd = TH x qual (Ar st) (Ao st) (Ac st) .none kV doc pm an cdv ct ∧ K.lookup f = some ⟨oc,od,.func fd,osl⟩ ∧ TJ K cdv qual = true
 kp : T9 K (.ref f) = true
section
variable {P : Program} {w : World} {K : SI} {mg : Str → Option Value} {base : Heap}
theorem Fun.ok {x qual : Str} {st : Stmt} {f : Addr} {fd : FuncData} {N ps : List Str} {k : Nat} {sp : Sp} (F : Fun K x qual st f fd) (S : Ax N ps (Ac st)) (len : ∀ vs H Q E,sp vs H Q E → vs.length = ps.length)
 (hbody : ∀ (cdv : Value) (A : Around) (outer : List Env) (s : Shared) (H : Hp) (vs : List V) (Q : VK) (E : XK),Cf k (A.deeper (envOfC qual (Ac st) s.heap.objs.size f cdv)) → sp vs H Q E →
  ∃ t,PSs (DP CX0 P w K mg base N qual (Ac st) f cdv A outer s H E).nox (Ao st) t ∧ t { nx:=fun _ H'=>Q .non H',rt:=Q } (DN N vs) H) : AF P w K mg base CX0 (k + 1) f fd ps sp:=by
 obtain ⟨oc,od,kV,doc,pm,an,cdv,ct,osl,rfl,lk,hcd⟩:=F.ex
 refine Ob lk hcd S len fun A outer s H vs Q E hr hsp=>?_
 obtain ⟨t,h,q⟩:=hbody cdv A outer s H vs Q E hr hsp
 exact ⟨t,h.nox,q⟩
theorem Fun.binds {x qual : Str} {st : Stmt} {f : Addr} {fd : FuncData} {ps : List Str} (F : Fun K x qual st f fd)
 (h : ∀ (kV doc pm : Value) (an : Option Addr) (cdv ct : Value) (us : List Value),us.length = ps.length → bindArgs (TH x qual (Ar st) (Ao st) (Ac st) .none kV doc pm an cdv ct) ⟨us,[]⟩ = pure (ps.zip us)) : Cz K fd ps []:=by
 obtain ⟨oc,od,kV,doc,pm,an,cdv,ct,osl,rfl,lk,hcd⟩:=F.ex
 exact .all (h kV doc pm an cdv ct)
theorem AI {x qual : Str} {st : Stmt} {f : Addr} {oc : Value} {od an : Option Addr} {osl : Array (Option Value)} {kV doc pm cdv ct : Value} (l : K.lookup f = some ⟨oc,od,.func (TH x qual (Ar st) (Ao st) (Ac st) .none kV doc pm an cdv ct),osl⟩)
 (c : TJ K cdv qual = true) (k : T9 K (.ref f) = true) : Fun K x qual st f (TH x qual (Ar st) (Ao st) (Ac st) .none kV doc pm an cdv ct):=⟨⟨oc,od,kV,doc,pm,an,cdv,ct,osl,rfl,l,c⟩,k⟩
end
theorem Br {n : Nat} (h : n ≤ 1000) : n < sizeLine:=U3 h (by decide)
section
variable {X : Cx}
theorem pv (i : Nat) {x : Str} {pos : Pos} (hN : X.N[i]? = some x:=by rfl) (hv : Vis X.env.scope x:=by first | exact Or.inl rfl | exact Or.inr (Or.inl rfl) | exact Or.inr (Or.inr rfl)) (hd : (x == ("__debug__" : Str)) = false:=by decide)
 (hcd : (x == ("__classdict__" : Str)) = false:=by decide) : PE X (.Name x pos) (Ij i):=ME hN hv hd hcd
end
theorem AR {A B : Prop} (h : B) : if false = true then A else B:=by
 rw [if_neg Bool.false_ne_true]
 exact h
theorem Bv {A B : Prop} (h : A) : if true = true then A else B:=by
 rw [if_pos rfl]
 exact h
theorem Hv {c A B : Prop} [Decidable c] (h1 : c → A) (h2 : ¬ c → B) : if c then A else B:=by
 by_cases h : c
 ·rw [if_pos h]
  exact h1 h
 ·rw [if_neg h]
  exact h2 h
def Ad (H H' : Hp) : Prop:=∀ b o,H b = some o → H' b = some o
theorem Ad.refl (H : Hp) : Ad H H:=fun _ _ h=>h
theorem Ad.trans {H H1 H2 : Hp} (a : Ad H H1) (b : Ad H1 H2) : Ad H H2:=fun c o h=>b c o (a c o h)
theorem Ad.seq {K : SI} {H H' : Hp} {a : Addr} {xs : List V} (e : Ad H H') (h : SqL K H a xs) : SqL K H' a xs:=by
 rcases h with (h | ⟨o,h⟩) | h
 ·exact .inl (.inl (e _ _ h))
 ·exact .inl (.inr ⟨o,e _ _ h⟩)
 ·exact .inr h
end L2
namespace L2
open PySem PySem.Spec PyProof.Rows
section
variable {κ : Type} [DecidableEq κ]
end
theorem Qm {P : Program} {w : World} {k : Key} {u : Value} (r : Ba (kV k) u) : (Dg P w).is k u = true:=by
 cases k with
 | inl i=>obtain ⟨t,e⟩:=(show ∃ t,u = Value.int i t from r); subst e; exact Jx P w i t
 | inr x=>obtain ⟨t,e⟩:=(show ∃ t,u = Value.str x t from r); subst e; exact Jw P w x t
theorem HP {P : Program} {w : World} : ∀ {ks : List Key} {us : List Value},AH (ks.map kV) us → ItemsAre (Dg P w) ks us
 | [],_,r=>by rw [List.map_nil] at r; cases r; exact .nil
 | k :: ks,_,r=>by
   rw [U1] at r
   cases r with
   | cons h t=>exact .cons (Qm h) (HP t)
section
variable {P : Program} {w : World} {H : Hp} {h : Heap} {a : Addr}
end
section
variable {X : Cx} {pins : List (Addr × Obj)} {σ : St} {H : Hp} {s : Shared} {a : Addr} {y v : V} {u r : Value} {o : Option V} {A : Around} {E : Value → Shared → Prop}
end
section
variable {X : Cx} {pins : List (Addr × Obj)} {σ : St} {H : Hp} {s : Shared} {a : Addr} {kvs : List (Key × V)} {k : Key} {u : Value} {A : Around} {E : Value → Shared → Prop}
end
section
variable {X : Cx} {o i e value : Expr} {pos pos' tpos : Pos} {td ty tv : TE}
end
section
variable {X : Cx} {pos : Pos}
end
structure M1 (X : Cx) (o : Expr) (m : Str) (apos : Pos) (e : Expr) (cpos : Pos) : Prop where
 base : attributeBase o m X.env (eval o X.env) = eval o X.env
 few : ((backTo cpos (starEach [e] X.env)).all (fun x=>!x.1) && (backToKw cpos (keywordEach [] X.env)).all (fun x=>x.1.isSome)
  && decide (([e] : List Expr).length + ([] : List Keyword).length + (if ([] : List Keyword).isEmpty then 0 else 1) < 30)) = true
 line : (apos.endLine == cpos.line) = true
 trees : backTo cpos (starEach [e] X.env) = [(false,eval e X.env)]
structure M2 (X : Cx) (o : Expr) (m : Str) (apos : Pos) (e f : Expr) (cpos : Pos) : Prop where
 base : attributeBase o m X.env (eval o X.env) = eval o X.env
 few : ((backTo cpos (starEach [e,f] X.env)).all (fun x=>!x.1) && (backToKw cpos (keywordEach [] X.env)).all (fun x=>x.1.isSome)
  && decide (([e,f] : List Expr).length + ([] : List Keyword).length + (if ([] : List Keyword).isEmpty then 0 else 1) < 30)) = true
 line : (apos.endLine == cpos.line) = true
 trees : backTo cpos (starEach [e,f] X.env) = [(false,eval e X.env),(false,eval f X.env)]
section
variable {X : Cx} {pins : List (Addr × Obj)} {σ : St} {H : Hp} {s : Shared} {a : Addr} {y d : V} {u r : Value} {o : Option V} {A : Around} {E : Value → Shared → Prop}
end
section
variable {X : Cx} {o e f : Expr} {apos cpos : Pos} {td ty tx : TE}
end
section
variable {X : Cx} {pins : List (Addr × Obj)} {σ : St} {H : Hp} {s : Shared} {a : Addr} {kvs : List (Key × V)} {A : Around} {E : Value → Shared → Prop}
end
section
variable {X : Cx} {pins : List (Addr × Obj)} {σ : St} {H : Hp} {s : Shared} {a : Addr} {y : V} {u : Value} {A : Around} {E : Value → Shared → Prop}
end
end L2
namespace Nm
def msr (a b : Int) : Int:=if b < 0 then -(U4 a b : Int) else (U4 a b : Int)
theorem gcd_pos {a b : Int} (hb : b ≠ 0) : 0 < U4 a b:=U5 fun h=>hb (Int.gcd_eq_zero_iff.mp h).2
theorem msr_ne {a b : Int} (hb : b ≠ 0) : msr a b ≠ 0:=by
 have:=gcd_pos (a:=a) hb
 unfold msr; split <;> lia
theorem fdiv_neg_dvd {a g : Int} (h : g ∣ a) : a.fdiv (-g) = -(a / g):=by
 obtain ⟨k,rfl⟩:=h
 by_cases hg : g = 0
 ·subst hg; simp
 ·rw [Int.mul_ediv_cancel_left _ hg,show g * k = -g * -k by rw [Int.neg_mul_neg],Int.mul_fdiv_cancel_left _ (by lia)]
theorem fdiv_dvd {a g : Int} (h : g ∣ a) : a.fdiv g = a / g:=by
 obtain ⟨k,rfl⟩:=h
 by_cases hg : g = 0
 ·subst hg; simp
 ·rw [Int.mul_ediv_cancel_left _ hg,Int.mul_fdiv_cancel_left _ hg]
theorem top_msr {a b : Int} (hb : b ≠ 0) : a.fdiv (msr a b) = (U6 a b).num:=by
 rw [Rat.num_divInt,Int.gcd_comm b a]
 have d : (U4 a b : Int) ∣ a:=Int.gcd_dvd_left ..
 unfold msr
 split
 ·rename_i h
  rw [fdiv_neg_dvd d,Int.sign_eq_neg_one_of_neg h,Int.neg_mul,Int.one_mul,Int.neg_ediv_of_dvd d]
 ·rw [fdiv_dvd d,Int.sign_eq_one_of_pos (by lia),Int.one_mul]
theorem bottom_msr {a b : Int} (hb : b ≠ 0) : b.fdiv (msr a b) = (U6 a b).den:=by
 rw [Rat.den_divInt,if_neg hb,Int.gcd_comm b a]
 have d : (U4 a b : Int) ∣ b:=Int.gcd_dvd_right ..
 rw [Int.natCast_ediv]
 unfold msr
 split
 ·rename_i h
  rw [fdiv_neg_dvd d,← Int.neg_ediv_of_dvd d,Int.ofNat_natAbs_of_nonpos (by lia)]
 ·rw [fdiv_dvd d,Int.natAbs_of_nonneg (by lia)]
theorem gcd_turn (x y : Int) : U4 y (x % y) = U4 x y:=by
 have e : x % y + y * (x / y) = x:=Int.emod_add_mul_ediv x y
 have h : U4 (x % y + y * (x / y)) y = U4 (x % y) y:=Int.gcd_add_mul_left_left ..
 rw [e] at h
 rw [h,Int.gcd_comm]
theorem abs_if (i : Int) : (if i < 0 then -i else i) = (i.natAbs : Int):=by split <;> lia
theorem num_mul (q : Rat) : ((q.num : Int) : Rat) = q * ((q.den : Int) : Rat):=by
 have hd : ((q.den : Nat) : Int) ≠ 0:=by have:=q.den_pos; lia
 have h1 : q = (q.num : Rat) / ((q.den : Int) : Rat):=by
  have:=U7 q
  rw [Rat.divInt_eq_div] at this
  exact this.symm
 have h0 : (((q.den : Int)) : Rat) ≠ 0:=fun z=>hd (by exact_mod_cast z)
 conv=>rhs; lhs; rw [h1]
 rw [Rat.div_mul_cancel h0]
theorem den_ne (q : Rat) : ((q.den : Nat) : Int) ≠ 0:=by have:=q.den_pos; lia
theorem cast_ne {a : Int} (h : a ≠ 0) : (a : Rat) ≠ 0:=fun z=>h (by exact_mod_cast z)
theorem div_eq {t b : Int} {q : Rat} (hb : b ≠ 0) (h : (t : Rat) = q * (b : Rat)) : U6 t b = q:=by
 rw [Rat.divInt_eq_div,h,Rat.mul_div_cancel (cast_ne hb)]
theorem plus_eq (p q : Rat) : U6 (p.num * q.den + q.num * p.den) (p.den * q.den) = p + q :=
 div_eq (Int.mul_ne_zero (den_ne p) (den_ne q)) (by rw [Rat.intCast_add,Rat.intCast_mul,Rat.intCast_mul,Rat.intCast_mul,num_mul p,num_mul q]; grind)
end Nm
namespace Cv
def ev : List Rat → Rat → Rat
 | [],_=>0
 | q :: r,x=>q + x * ev r x
def strip : List Rat → List Rat
 | []=>[]
 | q :: r=>if strip r = [] ∧ q = 0 then [] else q :: strip r
theorem strip_last : ∀ qs,strip qs ≠ [] → (strip qs)[(strip qs).length - 1]? ≠ some 0
 | [],h=>absurd rfl h
 | q :: r,h=>by
   have ih:=strip_last r
   unfold strip at h ⊢
   split at h
   ·exact absurd rfl h
   ·rename_i hc
    rw [if_neg hc]
    by_cases e : strip r = []
    ·rw [e]
     intro z
     have z' : q = 0:=by simpa using z
     exact hc ⟨e,z'⟩
    ·have hl : 0 < (strip r).length:=U8.mpr e
     rw [U9,show (strip r).length + 1 - 1 = ((strip r).length - 1) + 1 by lia,Ua]
     exact ih e
theorem take_strip : ∀ (qs : List Rat) (w : Nat),(∀ j q,w ≤ j → qs[j]? = some q → q = 0) → (w = 0 ∨ ∃ q,qs[w - 1]? = some q ∧ q ≠ 0) → qs.take w = strip qs
 | [],w,_,_=>by simp [strip]
 | p :: r,0,h,_=>by
   have ih:=take_strip r 0 (fun j q _ e=>h (j + 1) q (by lia) (by simpa using e)) (.inl rfl)
   have hp : p = 0:=h 0 p (T2 _) rfl
   unfold strip
   rw [← ih,if_pos ⟨rfl,hp⟩]; rfl
 | p :: r,w + 1,h,h2=>by
   have hz : ∀ j q,w ≤ j → r[j]? = some q → q = 0:=fun j q hj e=>h (j + 1) q (by lia) (by simpa using e)
   by_cases hw : w = 0
   ·subst hw
    have ih:=take_strip r 0 hz (.inl rfl)
    rcases h2 with z | ⟨q,e,hq⟩
    ·exact absurd z (by lia)
    ·have e' : p = q:=by simpa using e
     subst e'
     unfold strip
     rw [← ih,if_neg (fun z=>hq z.2)]; rfl
   ·have ih:=take_strip r w hz (by
     rcases h2 with z | ⟨q,e,hq⟩
     ·exact absurd z (by lia)
     ·refine .inr ⟨q,?_,hq⟩
      rw [show w + 1 - 1 = (w - 1) + 1 by lia,Ua] at e
      exact e)
    have hne : strip r ≠ []:=by
     rw [← ih]
     rcases h2 with z | ⟨q,e,hq⟩
     ·exact absurd z (by lia)
     ·rw [show w + 1 - 1 = (w - 1) + 1 by lia,Ua] at e
      intro z
      have hl : 0 < (r.take w).length:=by
       rw [Tp]
       have:=(SU.mp e).1
       lia
      rw [z] at hl; simp at hl
    unfold strip
    rw [← ih,if_neg (fun z=>hne (by rw [← ih]; exact z.1))]; rfl
def pw : List Rat → Rat → Rat → Rat
 | [],_,_=>0
 | q :: r,x,p=>q * p + pw r x (p * x)
end Cv
namespace L2
open PySem PySem.Spec PyProof.Rows
theorem EE {env : Env} : ∀ (names : List (Str × NameKind)) (acc : List (Str × Addr)),(∀ x ∈ names,x.2 = .free → ∃ c,env.cells.lookup x.1 = some c) →
 ∃ cl : List (Str × Addr),(forIn (m:=Sem) names acc fun x r=>do
  if x.2 == .free then pure (ForInStep.yield ((x.1,← cellOf env x.1) :: r)) else pure (ForInStep.yield r)) = pure cl ∧
  (∀ p ∈ cl,p ∈ acc ∨ env.cells.lookup p.1 = some p.2) ∧ (∀ p ∈ acc,p ∈ cl) ∧ ∀ x ∈ names,x.2 = .free → ∃ c,(x.1,c) ∈ cl
 | [],acc,_=>⟨acc,rfl,fun _ h=>.inl h,fun _ h=>h,fun _ h=>nomatch h⟩
 | x :: r,acc,h=>by
   by_cases hk : x.2 = .free
   ·obtain ⟨c,hc⟩:=h x SN hk
    obtain ⟨cl,e,h1,h2,h3⟩:=EE r ((x.1,c) :: acc) fun y hy=>h y (SO _ hy)
    refine ⟨cl,?_,fun p hp=>?_,fun p hp=>h2 p (SO _ hp),fun y hy hf=>?_⟩
    ·rw [List.forIn_cons]
     have z : (x.2 == NameKind.free) = true:=by rw [hk]; rfl
     have cell : cellOf env x.1 = pure c:=by unfold cellOf; rw [hc]
     simp only [z,if_true,cell]
     exact e
    ·rcases h1 p hp with q | q
     ·rcases SQ.mp q with rfl | q
      ·exact .inr hc
      ·exact .inl q
     ·exact .inr q
    ·rcases SQ.mp hy with rfl | hy
     ·exact ⟨c,h2 _ SN⟩
     ·exact h3 y hy hf
   ·obtain ⟨cl,e,h1,h2,h3⟩:=EE r acc fun y hy=>h y (SO _ hy)
    refine ⟨cl,?_,h1,h2,fun y hy hf=>?_⟩
    ·rw [List.forIn_cons]
     have z : (x.2 == NameKind.free) = false:=by
      cases e : x.2 <;> first | rfl | exact absurd e hk
     simp only [z,Bool.false_eq_true,if_false]
     exact e
    ·rcases SQ.mp hy with rfl | hy
     ·exact absurd hf hk
     ·exact h3 y hy hf
theorem Et {x : Str} {c : Addr} : ∀ {cl : List (Str × Addr)},(x,c) ∈ cl → ∃ c',cl.lookup x = some c'
 | [],h=>nomatch h
 | (y,d) :: r,h=>by
   by_cases e : x = y
   ·subst e; exact ⟨d,by simp⟩
   ·rcases SQ.mp h with q | q
    ·cases q; exact absurd rfl e
    ·obtain ⟨c',q'⟩:=Et q
     refine ⟨c',?_⟩
     have : (x == y) = false:=by simpa using e
     rw [Ub,this]
     exact q'
theorem Dj {scope : Scope} {env : Env} (h : ∀ x ∈ scope.names,x.2 = .free → ∃ c,env.cells.lookup x.1 = some c) :
 ∃ cl : List (Str × Addr),closureFor scope env = pure cl ∧ (∀ x c,cl.lookup x = some c → env.cells.lookup x = some c) ∧ ∀ x ∈ scope.names,x.2 = .free → ∃ c,cl.lookup x.1 = some c:=by
 obtain ⟨cl,e,h1,_,h3⟩:=EE scope.names [] h
 refine ⟨cl,?_,fun x c q=>?_,fun x hx hf=>?_⟩
 ·unfold closureFor
  simp only [bind_pure]
  exact e
 ·rcases h1 _ (PySem.mem_of_lookup q) with z | z
  ·exact nomatch z
  ·exact z
 ·obtain ⟨c,hc⟩:=h3 x hx hf
  exact Et hc
theorem CC {env : Env} : ∀ {names : List (Str × NameKind)} {x : Str},names.lookup x = some .free →
 (names.map fun (n,k)=>if (k == NameKind.free && env.scope.kind == .function && env.kindOf n == some .cell) then (n,NameKind.cell) else (n,k)).lookup x = some .cell ∨
 (names.map fun (n,k)=>if (k == NameKind.free && env.scope.kind == .function && env.kindOf n == some .cell) then (n,NameKind.cell) else (n,k)).lookup x = some .free
 | [],_,h=>by simp at h
 | (n,k) :: r,x,h=>by
   have ih:=@CC env r x
   show Uc x ((if (k == NameKind.free && env.scope.kind == .function && env.kindOf n == some .cell) = true then (n,NameKind.cell) else (n,k)) :: _) = _ ∨ Uc x ((if (k == NameKind.free && env.scope.kind == .function && env.kindOf n == some .cell) = true then (n,NameKind.cell) else (n,k)) :: _) = _
   cases hx : x == n with
   | true =>
     simp only [Ub,hx] at h
     cases h
     by_cases hc : (NameKind.free == NameKind.free && env.scope.kind == .function && env.kindOf n == some .cell) = true
     ·rw [if_pos hc]; simp [Ub,hx]
     ·rw [if_neg hc]; simp [Ub,hx]
   | false =>
     simp only [Ub,hx] at h
     by_cases hc : (k == NameKind.free && env.scope.kind == .function && env.kindOf n == some .cell) = true
     ·rw [if_pos hc]; simp only [Ub,hx]; exact ih h
     ·rw [if_neg hc]; simp only [Ub,hx]; exact ih h
theorem EL {env : Env} {x : Str} : ∀ {names : List (Str × NameKind)},(∀ y ∈ names,y.2 ≠ .cell) →
 ((names.map fun (n,k)=>if (k == NameKind.free && env.scope.kind == .function && env.kindOf n == some .cell) then (n,NameKind.cell) else (n,k)).lookup x = some .cell ∨
  (names.map fun (n,k)=>if (k == NameKind.free && env.scope.kind == .function && env.kindOf n == some .cell) then (n,NameKind.cell) else (n,k)).lookup x = some .free) → (x,NameKind.free) ∈ names
 | [],_,h=>by simp at h
 | (n,k) :: r,hc,h=>by
   have ih:=@EL env x r fun y hy=>hc y (SO _ hy)
   have hk : k ≠ .cell:=hc (n,k) SN
   change Uc x ((if (k == NameKind.free && env.scope.kind == .function && env.kindOf n == some .cell) = true then (n,NameKind.cell) else (n,k)) :: _) = _ ∨ Uc x ((if (k == NameKind.free && env.scope.kind == .function && env.kindOf n == some .cell) = true then (n,NameKind.cell) else (n,k)) :: _) = _ at h
   cases hx : x == n with
   | true =>
     have e : x = n:=by simpa using hx
     subst e
     by_cases hq : (k == NameKind.free && env.scope.kind == .function && env.kindOf x == some .cell) = true
     ·have : k = .free:=by
       cases k <;> first | rfl | (simp at hq)
      subst this; exact SN
     ·rw [if_neg hq] at h
      simp only [Ub,hx] at h
      rcases h with h | h
      ·cases h; exact absurd rfl hk
      ·cases h; exact SN
   | false =>
     refine SO _ (ih ?_)
     by_cases hq : (k == NameKind.free && env.scope.kind == .function && env.kindOf n == some .cell) = true
     ·rw [if_pos hq] at h; simpa only [Ub,hx] using h
     ·rw [if_neg hq] at h; simpa only [Ub,hx] using h
def AO (X : Cx) (N : List Str) (scope : Scope) (cl : List (Str × Addr)) (C : Addr) (s : Shared) (H : Hp) (fp : List Addr) : Cx :=
 { prog:=X.prog,w:=X.w,K:=X.K,mg:=X.mg,base:=X.base,A:=X.A,N:=N,s₀:=s,H₀:=H,env:=compEnvC scope cl C X.env,outer:=X.stack,stack:=X.stack,ex:=fp,
   fn:=fun _=>false,calm:=X.calm,pn:=[],xe:=fun _ _=>False }
def cS (nt : Nat) (js : List Nat) (σ : St) : St:=Tj nt none ++ js.map fun i=>σ.getD i none
abbrev CI (ys : List Value) : Obj:={ cls:=.type "list",data:=.seq ys.toArray ys.length }
theorem Fc {prog : Program} {w : World} {A : Around} {R : Result → Shared → Prop} {s : Shared} {elt target iter : Expr} {ifs : List Expr} {scope : Scope} {pos : Pos} {it acc : Value} {env : Env} (I : Nat → Shared → Prop)
 (turn : ∀ n s,I n s → wpAny (model prog w) A (pyNext it) (fun r s₁=>match r with
  | none=>R (.ok .next) s₁
  | some v=>wpAny (model prog w) A (letOwnedTupleGo target it v) (fun _ s₁'=>wpAny (model prog w) A (assign target env v) (fun _ s₂ =>
   wpAny (model prog w) A (forIn ifs true fun c r=>if r = true then do let ok ← isTrue c env (eval c env); pure (ForInStep.yield ok) else pure (ForInStep.yield r)) (fun ok s₃ =>
    if ok = true then wpAny (model prog w) A (eval elt env) (fun x s₄ =>
     wpAny (model prog w) A (call (.builtin "list.append") [acc,x]) (fun _ s₅=>∃ m,m < n ∧ I m s₅) (fun _ _=>False) s₄) (fun _ _=>False) s₃
    else ∃ m,m < n ∧ I m s₃) (fun _ _=>False) s₂) (fun _ _=>False) s₁') (fun _ _=>False) s₁) (fun _ _=>False) s)
 (n : Nat) (h : I n s) :
 codeAny (model prog w) A (.compLoop (.ListComp elt [⟨target,iter,ifs,0⟩] scope pos) 0 it acc env) R s:=by
 refine codeAny_loop rfl I (fun n s hI=>?_) n h
 show wpAny _ A ((compTurn (.ListComp elt [⟨target,iter,ifs,0⟩] scope pos) 0 it acc env).onRaise (fun x=>do noteFrame x env; theTreesLotGoes x)) _ _ s
 refine wpAny_noted ?_
 rw [compTurn_list]
 refine wpAny_bind (wpAny_standAt (wpAny_bind (wpAny_mono (turn n s hI) (fun r s₁ h₁=>?_) fun _ _ h'=>h'.elim)))
 cases r with
 | none=>exact wpAny_pure h₁
 | some v =>
   refine wpAny_bind (wpAny_mono h₁ (fun _ s₁' h₁'=>?_) fun _ _ h'=>h'.elim)
   refine wpAny_bind (wpAny_mono h₁' (fun _ s₂ h₂=>wpAny_bind (wpAny_mono h₂ (fun ok s₃ h₃=>?_) fun _ _ h'=>h'.elim)) fun _ _ h'=>h'.elim)
   cases ok with
   | false=>exact wpAny_pure ⟨rfl,h₃⟩
   | true =>
     exact wpAny_bind (wpAny_bind (wpAny_mono h₃ (fun x s₄ h₄=>wpAny_bind (wpAny_mono h₄ (fun _ s₅ h₅=>wpAny_pure (wpAny_pure ⟨rfl,h₅⟩)) fun _ _ h'=>h'.elim)) fun _ _ h'=>h'.elim))
def PTs (X : Cx) (ifs : List Expr) (t : TT) : Prop :=
 ∀ (pins : List (Addr × Obj)) (s : Shared) (σ : St) (H : Hp) (Q : Bool → Hp → Prop),Inv X pins σ H s → t σ H Q →
   wpAny (model X.prog X.w) X.A (forIn ifs true fun c r=>if r = true then do let ok ← isTrue c X.env (eval c X.env); pure (ForInStep.yield ok) else pure (ForInStep.yield r)) (TP X pins σ Q) X.xe s
def Lv : TT:=fun _ H Q=>Q true H
theorem Bb {X : Cx} : PTs X [] Lv:=fun _ _ _ H _ I h=>wpAny_tests_nil ⟨H,I,h⟩
theorem KR {X : Cx} {c : Expr} {t : TT} (h : PT X c t) : PTs X [c] t:=fun pins s σ H Q I q=>wpAny_tests_one (h pins s σ H Q I q)
structure LcW (J : It) (n nt : Nat) (js : List Nat) (σ : St) (g : TG) (tc : TT) (te : TE) (Fin : List V → Hp → Prop) (W : Nat → List V → Hp → Prop) : Prop where
 go : ∀ i zs H,i < n → W i zs H → J.go i H ∧ zs.length < sizeLine
 step : ∀ i zs H x H',i < n → W i zs H → J.yld i H x H' → g x (cS nt js σ) H' fun σ2 H2=>tc σ2 H2 fun b H3=>if b = true then te σ2 H3 fun y H4=>W (i + 1) (zs ++ [y]) H4 else W (i + 1) zs H3
 stop : ∀ zs H,W n zs H → J.stop n H ∧ zs.length ≤ sizeLine ∧ Fin zs H
@[irreducible] def tLC (wi : TI) (nt : Nat) (js : List Nat) (g : TG) (tc : TT) (te : TE) : TE:=fun σ H Q=>wi σ H fun J H1 =>
 ∃ (n : Nat) (W : Nat → List V → Hp → Prop),W 0 [] H1 ∧ LcW J n nt js σ g tc te (fun zs H'=>∀ p,H' p = none → Q (.ref p) (upd H' p (.lst zs))) W
theorem BN {wi : TI} {nt : Nat} {js : List Nat} {g : TG} {tc : TT} {te : TE} {σ : St} {H : Hp} {Q : VK}
 (h : wi σ H fun J H1=>∃ (n : Nat) (W : Nat → List V → Hp → Prop),W 0 [] H1 ∧ LcW J n nt js σ g tc te (fun zs H'=>∀ p,H' p = none → Q (.ref p) (upd H' p (.lst zs))) W) : tLC wi nt js g tc te σ H Q:=by
 unfold tLC; exact h
theorem MS {wi : TI} {nt : Nat} {js : List Nat} {g : TG} {tc : TT} {te : TE} {σ : St} {H : Hp} {Q : VK} (h : tLC wi nt js g tc te σ H Q) :
 wi σ H fun J H1=>∃ (n : Nat) (W : Nat → List V → Hp → Prop),W 0 [] H1 ∧ LcW J n nt js σ g tc te (fun zs H'=>∀ p,H' p = none → Q (.ref p) (upd H' p (.lst zs))) W:=by
 unfold tLC at h; exact h
structure AQ (X : Cx) (N : List Str) (nt : Nat) (js : List Nat) (scope : Scope) : Prop where
 kind : scope.kind = .function
 nocell : ∀ y ∈ scope.names,y.2 ≠ .cell
 names : ∀ y ∈ scope.names,y.2 = .local → scope.names.lookup y.1 = some .local
 free : ∀ y ∈ scope.names,y.2 = .free → X.env.kindOf y.1 = some .cell ∨ X.env.kindOf y.1 = some .free
 len : N.length = nt + js.length
 outer : ∀ j i,js[j]? = some i → ∃ x,N[nt + j]? = some x ∧ X.N[i]? = some x ∧ scope.names.lookup x = some .free
def IT (NX : List Str) (sc : Scope) (N : List Str) (nt : Nat) (js : List Nat) (scope : Scope) : Bool :=
 decide (scope.kind = .function) && scope.names.all (fun y=>decide (y.2 ≠ .cell)) && scope.names.all (fun y=>decide (y.2 ≠ .local) || decide (scope.names.lookup y.1 = some .local)) &&
 scope.names.all (fun y=>decide (y.2 ≠ .free) || (decide (sc.names.lookup y.1 = some .cell) || decide (sc.names.lookup y.1 = some .free))) && decide (N.length = nt + js.length) &&
 (SA js.length).all fun j=>match js[j]?,N[nt + j]? with
  | some i,some x=>decide (NX[i]? = some x) && decide (scope.names.lookup x = some .free)
  | _,_=>false
theorem AQ.look {X : Cx} {NX N : List Str} {sc scope : Scope} {nt : Nat} {js : List Nat} (hN : X.N = NX) (hs : X.env.scope = sc) (h : IT NX sc N nt js scope = true) : AQ X N nt js scope:=by
 unfold IT at h
 simp only [Bool.and_eq_true,Ud,Bool.or_eq_true,decide_eq_true_eq] at h
 obtain ⟨⟨⟨⟨⟨h1,h2⟩,h3⟩,h4⟩,h5⟩,h6⟩:=h
 refine ⟨h1,h2,fun y hy hl=>(h3 y hy).resolve_left fun z=>z hl,fun y hy hf=>?_,h5,fun j i e=>?_⟩
 ·have q:=(h4 y hy).resolve_left fun z=>z hf
  rw [← hs] at q
  exact q
 ·have hj : j < js.length:=(SU.mp e).1
  have q:=h6 j (SH.mpr hj)
  rw [e] at q
  cases en : N[nt + j]? with
  | none=>rw [en] at q; cases q
  | some x =>
    rw [en] at q
    simp only [Bool.and_eq_true,decide_eq_true_eq] at q
    exact ⟨x,rfl,by rw [hN]; exact q.1,q.2⟩
section
variable {X : Cx} {N : List Str} {nt : Nat} {js : List Nat} {scope : Scope} {cl : List (Str × Addr)}
theorem HOk.track {P : Program} {w : World} {H : Hp} {h : Heap} {a : Addr} {o : HO} (x : HOk P w H h) (hn : H a = none) (new : BG P w (upd H a o) h a o) : HOk P w (upd H a o) h:=fun b u e=>by
 by_cases hb : b = a
 ·subst hb; rw [A9] at e; cases e; exact new
 ·rw [AA hb] at e
  exact (x b u e).stay (fun c v _ q=>q) (fun c q=>by rw [AA (Az q hn)]; exact q) fun c xs q=>by rw [AA (Az q hn)]; exact q
theorem JE {pins : List (Addr × Obj)} {σ : St} {H : Hp} {s : Shared} {C D : Addr} {h' : Heap} {tk : Nat} {fp : List Addr} {m : Str → Option Value} (I : Inv X pins σ H s) (ok : AQ X N nt js scope)
 (hcl : ∀ x c,cl.lookup x = some c → X.env.cells.lookup x = some c) (hcl2 : ∀ x ∈ scope.names,x.2 = .free → ∃ c,cl.lookup x.1 = some c)
 (hf : ∀ b ∈ fp,EF X pins H b) (ho : ∀ b ∈ fp,∃ o,s.heap.get? b = some o ∧ ∀ v,o.data ≠ .cell v)
 (hD : s.heap.objs.size ≤ D) (hC : s.heap.objs.size ≤ C) (hDC : D ≠ C) (k : ∀ b o,s.heap.get? b = some o → h'.get? b = some o) (hn : h'.Ns C m) (hd : h'.get? D = some (CI [])) :
 Inv (AO X N scope cl C s H fp) [(D,CI [])] (cS nt js σ) H { s with heap:=h',toks:=tk }:=by
 have lt : ∀ b ∈ fp,b < s.heap.objs.size:=fun b hb=>by obtain ⟨o,e,_⟩:=ho b hb; exact Heap.lt_size e
 have frlt : ∀ b ∈ frs X.stack,b < s.heap.objs.size:=fun b hb=>by
  obtain ⟨_,o,e,_⟩:=I.stack.mem hb
  exact Heap.lt_size e
 refine ⟨⟨I.ok.mod,ok.kind,I.ok.glob,I.ok.blt,hC,fun x y c h1 h2=>I.ok.inj x y c (hcl x c h1) (hcl y c h2),fun x hx=>?_,fun x c hx=>absurd hx Bool.false_ne_true,I.ok.hd,I.ok.frames,.inl rfl,fun b hb=>⟨?_,fun x c e=>(hf b hb).2.2.2.2.1 x c (hcl x c e)⟩,I.bs,
  SJ I.ok.bsz I.sz,fun b o e hb=>?_,fun b hb hs=>?_,I.stack,I.stkFree⟩,rfl,I.bare,Un.kept k,⟨m,hn,fun j x v h1 h2 h3=>?_⟩,fun x c e=>?_,I.hok.fresh hC,fun x c e=>I.freeC x c (hcl x c e),fun p hp=>?_,I.hok.kept k,?_⟩
 ·obtain ⟨c,hc⟩:=hcl2 (x,.free) (EL ok.nocell hx) rfl
  exact ⟨c,hc⟩
 ·exact Sz (Sx (lt b hb) hC)
 ·rcases (hf b hb).2.2.2.1 with z | z
  ·exact I.ok.noex b o e z
  ·exact absurd (Sx (Heap.lt_size e) (SJ I.ok.bsz z)) (Sy _)
 ·rcases SQ.mp (I.stkSub b hs) with z | z
  ·exact (hf b hb).2.1 z
  ·exact (hf b hb).2.2.1 z
 ·change N[j]? = some x at h1
  unfold cS at h2
  by_cases hj : j < nt
  ·rw [Tt (by simpa using hj),Tr] at h2
   rw [if_pos hj] at h2; cases h2
  ·rw [Tq (by simpa using Ue.mp hj),TF,Tu] at h2
   cases ei : js[j - nt]? with
   | none=>rw [ei] at h2; cases h2
   | some i =>
     rw [ei] at h2
     obtain ⟨y,e1,e2,e3⟩:=ok.outer _ i ei
     rw [show nt + (j - nt) = j by lia,h1] at e1
     cases e1
     have hv : σ[i]? = some (some v):=by
      simp only [Option.map_some,Su.injEq] at h2
      rw [Ug] at h2
      cases eσ : σ[i]? with
      | none=>rw [eσ] at h2; cases h2
      | some z=>rw [eσ] at h2; simp at h2; rw [h2]
     obtain ⟨m₀,_,hl⟩:=I.loc
     have kf:=ok.free (x,.free) (PySem.mem_of_lookup e3) rfl
     obtain ⟨u,r,l⟩:=hl i x v e2 hv (kf.elim (fun z=>.inr (.inl z)) fun z=>.inr (.inr z))
     refine ⟨u,r,.inr ⟨CC e3,?_⟩⟩
     rcases l with ⟨kl,_⟩ | ⟨_,c,ec,⟨oc,hoc,hod⟩⟩
     ·rcases kf with z | z <;> (rw [z] at kl; cases kl)
     ·obtain ⟨c',hc'⟩:=hcl2 (x,.free) (PySem.mem_of_lookup e3) rfl
      have e':=hcl x c' hc'
      rw [ec] at e'
      cases e'
      exact ⟨c,hc',oc,k _ _ hoc,hod⟩
 ·obtain ⟨v,oc,hoc,hod⟩:=I.cell x c (hcl x c e)
  exact ⟨v,oc,k _ _ hoc,hod⟩
 ·have e : p = (D,CI []):=by
   have hp' : p ∈ [(D,CI [])]:=hp
   simpa using hp'
  subst e
  refine ⟨hd,I.hok.fresh hD,hDC,fun hb=>absurd (Sx (frlt D hb) hD) (Sy _),fun v z=>by cases z⟩
 ·show (cS nt js σ).length = N.length
  unfold cS
  rw [Tz,TF,TC,ok.len]
end
end L2
namespace L2
open PySem PySem.Spec PyProof.Rows
def He (g : TG) (nt : Nat) : Prop:=∀ x σ H Q,g x σ H Q → g x σ H fun σ2 H2=>(σ2.length = σ.length ∧ σ2.drop nt = σ.drop nt) ∧ Q σ2 H2
theorem AD {i nt : Nat} (h : i < nt) : He (Ck i) nt:=fun x σ H Q q=>⟨⟨TQ,by
 apply Uh
 intro k
 rw [Ui,Ui,SW (by lia)]⟩,q⟩
section
variable {X : Cx} {N : List Str} {nt : Nat} {js : List Nat} {scope : Scope} {elt iter tg : Expr} {ifs : List Expr} {pos : Pos} {g : TG} {tc : TT} {te : TE} {wi : TI}
theorem Ge {σ σ2 : St} (hl : σ2.length = (cS nt js σ).length) (hd : σ2.drop nt = (cS nt js σ).drop nt) : ∀ (i : Nat) v,(cS nt js σ)[i]? = some (some v) → σ2[i]? = some (some v):=fun i v e=>by
 by_cases hi : i < nt
 ·unfold cS at e
  rw [Tt (by simpa using hi),Tr,if_pos hi] at e
  cases e
 ·have q : ((cS nt js σ).drop nt)[i - nt]? = some (some v):=by rw [Ui,show nt + (i - nt) = i by lia]; exact e
  rw [← hd,Ui,show nt + (i - nt) = i by lia] at q
  exact q
set_option maxHeartbeats 4000000 in
theorem JO {pins : List (Addr × Obj)} {σ : St} {H : Hp} {s₂ : Shared} {cl : List (Str × Addr)} {J : It} {fp : List Addr} {it : Addr} {tn : Nat → Heap → Prop} {E : Value → Shared → Prop} {Fin : List V → Hp → Prop} {W : Nat → List V → Hp → Prop} {nn : Nat}
 {RR : Value → Addr → Result → Shared → Prop} (hcalm : X.calm = true) (ok : AQ X N nt js scope)
 (hcl : ∀ x c,cl.lookup x = some c → X.env.cells.lookup x = some c) (hcl2 : ∀ x ∈ scope.names,x.2 = .free → ∃ c,cl.lookup x.1 = some c)
 (hg : ∀ cl C s H fp,PG (AO X N scope cl C s H fp) tg g) (hk : He g nt) (hc : ∀ cl C s H fp,PTs (AO X N scope cl C s H fp) ifs tc) (he : ∀ cl C s H fp,PE (AO X N scope cl C s H fp) elt te)
 (I : Inv X pins σ H s₂) (T : Ku X.prog X.w X.K tg J fp it tn) (st : tn 0 s₂.heap) (hf : ∀ b ∈ fp,EF X pins H b) (w0 : W 0 [] H) (lw : LcW J nn nt js σ g tc te Fin W)
 (hRR : ∀ D C s' H' zs m,Inv X pins σ (upd H' D (.lst zs)) s' → s'.heap.Ns C m → H' D = none → (upd H' D (.lst zs)) C = none → C ≠ X.env.locals → X.s₀.heap.objs.size ≤ C → (∀ x c,X.env.cells.lookup x = some c → c ≠ C) →
  (∀ p ∈ X.pn ++ pins,p.1 ≠ C) → Fin zs H' → RR (.ref D) C (.ok .next) s') :
 wpAny (model X.prog X.w) X.A (newList []) (fun acc s₃=>wpAny (model X.prog X.w) X.A (newFunctionEnv scope X.env.globals cl [] X.env.qual none .none (some X.env)) (fun cenv s₄ =>
  codeAny (model X.prog X.w) X.A (.compStart (.ListComp elt [⟨tg,iter,ifs,0⟩] scope pos) 0 (.ref it) acc { cenv with scope:=relabel scope X.env }) (RR acc cenv.locals) s₄) E s₃) E s₂:=by
 refine wpAny_newObj_type (wpAny_newFunctionEnv ok.nocell (by intro y hy; simp at hy) (fun h₁ hns₁ hsb₁=>?_) ok.kind)
 dsimp only at hns₁ hsb₁ ⊢
 generalize hH2 : s₂.heap.push { cls:=.type "list",dict:=none,data:=.seq ([] : List Value).toArray } = H2 at hns₁ hsb₁ ⊢
 have hC : H2.objs.size = s₂.heap.objs.size + 1:=by rw [← hH2,Heap.size_push]
 have hDC : s₂.heap.objs.size ≠ H2.objs.size:=by rw [hC]; exact Sz (Uj _)
 have hCle : s₂.heap.objs.size ≤ H2.objs.size:=by rw [hC]; exact Nat.le_succ _
 have below : ∀ b,b < s₂.heap.objs.size → b ≠ H2.objs.size ∧ b ≠ s₂.heap.objs.size:=fun b hb=>⟨by rw [hC]; exact Sz (Uk hb),Sz hb⟩
 have old : ∀ b o,s₂.heap.get? b = some o → h₁.get? b = some o:=fun b o e=>hsb₁.extBut b o (below b (Heap.lt_size e)).1 (Heap.get?_push_of_some _ (hH2 ▸ Heap.get?_push_of_some _ e))
 have hacc : h₁.get? s₂.heap.objs.size = some (CI []):=hsb₁.extBut _ _ hDC (Heap.get?_push_of_some _ (hH2 ▸ Heap.get?_push_size _ rfl))
 have ho:=T.obj 0 _ st
 have lt : ∀ b ∈ fp,b < s₂.heap.objs.size:=fun b hb=>by obtain ⟨o,e,_⟩:=ho b hb; exact Heap.lt_size e
 have loop : ∀ s₃ : Shared,s₃ = { s₂ with heap:=h₁,toks:=s₂.toks + ([] : List (Str × Value)).length } →
  codeAny (model X.prog X.w) X.A (.compLoop (.ListComp elt [⟨tg,iter,ifs,0⟩] scope pos) 0 (.ref it) (.ref s₂.heap.objs.size) (compEnvC scope cl H2.objs.size X.env)) (RR (.ref s₂.heap.objs.size) H2.objs.size) s₃:=by
  rintro s₃ rfl
  have I0 : Inv (AO X N scope cl H2.objs.size s₂ H fp) [(s₂.heap.objs.size,CI [])] (cS nt js σ) H { s₂ with heap:=h₁,toks:=s₂.toks + ([] : List (Str × Value)).length } :=
   JE I ok hcl hcl2 hf ho (T2 _) hCle hDC old hns₁ hacc
  have fpy : ∀ {H' : Hp} {ys : List Value},(∀ b ∈ fp,H' b = none) → ∀ b ∈ fp,EF (AO X N scope cl H2.objs.size s₂ H fp) [(s₂.heap.objs.size,CI ys)] H' b:=fun {H' ys} hn b hb =>
   ⟨hn b hb,(below b (lt b hb)).1,I0.ok.exfs b hb,.inl hb,(I0.ok.exf b hb).2,fun p hp=>by
    have hp' : p ∈ [(s₂.heap.objs.size,CI ys)]:=hp
    have e : p = (s₂.heap.objs.size,CI ys):=by simpa using hp'
    rw [e]; exact Ne.symm (below b (lt b hb)).2⟩
  refine Fc (fun n s'=>∃ i zs ys H',n = nn - i ∧ i ≤ nn ∧ Inv (AO X N scope cl H2.objs.size s₂ H fp) [(s₂.heap.objs.size,CI ys)] (cS nt js σ) H' s' ∧ AH zs ys ∧ tn i s'.heap ∧ (∀ b ∈ fp,H' b = none) ∧ W i zs H') ?_ nn
   ⟨0,[],[],H,rfl,T5 _,I0,.nil,T.keep 0 _ _ st (fun b _ o e=>old b o e),fun b hb=>(hf b hb).1,w0⟩
  rintro n s' ⟨i,zs,ys,H',hn0,hile,I',rv,st',fr',w'⟩
  by_cases hlt : i < nn
  case neg =>
   have hie : i = nn:=Nat.le_antisymm hile (Ue.mp hlt)
   rw [hie] at w' st'
   obtain ⟨stop,zl,fin⟩:=lw.stop zs H' w'
   refine thn (T.done (AO X N scope cl H2.objs.size s₂ H fp) rfl rfl rfl hcalm nn _ s' _ H' (fun _ _=>False) I' (fpy fr') st' stop) fun r s4 ⟨hr,I4⟩=>?_
   subst hr
   have zD:=(I4.pin (s₂.heap.objs.size,CI ys) (T4 _ (Ul.mpr rfl)))
   have u:=I4.base
   have u2 : Un (frs X.stack) fp H (upd H' s₂.heap.objs.size (.lst zs)) s₂.heap s4.heap :=
    ⟨u.keep,u.slot,fun b o q n hx=>by rw [AA (Sz (Heap.lt_size q))]; exact u.free b o q n hx,u.there,fun b xs q=>by rw [AA (Az (u.tups b xs q) zD.2.1)]; exact u.tups b xs q,
     fun b o xs q=>by rw [AA (Az (u.frzs b o xs q) zD.2.1)]; exact u.frzs b o xs q,fun b ps q=>by
      obtain ⟨more,e⟩:=u.tbls b ps q
      exact ⟨more,by rw [AA (Az e zD.2.1)]; exact e⟩⟩
   have hok2 : HOk X.prog X.w (upd H' s₂.heap.objs.size (.lst zs)) s4.heap:=HOk.track I4.hok zD.2.1 ⟨zl,ys,_,rv,zD.1⟩
   have I5 : Inv X pins σ (upd H' s₂.heap.objs.size (.lst zs)) s4:=I.call' I4.os u2 hok2 I4.bare fun b hb=>⟨(hf b hb).2.2.2.1,(hf b hb).2.1,(hf b hb).2.2.2.2.1,(hf b hb).2.2.2.2.2⟩
   obtain ⟨m,hn,_⟩:=I4.loc
   refine hRR _ _ s4 H' zs m I5 hn zD.2.1 ?_ ?_ (SJ I.sz hCle) ?_ ?_ fin
   ·rw [AA (Ne.symm hDC)]; exact I4.free
   ·exact SY (Sx I.lt hCle)
   ·intro x c e z
    obtain ⟨v,q⟩:=I.cell x c e
    exact absurd (Sx q.lt (by rw [z]; exact hCle)) (Sy _)
   ·intro p hp z
    exact absurd (Sx (Heap.lt_size (I.pin p hp).1) (by rw [z]; exact hCle)) (Sy _)
  case pos =>
   obtain ⟨go,zl⟩:=lw.go i zs H' hlt w'
   have step:=lw.step i zs H'
   refine thn (T.item (AO X N scope cl H2.objs.size s₂ H fp) rfl rfl rfl hcalm i _ s' _ H' (fun _ _=>False) I' (fpy fr') st' go) fun r s4 ⟨u,hr,h4⟩=>?_
   subst hr
   refine thn h4 fun _ s5 ⟨x,H5,I5,r5,y5,st5,fr5⟩=>?_
   have I5':=I5.pinned (fpy fr5) (T.obj _ _ st5)
   refine thn (hg cl _ s₂ H fp _ s5 _ H5 x u _ I5' r5 (hk _ _ _ _ (step x H5 hlt w' y5))) fun _ s6 ⟨σ6,H6,I6,⟨hl6,hd6⟩,q6⟩=>?_
   refine thn (hc cl _ s₂ H fp _ s6 σ6 H6 _ I6 q6) fun okb s7 ⟨H7,I7,q7⟩=>?_
   have frs' : ∀ {H8 : Hp} {σ8 : St} {s8 : Shared},Inv (AO X N scope cl H2.objs.size s₂ H fp) ([(s₂.heap.objs.size,CI ys)] ++ Fn fp s5.heap) σ8 H8 s8 → tn (i + 1) s8.heap ∧ ∀ b ∈ fp,H8 b = none:=fun {H8 σ8 s8} I8 =>
    ⟨T.keep _ _ _ st5 fun b hb o e=>(I8.pin (b,o) (T4 _ (T4 _ (Cp hb e)))).1,fun b hb=>by
     obtain ⟨o,e,d⟩:=T.obj _ _ st5 b hb
     exact (I8.pin (b,o) (T4 _ (T4 _ (Cp hb e)))).2.1⟩
   cases okb with
   | false =>
     rw [if_neg Bool.false_ne_true] at q7 ⊢
     obtain ⟨a1,a2⟩:=frs' I7
     exact ⟨nn - (i + 1),by rw [hn0]; exact Um hlt (Uj i),i + 1,zs,ys,H7,rfl,hlt,I7.unpinned.weak (by rw [hl6]) (Ge hl6 hd6),rv,a1,a2,q7⟩
   | true =>
     rw [if_pos rfl] at q7 ⊢
     refine thn (he cl _ s₂ H fp _ s7 σ6 H7 _ I7 q7) fun v s8 ⟨y,H8,I8,r8,q8⟩=>?_
     have zD:=(I8.pin (s₂.heap.objs.size,CI ys) (T4 _ (SS _ (Ul.mpr rfl))))
     have ylen : ys.length < sizeLine:=by rw [← rv.length]; exact zl
     obtain ⟨a1,a2⟩:=frs' I8
     refine append_at (hsz:=by rw [TK]; exact SK ylen) zD.1 fun h9 hs9 hD9=>?_
     have I8u : Inv (AO X N scope cl H2.objs.size s₂ H fp) [] (cS nt js σ) H8 s8:=(I8.pins_of (pins':=[]) fun p hp=>nomatch hp).weak (by rw [hl6]) (Ge hl6 hd6)
     have I9 : Inv (AO X N scope cl H2.objs.size s₂ H fp) [] (cS nt js σ) H8 { s8 with heap:=h9 }:=I8u.turned (t':=s8.toks) (it:=s₂.heap.objs.size) (fun b o hb e=>hs9.extBut b o hb e) zD.2.1 hDC (.inr (T2 _))
      (fun x c e z=>by
       obtain ⟨v,q⟩:=I.cell x c (hcl x c e)
       exact absurd (Sx q.lt (by rw [z]; exact T2 _)) (Sy _)) (fun p hp=>nomatch hp)
     refine ⟨nn - (i + 1),by rw [hn0]; exact Um hlt (Uj i),i + 1,zs ++ [y],ys ++ [v],H8,rfl,hlt,I9.pins_of (fun p hp=>?_),rv.snoc r8,T.keep _ _ _ a1 fun b hb o e=>hs9.extBut b o (below b (lt b hb)).2 e,a2,q8⟩
     have e : p = (s₂.heap.objs.size,CI (ys ++ [v])):=by simpa using hp
     subst e
     refine ⟨?_,zD.2.1,hDC,zD.2.2.2.1,fun v z=>by cases z⟩
     rw [hD9]
     show some ({ cls:=.type "list",data:=.seq (ys.toArray.push v) (ys.length + 1) } : Obj) = some { cls:=.type "list",data:=.seq (ys ++ [v]).toArray (ys ++ [v]).length }
     rw [Tz,TY,List.push_toArray]
 exact codeAny_compStart_list (loop _ rfl) (T.self _ 0 _ _ _ (T.keep 0 _ _ st (fun b _ o e=>old b o e)) (loop _ rfl))
theorem Cj (hcalm : X.calm = true) (ok : AQ X N nt js scope) (hi : PI X tg iter wi) (hg : ∀ cl C s H fp,PG (AO X N scope cl C s H fp) tg g) (hk : He g nt) (hc : ∀ cl C s H fp,PTs (AO X N scope cl C s H fp) ifs tc)
 (he : ∀ cl C s H fp,PE (AO X N scope cl C s H fp) elt te) (hs : ∀ x,foldedSetIterable iter X.env x = pure x:=by intro _; rfl) : PE X (.ListComp elt [⟨tg,iter,ifs,0⟩] scope pos) (tLC wi nt js g tc te):=by
 intro pins s σ H Q I h
 obtain ⟨cl,hclos,hcl,hcl2⟩:=Dj (scope:=scope) (env:=X.env) fun x hx hf=>I.ok.has x.1 (ok.free x hx hf)
 rw [eval_ListComp]
 refine wpAny_comprehension_free (use:=none) rfl hs hclos ok.kind ok.names ?_
 refine thn (hi pins s σ H _ I (MS h)) fun v s1 h1=>thn h1 fun itv s2 h2=>?_
 obtain ⟨it,fp,tn,J,H2,e,I2,T,st2,f2,nn,W,w0,lw⟩:=h2
 subst e
 refine JO (RR:=fun acc C=>compPost (model X.prog X.w) X.A X.xe none (EP X pins σ Q) acc C) hcalm ok hcl hcl2 hg hk hc he I2 T st2 f2 w0 lw ?_
 intro D C s' H' zs m I3 hn hDn hCn hCL hC0 hCc hCp fin
 exact ⟨m,hn,fun h'' hs''=>⟨.ref D,_,I3.turned (t':=s'.toks) (it:=C) (fun b o hb e=>hs''.extBut b o hb e) hCn hCL (.inr hC0) hCc hCp,rfl,fin D hDn⟩⟩
theorem KS {i : Nat} {y : Str} {py spos : Pos} (hcalm : X.calm = true) (hN : X.N.Nodup) (hi' : X.N[i]? = some y) (hy : X.env.kindOf y = some .local) (ok : AQ X N nt js scope) (hi : PI X tg iter wi) (hg : ∀ cl C s H fp,PG (AO X N scope cl C s H fp) tg g) (hk : He g nt)
 (hc : ∀ cl C s H fp,PTs (AO X N scope cl C s H fp) ifs tc) (he : ∀ cl C s H fp,PE (AO X N scope cl C s H fp) elt te)
 (hsw : swapsWith (.ListComp elt [⟨tg,iter,ifs,0⟩] scope pos) (some (.Name y py)) spos.line X.env = pure true) (hs : ∀ x,foldedSetIterable iter X.env x = pure x:=by intro _; rfl) :
 PS X (.Assign [.Name y py] (.ListComp elt [⟨tg,iter,ifs,0⟩] scope pos) spos) (Lz (tLC wi nt js g tc te) (Ck i)):=by
 intro pins s σ H D₀ I h
 obtain ⟨cl,hclos,hcl,hcl2⟩:=Dj (scope:=scope) (env:=X.env) fun x hx hf=>I.ok.has x.1 (ok.free x hx hf)
 rw [exec_Assign_Name_used _ _ _ _ hsw]
 refine wpAny_bind (wpAny_standAt (wpAny_bind ?_))
 show wpAny _ X.A (do let _ ← comprehension (.ListComp elt [⟨tg,iter,ifs,0⟩] scope pos) scope X.env _ (newList []) false (eval iter X.env) (some (assign (.Name y py) X.env))) _ _ s
 refine wpAny_bind (wpAny_mono (wpAny_comprehension_free (use:=some (assign (.Name y py) X.env)) (Q:=fun _ s'=>SP X pins D₀ .next s') rfl hs hclos ok.kind ok.names
  (thn (hi pins s σ H _ I (MS (show tLC wi nt js g tc te σ H fun x H1=>Ck i x σ H1 D₀.nx from h))) fun v s1 h1=>thn h1 fun itv s2 h2=>?_)) (fun _ s' hq=>wpAny_pure (wpAny_pure hq)) fun _ _ e=>e)
 obtain ⟨it,fp,tn,J,H2,e,I2,T,st2,f2,nn,W,w0,lw⟩:=h2
 subst e
 refine JO (RR:=fun acc C=>compPost (model X.prog X.w) X.A X.xe (some (assign (.Name y py) X.env)) (fun _ s'=>SP X pins D₀ .next s') acc C) hcalm ok hcl hcl2 hg hk hc he I2 T st2 f2 w0 lw ?_
 intro D C s' H' zs m I3 hn hDn hCn hCL hC0 hCc hCp fin
 show wpAny _ X.A (assign (.Name y py) X.env (.ref D)) _ _ _
 refine wpAny_assign_Name (Fi (v:=.ref D) I3 hN hi' (.inl hy) rfl (fun s3 I4 hsb=>?_) (.inr hy))
 obtain ⟨a,hsb,ha⟩:=hsb
 have haC : C ≠ a:=by
  rcases ha with z | z
  ·rw [z]; exact hCL
  ·exact Ne.symm (hCc y a z)
 refine ⟨m,hn.sameBut hsb haC,fun h'' hs''=>?_⟩
 exact ⟨_,_,I4.turned (t':=s3.toks) (it:=C) (fun b o hb e=>hs''.extBut b o hb e) hCn hCL (.inr hC0) hCc hCp,fin D hDn⟩
end
end L2
namespace L2
open PySem PySem.Spec PyProof.Rows
def Bd (n : Nat) (x : Int) : Prop:=x.natAbs < 2 ^ n
theorem Bd.bits {n : Nat} {x : Int} (h : Bd n x) : Builtin.Int.intBits x ≤ n:=PySem.intBits_le_iff.mpr h
def Nc (i j : Int) : Prop:=∃ m n,Bd m i ∧ Bd n j ∧ m + n ≤ 134217728
theorem Nc.ok {i j : Int} (h : Nc i j) : IntMulOk i j:=by
 obtain ⟨m,n,h1,h2,h3⟩:=h
 exact PySem.IntMulOk.of_le h1.bits h2.bits h3
section
variable {X : Cx}
theorem ES {k : Nat} (hr : Cf k X.A) (hT : X.prog.given.tree = none) (hk : 32 ≤ k:=by decide)
 (hst : ∃ (env : Env) (l : List Env),X.stack = env :: l ∧ env.scope.isGenerator = false ∧ env.scope.isCoroutine = false ∧ env.builtins = builtinsNs ∧ env.globals = mainGlobals:=by exact ⟨_,_,rfl,rfl,rfl,rfl,rfl⟩) :
 OpR X (binaryOp .FloorDiv) (rI (fun _ j=>j ≠ 0) fun i j=>.int (i.fdiv j)):=by
 intro pins s σ H x y v u Q I rx ry h
 obtain ⟨i,j,rfl,rfl,hc,q⟩:=h
 obtain ⟨t,rfl⟩:=rx
 obtain ⟨t',rfl⟩:=ry
 obtain ⟨env,l,e1,e2,e3,e4,e5⟩:=hst
 have hd : X.A.depth + Builtin.pylongFrames < recursionLimit:=by
  have:=hr.dp
  have e : Builtin.pylongFrames ≤ 101:=by decide
  lia
 refine floordiv_int hc ⟨.int (i.fdiv j),H,I.tok _,⟨_,rfl⟩,q⟩ (.inr (PySem.PylongRoom.of I.nolimit hd (PySem.SeerAt.of (I.ok.mod.seer.keeps I.bk) hT (by rw [I.ok.frames,e1]) e2 e3 e4 e5)))
end
structure Fd (P : Program) (w : World) (K : SI) (mg : Str → Option Value) (base : Heap) (n : Nat) (x : Str) (ps : List Str) (sp : Sp) : Prop where
 ex : ∃ (f : Addr) (fd : FuncData),AF P w K mg base CX0 n f fd ps sp ∧ Cz K fd ps [] ∧ T9 K (.ref f) = true ∧ mg x = some (.ref f)
theorem Ap {X : Cx} {n k : Nat} {x : Str} {ps : List Str} {sp : Sp} {e : Expr} {es : List Expr} {t : TA} {p pos : Pos} (F : Fd X.prog X.w X.K X.mg X.base n x ps sp) (hr : Cf k X.A) (hg : Gl X x) (ha : PA X (e :: es) t) (hn : n ≤ k:=by decide)
 (hdb : (x == ("__debug__" : Str)) = false:=by decide) (he : starEach (e :: es) X.env = (false,eval e X.env) :: starEach es X.env:=by rfl) (hpl : (backTo pos (starEach es X.env)).any (·.1) = false:=by rfl) :
 PE X (.Call (.Name x p) (e :: es) [] pos) (Mj sp [] E0 t):=by
 obtain ⟨f,fd,F1,F2,F3,F4⟩:=F.ex
 exact La F1 (hr.mono hn) hg F4 F3 F2 .nil O7 ha hdb he hpl
inductive Rds (K : SI) (H : Hp) : V → PyData → Prop where
 | non : Rds K H .non .none
 | bl (b : Bool) : Rds K H (.bl b) (.bool b)
 | int (i : Int) : Rds K H (.int i) (.int i)
 | str (x : Str) : Rds K H (.str x) (.str x)
 | lst {a : Addr} {xs : List V} {ds : List PyData} : SqL K H a xs → xs.length = ds.length → (∀ (i : Nat) x d,xs[i]? = some x → ds[i]? = some d → Rds K H x d) → Rds K H (.ref a) (.list ds)
 | tup {a : Addr} {xs : List V} {ds : List PyData} : SqT K H a xs → xs.length = ds.length → (∀ (i : Nat) x d,xs[i]? = some x → ds[i]? = some d → Rds K H x d) → Rds K H (.ref a) (.tuple ds)
theorem DX {h : Heap} : ∀ {us : List Value} {xs : List V} {ds : List PyData},AH xs us → xs.length = ds.length → (∀ (i : Nat) x d u,xs[i]? = some x → ds[i]? = some d → Ba x u → ∃ as,Reads h u d as) → ∃ as,ReadsAll h us ds as
 | [],_,[],.nil,_,_=>⟨[],.nil⟩
 | [],_,_ :: _,.nil,hl,_=>by simp at hl
 | _ :: _,_,[],.cons _ _,hl,_=>by simp at hl
 | u :: us,x :: xs,d :: ds,.cons r t,hl,hr=>by
   obtain ⟨a1,r1⟩:=hr 0 x d u rfl rfl r
   obtain ⟨a2,r2⟩:=DX (us:=us) (xs:=xs) (ds:=ds) t (by simpa using hl) fun i x' d' u' e1 e2 q=>hr (i + 1) x' d' u' (by simpa using e1) (by simpa using e2) q
   exact ⟨_,.cons r1 r2⟩
theorem BV {X : Cx} {pins : List (Addr × Obj)} {σ : St} {H : Hp} {s : Shared} (I : Inv X pins σ H s) {x : V} {d : PyData} (r : Rds X.K H x d) : ∀ {u : Value},Ba x u → ∃ as,Reads s.heap u d as:=by
 induction r with
 | non=>intro u ru; cases ru; exact ⟨_,.none⟩
 | bl b=>intro u ru; cases ru; exact ⟨_,.bool b⟩
 | int i=>intro u ru; obtain ⟨t,rfl⟩:=ru; exact ⟨_,.int i t⟩
 | str z=>intro u ru; obtain ⟨t,rfl⟩:=ru; exact ⟨_,.str z t⟩
 | lst q hl _ ih =>
   intro u ru
   cases ru
   obtain ⟨its,rv,⟨o,n,e,c,_,dd⟩,_⟩:=I.list q
   obtain ⟨as,ra⟩:=DX rv hl fun i x d u e1 e2 rr=>ih i x d e1 e2 rr
   exact ⟨_,.list e c dd (by simpa using ra)⟩
 | tup q hl _ ih =>
   intro u ru
   cases ru
   obtain ⟨its,rv,⟨o,e,c,n,dd⟩,_⟩:=I.tuple q
   obtain ⟨as,ra⟩:=DX rv hl fun i x d u e1 e2 rr=>ih i x d e1 e2 rr
   exact ⟨_,.tuple e c dd (by simpa using ra)⟩
section
variable {X : Cx}
@[irreducible] def EM (K : SI) (neg : Bool) : R2:=fun x y H Q=>∃ d e,Rds K H x d ∧ Rds K H y e ∧ SeqAt.shaped d = true ∧ SeqAt.shaped e = true ∧ Q (.bl (if neg then !PyData.eqv d e else PyData.eqv d e)) H
theorem FA {K : SI} {neg : Bool} {x y : V} {H : Hp} {Q : VK} (h : ∃ d e,Rds K H x d ∧ Rds K H y e ∧ SeqAt.shaped d = true ∧ SeqAt.shaped e = true ∧ Q (.bl (if neg then !PyData.eqv d e else PyData.eqv d e)) H) : EM K neg x y H Q:=by
 unfold EM; exact h
theorem OQ (hu : X.A.units + 64 < cLine) : OpR X (compareOp .Eq) (EM X.K false):=by
 intro pins s σ H x y v u Q I rx ry h
 unfold EM at h
 obtain ⟨d,e,r1,r2,h1,h2,q⟩:=h
 obtain ⟨as,q1⟩:=BV I r1 rx
 obtain ⟨bs,q2⟩:=BV I r2 ry
 exact SeqAt.compareEq_shaped q1 q2 h1 h2 hu ⟨.bl _,H,I,rfl,q⟩
theorem OP (hu : X.A.units + 64 < cLine) : OpR X (compareOp .NotEq) (EM X.K true):=by
 intro pins s σ H x y v u Q I rx ry h
 unfold EM at h
 obtain ⟨d,e,r1,r2,h1,h2,q⟩:=h
 obtain ⟨as,q1⟩:=BV I r1 rx
 obtain ⟨bs,q2⟩:=BV I r2 ry
 exact SeqAt.compareNe_shaped q1 q2 h1 h2 hu ⟨.bl _,H,I,rfl,q⟩
end
theorem Px {X : Cx} {pins : List (Addr × Obj)} {σ : St} {H : Hp} {s : Shared} (I : Inv X pins σ H s) : sysModules < s.heap.objs.size:=by
 have h : mainGlobals < s.heap.objs.size:=(I.mod.glob.keeps I.bk).lt
 exact Nat.lt_trans (by decide) h
def Om : TE:=fun _ H Q=>∀ p,H p = none → Q (.ref p) (upd H p (.dK []))
theorem MF {X : Cx} {pos : Pos} : PE X (.Dict [] [] pos) Om:=fun pins s σ H Q I h =>
 wpAny_Dict_empty ⟨.ref s.heap.objs.size,_,I.laid (a:=s.heap.objs.size) (o:=.dK []) (t':=s.toks) (fun _ _ q=>Heap.get?_push_of_some _ q) (T2 _)
  ⟨T5 _,beq_eq_false_iff_ne.mpr (Ne.symm (Sz (Px I))),[],.nil,Heap.DictOf.new s.heap⟩,rfl,h _ (I.hok.fresh (T2 _))⟩
end L2
namespace L2
open PySem PySem.Spec PyProof.Rows
theorem AJ : bootBuiltins "len" = some (.builtin "len"):=by decide +kernel
theorem IX : bootBuiltins "abs" = some (.builtin "abs"):=by decide +kernel
theorem Au : bootBuiltins "isinstance" = some (.builtin "isinstance"):=by decide +kernel
theorem Pu : bootBuiltins "min" = some (.builtin "min"):=by decide +kernel
theorem IW : bootBuiltins "all" = some (.builtin "all"):=by decide +kernel
theorem Pt : bootBuiltins "sum" = some (.builtin "sum"):=by decide +kernel
theorem Lp : bootBuiltins "list" = some (.type "list"):=by decide +kernel
theorem Bw : bootBuiltins "tuple" = some (.type "tuple"):=by decide +kernel
theorem Dk : bootBuiltins "str" = some (.type "str"):=by decide +kernel
theorem Cm : bootBuiltins "int" = some (.type "int"):=by decide +kernel
theorem NN : bootBuiltins "bool" = some (.type "bool"):=by decide +kernel
def Fx (H : Hp) (L : List (Addr × HO)) : Prop:=∀ p ∈ L,H p.1 = some p.2
def Mv (a : Addr) (H H' : Hp) : Prop:=∀ b o,b ≠ a → H b = some o → H' b = some o
theorem Mv.trans {a : Addr} {H H1 H2 : Hp} (x : Mv a H H1) (y : Mv a H1 H2) : Mv a H H2:=fun b o n h=>y b o n (x b o n h)
theorem Mv.new {a p : Addr} {H : Hp} {o : HO} (h : H p = none) : Mv a H (upd H p o):=fun b u _ q=>by rw [AA (Az q h)]; exact q
theorem Lq {ns : List Int} {k : Int} (h0 : 0 ≤ k) (h : k < (ns.length : Int)) : ∃ v : Int,atI (ns.map V.int) k = some (.int v):=by
 have hk : k.toNat < ns.length:=by lia
 have ek : k = ((k.toNat : Nat) : Int):=by lia
 have q : atI (ns.map V.int) ((k.toNat : Nat) : Int) = some (.int ns[k.toNat]):=As (by rw [Tu,Uo hk] <;> rfl)
 rw [← ek] at q
 exact ⟨_,q⟩
def nT (q : Rat) : HO:=.tup [.int q.num,.int q.den]
def Pen (H : Hp) (a : Addr) : Prop:=∃ c0 c1 c2 : Int,H a = some (.lst [.int c0,.int c1,.int c2])
theorem Pen.same {H : Hp} {a p : Addr} {o : HO} (x : Pen H a) (h : H p = none) : Pen (upd H p o) a:=by
 obtain ⟨c0,c1,c2,e⟩:=x
 exact ⟨c0,c1,c2,by rw [AA (Az e h)]; exact e⟩
theorem Pen.put {H : Hp} {a : Addr} {c0 c1 c2 : Int} : Pen (upd H a (.lst [.int c0,.int c1,.int c2])) a:=⟨c0,c1,c2,A9⟩
def JW (i j : Int) : Prop:=(-(2 ^ 64) < i ∧ i < 2 ^ 64) ∨ (-(2 ^ 64) < j ∧ j < 2 ^ 64) ∨ Nc i j
theorem JW.ok {i j : Int} (h : JW i j) : IntMulOk i j:=by
 rcases h with ⟨h1,h2⟩ | ⟨h1,h2⟩ | h
 ·exact .of_left (intBits_le_64 h1 h2)
 ·exact .of_right (intBits_le_64 h1 h2)
 ·exact h.ok
theorem C7 {X : Cx} : OpR X (binaryOp .Mult) (rI JW fun i j=>.int (i * j)):=opI fun _ _ _ _ _ _ _ hc q=>mul_int q hc.ok
def Hf (a : Addr) (H H' : Hp) : Prop:=∀ b,b ≠ a → H' b = H b
theorem Hf.mv {a : Addr} {H H' : Hp} (x : Hf a H H') : Mv a H H':=fun b o n h=>by rw [x b n]; exact h
theorem Hf.put {a : Addr} {H : Hp} {o : HO} : Hf a H (upd H a o):=fun b n=>AA n
theorem Pen.ne {H : Hp} {a p : Addr} {o : HO} (x : Pen H a) (h : H p = some o) (hd : ∀ c0 c1 c2 : Int,o ≠ .lst [.int c0,.int c1,.int c2]) : p ≠ a:=by
 obtain ⟨c0,c1,c2,e⟩:=x
 exact EX h e (hd c0 c1 c2)
structure Lg (a : Addr) (H : Hp) (L : List (Addr × HO)) : Prop where
 fx : Fx H L
 ne : ∀ x ∈ L,x.1 ≠ a
 pen : Pen H a
theorem HL (q : Rat) : ∀ c0 c1 c2 : Int,nT q ≠ .lst [.int c0,.int c1,.int c2]:=fun _ _ _ z=>by cases z
theorem NO {xs : List Int} {i : Int} (h0 : 0 ≤ i) (h : i < (xs.length : Int)) : ∃ v : Int,atI (xs.map V.int) i = some (.int v) ∧ v ∈ xs:=by
 have hk : i.toNat < xs.length:=by lia
 have ek : i = ((i.toNat : Nat) : Int):=by lia
 have q : atI (xs.map V.int) ((i.toNat : Nat) : Int) = some (.int xs[i.toNat]):=As (by rw [Tu,Uo hk] <;> rfl)
 rw [← ek] at q
 exact ⟨_,q,Uq hk⟩
inductive Ew (vs : List V) (H : Hp) (Q : VK) (E_3 : XK) : Prop
 | mk (a : Addr) (m : Int) (h1 : vs = [.ref a,.int m]) (h2 : Pen H a) (h3 : 1 ≤ m) (h4 : m < 1073741824) (h5 : ∀ (d : Int) (H' : Hp),0 ≤ d → d < m → Hf a H H' → Pen H' a → Q (.int d) H') : Ew vs H Q E_3
inductive Mo (K : SI) (vs : List V) (H : Hp) (Q : VK) (E_3 : XK) : Prop
 | mk (a : Addr) (ns : List Int) (k : Int) (h1 : vs = [.ref a,.int k]) (h2 : SqL K H a (ns.map V.int)) (h3 : ns.length ≤ 63) (h4 : 0 ≤ k) (h5 : k < 2 ^ 62) (h6 : ∀ (p : Addr) (c0 c1 : Int),H p = none → Q (.ref p) (upd H p (.lst [.int c0,.int c1,.int 0]))) : Mo K vs H Q E_3
inductive Jg (vs : List V) (H : Hp) (Q : VK) (E_3 : XK) : Prop
 | mk (t b : Int) (h1 : vs = [.int t,.int b]) (h2 : b ≠ 0) (h3 : ∀ p,H p = none → Q (.ref p) (upd H p (nT (U6 t b)))) : Jg vs H Q E_3
inductive Mp (vs : List V) (H : Hp) (Q : VK) (E_3 : XK) : Prop
 | mk (a b : Int) (h1 : vs = [.int a,.int b]) (h2 : Q (.int (U4 a b)) H) : Mp vs H Q E_3
inductive HJ (n : Nat) (vs : List V) (H : Hp) (Q : VK) (E_3 : XK) : Prop
 | mk (a : _) (h1 : vs = [.ref a]) (h2 : Pen H a) (h3 : ∀ (q : Rat) (r : Addr) (H' : Hp),Mv a H H' → Pen H' a → H' r = some (nT q) → Bd n q.num → Bd n q.den → Q (.ref r) H') : HJ n vs H Q E_3
inductive Jh (K : SI) (vs : List V) (H : Hp) (Q : VK) (E_3 : XK) : Prop
 | mk (a : Addr) (ns : List Int) (h1 : vs = [.ref a]) (h2 : SqL K H a (ns.map V.int)) (h3 : ns.length ≤ 63) (h4 : ∀ H',Q (.bl true) H') : Jh K vs H Q E_3
def mu (i : Nat) (σ : St) : Nat:=match σ[i]? with | some (some (.int y))=>y.toNat | _=>0
theorem Bd.mono {m n : Nat} {x : Int} (h : Bd m x) (hmn : m ≤ n) : Bd n x:=Sx h (Nat.pow_le_pow_right (by decide) hmn)
theorem Bd.num {n : Nat} {t b : Int} (h : Bd n t) : Bd n (U6 t b).num:=by
 unfold Bd at *
 by_cases hb : b = 0
 ·subst hb; simp; exact U5 (by simp)
 ·rw [← Nm.top_msr hb]
  exact U3 (PySem.natAbs_fdiv_le t _) h
theorem Bd.den {n : Nat} {t b : Int} (hb : b ≠ 0) (h : Bd n b) : Bd n (U6 t b).den:=by
 unfold Bd at *
 rw [← Nm.bottom_msr hb]
 exact U3 (PySem.natAbs_fdiv_le b _) h
end L2
namespace L2
open PySem PySem.Spec PyProof.Rows
section
variable {X : Cx} {tg : Expr}
end
theorem M6 {X : Cx} (hc : X.calm = true) : C5 X (.builtin "all") (fun xs H Q=>∃ (a : Addr) (bs : List Bool),xs = [.ref a] ∧ SqL X.K H a (bs.map V.bl) ∧ Q (.bl (bs.all id)) H):=by
 intro pins s σ H xs us Q I r h
 obtain ⟨a,bs,rfl,hq,q⟩:=h
 obtain ⟨u,rfl,rfl⟩:=DL r
 obtain ⟨its,rv,p,hz⟩:=I.list hq
 have hl:=rv.length
 rw [TC] at hl
 have hlt : a < s.heap.objs.size:=by obtain ⟨_,e,_⟩:=p.isList; exact Heap.lt_size e
 refine call_all_walk (wpAny_pyIter_list p.isList ?_)
 refine ⟨s.heap.objs.size,[s.heap.objs.size,a],[s.heap.objs.size],its.toArray.size,_,_,fun i=>(bs[i]?).getD true,rfl,Walks.list (A:=X.A.in1) (I.ok.hd hc) _ a (Sz hlt) its.toArray,
  ⟨⟨_,Heap.get?_push_size _ rfl,rfl,rfl⟩,p.isList.push _⟩,fun i v s' Q' E' hP hQ=>?_,fun h' tk hk=>?_⟩
 ·have hP' : its[i]? = some v:=by simpa using hP
  have hi : i < bs.length:=by rw [hl]; exact (SU.mp hP').1
  obtain ⟨u',hu',ru⟩:=rv.get (i:=i) (x:=.bl bs[i]) (by rw [Tu,Uo hi]; rfl)
  rw [hP'] at hu'
  cases hu'
  cases ru
  dsimp only at hQ
  rw [Uo hi,Ur] at hQ
  exact wpAny_truthy_bool hQ
 ·have e : ((SA its.toArray.size).all fun i=>(bs[i]?).getD true) = bs.all id:=by
   rw [TK,← hl,Bool.eq_iff_iff,Ud,Ud]
   constructor
   ·intro z b hb
    obtain ⟨i,hi,rfl⟩:=List.getElem_of_mem hb
    have:=z i (SH.mpr hi)
    rw [Uo hi,Ur] at this
    exact this
   ·intro z i hi
    have hi':=SH.mp hi
    rw [Uo hi',Ur]
    exact z _ (Uq hi')
  rw [e]
  exact ⟨.bl _,H,I.kept (fun b o e=>hk b o (fun hm=>by rw [Ul.mp hm] at e; exact Sy _ (Heap.lt_size e)) (Heap.get?_push_of_some _ e)),rfl,q⟩
end L2
namespace L2
open PySem PySem.Spec PyProof.Rows
theorem SqT.same {K : SI} {H H' : Hp} {a : Addr} {xs : List V} (h : SqT K H a xs) (e : Ad H H') : SqT K H' a xs:=by
 rcases h with (h | ⟨o,h⟩) | h
 ·exact .inl (.inl (e _ _ h))
 ·exact .inl (.inr ⟨o,e _ _ h⟩)
 ·exact .inr h
theorem Ad.new {H : Hp} {p : Addr} {o : HO} (h : H p = none) : Ad H (upd H p o):=fun b u q=>by rw [AA (Az q h)]; exact q
theorem Ad.mv {H H' : Hp} {a : Addr} (h : Ad H H') : Mv a H H':=fun b o _ q=>h b o q
theorem Paired.get {α β : Type} {F : α → β → Prop} : ∀ {l₁ : List α} {l₂ : List β} {i : Nat} {a : α},Paired F l₁ l₂ → l₁[i]? = some a → ∃ b,l₂[i]? = some b ∧ F a b
 | _,_,_,_,.nil,e=>by simp at e
 | _,_,0,_,.cons h _,e=>by simp at e; subst e; exact ⟨_,rfl,h⟩
 | _,_,i + 1,_,.cons _ t,e=>by
   obtain ⟨b,h1,h2⟩:=Paired.get (i:=i) t (by simpa using e)
   exact ⟨b,by simpa using h1,h2⟩
theorem Paired.get' {α β : Type} {F : α → β → Prop} : ∀ {l₁ : List α} {l₂ : List β} {i : Nat} {b : β},Paired F l₁ l₂ → l₂[i]? = some b → ∃ a,l₁[i]? = some a ∧ F a b
 | _,_,_,_,.nil,e=>by simp at e
 | _,_,0,_,.cons h _,e=>by simp at e; subst e; exact ⟨_,rfl,h⟩
 | _,_,i + 1,_,.cons _ t,e=>by
   obtain ⟨b,h1,h2⟩:=Paired.get' (i:=i) t (by simpa using e)
   exact ⟨b,by simpa using h1,h2⟩
theorem Paired.take {α β : Type} {F : α → β → Prop} : ∀ {l₁ : List α} {l₂ : List β} (n : Nat),Paired F l₁ l₂ → Paired F (l₁.take n) (l₂.take n)
 | _,_,0,_=>by simp; exact .nil
 | _,_,_ + 1,.nil=>.nil
 | _,_,n + 1,.cons h t=>.cons h (Paired.take n t)
def Be (K : SI) (H : Hp) (x : V) (q : Rat) : Prop:=∃ r,x = .ref r ∧ SqT K H r [.int q.num,.int q.den]
abbrev By (K : SI) (H : Hp) : List V → List Rat → Prop:=Paired (Be K H)
theorem Be.of {K : SI} {H : Hp} {r : Addr} {q : Rat} (h : H r = some (nT q)) : Be K H (.ref r) q:=⟨r,rfl,SqT.of h⟩
theorem Be.same {K : SI} {H H' : Hp} {x : V} {q : Rat} (h : Be K H x q) (e : Ad H H') : Be K H' x q:=by
 obtain ⟨r,rfl,h⟩:=h
 exact ⟨r,rfl,h.same e⟩
theorem By.same {K : SI} {H H' : Hp} {xs : List V} {qs : List Rat} (h : By K H xs qs) (e : Ad H H') : By K H' xs qs:=Paired.mapP h fun _ _ z=>z.same e
theorem SqT.mv {K : SI} {H H' : Hp} {a p : Addr} {xs : List V} (h : SqT K H a xs) (pn : Pen H p) (m : Mv p H H') : SqT K H' a xs:=by
 obtain ⟨c0,c1,c2,e⟩:=pn
 rcases h with (h | ⟨o,h⟩) | h
 ·exact .inl (.inl (m _ _ (EX h e (fun z=>by cases z)) h))
 ·exact .inl (.inr ⟨o,m _ _ (EX h e (fun z=>by cases z)) h⟩)
 ·exact .inr h
theorem Be.mv {K : SI} {H H' : Hp} {x : V} {q : Rat} {p : Addr} (h : Be K H x q) (pn : Pen H p) (m : Mv p H H') : Be K H' x q:=by
 obtain ⟨r,rfl,h⟩:=h
 exact ⟨r,rfl,h.mv pn m⟩
theorem By.mv {K : SI} {H H' : Hp} {xs : List V} {qs : List Rat} {p : Addr} (h : By K H xs qs) (pn : Pen H p) (m : Mv p H H') : By K H' xs qs:=Paired.mapP h fun _ _ z=>z.mv pn m
theorem SqT.put {K : SI} {H : Hp} {a p : Addr} {xs ys : List V} {o : HO} (h : SqT K H a xs) (hp : H p = some (.lst ys)) : SqT K (upd H p o) a xs:=by
 rcases h with (h | ⟨u,h⟩) | h
 ·exact .inl (.inl (by rw [AA (EX h hp (fun z=>by cases z))]; exact h))
 ·exact .inl (.inr ⟨u,by rw [AA (EX h hp (fun z=>by cases z))]; exact h⟩)
 ·exact .inr h
theorem Be.put {K : SI} {H : Hp} {x : V} {q : Rat} {p : Addr} {ys : List V} {o : HO} (h : Be K H x q) (hp : H p = some (.lst ys)) : Be K (upd H p o) x q:=by
 obtain ⟨r,rfl,h⟩:=h
 exact ⟨r,rfl,h.put hp⟩
theorem By.put {K : SI} {H : Hp} {xs : List V} {qs : List Rat} {p : Addr} {ys : List V} {o : HO} (h : By K H xs qs) (hp : H p = some (.lst ys)) : By K (upd H p o) xs qs:=Paired.mapP h fun _ _ z=>z.put hp
def Crv (K : SI) (H : Hp) (r : Addr) (qs : List Rat) : Prop:=∃ xs,SqT K H r xs ∧ By K H xs qs
theorem Crv.same {K : SI} {H H' : Hp} {r : Addr} {qs : List Rat} (h : Crv K H r qs) (e : Ad H H') : Crv K H' r qs:=let ⟨xs,a,b⟩:=h; ⟨xs,a.same e,b.same e⟩
def nD (q : Rat) : PyData:=.tuple [.int q.num,.int q.den]
theorem Be.rds {K : SI} {H : Hp} {x : V} {q : Rat} (h : Be K H x q) : Rds K H x (nD q):=by
 obtain ⟨r,rfl,h⟩:=h
 refine .tup h rfl fun i x d e1 e2=>?_
 match i with
 | 0=>simp at e1 e2; subst e1; subst e2; exact .int _
 | 1=>simp at e1 e2; subst e1; subst e2; exact .int _
 | i + 2=>simp at e1
theorem Ke (p q : Rat) : PyData.eqv (nD p) (nD q) = decide (p = q):=by
 show (p.num == q.num && (((p.den : Int) == (q.den : Int)) && true)) = _
 rw [Bool.and_true,Bool.eq_iff_iff]
 simp only [Bool.and_eq_true,beq_iff_eq,decide_eq_true_eq]
 constructor
 ·rintro ⟨h1,h2⟩
  exact Rat.ext h1 (Int.ofNat.inj h2)
 ·rintro rfl
  exact ⟨rfl,rfl⟩
theorem G8 : ∀ ps qs : List Rat,PyData.eqvAll (ps.map nD) (qs.map nD) = decide (ps = qs)
 | [],[]=>rfl
 | [],_ :: _=>rfl
 | _ :: _,[]=>rfl
 | p :: ps,q :: qs=>by
   show (PyData.eqv (nD p) (nD q) && PyData.eqvAll (ps.map nD) (qs.map nD)) = _
   rw [Ke,G8 ps qs,Bool.eq_iff_iff]
   simp
theorem Fq (q : Rat) : SeqAt.shaped (nD q) = true:=by rfl
theorem By.rds {K : SI} {H : Hp} {xs : List V} {qs : List Rat} (h : By K H xs qs) : ∀ (i : Nat) x d,xs[i]? = some x → (qs.map nD)[i]? = some d → Rds K H x d:=fun i x d e1 e2=>by
 obtain ⟨q,hq,hn⟩:=Paired.get h e1
 rw [Tu,hq] at e2
 cases e2
 exact hn.rds
theorem By.rdsT {K : SI} {H : Hp} {r : Addr} {xs : List V} {qs : List Rat} (h : By K H xs qs) (s : SqT K H r xs) : Rds K H (.ref r) (.tuple (qs.map nD)):=.tup s (by rw [h.length,TC]) h.rds
theorem By.rdsL {K : SI} {H : Hp} {r : Addr} {xs : List V} {qs : List Rat} (h : By K H xs qs) (s : SqL K H r xs) : Rds K H (.ref r) (.list (qs.map nD)):=.lst s (by rw [h.length,TC]) h.rds
theorem IK : ∀ qs : List Rat,PyData.canLayAll0 (qs.map nD) = true
 | []=>rfl
 | q :: r=>by
   show (PyData.canLay0 (nD q) && PyData.canLayAll0 (r.map nD)) = true
   rw [IK r]; rfl
theorem Fp : ∀ qs : List Rat,PyData.depthAll (qs.map nD) ≤ 1
 | []=>T5 _
 | q :: r=>by
   have ih:=Fp r
   show max (PyData.depth (nD q)) (PyData.depthAll (r.map nD)) ≤ 1
   exact Nat.max_le.mpr ⟨T2 _,ih⟩
theorem EY (qs : List Rat) : SeqAt.shaped (.list (qs.map nD)) = true:=by
 show (PyData.canLayAll0 (qs.map nD) && decide (PyData.depthAll (qs.map nD) + 1 ≤ 64)) = true
 rw [IK,Bool.true_and]
 exact decide_eq_true (by have:=Fp qs; lia)
theorem Lb (qs : List Rat) : SeqAt.shaped (.tuple (qs.map nD)) = true:=EY qs
theorem eqN {K : SI} {H : Hp} {x y : V} {p q : Rat} {Q : VK} {neg : Bool} (h1 : Be K H x p) (h2 : Be K H y q) (h : Q (.bl (if neg then !decide (p = q) else decide (p = q))) H) : EM K neg x y H Q :=
 FA ⟨_,_,h1.rds,h2.rds,Fq _,Fq _,by rw [Ke]; exact h⟩
theorem eqT {K : SI} {H : Hp} {a b : Addr} {ps qs : List Rat} {Q : VK} {neg : Bool} (h1 : Crv K H a ps) (h2 : Crv K H b qs) (h : Q (.bl (if neg then !decide (ps = qs) else decide (ps = qs))) H) : EM K neg (.ref a) (.ref b) H Q:=by
 obtain ⟨xs,s1,n1⟩:=h1
 obtain ⟨ys,s2,n2⟩:=h2
 refine FA ⟨_,_,n1.rdsT s1,n2.rdsT s2,Lb _,Lb _,?_⟩
 have e : PyData.eqv (.tuple (ps.map nD)) (.tuple (qs.map nD)) = decide (ps = qs):=G8 ps qs
 rw [e]; exact h
theorem eqL {K : SI} {H : Hp} {a b : Addr} {xs ys : List V} {ps qs : List Rat} {Q : VK} {neg : Bool} (s1 : SqL K H a xs) (n1 : By K H xs ps) (s2 : SqL K H b ys) (n2 : By K H ys qs) (h : Q (.bl (if neg then !decide (ps = qs) else decide (ps = qs))) H) : EM K neg (.ref a) (.ref b) H Q:=by
 refine FA ⟨_,_,n1.rdsL s1,n2.rdsL s2,EY _,EY _,?_⟩
 have e : PyData.eqv (.list (ps.map nD)) (.list (qs.map nD)) = decide (ps = qs):=G8 ps qs
 rw [e]; exact h
theorem NW {c : TT} {tb : TS} {D : El} {σ : St} {H : Hp} (Pv : St → Hp → Prop) (μ : St → Hp → Nat) (h0 : Pv σ H)
 (hs : ∀ σ H,Pv σ H → c σ H fun b H1=>if b = true then ∃ N : St → Hp → Prop,(∀ σ' H',N σ' H' → ∃ m',m' < μ σ H ∧ (m' = μ σ' H' ∧ Pv σ' H')) ∧ tb { D with nx:=N,ct:=N,bk:=D.nx } σ H1 else D.nx σ H1) : K0 c tb D σ H:=by
 refine ⟨fun m σ H=>m = μ σ H ∧ Pv σ H,⟨_,rfl,h0⟩,?_⟩
 rintro m σ H ⟨rfl,p⟩
 exact hs σ H p
theorem NV {tb : TS} {D : El} {σ : St} {H1 : Hp} {m : Nat} {Pv : St → Hp → Prop} {μ : St → Hp → Nat}
 (h : tb { D with nx:=fun σ' H'=>Pv σ' H' ∧ μ σ' H' < m,ct:=fun σ' H'=>Pv σ' H' ∧ μ σ' H' < m,bk:=D.nx } σ H1) :
 ∃ N : St → Hp → Prop,(∀ σ' H',N σ' H' → ∃ m',m' < m ∧ (m' = μ σ' H' ∧ Pv σ' H')) ∧ tb { D with nx:=N,ct:=N,bk:=D.nx } σ H1 :=
 ⟨_,fun _ _ ⟨p,l⟩=>⟨_,l,rfl,p⟩,h⟩
def RB (n : Nat) (q : Rat) : Prop:=Bd n q.num ∧ Bd n (q.den : Int)
theorem Bd.mul {m n : Nat} {x y : Int} (h1 : Bd m x) (h2 : Bd n y) : Bd (m + n) (x * y):=by
 unfold Bd at *
 rw [Int.natAbs_mul,Nat.pow_add]
 exact Nat.mul_lt_mul'' h1 h2
theorem Bd.add {n : Nat} {x y : Int} (h1 : Bd n x) (h2 : Bd n y) : Bd (n + 1) (x + y):=by
 unfold Bd at *
 rw [Nat.pow_succ,Nat.mul_two]
 exact U3 (Int.natAbs_add_le x y) (Nat.add_lt_add h1 h2)
theorem JW.bd {m n : Nat} {x y : Int} (h1 : Bd m x) (h2 : Bd n y) (h : m + n ≤ 134217728:=by lia) : JW x y:=.inr (.inr ⟨m,n,h1,h2,h⟩)
theorem RB.mono {m n : Nat} {q : Rat} (h : RB m q) (hmn : m ≤ n) : RB n q:=⟨h.1.mono hmn,h.2.mono hmn⟩
theorem J7 : ∀ {us : List Value} {xs : List V},us.map M7 = xs.map some → (∀ u ∈ us,∀ x,M7 u = some x → Ba x u) → AH xs us
 | [],[],_,_=>.nil
 | [],_ :: _,e,_=>by simp at e
 | _ :: _,[],e,_=>by simp at e
 | u :: us,x :: xs,e,h=>by
   simp only [U1,Us.injEq] at e
   exact .cons (h u SN x e.1) (J7 e.2 fun v hv=>h v (SO _ hv))
theorem N8 {u : Value} {x : V} (h : M7 u = some x) : Ba x u:=by
 cases u <;> first | (cases h; rfl) | (cases h; exact ⟨_,rfl⟩) | cases h
theorem LY {K : SI} {H : Hp} {a : Addr} {o : Obj} {vs : Array Value} {n : Nat} {q : Rat} (hk : K.lookup a = some o) (hc : o.cls = .type "tuple") (hd : o.data = .seq vs n) (e : vs.toList.map M7 = [some (.int q.num),some (.int (q.den : Int))]) : SqT K H a [.int q.num,.int q.den]:=by
 refine .inr ⟨o,vs,n,hk,hc,hd,?_,J7 e fun u _ x h=>N8 h⟩
 have hl:=congrArg To e
 simp at hl
 rw [hl]; decide
theorem RB.plus {m n : Nat} {p q : Rat} (h1 : RB m p) (h2 : RB n q) : RB (m + n + 1) (p + q):=by
 rw [← Nm.plus_eq]
 refine ⟨Bd.num (Bd.add (h1.1.mul h2.2) ((h2.1.mul h1.2).mono (by lia))),Bd.den (Int.mul_ne_zero (Nm.den_ne p) (Nm.den_ne q)) ((h1.2.mul h2.2).mono (by lia))⟩
theorem RB.one {n : Nat} (h : 1 ≤ n) : RB n 1:=⟨(show Bd 1 1 by unfold Bd; decide).mono h,(show Bd 1 1 by unfold Bd; decide).mono h⟩
inductive Mq (K : SI) (g : Rat → Rat → Rat) (vs : List V) (H : Hp) (Q : VK) (E_3 : XK) : Prop
 | mk (x y : V) (p q : Rat) (m n : Nat) (h1 : vs = [x,y]) (h2 : Be K H x p) (h3 : Be K H y q) (h4 : RB m p) (h5 : RB n q) (h6 : m + n ≤ 100000000) (h7 : ∀ r,H r = none → Q (.ref r) (upd H r (nT (g p q)))) : Mq K g vs H Q E_3
end L2
namespace L2
open PySem PySem.Spec PyProof.Rows
def Sq (b : Bool) (K : SI) (H : Hp) (a : Addr) (xs : List V) : Prop:=match b with
 | true=>SqL K H a xs
 | false=>SqT K H a xs
theorem Sq.same {b : Bool} {K : SI} {H H' : Hp} {a : Addr} {xs : List V} (h : Sq b K H a xs) (e : Ad H H') : Sq b K H' a xs:=by
 cases b
 ·exact SqT.same h e
 ·exact e.seq h
theorem LH {X : Cx} {tg l : Expr} {w1 w2 : TI} (h1 : PI X tg l w1) (h2 : PI X tg l w2) : PI X tg l (fun σ H R=>w1 σ H R ∨ w2 σ H R):=fun pins s σ H R I h=>by
 rcases h with h | h
 ·exact h1 pins s σ H R I h
 ·exact h2 pins s σ H R I h
abbrev Qo (K : SI) (tl : TE) : TI:=fun σ H R=>JG K tl σ H R ∨ Pm K tl σ H R
theorem EC {K : SI} {b : Bool} {a : Addr} {n : Nat} {js : List Nat} {xs : List V} {te : TE} {σ : St} {H : Hp} {Q : VK} (hσ : σ[n]? = some (some (.ref a))) (Pv : Nat → List V → Hp → Prop) (h0 : Pv 0 [] H)
 (hl : ∀ i zs H,i ≤ xs.length → Pv i zs H → Sq b K H a xs ∧ zs.length = i) (hz : xs.length ≤ sizeLine)
 (hs : ∀ i x zs H,xs[i]? = some x → Pv i zs H → te ((cS 1 js σ).set 0 (some x)) H fun y H4=>Pv (i + 1) (zs ++ [y]) H4) (fin : ∀ zs H',Pv xs.length zs H' → ∀ p,H' p = none → Q (.ref p) (upd H' p (.lst zs))) :
 tLC (Qo K (Ij n)) 1 js (Ck 0) Lv te σ H Q:=by
 have q:=(hl 0 [] H (T5 _) h0).1
 cases b with
 | true =>
   refine BN (.inl ⟨_,hσ,a,rfl,⟨xs,q⟩,xs.length,Pv,h0,⟨?_,?_,?_⟩⟩)
   ·intro i zs H' hi p
    have hle:=SK hi
    obtain ⟨h1,h2⟩:=hl i zs H' hle p
    exact ⟨⟨xs,xs[i],h1,by simp [hi]⟩,by lia⟩
   ·rintro i zs H' x H1 hi p ⟨rfl,y⟩
    have hle:=SK hi
    have hx:=y xs (hl i zs _ hle p).1
    exact hs i x zs _ hx p
   ·intro zs H' p
    have hle:=T2 xs.length
    obtain ⟨h1,h2⟩:=hl _ zs H' hle p
    exact ⟨⟨xs,h1,T2 _⟩,by lia,fin zs H' p⟩
 | false =>
   refine BN (.inr ⟨_,hσ,a,rfl,⟨xs,q⟩,xs.length,Pv,h0,⟨?_,?_,?_⟩⟩)
   ·intro i zs H' hi p
    have hle:=SK hi
    obtain ⟨h1,h2⟩:=hl i zs H' hle p
    exact ⟨⟨xs,xs[i],h1,by simp [hi]⟩,by lia⟩
   ·rintro i zs H' x H1 hi p ⟨rfl,y⟩
    have hle:=SK hi
    have hx:=y xs (hl i zs _ hle p).1
    exact hs i x zs _ hx p
   ·intro zs H' p
    have hle:=T2 xs.length
    obtain ⟨h1,h2⟩:=hl _ zs H' hle p
    exact ⟨⟨xs,h1,T2 _⟩,by lia,fin zs H' p⟩
section
variable {X : Cx} (K : SI)
theorem ixT (e : X.K = K:=by rfl) : IxR X (Oz K):=by subst e; exact Pj
theorem ixL (e : X.K = K:=by rfl) : IxR X (OA K):=by subst e; exact ND
theorem eqD (hu : X.A.units + 64 < cLine) (e : X.K = K:=by rfl) : OpR X (compareOp .Eq) (EM K false):=by subst e; exact OQ hu
theorem neD (hu : X.A.units + 64 < cLine) (e : X.K = K:=by rfl) : OpR X (compareOp .NotEq) (EM K true):=by subst e; exact OP hu
theorem Kd (e : X.K = K:=by rfl) : OpR X (compareOp .NotIn) (rIn K true):=by subst e; exact IC
theorem slL (e : X.K = K:=by rfl) : SlR X (Ox K):=by subst e; exact Nl
inductive TyX (K : SI) (H : Hp) : V → Value → Prop where
 | of {x : V} {t : Value} (h : FD K H x t) : TyX K H x t
 | tup {a : Addr} {xs : List V} (h : SqT K H a xs) : TyX K H (.ref a) (.type "tuple")
 | lst {a : Addr} {xs : List V} (h : SqL K H a xs) : TyX K H (.ref a) (.type "list")
inductive Qs (xs : List V) (H : Hp) (Q : VK) : Prop
 | mk (x : _) (T : _) (t : _) (b : _) (h1 : xs = [x,.ty T]) (h2 : TyX K H x t) (h3 : Tb K t (.type T) = some b) (h4 : Q (.bl b) H) : Qs xs H Q
theorem JD (e : X.K = K:=by rfl) : C5 X (.builtin "isinstance") (Qs K):=by
 subst e
 intro pins s σ H xs us Q I r h
 obtain ⟨x,T,t,b,rfl,ty,e,q⟩:=h
 obtain ⟨u,w',rfl,rx,rT⟩:=J8 r
 cases rT
 cases ty with
 | of ty=>exact LS I rx ty e fun tk=>⟨.bl b,H,I.tok _,rfl,q⟩
 | tup hq =>
   cases rx
   obtain ⟨its,rv,⟨o,e1,c,_⟩,_⟩:=I.tuple hq
   exact Tc PySem.W.kitx_tuple I.kIn ⟨o,e1,c⟩ e (fun z=>nomatch z) fun tk=>⟨.bl b,H,I.tok _,rfl,q⟩
 | lst hq =>
   cases rx
   obtain ⟨its,rv,⟨o,n,e1,c,_⟩,_⟩:=I.list hq
   exact Tc Td I.kIn ⟨o,e1,c⟩ e (fun z=>nomatch z) fun tk=>⟨.bl b,H,I.tok _,rfl,q⟩
inductive Qr (xs : List V) (H : Hp) (Q : VK) : Prop
 | mk (p : _) (ys : _) (h1 : xs = [.ref p]) (h2 : (SqL K H p ys ∨ SqT K H p ys)) (h3 : Q (.int ys.length) H) : Qr xs H Q
theorem BY (e : X.K = K:=by rfl) : C5 X (.builtin "len") (Qr K):=by subst e; exact fun pins s σ H xs us Q I r ⟨p,ys,h1,h2,h3⟩=>IV pins s σ H xs us Q I r ⟨p,ys,h1,h2,h3⟩
inductive N3 (xs : List V) (H : Hp) (Q : VK) : Prop
 | mk (p : _) (ys : _) (h1 : xs = [.ref p]) (h2 : ((SqL K H p ys ∧ ∀ l,H l = none → Q (.ref l) (upd H l (.tup ys))) ∨ (SqT K H p ys ∧ Q (.ref p) H))) : N3 xs H Q
theorem Dh (e : X.K = K:=by rfl) : C5 X (.type "tuple") (N3 K):=by subst e; exact fun pins s σ H xs us Q I r ⟨p,ys,h1,h2⟩=>HB pins s σ H xs us Q I r ⟨p,ys,h1,h2⟩
inductive Qt (xs : List V) (H : Hp) (Q : VK) : Prop
 | mk (a : Addr) (bs : List Bool) (h1 : xs = [.ref a]) (h2 : SqL K H a (bs.map V.bl)) (h3 : Q (.bl (bs.all id)) H) : Qt xs H Q
theorem NS (hc : X.calm = true) (e : X.K = K:=by rfl) : C5 X (.builtin "all") (Qt K):=by subst e; exact fun pins s σ H xs us Q I r ⟨a,bs,h1,h2,h3⟩=>M6 hc pins s σ H xs us Q I r ⟨a,bs,h1,h2,h3⟩
variable {tg l : Expr} {tl : TE}
theorem piL (hl : PE X l tl) (e : X.K = K:=by rfl) : PI X tg l (JG K tl):=by subst e; exact KU hl
theorem piT (hl : PE X l tl) (e : X.K = K:=by rfl) : PI X tg l (Pm K tl):=by subst e; exact MD hl
theorem piS (hl : PE X l tl) (e : X.K = K:=by rfl) : PI X tg l (Qo K tl):=by subst e; exact LH (KU hl) (MD hl)
theorem pgT {es : List Expr} {k : Nat} {t : TGs} {n : Nat} {pos : Pos} (hc : X.calm = true) (h : PGs X es t) (hn : (assignEach es X.env).length = n:=by rfl) (hst : (assignEach es X.env).findIdx? (·.1) = none:=by rfl) (e : X.K = K:=by rfl) : PG X (.Tuple es k pos) (LV K n t):=by subst e; exact OF hc h hn hst
end
end L2
namespace L2
open PySem PySem.Spec PyProof.Rows
inductive N9 (K : SI) (H : Hp) : V → Bool → Prop where
 | int (i : Int) : N9 K H (.int i) true
 | bl (b : Bool) : N9 K H (.bl b) false
 | oth {x : V} {t : Value} (ty : TyX K H x t) (h : Tb K t (.type "int") = some false) : N9 K H x false
theorem P5 (K : SI) : Tb K (.type "int") (.type "int") = some true:=by kernel_rfl
theorem P6 (K : SI) : Tb K (.type "int") (.type "bool") = some false:=by kernel_rfl
theorem P9 (K : SI) : Tb K (.type "bool") (.type "int") = some true:=by kernel_rfl
theorem Pa (K : SI) : Tb K (.type "bool") (.type "bool") = some true:=by kernel_rfl
theorem Fv (K : SI) : Tb K (.type "tuple") (.type "tuple") = some true:=by kernel_rfl
theorem Kl {lo : Int} {n : Nat} {js : List Nat} {te : TE} {σ : St} {H : Hp} {Fin : List V → Hp → Prop} (Pv : Nat → List V → Hp → Prop) (h0 : Pv 0 [] H) (hl : ∀ i zs H,i ≤ n → Pv i zs H → zs.length = i) (hz : n ≤ sizeLine)
 (hs : ∀ i zs H,i < n → Pv i zs H → te ((cS 1 js σ).set 0 (some (.int (lo + i)))) H fun y H4=>Pv (i + 1) (zs ++ [y]) H4) (fin : ∀ zs H',Pv n zs H' → Fin zs H') :
 ∃ (n' : Nat) (W : Nat → List V → Hp → Prop),W 0 [] H ∧ LcW (Itr lo n) n' 1 js σ (Ck 0) Lv te Fin W:=by
 refine ⟨n,Pv,h0,⟨?_,?_,?_⟩⟩
 ·intro i zs H' hi p
  have:=hl i zs H' (SK hi) p
  exact ⟨hi,by lia⟩
 ·rintro i zs H' x H1 hi p ⟨rfl,rfl⟩
  exact hs i zs _ hi p
 ·intro zs H' p
  have:=hl n zs H' (T2 _) p
  exact ⟨T2 _,by lia,fin zs H' p⟩
theorem Ff {α : Type} {xs : List α} {v : α} (h : xs[xs.length - 1]? = some v) : atI xs (-1) = some v:=by
 have hl : xs.length - 1 < xs.length:=(SU.mp h).1
 have e : ixN xs.length (-1) = some (xs.length - 1):=by
  unfold ixN
  rw [if_neg (by decide),if_pos (by lia)]
  congr 1
  lia
 unfold atI
 rw [e]
 exact h
def PN (qs : List Rat) : Prop:=qs = [] ∨ ∃ q,qs[qs.length - 1]? = some q ∧ q ≠ 0
theorem GW (qs : List Rat) : PN (Cv.strip qs):=by
 by_cases h : Cv.strip qs = []
 ·exact .inl h
 ·have hl : 0 < (Cv.strip qs).length:=U8.mpr h
  have e:=Uo (l:=Cv.strip qs) (i:=(Cv.strip qs).length - 1) (by lia)
  refine .inr ⟨_,e,fun z=>Cv.strip_last qs h ?_⟩
  rw [e,z]
theorem NQ (n : Nat) : (Tj n true).all id = true:=by
 rw [Ud]
 intro b hb
 exact (List.mem_replicate.mp hb).2
theorem Pen.sm {H H' : Hp} {p : Addr} (h : Pen H p) (e : Ad H H') : Pen H' p:=let ⟨c0,c1,c2,z⟩:=h; ⟨c0,c1,c2,e _ _ z⟩
theorem Ad.put {H H' : Hp} {p : Addr} {o : HO} (h : Ad H H') (hp : H p = none) : Ad H (upd H' p o):=fun b u q=>by rw [AA (Az q hp)]; exact h b u q
end L2
namespace L2
open PySem PySem.Spec PyProof.Rows
def CX1 (P : Program) (w : World) : CXT:=fun outer H s E e s'=>∃ (ea : Addr) (cls a0 : Value) (B : Heap) (H' : Hp),e = .ref ea ∧ s'.os = s.os ∧ AllBare s'.gens ∧ Un (frs outer) [] H H' s.heap s'.heap ∧ HOk P w H' s'.heap ∧
 Heap.FlyingW B outer ea cls a0 s'.heap ∧ (∀ b o,s.heap.get? b = some o → b ∉ frs outer → ∃ o',B.get? b = some o') ∧ (∀ b u,H' b = some u → ∃ o',B.get? b = some o') ∧ E cls none H'
theorem BG.got {P : Program} {w : World} {H : Hp} {h : Heap} {a : Addr} {o : HO} (x : BG P w H h a o) : ∃ ob,h.get? a = some ob:=by
 induction o with
 | lst xs=>obtain ⟨_,_,_,_,e⟩:=x; exact ⟨_,e⟩
 | tup xs=>obtain ⟨_,_,_,ob,e,_⟩:=x; exact ⟨_,e⟩
 | dK kvs=>obtain ⟨_,_,_,_,ob,_,_,e,_⟩:=x; exact ⟨_,e⟩
 | dT kvs=>obtain ⟨_,_,_,_,ob,_,_,e,_⟩:=x; exact ⟨_,e⟩
 | set S n=>obtain ⟨ob,_,_,_,e,_⟩:=x; exact ⟨_,e⟩
 | ins C dx fs=>obtain ⟨_,_,_,e,_⟩:=x; exact ⟨_,e⟩
 | own y=>exact x
 | xd fs=>obtain ⟨_,⟨ob,_,_,e,_⟩,_⟩:=x; exact ⟨_,e⟩
 | met f y=>exact ⟨_,x⟩
 | rng lo hi=>obtain ⟨_,_,_,e⟩:=x; exact ⟨_,e⟩
 | frz ob u ih=>exact ⟨_,x.1⟩
 | tbl ps=>exact ⟨_,x⟩
 | ext φ=>exact x.2.1
section
variable {X : Cx} {pins : List (Addr × Obj)} {σ : St} {H H' : Hp} {s s' : Shared} {B : Heap}
theorem Inv.flown {h2 : Heap} {toks : Nat} (I : Inv X pins σ H s) (un : Un (frs X.stack) [] H H' s.heap s'.heap) (hok : HOk X.prog X.w H' s'.heap) (os : s'.os = s.os) (bare : AllBare s'.gens)
 (hs : ∀ b o,B.get? b = some o → s'.heap.get? b = some o) (k1 : ∀ b o,s.heap.get? b = some o → b ∉ frs X.stack → ∃ o',B.get? b = some o') (k2 : ∀ b u,H' b = some u → ∃ o',B.get? b = some o')
 (h2s : ∀ b o,B.get? b = some o → h2.get? b = some o) (sl : ∀ b o,b ∈ frs X.stack → s'.heap.get? b = some o → ∃ z,h2.get? b = some { o with slots:=z }) : Inv X pins σ H' { s' with heap:=h2,toks:=toks }:=by
 have key : ∀ b o,s'.heap.get? b = some o → (∃ o',B.get? b = some o') → h2.get? b = some o:=fun b o e ⟨o',q⟩=>by
  have:=hs b o' q
  rw [e] at this
  cases this
  exact h2s b o q
 refine I.call' (ch:=[]) os ⟨fun b o e n nb nx=>key b o (un.keep b o e n nb nx) (k1 b o e nb),fun b o e n nb nx=>?_,un.free,fun b o e nx=>?_,un.tups,un.frzs,un.tbls⟩ (fun b u e=>?_) bare (fun _ z=>nomatch z)
 ·obtain ⟨z,q⟩:=un.slot b o e n nb nx
  obtain ⟨z',q'⟩:=sl b _ nb q
  exact ⟨z',q'⟩
 ·obtain ⟨o',q⟩:=un.there b o e nx
  by_cases hb : b ∈ frs X.stack
  ·obtain ⟨z',q'⟩:=sl b _ hb q
   exact ⟨_,q'⟩
  ·exact ⟨_,key b o' q (k1 b o e hb)⟩
 ·refine (hok b u e).stay (fun c v hc q=>key c v q ?_) (fun _ q=>q) fun _ _ q=>q
  rcases hc with rfl | z
  ·exact k2 _ u e
  ·exact k2 c _ z
theorem NI (h : Heap) (l : List Env) : ∀ env ∈ l,∀ b,env.frame = some b → b ∈ frs l:=fun env he b hb=>T3.mpr ⟨env,he,hb⟩
theorem Inv.slots {h2 : Heap} (hf : s'.heap.FunFrames B X.stack) (u : s'.heap.UpToSlots h2) : ∀ b o,b ∈ frs X.stack → s'.heap.get? b = some o → ∃ z,h2.get? b = some { o with slots:=z }:=fun b o hb e=>by
 obtain ⟨_,o',e',nf⟩:=hf.mem hb
 rw [e] at e'
 cases e'
 exact u b o e nf
end
section
variable {P : Program} {w : World} {K : SI} {mg : Str → Option Value} {base : Heap} {N : List Str} {qual : Str} {scope : Scope} {f : Addr} {cd : Value} {A : Around} {outer : List Env} {s : Shared} {H : Hp} {E : XK}
end
structure Hb (K : SI) (x : Str) (C : Addr) : Prop where
 ns : Ut K mainGlobals x = some (some (.ref C))
 ob : ∃ bm N nm q bs hdct sn sub ab col dd k0 k1 k2 k3 k5,K.lookup C = some (excClassObj nm q C N bs bm hdct sn sub ab col dd k0 k1 k2 k3 k5 "ValueError.__new__")
 ex : Uu K C [.type "ValueError",.type "Exception",.type "BaseException",.type "object"] "ValueError.__new__" = true
def Ol (E : XK) (C : Addr) (t : TA) : TS:=fun _ σ H=>t σ H fun xs H1=>xs.length ≤ sizeLine ∧ E (.ref C) none H1
def Oi (X : Cx) (E : XK) : Prop:=∀ (pins : List (Addr × Obj)) (σ : St) (H1 : Hp) (s1 : Shared) (h2 : Heap) (ea : Addr) (cls : Value) (vs : List Value),Inv X pins σ H1 s1 → Heap.MadeExcOf s1.heap h2 ea cls vs → E cls none H1 → X.xe (.ref ea) { s1 with heap:=h2 }
theorem ON {K : SI} {h : Heap} {mg : Str → Option Value} {x : Str} {C : Addr} (X : K.In h) (g : h.Ns mainGlobals mg) (c : Hb K x C) : OwnCls x C [.type "ValueError",.type "Exception",.type "BaseException",.type "object"] "ValueError.__new__" mg h:=by
 obtain ⟨bm,N,nm,q,bs,hdct,sn,sub,ab,col,dd,k0,k1,k2,k3,k5,l⟩:=c.ob
 have ex:=c.ex
 unfold Uu at ex
 rw [l] at ex
 simp only [excClassObj,Bool.and_eq_true,beq_iff_eq] at ex
 exact ⟨Uv X g c.ns,bm,N,nm,q,bs,hdct,sn,sub,ab,col,dd,k0,k1,k2,k3,k5,_,X _ _ l,.of_isNs (PySem.W.isNs_of_in X ex.1.2),PySem.W.nsMap_none_of_in X ex.1.2 ex.2,PySem.W.tail_of_in X ex.1.1.2⟩
theorem Cg {X : Cx} {E : XK} {x : Str} {C : Addr} {np cpos pos : Pos} {e₀ : Expr} {Bj : List Expr} {t : TA} (c : Hb X.K x C) (hg : Gl X x) (hM : Oi X E) (hc : X.calm = true) (ha : PA X (e₀ :: Bj) t)
 (hdb : (x == ("__debug__" : Str)) = false:=by decide) (he : starEach (e₀ :: Bj) X.env = (false,eval e₀ X.env) :: starEach Bj X.env:=by rfl) (hpl : (backTo cpos (starEach Bj X.env)).any (·.1) = false:=by rfl) :
 PS X (.Raise (some (.Call (.Name x np) (e₀ :: Bj) [] cpos)) none pos) (Ol E C t):=by
 intro pins s σ H D I h
 have O:=ON I.mod.kin I.mod.glob c
 obtain ⟨tl,N,nm,q,bs,hdct,sn,sub,ab,col,dd,k0,k1,k2,k3,k5,mN,hC,hN,hni,T⟩:=O.obj
 have FB:=PySem.F.excBase_ValueError
 refine wpAny_Raise_call_subT (C:=C) (nm:=nm) (q:=q) (N:=N) (bs:=bs) (bm:=tl) (hdct:=hdct) (sn:=sn) (sub:=sub) (ab:=ab) (col:=col) (dd:=dd) (k0:=k0) (k1:=k1) (k2:=k2) (k3:=k3) (k5:=k5)
  FB (mN:=mN) (T.hasType FB.hasBase) (I.ok.hd hc) (by rw [he]; show (false || (backTo cpos (starEach Bj X.env)).any (·.1)) = false; rw [hpl]; rfl) hni (EZ I hg O.bound ⟨rfl,?_⟩ hdb)
 rw [he]
 refine Calls.evalArgs_plain ?_
 have z:=ha cpos pins s σ H _ I h
 rw [he] at z
 refine thn z fun us s2 ⟨xs,H1,I1,r,hz,hE⟩=>⟨rfl,by rw [← r.length]; exact hz,I1.bk _ _ hC,hN.keeps I1.bk,T.keeps I1.bk,fun h' e hx=>hM pins σ H1 s2 h' e _ _ I1 hx hE⟩
abbrev Cx.marked (X : Cx) (ea : Addr) : Cx:={ X with A:=X.A.mark (some (.ref ea)),calm:=false,xe:=fun _ _=>False }
section
variable {X : Cx} {pins : List (Addr × Obj)} {σ : St} {H H' : Hp} {s s' : Shared} {B : Heap}
theorem Cx.Ok.marked (ok : X.Ok) (ea : Addr) : (X.marked ea).Ok :=
 ⟨ok.mod,ok.kind,ok.glob,ok.blt,ok.above,ok.inj,ok.has,ok.cab,(fun z=>nomatch z),ok.frames,ok.stk,ok.exf,ok.bs,ok.bsz,ok.noex,ok.exfs,ok.funs,ok.frf⟩
theorem Inv.marked (I : Inv X pins σ H s) (ea : Addr) : Inv (X.marked ea) pins σ H s:=⟨I.ok.marked ea,I.os,I.bare,I.base,I.loc,I.cell,I.free,I.freeC,I.pin,I.hok,I.len⟩
theorem Inv.gone {h2 : Heap} {toks : Nat} {i : Nat} {n : Str} {v : Option Value} {m : Str → Option Value} (I : Inv X pins σ H s) (hN : X.N.Nodup) (hi : X.N[i]? = some n)
 (hl : ∀ (j : Nat) (x : Str) (v : V),X.N[j]? = some x → σ[j]? = some (some v) → Vis X.env.scope x → ∃ u,Ba v u ∧ Qz X.env s.heap m x u)
 (hn : h2.Ns X.env.locals fun x=>if x = n then v else m x) (sb : Heap.SameBut X.env.locals s.heap h2) : Inv X pins (σ.set i none) H { s with heap:=h2,toks:=toks }:=by
 have kp : ∀ b o,b ≠ X.env.locals → s.heap.get? b = some o → h2.get? b = some o:=fun b o nb e=>(sb.2 b nb).trans e
 have neL : ∀ b o,X.s₀.heap.get? b = some o → b ≠ X.env.locals:=fun b o e=>Sz (Sx (Heap.lt_size e) I.ok.above)
 have cellK : ∀ x c,X.env.cells.lookup x = some c → ∀ v,s.heap.IsCell c v → h2.IsCell c v:=fun x c e v ⟨o,ho,hd⟩=>⟨o,kp c o (I.cne x c e) ho,hd⟩
 refine ⟨I.ok,I.os,I.bare,⟨fun b o e nn hb hx=>kp b o (neL b o e) (I.base.keep b o e nn hb hx),fun b o e nn hb hx=>?_,I.base.free,fun b o e hx=>?_,I.base.tups,I.base.frzs,I.base.tbls⟩,⟨_,hn,fun j x v' e1 e2 e3=>?_⟩,fun x c e=>?_,I.free,I.freeC,fun p hp=>?_,fun b u e=>?_,by rw [TQ]; exact I.len⟩
 ·obtain ⟨sl,q⟩:=I.base.slot b o e nn hb hx
  exact ⟨sl,kp b _ (neL b o e) q⟩
 ·obtain ⟨o',q⟩:=I.base.there b o e hx
  exact ⟨o',kp b _ (neL b o e) q⟩
 ·by_cases hij : i = j
  ·subst hij
   rw [List.getElem?_set] at e2
   split at e2
   ·split at e2 <;> cases e2
   ·exact absurd rfl (by assumption)
  ·rw [SW hij] at e2
   obtain ⟨u,r,l⟩:=hl j x v' e1 e2 e3
   have hx : x ≠ n:=fun z=>hij (GD hN hi (by rw [← z]; exact e1))
   refine ⟨u,r,?_⟩
   rcases l with ⟨k,l⟩ | ⟨k,c,e,z⟩
   ·exact .inl ⟨k,by show (if x = n then v else m x) = _; rw [if_neg hx]; exact l⟩
   ·exact .inr ⟨k,c,e,cellK x c e _ z⟩
 ·obtain ⟨v,z⟩:=I.cell x c e
  exact ⟨v,cellK x c e v z⟩
 ·obtain ⟨e,nn,ne,nf,d⟩:=I.pin p hp
  exact ⟨kp _ _ ne e,nn,ne,nf,d⟩
 ·refine (I.hok b u e).stay (fun c v hc q=>kp c v ?_ q) (fun _ q=>q) fun _ _ q=>q
  rcases hc with rfl | z
  ·intro y; rw [y,I.free] at e; cases e
  ·intro y; rw [y,I.free] at z; cases z
end
section
open PySem.W PySem.Builtin PySem.Builtin.ObjectAttr PySem.Builtin.Getset_descriptor
variable {prog : Program} {w : World} {A : Around} {E : Value → Shared → Prop} {s : Shared} {K : SI} {x D : Addr}
structure XTy (K : SI) (D : Addr) : Prop where
 ga : findIn K (.ref D) "__getattribute__" = some (some (.builtin "BaseException.__getattribute__"))
 gt : findIn K (.ref D) "__getattr__" = some none
 ca : findIn K (.ref D) "__class__" = some (some (.builtin "object.__class__"))
 gg : specialIn K (.builtin "object.__class__") "__get__" = some (some (.builtin "getset_descriptor.__get__"))
 tk : takesIn K (.builtin "object.__class__") = some true
 ob : mroIn K D (.type "object") = some true
 be : mroIn K D (.type "BaseException") = some true
 cl : ∃ c d cd sl,K.lookup D = some ⟨c,d,.cls cd,sl⟩
theorem LL (X : K.In s.heap) (T : XTy K D) : Looks (model prog w) s.heap (find (.ref x) (.ref D) "__class__") (.bind (.builtin "getset_descriptor.__get__") (.builtin "object.__class__")):=by
 have L1:=looks_findIn (M:=model prog w) X T.ca
 have L2 : Looks (model prog w) s.heap (getOf (some (.builtin "object.__class__"))) (some (.builtin "getset_descriptor.__get__")):=looks_specialIn X T.gg
 have L3:=looks_takesIn (M:=model prog w) X T.tk
 exact L1.andThen (L2.andThen ((show Looks (model prog w) s.heap (dataDescriptor? (some (.builtin "object.__class__")) (some (.builtin "getset_descriptor.__get__"))) (some (.builtin "getset_descriptor.__get__",.builtin "object.__class__")) from L3.andThen .now).andThen (Looks.tag .now)))
theorem LX {Q : Option Value → Shared → Prop} (X : K.In s.heap) (L0 : Looks (model prog w) s.heap (typeOf (.ref x)) (.ref D)) (T : XTy K D) (h : Q (some (.ref D)) { s with toks:=s.toks + 1 }) : wpAny (model prog w) A (getAttr? (.ref x) "__class__") Q E s:=by
 have L1:=looks_findIn (M:=model prog w) X T.ga
 have L2:=LL (prog:=prog) (w:=w) (x:=x) X T
 have L3:=looks_findIn (M:=model prog w) X T.gt
 have L4:=looks_mroIn (M:=model prog w) X T.ob
 obtain ⟨hh,g,d,t,os⟩:=s
 unfold getAttr? getAttrBy? getAttrBy
 have L5:=looks_mroIn (M:=model prog w) X T.be
 refine wpAny_bind (wpAny_mkText (wpAny_bind (wpAny_attempt (wpAny_holding (wpAny_bind (L0.at (wpAny_bind (L1.at ?_))))))))
 have hx2 : (Value.builtin "BaseException.__getattribute__" == Value.builtin "object.__getattribute__") = false:=by decide +kernel
 dsimp only
 rw [hx2,Bool.and_false,if_neg (by decide)]
 have hk : builtinKind "BaseException.__getattribute__" = some .slot:=by decide +kernel
 have hsplit : splitId "BaseException.__getattribute__" = some ("BaseException","__getattribute__"):=by decide +kernel
 have ha:=F.args_bexc_ga (.ref x) (.str "__class__" t)
 unfold getAttrByItsOwn hookBefore
 refine wpAny_bind ?_
 show wpAny _ _ (typeLookup (.ref D) "__getattr__") _ _ _
 refine L3.at (wpAny_bind (wpAny_attempt (wpAny_holding ?_)))
 show wpAny _ _ (boundAndCalled (.builtin "BaseException.__getattribute__") (.ref x) _) _ _ _
 unfold boundAndCalled
 rw [F.excAttr_ValueError.ga.bind (.ref x)]
 refine wpAny_bind (wpAny_pure ?_)
 first | refine wpAny_call (codeAny_call_builtin F.excAttr_ValueError.ga.plain F.entry_bexc_ga ?_) | refine wpAny_holding (wpAny_call (codeAny_call_builtin F.excAttr_ValueError.ga.plain F.entry_bexc_ga ?_))
 simp only [checkBuiltinCall,hk,hsplit]
 unfold isInstance
 show wpAny _ _ (do let b ← (do let tp ← typeOf (.ref x); isSubtype tp (.type "BaseException")); _) _ _ _
 refine wpAny_bind (wpAny_bind (L0.at (L5.at ?_)))
 rw [if_neg (by decide)]
 unfold argsOk at ha
 refine wpAny_of_eq ha ?_
 show wpAny _ _ (Builtin.«object.__getattribute__» ⟨[.ref x,.str "__class__" t],[]⟩) _ _ _
 unfold Builtin.«object.__getattribute__»
 refine wpAny_bind (wpAny_of_eq (show slotArgs "__getattribute__" 1 ⟨[.ref x,.str "__class__" t],[]⟩ = pure (.ref x,[.str "__class__" t]) from by kernel_rfl) ?_)
 refine wpAny_bind (wpAny_of_eq (show attrName (.str "__class__" t) = pure "__class__" from by kernel_rfl) ?_)
 refine wpAny_bind (L0.at (wpAny_bind (L2.at ?_)))
 unfold bindTo
 show wpAny _ _ (holding [Value.builtin "object.__class__"] (call (.builtin "getset_descriptor.__get__") [.builtin "object.__class__",.ref x,.ref D]) >>= ret) _ _ _
 refine wpAny_bind (wpAny_holding (wpAny_call ?_))
 refine codeAny_call_builtin KF.slot_gs.plain KF.entry_gs (KF.slot_gs.check _ _ _ _ _ _ _ _ KF.type_class (KF.args_gs _ _ _) ?_)
 unfold Builtin.«getset_descriptor.__get__» descrGet
 rw [dga_obj]
 refine wpAny_bind (wpAny_pure ?_)
 unfold descrGetter descrCheckInstance descrNameAndClass isInstance
 simp only [KF.owner_class]
 repeat lk
 refine ⟨Code.quiet_builtin _ (by decide +kernel),codeAny_builtin KF.entry_class ?_⟩
 unfold Builtin.«object.__class__» shownTypeOf
 repeat lk
 exact h
def PQ (x D : Addr) (h : Heap) : Prop:=∃ o,h.get? x = some o ∧ o.cls = .ref D
theorem Lj {M : Model} {h : Heap} (p : PQ x D h) : Looks M h (typeOf (.ref x)) (.ref D):=by
 obtain ⟨o,h1,h2⟩:=p
 exact h2 ▸ (Looks.ld h1).andThen .now
theorem MU (T : XTy K D) : KitX K (.ref x) (.ref D) (PQ x D) where
 ty:=fun _ _ _ p=>Lj p
 it:=fun _ _ X _=>by
  obtain ⟨c,d,cd,sl,ho⟩:=T.cl
  intro A' Q' E' s' k q
  unfold isType loadHead
  exact wpAny_bind (wpAny_loadPart (k _ _ (X _ _ ho)) (wpAny_pure q))
 ne:=fun h tp dd its n sl X htp=>by
  obtain ⟨c,d,cd,sl',ho⟩:=T.cl
  refine Bool.eq_false_iff.mpr fun q=>?_
  have e : D = tp:=Value.ref.inj (beq_iff_eq.mp q)
  subst e
  have z:=(X _ _ ho).symm.trans htp
  cases z
 ca:=fun X p k=>LX X (Lj p) T k
def NL : V → Option Value
 | .ref a=>some (.ref a)
 | .ty T=>some (.type T)
 | _=>none
theorem JR {y : V} {u c : Value} (r : Ba y u) (e : NL y = some c) : u = c:=by
 cases y <;> cases e <;> exact r
theorem HV : ∀ {ys : List V} {us cs : List Value},AH ys us → ys.map NL = cs.map some → us = cs
 | _,_,[],.nil,_=>rfl
 | _,_,_ :: _,.nil,e=>nomatch e
 | _,_,[],.cons _ _,e=>nomatch e
 | _,_,c :: cs,.cons r rs,e=>by
   injection e with e1 e2
   rw [JR r e1,HV rs e2]
end
section
open PySem.W
variable {X : Cx} (K : SI)
end
section
variable {P : Program} {w : World} {K : SI} {mg : Str → Option Value} {base : Heap}
end
structure FdX (P : Program) (w : World) (K : SI) (mg : Str → Option Value) (base : Heap) (n : Nat) (x : Str) (ps : List Str) (sp : Sp) : Prop where
 ex : ∃ (f : Addr) (fd : FuncData),AF P w K mg base (CX1 P w) n f fd ps sp ∧ Cz K fd ps [] ∧ T9 K (.ref f) = true ∧ mg x = some (.ref f)
end L2
namespace L2
open PySem PySem.Spec PyProof.Rows
section
variable {X : Cx} {tg : Expr}
end
theorem GI {K : SI} {a : Addr} {js : List Nat} {xs : List V} {te : TE} {σ : St} {H : Hp} {Fin : List V → Hp → Prop} (Pv : Nat → List V → Hp → Prop) (h0 : Pv 0 [] H)
 (hl : ∀ i zs H,i ≤ xs.length → Pv i zs H → SqL K H a xs ∧ zs.length = i) (hz : xs.length ≤ sizeLine)
 (hs : ∀ i x zs H,xs[i]? = some x → Pv i zs H → te ((cS 1 js σ).set 0 (some x)) H fun y H4=>Pv (i + 1) (zs ++ [y]) H4) (fin : ∀ zs H',Pv xs.length zs H' → Fin zs H') :
 ∃ (n' : Nat) (W : Nat → List V → Hp → Prop),W 0 [] H ∧ LcW (Itl K a) n' 1 js σ (Ck 0) Lv te Fin W:=by
 refine ⟨xs.length,Pv,h0,⟨?_,?_,?_⟩⟩
 ·intro i zs H' hi p
  obtain ⟨h1,h2⟩:=hl i zs H' (SK hi) p
  exact ⟨⟨xs,xs[i],h1,by simp [hi]⟩,by lia⟩
 ·rintro i zs H' x H1 hi p ⟨rfl,y⟩
  exact hs i x zs _ (y xs (hl i zs _ (SK hi) p).1) p
 ·intro zs H' p
  obtain ⟨h1,h2⟩:=hl _ zs H' (T2 _) p
  exact ⟨⟨xs,h1,T2 _⟩,by lia,fin zs H' p⟩
theorem HC : bootBuiltins "ValueError" = some (.type "ValueError"):=by decide +kernel
end L2
namespace L2
open PySem PySem.Spec PyProof.Rows
theorem Ji {s Bj : TS} {D : El} {σ : St} {H : Hp} (Pv : St → Hp → Prop) (h : ∀ nx : St → Hp → Prop,(∀ σ' H',Pv σ' H' → nx σ' H') → s { D with nx:=nx } σ H) (k : ∀ σ' H',Pv σ' H' → Bj D σ' H') : Ni s Bj D σ H:=h _ k
theorem LF {i : Nat} {v : V} {c : TT} {t u Bj : TS} {D : El} {σ : St} {H : Hp} (Pv : St → Hp → Prop) (h : ∀ nx : St → Hp → Prop,(∀ σ' H',Pv σ' H' → nx σ' H') → Lw c t u { D with nx:=nx } (σ.set i (some v)) H) (k : ∀ σ' H',Pv σ' H' → Bj D σ' H') : Ck i v σ H (Ni (Lw c t u) Bj D):=h _ k
theorem Mv.put' {a l : Addr} {H H' : Hp} {o : HO} (m : Mv a H H') (hl : H l = none) : Mv a H (upd H' l o):=fun b u n q=>by rw [AA (Az q hl)]; exact m b u n q
theorem Mv.free {a l : Addr} {H H' : Hp} (m : Mv a H H') (la : l ≠ a) (h : H' l = none) : H l = none:=by
 cases z : H l with
 | none=>rfl
 | some u=>rw [m l u la z] at h; cases h
theorem Pen.put' {H : Hp} {a l : Addr} {o : HO} (h : Pen H a) (la : l ≠ a) : Pen (upd H l o) a:=let ⟨x0,x1,x2,ex⟩:=h; ⟨x0,x1,x2,by rw [AA (Ne.symm la)]; exact ex⟩
theorem Pen.ne' {H : Hp} {a l : Addr} (h : Pen H a) (hl : H l = none) : l ≠ a:=let ⟨_,_,_,ex⟩:=h; (Az ex hl).symm
def QS (K : SI) (H : Hp) (x : V) (rs : List Rat) : Prop:=∃ a ys,x = .ref a ∧ SqL K H a ys ∧ By K H ys rs
abbrev Rows (K : SI) (H : Hp) : List V → List (List Rat) → Prop:=Paired (QS K H)
end L2
namespace L2
open PySem PySem.Spec PyProof.Rows
section
variable {X : Cx}
@[irreducible] def Ka (K : SI) (neg : Bool) : R2:=fun x y H Q=>∃ p ds d,y = .ref p ∧ Rds K H (.ref p) (.list ds) ∧ Rds K H x d ∧ SeqAt.shaped (.list ds) = true ∧ SeqAt.shaped d = true ∧ Q (.bl (if neg then !(ds.any fun y=>PyData.eqv y d) else ds.any fun y=>PyData.eqv y d)) H
theorem IP {K : SI} {neg : Bool} {x y : V} {H : Hp} {Q : VK} (h : ∃ p ds d,y = .ref p ∧ Rds K H (.ref p) (.list ds) ∧ Rds K H x d ∧ SeqAt.shaped (.list ds) = true ∧ SeqAt.shaped d = true ∧ Q (.bl (if neg then !(ds.any fun y=>PyData.eqv y d) else ds.any fun y=>PyData.eqv y d)) H) : Ka K neg x y H Q:=by
 unfold Ka; exact h
theorem inD (K : SI) {k : Nat} (hr : Cf k X.A) (e : X.K = K:=by rfl) : OpR X (compareOp .In) (Ka K false):=by
 subst e
 intro pins s σ H x y v u Q I rx ry h
 unfold Ka at h
 obtain ⟨p,ds,d,rfl,r1,r2,h1,h2,q⟩:=h
 cases ry
 obtain ⟨as,q1⟩:=BV I r1 (u:=.ref p) rfl
 obtain ⟨bs,q2⟩:=BV I r2 rx
 exact SeqAt.in_list_reads q1 q2 (SeqAt.canLay_of_shaped h1) (SeqAt.canLay_of_shaped h2) (PyProof.Rows.room_in_shaped h2 (by have:=hr.un; lia)) ⟨.bl _,H,I,rfl,q⟩
theorem OU (K : SI) {k : Nat} (hr : Cf k X.A) (e : X.K = K:=by rfl) : OpR X (compareOp .NotIn) (Ka K true):=by
 subst e
 intro pins s σ H x y v u Q I rx ry h
 unfold Ka at h
 obtain ⟨p,ds,d,rfl,r1,r2,h1,h2,q⟩:=h
 cases ry
 obtain ⟨as,q1⟩:=BV I r1 (u:=.ref p) rfl
 obtain ⟨bs,q2⟩:=BV I r2 rx
 exact SeqAt.notIn_list_reads q1 q2 (SeqAt.canLay_of_shaped h1) (SeqAt.canLay_of_shaped h2) (PyProof.Rows.room_in_shaped h2 (by have:=hr.un; lia)) ⟨.bl _,H,I,rfl,q⟩
end
theorem N7 (q : Rat) : ∀ qs : List Rat,((qs.map nD).any fun y=>PyData.eqv y (nD q)) = decide (q ∈ qs)
 | []=>by simp
 | c :: r=>by
   rw [U1,TR,Ke,N7 q r,Bool.eq_iff_iff]
   simp only [Bool.or_eq_true,decide_eq_true_eq,SQ]
   constructor
   ·rintro (h | h)
    ·exact .inl h.symm
    ·exact .inr h
   ·rintro (h | h)
    ·exact .inl h.symm
    ·exact .inr h
theorem inN {K : SI} {H : Hp} {x : V} {a : Addr} {xs : List V} {q : Rat} {qs : List Rat} {Q : VK} {neg : Bool} (h1 : Be K H x q) (s2 : SqL K H a xs) (n2 : By K H xs qs) (h : Q (.bl (if neg then !decide (q ∈ qs) else decide (q ∈ qs))) H) : Ka K neg x (.ref a) H Q :=
 IP ⟨a,_,_,rfl,n2.rdsL s2,h1.rds,EY _,Fq _,by rw [N7]; exact h⟩
def PtV (K : SI) (H : Hp) (x : V) (ps : List Rat) : Prop:=∃ a,x = .ref a ∧ Crv K H a ps
abbrev Pts (K : SI) (H : Hp) : List V → List (List Rat) → Prop:=Paired (PtV K H)
theorem PtV.same {K : SI} {H H' : Hp} {x : V} {ps : List Rat} (h : PtV K H x ps) (e : Ad H H') : PtV K H' x ps:=let ⟨a,h1,h2⟩:=h; ⟨a,h1,h2.same e⟩
theorem Pts.same {K : SI} {H H' : Hp} {xs : List V} {pss : List (List Rat)} (h : Pts K H xs pss) (e : Ad H H') : Pts K H' xs pss:=Paired.mapP h fun _ _ z=>z.same e
structure Kv where
 x : Rat
 k : Int
 n : Rat
deriving DecidableEq
end L2
namespace L2
open PySem PySem.Spec PyProof.Rows
section
variable {X : Cx} {e : Expr} {te : TE}
end
def J1 (t : TGs) (nt : Nat) : Prop:=∀ (vs : List V) (σ : St) (H : Hp) (Q : St → Hp → Prop) (σ0 : St),(σ.length = σ0.length ∧ σ.drop nt = σ0.drop nt) → t vs σ H Q → t vs σ H fun σ2 H2=>(σ2.length = σ0.length ∧ σ2.drop nt = σ0.drop nt) ∧ Q σ2 H2
theorem K3 {nt : Nat} : J1 Po nt:=fun _ _ _ _ _ r ⟨e,q⟩=>⟨e,r,q⟩
theorem FG {i nt : Nat} {u : TGs} (h : i < nt) (hu : J1 u nt) : J1 (JK (Ck i) u) nt:=fun vs σ H Q σ0 r ⟨v,rs,e,q⟩=>⟨v,rs,e,hu rs (σ.set i (some v)) H Q σ0 ⟨by rw [TQ]; exact r.1,by
 rw [← r.2]
 apply Uh
 intro k
 rw [Ui,Ui,SW (by lia)]⟩ q⟩
theorem LA {K : SI} {n nt : Nat} {t : TGs} (h : J1 t nt) : He (LV K n t) nt:=fun _ σ H Q ⟨a,xs,e,s,l,q⟩=>⟨a,xs,e,s,l,h xs σ H Q σ ⟨rfl,rfl⟩ q⟩
end L2
namespace L2
def Qw : List Rat → List Rat → List Rat
 | [],m=>m
 | a :: l,[]=>a :: l
 | a :: l,b :: m=>(a + b) :: Qw l m
open PySem PySem.Spec PyProof.Rows
theorem DI {K : SI} {a : Addr} {js : List Nat} {xs : List V} {te : TE} {σ : St} {H : Hp} {Fin : List V → Hp → Prop} (Pv : Nat → List V → Hp → Prop) (h0 : Pv 0 [] H)
 (hl : ∀ i zs H,i ≤ xs.length → Pv i zs H → SqT K H a xs ∧ zs.length = i) (hz : xs.length ≤ sizeLine)
 (hs : ∀ i x zs H,xs[i]? = some x → Pv i zs H → te ((cS 1 js σ).set 0 (some x)) H fun y H4=>Pv (i + 1) (zs ++ [y]) H4) (fin : ∀ zs H',Pv xs.length zs H' → Fin zs H') :
 ∃ (n' : Nat) (W : Nat → List V → Hp → Prop),W 0 [] H ∧ LcW (Itt K a) n' 1 js σ (Ck 0) Lv te Fin W:=by
 refine ⟨xs.length,Pv,h0,⟨?_,?_,?_⟩⟩
 ·intro i zs H' hi p
  obtain ⟨h1,h2⟩:=hl i zs H' (SK hi) p
  exact ⟨⟨xs,xs[i],h1,by simp [hi]⟩,by lia⟩
 ·rintro i zs H' x H1 hi p ⟨rfl,y⟩
  exact hs i x zs _ (y xs (hl i zs _ (SK hi) p).1) p
 ·intro zs H' p
  obtain ⟨h1,h2⟩:=hl _ zs H' (T2 _) p
  exact ⟨⟨xs,h1,T2 _⟩,by lia,fin zs H' p⟩
end L2
namespace L2
def ch : Nat → Nat → Nat
 | _,0=>1
 | 0,_ + 1=>0
 | n + 1,k + 1=>ch n k + ch n (k + 1)
def aQ (l : List Rat) : List Rat:=(SA (l.length - 1)).map fun j=>l.getD j 0 + l.getD (j + 1) 0
def aQN : Nat → List Rat → List Rat
 | 0,l=>l
 | n + 1,l=>aQ (aQN n l)
def OM (al : List Rat) : List Rat:=(SA al.length).map fun k=>al.getD k 0 / ((ch (al.length - 1) k : Nat) : Rat)
def QP (al : List Rat) : List Rat:=(SA al.length).map fun j=>(aQN j (OM al)).getD 0 0
def goL (a b : Rat) : Rat → List Rat → List Rat
 | p,[]=>[a * p]
 | p,c :: r=>(a * p + b * c) :: goL a b c r
def Od (a b : Rat) : List Rat → List Rat
 | []=>[]
 | q :: r=>match Od a b r with
   | []=>[q]
   | c :: s=>(q + b * c) :: goL a b c s
def hts (cs : List Rat) (lo hi : Rat) : List Rat:=if cs = [] then [0] else QP (Od (hi - lo) lo cs)
end L2
namespace L2
end L2
namespace L2
open PySem PySem.Spec PyProof.Rows PySem.SeqAt
theorem JF : ∀ {ns : List Int} {its : List Value},AH (ns.map V.int) its → IntsAre its ns
 | [],_,.nil=>.nil
 | n :: ns,_,.cons r rs=>by
   obtain ⟨t,rfl⟩:=r
   exact .cons n t (JF rs)
end L2
namespace L2
def ty (x : Rat) : List Rat → List Rat
 | []=>[]
 | q :: r=>Qw (q :: ty x r) ((ty x r).map (· * x))
end L2
namespace L2
end L2
namespace L2
open PySem PySem.Spec PyProof.Rows
end L2
namespace PySem
open Sem (wp)
open Builtin
set_option maxRecDepth 100000
end PySem
namespace L2
open PySem PySem.Spec PyProof.Rows
variable {X : Cx}
end L2
namespace L2
open PySem PySem.Spec PyProof.Rows
def tpD (rs : List Rat) : PyData:=.tuple (rs.map nD)
theorem PtV.rds {K : SI} {H : Hp} {x : V} {ps : List Rat} (h : PtV K H x ps) : Rds K H x (tpD ps):=by
 obtain ⟨a,rfl,xs,s,n⟩:=h
 exact n.rdsT s
theorem Jb : ∀ ps qs : List (List Rat),PyData.eqvAll (ps.map tpD) (qs.map tpD) = decide (ps = qs)
 | [],[]=>rfl
 | [],_ :: _=>rfl
 | _ :: _,[]=>rfl
 | p :: ps,q :: qs=>by
   show (PyData.eqv (tpD p) (tpD q) && PyData.eqvAll (ps.map tpD) (qs.map tpD)) = _
   have e : PyData.eqv (tpD p) (tpD q) = decide (p = q):=G8 p q
   rw [e,Jb ps qs,Bool.eq_iff_iff]
   simp
theorem Ja : ∀ qs : List (List Rat),PyData.canLayAll0 (qs.map tpD) = true
 | []=>rfl
 | q :: r=>by
   show (PyData.canLayAll0 (q.map nD) && PyData.canLayAll0 (r.map tpD)) = true
   rw [IK q,Ja r]; rfl
theorem Gf : ∀ qs : List (List Rat),PyData.depthAll (qs.map tpD) ≤ 2
 | []=>T5 _
 | q :: r=>by
   have ih:=Gf r
   have iq:=Fp q
   show max (PyData.depthAll (q.map nD) + 1) (PyData.depthAll (r.map tpD)) ≤ 2
   exact Nat.max_le.mpr ⟨by lia,ih⟩
theorem J9 (qs : List (List Rat)) : SeqAt.shaped (.tuple (qs.map tpD)) = true:=by
 show (PyData.canLayAll0 (qs.map tpD) && decide (PyData.depthAll (qs.map tpD) + 1 ≤ 64)) = true
 rw [Ja,Bool.true_and]
 exact decide_eq_true (by have:=Gf qs; lia)
theorem Pts.rds {K : SI} {H : Hp} {xs : List V} {rss : List (List Rat)} (h : Pts K H xs rss) : ∀ (i : Nat) x d,xs[i]? = some x → (rss.map tpD)[i]? = some d → Rds K H x d:=fun i x d e1 e2=>by
 obtain ⟨q,hq,hn⟩:=Paired.get h e1
 rw [Tu,hq] at e2
 cases e2
 exact hn.rds
theorem QR {K : SI} {H : Hp} {a b : Addr} {xs ys : List V} {ps qs : List (List Rat)} {Q : VK} {neg : Bool} (s1 : SqT K H a xs) (n1 : Pts K H xs ps) (s2 : SqT K H b ys) (n2 : Pts K H ys qs) (h : Q (.bl (if neg then !decide (ps = qs) else decide (ps = qs))) H) : EM K neg (.ref a) (.ref b) H Q:=by
 refine FA ⟨_,_,.tup s1 (by rw [n1.length,TC]) n1.rds,.tup s2 (by rw [n2.length,TC]) n2.rds,J9 _,J9 _,?_⟩
 have e : PyData.eqv (.tuple (ps.map tpD)) (.tuple (qs.map tpD)) = decide (ps = qs):=Jb ps qs
 rw [e]; exact h
end L2
namespace L2
open PySem PySem.Spec PyProof.Rows
def kQ (q : Rat) : List Key:=[.inl q.num,.inl (q.den : Int)]
theorem Ph {p q : Rat} (h : kQ p = kQ q) : p = q:=by
 unfold kQ at h
 injection h with h1 h2
 injection h2 with h2 _
 injection h1 with h1
 injection h2 with h2
 exact Rat.ext h1 (Int.ofNat.inj h2)
def Dx (H : Hp) (x : V) (q : Rat) : Prop:=∃ r,x = .ref r ∧ H r = some (nT q)
abbrev AM (H : Hp) : List V → List Rat → Prop:=Paired (Dx H)
theorem Dx.num {K : SI} {H : Hp} {x : V} {q : Rat} (h : Dx H x q) : Be K H x q:=let ⟨r,e,h⟩:=h; ⟨r,e,SqT.of h⟩
theorem Dx.same {H H' : Hp} {x : V} {q : Rat} (h : Dx H x q) (e : Ad H H') : Dx H' x q:=let ⟨r,z,h⟩:=h; ⟨r,z,e _ _ h⟩
theorem Dx.mv {H H' : Hp} {x : V} {q : Rat} {p : Addr} (h : Dx H x q) (pn : Pen H p) (m : Mv p H H') : Dx H' x q:=let ⟨r,z,h⟩:=h; ⟨r,z,m r _ (pn.ne h (HL q)) h⟩
theorem Dx.put {H : Hp} {x : V} {q : Rat} {p : Addr} {ys : List V} {o : HO} (h : Dx H x q) (hp : H p = some (.lst ys)) : Dx (upd H p o) x q:=let ⟨r,z,h⟩:=h; ⟨r,z,by rw [AA (EX h hp (fun z=>by cases z))]; exact h⟩
theorem AM.nums {K : SI} {H : Hp} {xs : List V} {qs : List Rat} (h : AM H xs qs) : By K H xs qs:=Paired.mapP h fun _ _ z=>z.num
theorem AM.same {H H' : Hp} {xs : List V} {qs : List Rat} (h : AM H xs qs) (e : Ad H H') : AM H' xs qs:=Paired.mapP h fun _ _ z=>z.same e
theorem AM.mv {H H' : Hp} {xs : List V} {qs : List Rat} {p : Addr} (h : AM H xs qs) (pn : Pen H p) (m : Mv p H H') : AM H' xs qs:=Paired.mapP h fun _ _ z=>z.mv pn m
theorem AM.put {H : Hp} {xs : List V} {qs : List Rat} {p : Addr} {ys : List V} {o : HO} (h : AM H xs qs) (hp : H p = some (.lst ys)) : AM (upd H p o) xs qs:=Paired.mapP h fun _ _ z=>z.put hp
def PtT (K : SI) (H : Hp) (x : V) (ps : List Rat) : Prop:=∃ a us p,x = .ref a ∧ SqT K H a us ∧ By K H us ps ∧ us[0]? = some (.ref p) ∧ H p = some (nT (ps.getD 0 0))
abbrev Bo (K : SI) (H : Hp) : List V → List (List Rat) → Prop:=Paired (PtT K H)
section
variable {K : SI} {H H' : Hp} {x : V} {ps : List Rat} {xs : List V} {pss : List (List Rat)} {p : Addr} {ys : List V} {o : HO}
theorem PtT.pt (h : PtT K H x ps) : PtV K H x ps:=let ⟨a,us,_,e,h1,h2,_⟩:=h; ⟨a,e,us,h1,h2⟩
theorem PtT.same (h : PtT K H x ps) (e : Ad H H') : PtT K H' x ps:=let ⟨a,us,b,z,h1,h2,h3,h4⟩:=h; ⟨a,us,b,z,h1.same e,h2.same e,h3,e _ _ h4⟩
theorem PtT.mv (h : PtT K H x ps) (pn : Pen H p) (m : Mv p H H') : PtT K H' x ps:=let ⟨a,us,b,z,h1,h2,h3,h4⟩:=h; ⟨a,us,b,z,h1.mv pn m,h2.mv pn m,h3,m b _ (pn.ne h4 (HL _)) h4⟩
theorem PtT.put (h : PtT K H x ps) (hp : H p = some (.lst ys)) : PtT K (upd H p o) x ps:=let ⟨a,us,b,z,h1,h2,h3,h4⟩:=h; ⟨a,us,b,z,h1.put hp,h2.put hp,h3,by rw [AA (EX h4 hp (fun z=>by cases z))]; exact h4⟩
theorem Bo.pts (h : Bo K H xs pss) : Pts K H xs pss:=Paired.mapP h fun _ _ z=>z.pt
theorem Bo.same (h : Bo K H xs pss) (e : Ad H H') : Bo K H' xs pss:=Paired.mapP h fun _ _ z=>z.same e
theorem Bo.mv (h : Bo K H xs pss) (pn : Pen H p) (m : Mv p H H') : Bo K H' xs pss:=Paired.mapP h fun _ _ z=>z.mv pn m
theorem Bo.put (h : Bo K H xs pss) (hp : H p = some (.lst ys)) : Bo K (upd H p o) xs pss:=Paired.mapP h fun _ _ z=>z.put hp
end
def TlT (K : SI) (H : Hp) (v : V) (t : Kv) : Prop:=∃ a p rn,v = .ref a ∧ SqT K H a [.ref p,.int t.k,rn] ∧ H p = some (nT t.x) ∧ Be K H rn t.n
abbrev Hd (K : SI) (H : Hp) : List V → List Kv → Prop:=Paired (TlT K H)
section
variable {K : SI} {H H' : Hp} {x : V} {t : Kv} {xs : List V} {ts : List Kv} {p : Addr} {ys : List V} {o : HO}
theorem TlT.same (h : TlT K H x t) (e : Ad H H') : TlT K H' x t:=let ⟨a,b,rn,z,h1,h2,h3⟩:=h; ⟨a,b,rn,z,h1.same e,e _ _ h2,h3.same e⟩
theorem TlT.put (h : TlT K H x t) (hp : H p = some (.lst ys)) : TlT K (upd H p o) x t:=let ⟨a,b,rn,z,h1,h2,h3⟩:=h; ⟨a,b,rn,z,h1.put hp,by rw [AA (EX h2 hp (fun z=>by cases z))]; exact h2,h3.put hp⟩
theorem Hd.same (h : Hd K H xs ts) (e : Ad H H') : Hd K H' xs ts:=Paired.mapP h fun _ _ z=>z.same e
theorem Hd.put (h : Hd K H xs ts) (hp : H p = some (.lst ys)) : Hd K (upd H p o) xs ts:=Paired.mapP h fun _ _ z=>z.put hp
end
end L2
namespace L2
end L2
namespace HT
open PySem PyProof.Rows
open PySem.SeqAt
open PySem.AutoSeq1 (wpAny_loadPart')
open PySem.MeetsSeq PySem.MeetsSeq2 PySem.MeetsSeq3
end HT
namespace L2
open PySem PySem.Spec PyProof.Rows
section
variable {X : Cx} {K : SI}
end
end L2
namespace L2
open PySem PySem.Spec PyProof.Rows PySem.SeqAt
theorem M0 {X : Cx} (hc : X.calm = true) : C5 X (.builtin "sum") (fun xs H Q=>∃ (l : Addr) (ns : List Int),xs = [.ref l] ∧ H l = some (.lst (ns.map V.int)) ∧ Q (.int ns.sum) H):=by
 intro pins s σ H xs us Q I r h
 obtain ⟨l,ns,rfl,hH,q⟩:=h
 obtain ⟨u,rfl,rfl⟩:=DL r
 obtain ⟨z,its,n,rv,hl,e⟩:=I.lstM hH
 have hi:=JF rv
 have hL : s.heap.IsList l its.toArray:=⟨_,e,rfl,n,rfl⟩
 obtain ⟨xs,e⟩:=hi.allInts.items
 have hns : ns = xs.toList.map (·.1):=by rw [← hi.numsOf,← nums_intItems,← e]
 rw [e] at hL
 refine sum_intListG (I.ok.hd hc) hL fun h' tk t' hk=>?_
 refine ⟨.int _,H,I.kept hk,⟨_,rfl⟩,?_⟩
 rw [preSum_eq,Uw (by simp),← hns]; exact q
section
variable {X : Cx}
theorem _root_.HT.cat_tup0 {prog : Program} {w : World} {A : Around} {E : Value → Shared → Prop} {s : Shared} {t b : Addr} {ws : List Value} {Q : Value → Shared → Prop} (ht : IsTup s.heap t ([] : List Value).toArray) (hb : IsTup s.heap b ws.toArray)
 (h1 : Q (.ref b) s) : wpAny (model prog w) A (binaryOp .Add (.ref t) (.ref b)) Q E s:=by
 obtain ⟨⟨cls,dd,data,sl⟩,ho,hc,n,hd⟩:=id ht
 obtain ⟨⟨cls2,dd2,data2,sl2⟩,ho2,hc2,n2,hd2⟩:=id hb
 simp only at hc hd hc2 hd2
 subst hc hd hc2 hd2
 exact concat_meets ⟨_,ho,rfl⟩ ⟨_,ho2,rfl⟩ noFill_tuple_add seq_tuple_add PySem.F.slot_tuple_add PySem.F.entry_tuple_add (PySem.F.args_tuple_add_2 _ _)
  (tuple_addW0 t b ([] : List Value).toArray ws.toArray n n2 dd dd2 sl sl2 (by simp)) ⟨ho,ho2,h1⟩
def Kb (K : SI) : R2:=fun x y H Q=>MB K x y H Q ∨ ∃ a b ys,x = .ref a ∧ y = .ref b ∧ SqT K H a [] ∧ SqT K H b ys ∧ Q (.ref b) H
theorem MI : OpR X (binaryOp .Add) (Kb X.K):=by
 intro pins s σ H x y v u Q I rx ry h
 rcases h with h | ⟨a,b,ys,rfl,rfl,ha,hb,q⟩
 ·exact Nu pins s σ H x y v u Q I rx ry h
 ·cases rx
  cases ry
  obtain ⟨its,r1,p1,_⟩:=I.tuple ha
  obtain ⟨its2,r2,p2,_⟩:=I.tuple hb
  cases r1
  exact HT.cat_tup0 p1 p2 ⟨.ref b,H,I,rfl,q⟩
theorem Qq (K : SI) (e : X.K = K:=by rfl) : OpR X (binaryOp .Add) (Kb K):=by subst e; exact MI
end
end L2
namespace L2
open PySem PySem.Spec PyProof.Rows
section
variable {X : Cx} {pins : List (Addr × Obj)} {σ : List (Option V)} {H : Hp} {s : Shared} {h' : Heap}
end
section
variable {X : Cx}
end
end L2
namespace L2
open PySem PySem.Spec PyProof.Rows
namespace St
open SetTable
def it (mask : Nat) : Nat → Nat → Nat
 | 0,i=>i
 | n + 1,i=>it mask n ((i * 5 + 1) % (mask + 1))
theorem cover7 : ∀ i : Fin 8,∀ e : Fin 8,∃ m : Fin 8,it 7 m.val i.val = e.val:=by decide +kernel
theorem cover31 : ∀ i : Fin 32,∀ e : Fin 32,∃ m : Fin 32,it 31 m.val i.val = e.val:=by decide +kernel
theorem cover {mask : Nat} (hm : mask = 7 ∨ mask = 31) {i e : Nat} (hi : i < mask + 1) (he : e < mask + 1) : ∃ m,m ≤ mask ∧ it mask m i = e:=by
 rcases hm with rfl | rfl
 ·obtain ⟨m,h⟩:=cover7 ⟨i,hi⟩ ⟨e,he⟩
  exact ⟨m.val,by lia,h⟩
 ·obtain ⟨m,h⟩:=cover31 ⟨i,hi⟩ ⟨e,he⟩
  exact ⟨m.val,by lia,h⟩
def bs (mask : Nat) (b : Nat) : Nat → Nat × Nat
 | 0=>(b % (mask + 1),b)
 | n + 1=>leap mask (bs mask b n).1 (bs mask b n).2
theorem bs_pert (mask b : Nat) : ∀ n,(bs mask b n).2 = b / 32 ^ n
 | 0=>by show b = b / 1; rw [Nat.div_one]
 | n + 1=>by
   show (bs mask b n).2 / 32 = _
   rw [bs_pert mask b n,Nat.div_div_eq_div_mul,Nat.pow_succ]
theorem bs_lt (mask b : Nat) : ∀ n,(bs mask b n).1 < mask + 1
 | 0=>Ux _ (Nat.succ_pos _)
 | _ + 1=>Ux _ (Nat.succ_pos _)
theorem bits_lt (h : Int) : bits h < 2 ^ 64:=by
 unfold bits
 have h1 : (0 : Int) ≤ h % 2 ^ 64:=Uy _ (by decide)
 have h2 : h % 2 ^ 64 < 2 ^ 64:=Uz _ (by decide)
 lia
theorem bs_late {mask b n : Nat} (hb : b < 2 ^ 64) (hn : 13 ≤ n) : (bs mask b n).2 = 0:=by
 rw [bs_pert]
 refine Nat.div_eq_of_lt (Sx hb ?_)
 exact SJ (by decide : 2 ^ 64 ≤ 32 ^ 13) (Nat.pow_le_pow_right (by decide) hn)
theorem bs_cyc {mask b : Nat} (hb : b < 2 ^ 64) : ∀ m n,13 ≤ n → (bs mask b (n + m)).1 = it mask m (bs mask b n).1
 | 0,n,_=>rfl
 | m + 1,n,hn=>by
   have ih:=bs_cyc (mask:=mask) hb m (n + 1) (by lia)
   rw [show n + (m + 1) = n + 1 + m by lia,ih]
   show it mask m (leap mask (bs mask b n).1 (bs mask b n).2).1 = it mask m (((bs mask b n).1 * 5 + 1) % (mask + 1))
   rw [bs_late hb hn]
   rfl
theorem bs_hits {mask b e : Nat} (hm : mask = 7 ∨ mask = 31) (hb : b < 2 ^ 64) (he : e < mask + 1) : ∃ n,n ≤ 13 + mask ∧ (bs mask b n).1 = e:=by
 obtain ⟨m,h1,h2⟩:=cover hm (bs_lt mask b 13) he
 exact ⟨13 + m,by lia,by rw [bs_cyc hb m 13 (T2 _)]; exact h2⟩
def base (mask i pert : Nat) : Probe:={ j:=i,more:=runEnd mask i - i,i,perturb:=pert,dummy:=none }
def advs (t : SetTable) : Nat → Probe → Probe
 | 0,p=>p
 | n + 1,p=>advs t n (t.advance p)
theorem advs_add (t : SetTable) : ∀ m n p,advs t (m + n) p = advs t n (advs t m p)
 | 0,n,p=>by rw [UA]; rfl
 | m + 1,n,p=>by rw [show m + 1 + n = (m + n) + 1 by lia]; exact advs_add t m n _
theorem run_le (mask i : Nat) : runEnd mask i - i ≤ 9:=by unfold runEnd; split <;> lia
theorem advs_run (t : SetTable) : ∀ (r j i pert : Nat),advs t (r + 1) { j:=j,more:=r,i:=i,perturb:=pert,dummy:=none } = base t.mask (leap t.mask i pert).1 (leap t.mask i pert).2
 | 0,j,i,pert=>rfl
 | r + 1,j,i,pert=>by
   have ih:=advs_run t r (j + 1) i pert
   show advs t (r + 1) (t.advance { j:=j,more:=r + 1,i:=i,perturb:=pert,dummy:=none }) = _
   rw [← ih]
   rfl
theorem reach (t : SetTable) (h : Int) : ∀ n,∃ k,k ≤ 10 * n ∧ advs t k (t.probeStart h) = base t.mask (bs t.mask (bits h) n).1 (bs t.mask (bits h) n).2
 | 0=>⟨0,T2 _,rfl⟩
 | n + 1=>by
   obtain ⟨k,hk,e⟩:=reach t h n
   refine ⟨k + (runEnd t.mask (bs t.mask (bits h) n).1 - (bs t.mask (bits h) n).1 + 1),?_,?_⟩
   ·have:=run_le t.mask (bs t.mask (bits h) n).1
    lia
   ·rw [advs_add,e]
    exact advs_run t _ _ _ _
theorem slot_empty {t : SetTable} (hd : t.dummies = #[]) {e : Nat} (he : ∀ i : Nat,t.place[i]? ≠ some e) : t.slot e = .empty:=by
 unfold slot
 have h1 : (t.place[below t.place e]? == some e) = false:=by
  rw [beq_eq_false_iff_ne]; exact he _
 have h2 : has t.dummies e = false:=by
  rw [hd]; unfold has; rfl
 simp only [h1,h2]
 rfl
theorem slot_cases {t : SetTable} (hd : t.dummies = #[]) (j : Nat) : t.slot j = .empty ∨ ∃ i,t.slot j = .live i ∧ t.place[i]? = some j:=by
 by_cases h : t.place[below t.place j]? = some j
 ·refine .inr ⟨below t.place j,?_,h⟩
  unfold slot
  have h1 : (t.place[below t.place j]? == some j) = true:=by rw [h]; exact beq_self_eq_true _
  simp only [h1]
  rfl
 ·refine .inl ?_
  unfold slot
  have h1 : (t.place[below t.place j]? == some j) = false:=by rw [beq_eq_false_iff_ne]; exact h
  have h2 : has t.dummies j = false:=by rw [hd]; unfold has; rfl
  simp only [h1,h2]
  rfl
def Hit (t : SetTable) (k : Nat) (p : Probe) : Prop:=t.slot (advs t k p).j = .empty
theorem adv_dummy (t : SetTable) {p : Probe} (h : p.dummy = none) : (t.advance p).dummy = none:=by
 unfold advance
 split
 ·exact h
 ·exact h
theorem nd_le : ∀ {l m : List Nat},l.Nodup → (∀ x,x ∈ l → x ∈ m) → l.length ≤ m.length
 | [],m,_,_=>T5 _
 | a :: l,m,hn,hs=>by
   rw [Th] at hn
   have ha:=hs a SN
   have ih:=nd_le (l:=l) (m:=m.erase a) hn.2 fun x hx=>(List.mem_erase_of_ne (fun e : x = a=>hn.1 (e ▸ hx))).mpr (hs x (SO _ hx))
   rw [List.length_erase_of_mem ha] at ih
   have:=List.length_pos_of_mem ha
   rw [U9]; lia
theorem start_hit {t : SetTable} (hm : t.mask = 7 ∨ t.mask = 31) (hd : t.dummies = #[]) (hs : t.place.size ≤ t.mask) (h : Int) : ∃ k,k < 10 * turns t.mask ∧ Hit t k (t.probeStart h):=by
 have he : ∃ e,e < t.mask + 1 ∧ ∀ i : Nat,t.place[i]? ≠ some e:=by
  refine Classical.byContradiction fun hn=>?_
  have hall : ∀ e,e < t.mask + 1 → e ∈ t.place.toList:=fun e he=>by
   refine Classical.byContradiction fun hne=>hn ⟨e,he,fun i hi=>hne ?_⟩
   exact Tx (by rw [TZ]; exact hi)
  have hsub : (SA (t.mask + 1)).Subset t.place.toList:=fun e he=>hall e (SH.mp he)
  have hlen:=nd_le (List.nodup_range (n:=t.mask + 1)) hsub
  rw [UB,SX] at hlen
  lia
 obtain ⟨e,he1,he2⟩:=he
 obtain ⟨n,hn,hb⟩:=bs_hits (b:=bits h) hm (bits_lt h) he1
 obtain ⟨k,hk,hr⟩:=reach t h n
 refine ⟨k,?_,?_⟩
 ·unfold turns; lia
 ·unfold Hit
  rw [hr]
  show t.slot (bs t.mask (bits h) n).1 = _
  rw [hb]
  exact slot_empty hd he2
end St
end L2
namespace L2
open PySem PySem.Spec PyProof.Rows
namespace St
open SetTable
section
variable {prog : Program} {w : World} {K : Type} [DecidableEq K] (knd : KeyKind prog w K)
def IsN (h : Heap) (ks : List K) (a : Addr) : Prop:=∃ o items n,h.get? a = some o ∧ o.cls = .type "tuple" ∧ o.data = .seq items n ∧ ItemsAre knd ks items.toList ∧ ∀ v ∈ items.toList,∃ k t,v = .int k t
variable {knd}
theorem IsN.key {h : Heap} {ks : List K} {a : Addr} (x : IsN knd h ks a) : IsTupleKey knd h ks a:=let ⟨o,i,n,h1,h2,h3,h4,_⟩:=x; ⟨o,i,n,h1,h2,h3,h4⟩
theorem IsN.keep {h h' : Heap} {ks : List K} {a : Addr} (x : IsN knd h ks a) (k : ∀ o,h.get? a = some o → h'.get? a = some o) : IsN knd h' ks a:=let ⟨o,i,n,h1,h2⟩:=x; ⟨o,i,n,k o h1,h2⟩
variable {A : Around} {E : Value → Shared → Prop} {s : Shared}
theorem wpAny_seqItemsQ {M : Model} {a : Addr} {o : Obj} {items n} {Q : Option (Array Value) → Shared → Prop} (ho : s.heap.get? a = some o) (hd : o.data = .seq items n) (h : Q (some items) s) : wpAny M A (seqItems? (.ref a)) Q E s:=by
 unfold seqItems?
 refine wpAny_bind (wpAny_load ho ?_)
 rw [hd]
 exact wpAny_pure h
theorem hashByValue_n {ks : List K} {a : Addr} {Q : Bool → Shared → Prop} (hk : IsN knd s.heap ks a) (h : Q true s) : wpAny (model prog w) A (hashByValue 8 (.ref a)) Q E s:=by
 have hT:=hk.key.typeIs
 obtain ⟨o,items,n,ho,_,hd,hi,hall⟩:=hk
 unfold hashByValue
 refine wpAny_bind (wpAny_specialOf hT F.slot_tuple_hash.lookup ?_)
 show wpAny _ _ (seqItems? (.ref a) >>= _) _ _ s
 refine wpAny_bind (wpAny_seqItemsQ ho hd ?_)
 refine wpAny_bind ?_
 show wpAny _ _ (forIn items _ _) _ _ s
 rw [← Array.forIn_toList]
 refine wpAny_forIn_list _ (fun Bj r s'=>r.1 = none ∧ s' = s ∧ ∀ v ∈ Bj,∃ k t,v = Value.int k t) _ ?_ ?_ _ _ ⟨rfl,rfl,hall⟩
 ·rintro v Bj r s' ⟨hr,rfl,hall⟩
  obtain ⟨k,t,rfl⟩:=hall v SN
  refine wpAny_bind (m:=hashByValue 7 (.int k t)) (wpAny_pure ?_)
  simp only [Bool.not_true,Bool.false_eq_true,if_false]
  exact wpAny_pure ⟨rfl,rfl,fun u hu'=>hall u (SO _ hu')⟩
 ·rintro ⟨r1,r2⟩ s' ⟨hr,rfl,_⟩
  simp only at hr
  subst hr
  exact wpAny_pure h
theorem ofClass_n {ks : List K} {a : Addr} {Q : Bool → Shared → Prop} (hk : IsN knd s.heap ks a) (h : Q false s) : wpAny (model prog w) A (ofAClassStatement 8 (.ref a)) Q E s:=by
 have hT:=hk.key.typeIs
 obtain ⟨o,items,n,ho,_,hd,hi,hall⟩:=hk
 unfold ofAClassStatement
 refine wpAny_bind (wpAny_typeOf hT ?_)
 refine wpAny_bind (m:=pure true) (wpAny_pure ?_)
 simp only [Bool.not_true,Bool.false_eq_true,if_false]
 refine wpAny_bind (wpAny_seqItemsQ ho hd ?_)
 refine wpAny_bind ?_
 show wpAny _ _ (forIn items _ _) _ _ s
 rw [← Array.forIn_toList]
 refine wpAny_forIn_list _ (fun Bj r s'=>r.1 = none ∧ s' = s ∧ ∀ v ∈ Bj,∃ k t,v = Value.int k t) _ ?_ ?_ _ _ ⟨rfl,rfl,hall⟩
 ·rintro v Bj r s' ⟨hr,rfl,hall⟩
  obtain ⟨k,t,rfl⟩:=hall v SN
  refine wpAny_bind (m:=ofAClassStatement 7 (.int k t)) (wpAny_pure ?_)
  simp only [Bool.false_eq_true,if_false]
  exact wpAny_pure ⟨rfl,rfl,fun u hu'=>hall u (SO _ hu')⟩
 ·rintro ⟨r1,r2⟩ s' ⟨hr,rfl,_⟩
  simp only at hr
  subst hr
  exact wpAny_pure h
def Ns (knd : KeyKind prog w K) (h : Heap) (l : List Value) (ks : List K) : Prop:=∀ v ∈ l,∃ b k',v = .ref b ∧ IsN knd h k' b ∧ k' ≠ ks
end
end St
end L2
namespace L2
open PySem PySem.Spec PyProof.Rows
namespace St
open SetTable
theorem free_ok {owner : Array (Option Nat)} {b e : Nat} (he : owner.getD e (some 0) = none) : ∀ (fuel m n : Nat),m < fuel → (bs 31 b (n + m)).1 = e →
 ∃ j,layClean.free 31 owner fuel (bs 31 b n).1 (bs 31 b n).2 = some j ∧ owner.getD j (some 0) = none
 | fuel + 1,m,n,hm,hb=>by
   unfold layClean.free
   split
   ·next k hk =>
    have:=List.find?_some hk
    exact ⟨_,rfl,Option.isNone_iff_eq_none.mp this⟩
   ·next hk =>
    cases m with
    | zero =>
      exfalso
      rw [List.find?_eq_none] at hk
      have h0 : (0 : Nat) ∈ SA (runEnd 31 (bs 31 b n).1 + 1 - (bs 31 b n).1):=SH.mpr (by unfold runEnd; split <;> lia)
      have h1:=hk 0 h0
      rw [Nat.add_zero] at hb h1
      rw [hb,he] at h1
      exact h1 rfl
    | succ m =>
      obtain ⟨j,h1,h2⟩:=free_ok he fuel m (n + 1) (by lia) (by rw [show n + 1 + m = n + (m + 1) by lia]; exact hb)
      exact ⟨j,h1,h2⟩
def lv (owner : Array (Option Nat)) (j : Nat) : Option (Nat × Nat):=(owner.getD j none).map (j,·)
theorem lv_set {owner : Array (Option Nat)} {j k : Nat} (hj : owner.getD j (some 0) = none) (hs : owner.size = 32) : (((SA 32).filterMap (lv (owner.setIfInBounds j (some k)))).map (·.2)).Perm (k :: ((SA 32).filterMap (lv owner)).map (·.2)) ∧ j < 32:=by
 have hjl : j < 32:=by
  refine Nat.lt_of_not_le fun hle=>?_
  rw [UC,Array.getElem?_eq_none (by lia)] at hj
  cases hj
 refine ⟨?_,hjl⟩
 have hsplit : SA 32 = SA j ++ j :: (SA 32).drop (j + 1):=by
  have h1 : (SA 32)[j]? = some j:=List.getElem?_range hjl
  obtain ⟨hlt,hg⟩:=SU.mp h1
  have h2:=(UD j (SA 32)).symm
  rw [List.drop_eq_getElem_cons hlt,hg,List.take_range,TM (by lia)] at h2
  exact h2
 have hne1 : ∀ a ∈ SA j,lv (owner.setIfInBounds j (some k)) a = lv owner a:=fun a ha=>by
  have : a ≠ j:=by have:=SH.mp ha; lia
  unfold lv
  rw [UC,UC,UE (Ne.symm this)]
 have hne2 : ∀ a ∈ (SA 32).drop (j + 1),lv (owner.setIfInBounds j (some k)) a = lv owner a:=fun a ha=>by
  have : a ≠ j:=by
   obtain ⟨i,hi⟩:=UG ha
   rw [Ui] at hi
   have hi2:=(SU.mp hi)
   obtain ⟨hl,hi3⟩:=hi2
   rw [UH] at hi3
   lia
  unfold lv
  rw [UC,UC,UE (Ne.symm this)]
 have hnew : lv (owner.setIfInBounds j (some k)) j = some (j,k):=by
  unfold lv
  rw [UC,Array.getElem?_setIfInBounds_self_of_lt (by lia)]; rfl
 have hold : lv owner j = none:=by
  unfold lv
  rw [UC] at hj ⊢
  have hlt : j < owner.size:=by lia
  rw [UI hlt] at hj ⊢
  show (owner[j]).map _ = none
  have hj' : owner[j] = none:=hj
  rw [hj']; rfl
 have hcong : ∀ {l : List Nat},(∀ a ∈ l,lv (owner.setIfInBounds j (some k)) a = lv owner a) → l.filterMap (lv (owner.setIfInBounds j (some k))) = l.filterMap (lv owner):=fun {l} h=>by
  induction l with
  | nil=>rfl
  | cons a l ih =>
    rw [SM,SM,h a SN,ih fun b hb=>h b (SO _ hb)]
 rw [hsplit,List.filterMap_append,List.filterMap_append,UJ hnew,List.filterMap_cons_none hold,hcong hne1,hcong hne2,UK,UK,U1]
 exact List.perm_middle
def Own (owner : Array (Option Nat)) (k : Nat) : Prop:=owner.size = 32 ∧ (((SA 32).filterMap (lv owner)).map (·.2)).Perm (SA k)
theorem own_free {owner : Array (Option Nat)} {k : Nat} (ho : Own owner k) (hk : k < 32) : ∃ e,e < 32 ∧ owner.getD e (some 0) = none:=by
 refine Classical.byContradiction fun hn=>?_
 have hall : ∀ e,e < 32 → owner.getD e (some 0) ≠ none:=fun e he z=>hn ⟨e,he,z⟩
 have hlen:=ho.2.length_eq
 rw [TC,UB] at hlen
 have hall2 : ∀ a ∈ SA 32,(lv owner a).isSome = true:=fun a ha=>by
  have ha':=SH.mp ha
  have h1:=hall a ha'
  unfold lv
  rw [UC] at h1 ⊢
  have hlt : a < owner.size:=by rw [ho.1]; exact ha'
  rw [UI hlt] at h1 ⊢
  cases hc : owner[a] with
  | none=>rw [hc] at h1; exact absurd rfl h1
  | some v=>show ((some v).map (fun x=>(a,x))).isSome = true; rfl
 have hfl : ∀ {l : List Nat},(∀ a ∈ l,(lv owner a).isSome = true) → (l.filterMap (lv owner)).length = l.length:=fun {l} h=>by
  induction l with
  | nil=>rfl
  | cons a l ih =>
    obtain ⟨v,hv⟩:=Option.isSome_iff_exists.mp (h a SN)
    rw [UJ hv,U9,U9,ih fun b hb=>h b (SO _ hb)]
 rw [hfl hall2,UB] at hlen
 lia
def stp (acc : Option (Array (Option Nat) × Nat)) (h : Int) : Option (Array (Option Nat) × Nat):=do
 let (owner,k) ← acc
 let j ← layClean.free 31 owner (turns 31) (bits h % (31 + 1)) (bits h)
 pure (owner.setIfInBounds j (some k),k + 1)
theorem stp_ok {owner : Array (Option Nat)} {k : Nat} (ho : Own owner k) (hk : k < 32) (h : Int) : ∃ owner',stp (some (owner,k)) h = some (owner',k + 1) ∧ Own owner' (k + 1):=by
 obtain ⟨e,he,hn⟩:=own_free ho hk
 obtain ⟨n,hn1,hn2⟩:=bs_hits (mask:=31) (b:=bits h) (.inr rfl) (bits_lt h) (show e < 31 + 1 by lia)
 obtain ⟨j,hj1,hj2⟩:=free_ok (owner:=owner) (b:=bits h) hn (turns 31) n 0 (by unfold turns; lia) (by rw [UA]; exact hn2)
 have hp:=lv_set (k:=k) hj2 ho.1
 refine ⟨owner.setIfInBounds j (some k),?_,?_,?_⟩
 ·have hj1' : layClean.free 31 owner (turns 31) (bits h % (31 + 1)) (bits h) = some j:=hj1
  show (do let j ← layClean.free 31 owner (turns 31) (bits h % (31 + 1)) (bits h); pure (owner.setIfInBounds j (some k),k + 1)) = _
  rw [hj1']; rfl
 ·rw [Array.size_setIfInBounds]; exact ho.1
 ·refine hp.1.trans ?_
  rw [show SA (k + 1) = SA k ++ [k] from List.range_succ]
  exact (List.Perm.cons k ho.2).trans (List.perm_append_comm (l₁:=[k]))
theorem own_none : Own (UL 32 none) 0:=by
 refine ⟨Array.size_replicate,?_⟩
 have : (SA 32).filterMap (lv (UL 32 none)) = []:=by decide +kernel
 rw [this]; exact List.Perm.refl _
end St
end L2
namespace L2
open PySem PySem.Spec PyProof.Rows
namespace St
open SetTable
section
variable {prog : Program} {w : World} {K : Type} [DecidableEq K] (knd : KeyKind prog w K) (G : Addr → Prop)
variable {knd} {G}
variable {A : Around} {E : Value → Shared → Prop} {s : Shared}
theorem insert_size {α : Type} (xs : Array α) (p : Nat) (x : α) : (insertAt xs p x).size = xs.size + 1:=by
 have h:=(SetTable.insertAt_perm xs p x).length_eq
 rw [SX,SX,Array.size_push] at h
 exact h
end
end St
end L2
namespace L2
open PySem PySem.Spec PyProof.Rows
namespace St
section
variable {prog : Program} {w : World} {K : Type} [DecidableEq K] {knd : KeyKind prog w K} {G : Addr → Prop} {A : Around} {R : Result → Shared → Prop} {I : Addr} {fp wr : List Addr} {GG : Array GenState → Array GenState → Prop} {n : Nat} {P : Nat → Value → Prop} {St : Nat → Shared → Prop}
theorem turn_of {S : Addr} {s : Shared} (hz : wpAny (model prog w) A.in1 (Builtin.«set.update.loop» ⟨[.ref S,.ref I],[]⟩)
 (fun fin s'=>match fin with | .done f=>R (.ok f) s' | .again c'=>c'.quiet = true ∧ codeAny (model prog w) A c' R s') (fun e s'=>R (.error e) s') s) :
 codeAny (model prog w) A (.builtin "set.update.loop" ⟨[.ref S,.ref I],[]⟩) R s :=
 codeAny_builtin F.entry_set_update_loop ((Around.under_plainId F.plain_set_update_loop (A:=A) ⟨[.ref S,.ref I],[]⟩).symm ▸ hz)
end
section
variable {prog : Program} {w : World} {K : Type} [DecidableEq K] {knd : KeyKind prog w K} {A : Around} {E : Value → Shared → Prop} {s : Shared}
abbrev nS (led : Bool) : Obj:={ cls:=.type "set",dict:=none,data:=.set #[] 0 (.fresh 0 0 led) }
abbrev nI (l : Addr) : Obj:={ cls:=.type "list_iterator",data:=.fields #[.ref l,.int 0 0] }
end
end St
end L2
namespace L2
open PySem PySem.Spec PyProof.Rows
theorem N5 : bootBuiltins "set" = some (.type "set"):=by decide +kernel
def Kw (p : Addr) (n : Nat) : HO:=.ext fun h=>∃ o es ep t,h.get? p = some o ∧ o.ExactSet ∧ o.data = .set es ep t ∧ SetTable.fits t es.size = true ∧ es.size = n
theorem Pk {P : Program} {w : World} {H : Hp} {h : Heap} {a : Addr} {q : Rat} (ok : HOk P w H h) (e : H a = some (nT q)) : St.IsN (Dg P w) h (kQ q) a:=by
 obtain ⟨_,its,rv,o,ho,hc,n,hd⟩:=ok a _ e
 refine ⟨o,its.toArray,n,ho,hc,hd,HP (ks:=kQ q) rv,fun v hv=>?_⟩
 have hv' : v ∈ its:=by simpa using hv
 cases rv with
 | cons r1 rr =>
   cases rr with
   | cons r2 rr =>
     cases rr
     obtain ⟨t1,rfl⟩:=r1
     obtain ⟨t2,rfl⟩:=r2
     rcases SQ.mp hv' with z | z
     ·exact ⟨_,_,z⟩
     ·exact ⟨_,_,Ul.mp z⟩
section
variable {X : Cx}
theorem HW : C5 X (.builtin "len") (fun xs H Q=>∃ (p : Addr) (n : Nat),xs = [.ref p] ∧ H p = some (Kw p n) ∧ n ≤ 1000 ∧ Q (.int (n : Int)) H):=by
 intro pins s σ H xs us Q I r h
 obtain ⟨p,n,rfl,hp,hn,q⟩:=h
 obtain ⟨u,rfl,rfl⟩:=DL r
 obtain ⟨⟨o,es,ep,t,h1,h2,h3,h4,h5⟩,_⟩:=I.hok p _ hp
 subst h5
 exact call_len_set h1 h2 h3 h4 (by lia) ⟨.int _,H,I.tok _,⟨_,rfl⟩,q⟩
end
end L2
namespace L2
open PySem PySem.Spec PyProof.Rows
section
open PySem.W
variable {X : Cx} (K : SI)
theorem GK : kitAny K (.type "list") [.type "list",.type "tuple"] = some true:=by kernel_rfl
theorem GJ : kitAny K (.type "tuple") [.type "list",.type "tuple"] = some true:=by kernel_rfl
end
end L2
namespace L2
open PySem PySem.Spec PyProof.Rows
structure QA (X : Cx) (N : List Str) (nt : Nat) (js : List Nat) (scope : Scope) (x : Str) : Prop where
 kind : scope.kind = .function
 split : ∃ pre post,scope.names = pre ++ (x,.cell) :: post ∧ (∀ y ∈ pre,y.2 ≠ .cell) ∧ ∀ y ∈ post,y.2 ≠ .cell
 only : ∀ y ∈ scope.names,y.2 = .cell → y.1 = x
 lx : scope.names.lookup x = some .cell
 names : ∀ y ∈ scope.names,y.2 = .local → scope.names.lookup y.1 = some .local
 free : ∀ y ∈ scope.names,y.2 = .free → X.env.kindOf y.1 = some .cell ∨ X.env.kindOf y.1 = some .free
 len : N.length = nt + js.length
 outer : ∀ j i,js[j]? = some i → ∃ x,N[nt + j]? = some x ∧ X.N[i]? = some x ∧ scope.names.lookup x = some .free
section
variable {X : Cx} {N : List Str} {nt : Nat} {js : List Nat} {scope : Scope} {cl : List (Str × Addr)} {x : Str} {c : Addr}
end
section
variable {X : Cx} {N : List Str} {nt : Nat} {js : List Nat} {scope : Scope} {elt iter tg : Expr} {ifs : List Expr} {pos : Pos} {g : TG} {tc : TT} {te : TE} {wi : TI} {xn : Str}
end
def Qa (scope sc : Scope) : Scope:={ scope with names:=scope.names.map fun (n,k)=>if (k == .free && sc.kind == .function && sc.names.lookup n == some .cell) then (n,.cell) else (n,k) }
end L2
namespace L2
open PySem PySem.Spec PyProof.Rows
@[reducible] def Cl (u : SI → TS) (K : SI) : TS:=u K
theorem Aa {X : Cx} {st : Stmt} {Bj : List Stmt} {t v : TS} {K : SI} {u : SI → TS} (h1 : PS X st t) (h2 : PSs X Bj v) (e : v = u K) : PSs X (st :: Bj) (Ni t (Cl u K)):=by
 subst e; exact BX h1 h2
section
variable {X : Cx} {o e : Expr} {es : List Expr} {to : TE} {t : TA} {name : Str} {apos cpos : Pos} {T id : String} {r : V → List V → Hp → VK → Prop}
theorem Nq (K : SI) (pa : PlainAttrs T) (slot : Slot T name id) (hty : typeOf (.builtin id) = pure (.type "method_descriptor")) (hm : MtR X id r) (ho : PE X o to)
 (hbase : attributeBase o name X.env (eval o X.env) = eval o X.env:=by rfl) (hline : (apos.endLine == cpos.line) = true:=by rfl) (eK : X.K = K:=by rfl) : PE X (.Call (.Attribute o name apos) [] [] cpos) (Q5 K T r to):=OL pa slot hty hm ho hbase hline eK
theorem AW (K : SI) (pa : PlainAttrs T) (slot : Slot T name id) (hty : typeOf (.builtin id) = pure (.type "method_descriptor")) (hm : MtR X id r) (ho : PE X o to) (ha : PA X (e :: es) t)
 (hbase : attributeBase o name X.env (eval o X.env) = eval o X.env:=by rfl)
 (hfew : ((backTo cpos (starEach (e :: es) X.env)).all (fun x=>!x.1) && (backToKw cpos (keywordEach [] X.env)).all (fun x=>x.1.isSome)
  && decide ((e :: es).length + ([] : List Keyword).length + (if ([] : List Keyword).isEmpty then 0 else 1) < 30)) = true:=by rfl)
 (hline : (apos.endLine == cpos.line) = true:=by rfl) (hs : starEach (e :: es) X.env = (false,eval e X.env) :: starEach es X.env:=by rfl) (hplain : (backTo cpos (starEach es X.env)).any (·.1) = false:=by rfl) (eK : X.K = K:=by rfl) :
 PE X (.Call (.Attribute o name apos) (e :: es) [] cpos) (tBM K T r to t):=Qj pa slot hty hm ho ha hbase hfew hline hs hplain eK
end
theorem AX {c : Bool} {A B : Prop} (e : c = true) (h : A) : if c = true then A else B:=by
 rw [if_pos e]; exact h
theorem AN {c : Bool} {A B : Prop} (e : c = false) (h : B) : if c = true then A else B:=by
 rw [if_neg (by rw [e]; decide)]; exact h
theorem Du {α : Type} {l : List α} {n : Nat} (h : l.length = n + 1) : ∃ a r,l = a :: r ∧ r.length = n:=by
 cases l with
 | nil=>cases h
 | cons a r=>exact ⟨a,r,rfl,Nat.succ.inj h⟩
theorem Fun.binds1 {K : SI} {x qual : Str} {st : Stmt} {f : Addr} {fd : FuncData} (p1 : Str) (F : Fun K x qual st f fd)
 (h : ∀ (kV doc pm : Value) (an : Option Addr) (cdv ct a1 : Value),bindArgs (TH x qual (Ar st) (Ao st) (Ac st) .none kV doc pm an cdv ct) ⟨[a1],[]⟩ = pure [(p1,a1)]) : Cz K fd [p1] [] :=
 F.binds fun kV doc pm an cdv ct us l0=>by
  obtain ⟨a1,r1,rfl,l1⟩:=Du l0
  cases UM.mp l1
  exact h kV doc pm an cdv ct a1
theorem Fun.binds2 {K : SI} {x qual : Str} {st : Stmt} {f : Addr} {fd : FuncData} (p1 p2 : Str) (F : Fun K x qual st f fd)
 (h : ∀ (kV doc pm : Value) (an : Option Addr) (cdv ct a1 a2 : Value),bindArgs (TH x qual (Ar st) (Ao st) (Ac st) .none kV doc pm an cdv ct) ⟨[a1,a2],[]⟩ = pure [(p1,a1),(p2,a2)]) : Cz K fd [p1,p2] [] :=
 F.binds fun kV doc pm an cdv ct us l0=>by
  obtain ⟨a1,r1,rfl,l1⟩:=Du l0
  obtain ⟨a2,r2,rfl,l2⟩:=Du l1
  cases UM.mp l2
  exact h kV doc pm an cdv ct a1 a2
theorem Fun.binds3 {K : SI} {x qual : Str} {st : Stmt} {f : Addr} {fd : FuncData} (p1 p2 p3 : Str) (F : Fun K x qual st f fd)
 (h : ∀ (kV doc pm : Value) (an : Option Addr) (cdv ct a1 a2 a3 : Value),bindArgs (TH x qual (Ar st) (Ao st) (Ac st) .none kV doc pm an cdv ct) ⟨[a1,a2,a3],[]⟩ = pure [(p1,a1),(p2,a2),(p3,a3)]) : Cz K fd [p1,p2,p3] [] :=
 F.binds fun kV doc pm an cdv ct us l0=>by
  obtain ⟨a1,r1,rfl,l1⟩:=Du l0
  obtain ⟨a2,r2,rfl,l2⟩:=Du l1
  obtain ⟨a3,r3,rfl,l3⟩:=Du l2
  cases UM.mp l3
  exact h kV doc pm an cdv ct a1 a2 a3
@[reducible] def L1 {α1 : Type} {δ : Type} (x1 : α1) (u : α1 → δ) : δ:=u x1
@[reducible] def L2 {α1 α2 : Type} {δ : Type} (x1 : α1) (x2 : α2) (u : α1 → α2 → δ) : δ:=u x1 x2
@[reducible] def L3 {α1 α2 α3 : Type} {δ : Type} (x1 : α1) (x2 : α2) (x3 : α3) (u : α1 → α2 → α3 → δ) : δ:=u x1 x2 x3
@[reducible] def L4 {α1 α2 α3 α4 : Type} {δ : Type} (x1 : α1) (x2 : α2) (x3 : α3) (x4 : α4) (u : α1 → α2 → α3 → α4 → δ) : δ:=u x1 x2 x3 x4
@[reducible] def L5 {α1 α2 α3 α4 α5 : Type} {δ : Type} (x1 : α1) (x2 : α2) (x3 : α3) (x4 : α4) (x5 : α5) (u : α1 → α2 → α3 → α4 → α5 → δ) : δ:=u x1 x2 x3 x4 x5
@[reducible] def L6 {α1 α2 α3 α4 α5 α6 : Type} {δ : Type} (x1 : α1) (x2 : α2) (x3 : α3) (x4 : α4) (x5 : α5) (x6 : α6) (u : α1 → α2 → α3 → α4 → α5 → α6 → δ) : δ:=u x1 x2 x3 x4 x5 x6
@[reducible] def L7 {α1 α2 α3 α4 α5 α6 α7 : Type} {δ : Type} (x1 : α1) (x2 : α2) (x3 : α3) (x4 : α4) (x5 : α5) (x6 : α6) (x7 : α7) (u : α1 → α2 → α3 → α4 → α5 → α6 → α7 → δ) : δ:=u x1 x2 x3 x4 x5 x6 x7
@[reducible] def L8 {α1 α2 α3 α4 α5 α6 α7 α8 : Type} {δ : Type} (x1 : α1) (x2 : α2) (x3 : α3) (x4 : α4) (x5 : α5) (x6 : α6) (x7 : α7) (x8 : α8) (u : α1 → α2 → α3 → α4 → α5 → α6 → α7 → α8 → δ) : δ:=u x1 x2 x3 x4 x5 x6 x7 x8
@[reducible] def L9 {α1 α2 α3 α4 α5 α6 α7 α8 α9 : Type} {δ : Type} (x1 : α1) (x2 : α2) (x3 : α3) (x4 : α4) (x5 : α5) (x6 : α6) (x7 : α7) (x8 : α8) (x9 : α9) (u : α1 → α2 → α3 → α4 → α5 → α6 → α7 → α8 → α9 → δ) : δ:=u x1 x2 x3 x4 x5 x6 x7 x8 x9
@[reducible] def L10 {α1 α2 α3 α4 α5 α6 α7 α8 α9 α10 : Type} {δ : Type} (x1 : α1) (x2 : α2) (x3 : α3) (x4 : α4) (x5 : α5) (x6 : α6) (x7 : α7) (x8 : α8) (x9 : α9) (x10 : α10) (u : α1 → α2 → α3 → α4 → α5 → α6 → α7 → α8 → α9 → α10 → δ) : δ:=u x1 x2 x3 x4 x5 x6 x7 x8 x9 x10
@[reducible] def L11 {α1 α2 α3 α4 α5 α6 α7 α8 α9 α10 α11 : Type} {δ : Type} (x1 : α1) (x2 : α2) (x3 : α3) (x4 : α4) (x5 : α5) (x6 : α6) (x7 : α7) (x8 : α8) (x9 : α9) (x10 : α10) (x11 : α11) (u : α1 → α2 → α3 → α4 → α5 → α6 → α7 → α8 → α9 → α10 → α11 → δ) : δ:=u x1 x2 x3 x4 x5 x6 x7 x8 x9 x10 x11
@[reducible] def L12 {α1 α2 α3 α4 α5 α6 α7 α8 α9 α10 α11 α12 : Type} {δ : Type} (x1 : α1) (x2 : α2) (x3 : α3) (x4 : α4) (x5 : α5) (x6 : α6) (x7 : α7) (x8 : α8) (x9 : α9) (x10 : α10) (x11 : α11) (x12 : α12) (u : α1 → α2 → α3 → α4 → α5 → α6 → α7 → α8 → α9 → α10 → α11 → α12 → δ) : δ:=u x1 x2 x3 x4 x5 x6 x7 x8 x9 x10 x11 x12
@[reducible] def L13 {α1 α2 α3 α4 α5 α6 α7 α8 α9 α10 α11 α12 α13 : Type} {δ : Type} (x1 : α1) (x2 : α2) (x3 : α3) (x4 : α4) (x5 : α5) (x6 : α6) (x7 : α7) (x8 : α8) (x9 : α9) (x10 : α10) (x11 : α11) (x12 : α12) (x13 : α13) (u : α1 → α2 → α3 → α4 → α5 → α6 → α7 → α8 → α9 → α10 → α11 → α12 → α13 → δ) : δ:=u x1 x2 x3 x4 x5 x6 x7 x8 x9 x10 x11 x12 x13
@[reducible] def L14 {α1 α2 α3 α4 α5 α6 α7 α8 α9 α10 α11 α12 α13 α14 : Type} {δ : Type} (x1 : α1) (x2 : α2) (x3 : α3) (x4 : α4) (x5 : α5) (x6 : α6) (x7 : α7) (x8 : α8) (x9 : α9) (x10 : α10) (x11 : α11) (x12 : α12) (x13 : α13) (x14 : α14) (u : α1 → α2 → α3 → α4 → α5 → α6 → α7 → α8 → α9 → α10 → α11 → α12 → α13 → α14 → δ) : δ:=u x1 x2 x3 x4 x5 x6 x7 x8 x9 x10 x11 x12 x13 x14
@[reducible] def L15 {α1 α2 α3 α4 α5 α6 α7 α8 α9 α10 α11 α12 α13 α14 α15 : Type} {δ : Type} (x1 : α1) (x2 : α2) (x3 : α3) (x4 : α4) (x5 : α5) (x6 : α6) (x7 : α7) (x8 : α8) (x9 : α9) (x10 : α10) (x11 : α11) (x12 : α12) (x13 : α13) (x14 : α14) (x15 : α15) (u : α1 → α2 → α3 → α4 → α5 → α6 → α7 → α8 → α9 → α10 → α11 → α12 → α13 → α14 → α15 → δ) : δ:=u x1 x2 x3 x4 x5 x6 x7 x8 x9 x10 x11 x12 x13 x14 x15
@[reducible] def L16 {α1 α2 α3 α4 α5 α6 α7 α8 α9 α10 α11 α12 α13 α14 α15 α16 : Type} {δ : Type} (x1 : α1) (x2 : α2) (x3 : α3) (x4 : α4) (x5 : α5) (x6 : α6) (x7 : α7) (x8 : α8) (x9 : α9) (x10 : α10) (x11 : α11) (x12 : α12) (x13 : α13) (x14 : α14) (x15 : α15) (x16 : α16) (u : α1 → α2 → α3 → α4 → α5 → α6 → α7 → α8 → α9 → α10 → α11 → α12 → α13 → α14 → α15 → α16 → δ) : δ:=u x1 x2 x3 x4 x5 x6 x7 x8 x9 x10 x11 x12 x13 x14 x15 x16
@[reducible] def L17 {α1 α2 α3 α4 α5 α6 α7 α8 α9 α10 α11 α12 α13 α14 α15 α16 α17 : Type} {δ : Type} (x1 : α1) (x2 : α2) (x3 : α3) (x4 : α4) (x5 : α5) (x6 : α6) (x7 : α7) (x8 : α8) (x9 : α9) (x10 : α10) (x11 : α11) (x12 : α12) (x13 : α13) (x14 : α14) (x15 : α15) (x16 : α16) (x17 : α17) (u : α1 → α2 → α3 → α4 → α5 → α6 → α7 → α8 → α9 → α10 → α11 → α12 → α13 → α14 → α15 → α16 → α17 → δ) : δ:=u x1 x2 x3 x4 x5 x6 x7 x8 x9 x10 x11 x12 x13 x14 x15 x16 x17
@[reducible] def L18 {α1 α2 α3 α4 α5 α6 α7 α8 α9 α10 α11 α12 α13 α14 α15 α16 α17 α18 : Type} {δ : Type} (x1 : α1) (x2 : α2) (x3 : α3) (x4 : α4) (x5 : α5) (x6 : α6) (x7 : α7) (x8 : α8) (x9 : α9) (x10 : α10) (x11 : α11) (x12 : α12) (x13 : α13) (x14 : α14) (x15 : α15) (x16 : α16) (x17 : α17) (x18 : α18) (u : α1 → α2 → α3 → α4 → α5 → α6 → α7 → α8 → α9 → α10 → α11 → α12 → α13 → α14 → α15 → α16 → α17 → α18 → δ) : δ:=u x1 x2 x3 x4 x5 x6 x7 x8 x9 x10 x11 x12 x13 x14 x15 x16 x17 x18
@[reducible] def L19 {α1 α2 α3 α4 α5 α6 α7 α8 α9 α10 α11 α12 α13 α14 α15 α16 α17 α18 α19 : Type} {δ : Type} (x1 : α1) (x2 : α2) (x3 : α3) (x4 : α4) (x5 : α5) (x6 : α6) (x7 : α7) (x8 : α8) (x9 : α9) (x10 : α10) (x11 : α11) (x12 : α12) (x13 : α13) (x14 : α14) (x15 : α15) (x16 : α16) (x17 : α17) (x18 : α18) (x19 : α19) (u : α1 → α2 → α3 → α4 → α5 → α6 → α7 → α8 → α9 → α10 → α11 → α12 → α13 → α14 → α15 → α16 → α17 → α18 → α19 → δ) : δ:=u x1 x2 x3 x4 x5 x6 x7 x8 x9 x10 x11 x12 x13 x14 x15 x16 x17 x18 x19
@[reducible] def L20 {α1 α2 α3 α4 α5 α6 α7 α8 α9 α10 α11 α12 α13 α14 α15 α16 α17 α18 α19 α20 : Type} {δ : Type} (x1 : α1) (x2 : α2) (x3 : α3) (x4 : α4) (x5 : α5) (x6 : α6) (x7 : α7) (x8 : α8) (x9 : α9) (x10 : α10) (x11 : α11) (x12 : α12) (x13 : α13) (x14 : α14) (x15 : α15) (x16 : α16) (x17 : α17) (x18 : α18) (x19 : α19) (x20 : α20) (u : α1 → α2 → α3 → α4 → α5 → α6 → α7 → α8 → α9 → α10 → α11 → α12 → α13 → α14 → α15 → α16 → α17 → α18 → α19 → α20 → δ) : δ:=u x1 x2 x3 x4 x5 x6 x7 x8 x9 x10 x11 x12 x13 x14 x15 x16 x17 x18 x19 x20
@[reducible] def L21 {α1 α2 α3 α4 α5 α6 α7 α8 α9 α10 α11 α12 α13 α14 α15 α16 α17 α18 α19 α20 α21 : Type} {δ : Type} (x1 : α1) (x2 : α2) (x3 : α3) (x4 : α4) (x5 : α5) (x6 : α6) (x7 : α7) (x8 : α8) (x9 : α9) (x10 : α10) (x11 : α11) (x12 : α12) (x13 : α13) (x14 : α14) (x15 : α15) (x16 : α16) (x17 : α17) (x18 : α18) (x19 : α19) (x20 : α20) (x21 : α21) (u : α1 → α2 → α3 → α4 → α5 → α6 → α7 → α8 → α9 → α10 → α11 → α12 → α13 → α14 → α15 → α16 → α17 → α18 → α19 → α20 → α21 → δ) : δ:=u x1 x2 x3 x4 x5 x6 x7 x8 x9 x10 x11 x12 x13 x14 x15 x16 x17 x18 x19 x20 x21
@[reducible] def L22 {α1 α2 α3 α4 α5 α6 α7 α8 α9 α10 α11 α12 α13 α14 α15 α16 α17 α18 α19 α20 α21 α22 : Type} {δ : Type} (x1 : α1) (x2 : α2) (x3 : α3) (x4 : α4) (x5 : α5) (x6 : α6) (x7 : α7) (x8 : α8) (x9 : α9) (x10 : α10) (x11 : α11) (x12 : α12) (x13 : α13) (x14 : α14) (x15 : α15) (x16 : α16) (x17 : α17) (x18 : α18) (x19 : α19) (x20 : α20) (x21 : α21) (x22 : α22) (u : α1 → α2 → α3 → α4 → α5 → α6 → α7 → α8 → α9 → α10 → α11 → α12 → α13 → α14 → α15 → α16 → α17 → α18 → α19 → α20 → α21 → α22 → δ) : δ:=u x1 x2 x3 x4 x5 x6 x7 x8 x9 x10 x11 x12 x13 x14 x15 x16 x17 x18 x19 x20 x21 x22
@[reducible] def L23 {α1 α2 α3 α4 α5 α6 α7 α8 α9 α10 α11 α12 α13 α14 α15 α16 α17 α18 α19 α20 α21 α22 α23 : Type} {δ : Type} (x1 : α1) (x2 : α2) (x3 : α3) (x4 : α4) (x5 : α5) (x6 : α6) (x7 : α7) (x8 : α8) (x9 : α9) (x10 : α10) (x11 : α11) (x12 : α12) (x13 : α13) (x14 : α14) (x15 : α15) (x16 : α16) (x17 : α17) (x18 : α18) (x19 : α19) (x20 : α20) (x21 : α21) (x22 : α22) (x23 : α23) (u : α1 → α2 → α3 → α4 → α5 → α6 → α7 → α8 → α9 → α10 → α11 → α12 → α13 → α14 → α15 → α16 → α17 → α18 → α19 → α20 → α21 → α22 → α23 → δ) : δ:=u x1 x2 x3 x4 x5 x6 x7 x8 x9 x10 x11 x12 x13 x14 x15 x16 x17 x18 x19 x20 x21 x22 x23
@[reducible] def L24 {α1 α2 α3 α4 α5 α6 α7 α8 α9 α10 α11 α12 α13 α14 α15 α16 α17 α18 α19 α20 α21 α22 α23 α24 : Type} {δ : Type} (x1 : α1) (x2 : α2) (x3 : α3) (x4 : α4) (x5 : α5) (x6 : α6) (x7 : α7) (x8 : α8) (x9 : α9) (x10 : α10) (x11 : α11) (x12 : α12) (x13 : α13) (x14 : α14) (x15 : α15) (x16 : α16) (x17 : α17) (x18 : α18) (x19 : α19) (x20 : α20) (x21 : α21) (x22 : α22) (x23 : α23) (x24 : α24) (u : α1 → α2 → α3 → α4 → α5 → α6 → α7 → α8 → α9 → α10 → α11 → α12 → α13 → α14 → α15 → α16 → α17 → α18 → α19 → α20 → α21 → α22 → α23 → α24 → δ) : δ:=u x1 x2 x3 x4 x5 x6 x7 x8 x9 x10 x11 x12 x13 x14 x15 x16 x17 x18 x19 x20 x21 x22 x23 x24
theorem Av {X : Cx} {c : Expr} {a b : List Stmt} {pos : Pos} {tc : TT} {v1 v2 : TS} {K : SI} {u1 u2 : SI → TS} (hc : PT X c tc) (ha : PSs X a v1) (hb : PSs X b v2) (e1 : v1 = u1 K) (e2 : v2 = u2 K) : PS X (.If c a b pos) (Lw tc (Cl u1 K) (Cl u2 K)):=by
 subst e1; subst e2; exact Qh hc ha hb
theorem Dc {X : Cx} {tg iter : Expr} {body : List Stmt} {wi : TI} {g : TG} {v : TS} {pos : Pos} {K : SI} {u : SI → TS} (hp : PassesOwn (model X.prog X.w) X.A X.env X.xe) (hc : X.calm = true) (hi : PI X tg iter wi) (hg : PG X tg g) (hb : PSs X body v) (e : v = u K)
 (hs : ∀ x,foldedSetIterable iter X.env x = pure x:=by intro _; rfl) : PS X (.For tg iter body [] pos) (Q3 wi g (Cl u K)):=by
 subst e; exact OE hp hc hi hg hb hs
theorem MQ {a b c d : Nat} (h1 : a = c) (h2 : b = d) : ((a : Int) - (b : Int)).toNat = c - d:=by rw [h1,h2]; exact Int.toNat_sub c d
theorem MP {a b : Nat} (h : a = b) : ((a : Int) - 1).toNat = b - 1:=MQ (b:=1) h rfl
theorem Ny {a k m t b : Nat} (ha : a ≤ 200) (hk : k < m - 1) (hm : m = 2 ∨ m = 3) (e : a = t) : t + min k b ≤ 204:=by
 rw [← e]
 have h4 : k ≤ 4:=by
  rcases hm with rfl | rfl
  ·exact SJ (SK hk) (by decide)
  ·exact SJ (SK hk) (by decide)
 exact Nat.add_le_add ha (SJ (Nat.min_le_left _ _) h4)
end L2
namespace L2
open PySem PySem.Spec PyProof.Rows
def Fh (B : Heap) (l : List Env) (e : Addr) (c a0 m : Value) (h : Heap) : Prop :=
 B.StaysIn h ∧ B.get? e = none ∧ h.FunFrames B l ∧ ∃ (o : Obj) (v : Array Value) (T : Addr) (oT : Obj) (ts : Array Value),h.get? e = some o ∧ o.cls = c ∧ o.data = .fields v ∧ v[0]? = some a0 ∧ v[2]? = some .none ∧
  v[1]? = some (.ref T) ∧ B.get? T = none ∧ T ≠ e ∧ h.get? T = some oT ∧ oT.data = .fields ts ∧ ts[3]? = some m
def HE (o : Obj) : Prop:=∃ v,o.data = .fields v ∧ v[2]? = some .none
theorem Fh.obj {B h : Heap} {l : List Env} {e : Addr} {c a0 m : Value} (x : Fh B l e c a0 m h) : ∃ o,h.get? e = some o ∧ o.cls = c ∧ HE o:=by
 obtain ⟨_,_,_,o,v,_,_,_,q1,q2,q3,_,q5,_⟩:=x
 exact ⟨o,q1,q2,v,q3,q5⟩
section
variable {M : Model} {A : Around} {E : Value → Shared → Prop} {s : Shared} {B : Heap} {env : Env} {outer : List Env} {L e : Addr}
theorem GC {o : Obj} {v : Array Value} {hd0 a0 : Value} {had : Bool} {Q : Unit → Shared → Prop} (hA : A.frames = some (env :: outer)) (hF : s.heap.FunFrames B (env :: outer)) (hL : env.frame = some L)
 (he : s.heap.get? e = some o) (hB : B.StaysIn s.heap) (hn : B.get? e = none) (hv : o.data = .fields v) (z1 : 1 < v.size) (z0 : v[0]? = some a0) (z2 : v[2]? = some .none)
 (k : ∀ h',Fh B (env :: outer) e o.cls a0 (rawInt L) h' → s.heap.UpToSlots h' → Q () { s with heap:=h' }) :
 wpAny M A (do let fr ← frameOf env; let ps ← entryPlaceOf L had; let en ← EntryCells.newEntry hd0 fr .none (rawInt L) .none ps; setField (.ref e) 1 en) Q E s:=by
 have out : e ∉ (env :: outer).filterMap (·.frame):=fun z=>by
  obtain ⟨_,o',e',nf⟩:=hF.mem z
  rw [he] at e'
  cases e'
  exact nf v hv
 refine wpAny_bind (wpAny_frameOf_fun hA hF hL fun g sg=>wpAny_bind (wpAny_entryPlaceOf fun ps hp=>?_))
 unfold EntryCells.newEntry newFields
 refine wpAny_bind (wpAny_newObj_type ?_ (hp.sizeOk5 _ _ _ _ _))
 generalize hob : ({ cls:=.type "traceback",dict:=none,data:=.fields ([hd0,.ref L,.none,rawInt L,.none] ++ (if ps.isEmpty then Tj 6 Value.none else ps)).toArray } : Obj) = ob
 have hg : g.get? e = some o:=(sg.2.1 e out).trans he
 have gB : B.StaysIn g:=fun b u q=>(sg.2.1 b fun z=>by rw [(hF.mem z).1] at q; cases q).trans (hB b u q)
 have nT : g.objs.size ≠ e:=SY (Heap.lt_size hg)
 have hp1 : (g.push ob).get? e = some o:=Heap.get?_push_of_some _ hg
 refine wpAny_setField hp1 hv z1 (k _ ?_ ?_)
 ·have d1:=Obj.data_mapFields hv (·.setIfInBounds 1 (Value.ref g.objs.size))
  have old : ∀ b u,b ≠ e → g.get? b = some u → ((g.push ob).update e (Obj.mapFields (·.setIfInBounds 1 (Value.ref g.objs.size)))).get? b = some u:=fun b u n q=>by
   rw [Heap.get?_update_other _ _ (Ne.symm n)]
   exact Heap.get?_push_of_some _ q
  have fresh : ob.isFreed = false:=by rw [← hob]; rfl
  refine ⟨fun b u q=>old b u (fun z=>by rw [z,hn] at q; cases q) (gB b u q),hn,hF.of_keeps fun b u q nf=>?_,_,_,g.objs.size,ob,_,Heap.get?_update_self _ hp1 (Obj.isFreed_of_fields d1),Obj.cls_mapFields _ _,d1,?_,?_,?_,gB.fresh,nT,?_,by rw [← hob],?_⟩
  ·obtain ⟨sl,q'⟩:=sg.2.2 b u q
   exact ⟨_,old b _ (fun z=>by rw [z,he] at q; cases q; exact nf v hv) q',rfl⟩
  ·rw [UE (by decide)]; exact z0
  ·rw [UE (by decide)]; exact z2
  ·simp [z1]
  ·rw [Heap.get?_update_other _ _ (Ne.symm nT)]
   exact Heap.get?_push_size g fresh
  ·rcases hp with rfl | ⟨_,_,_,_,_,_,_,rfl⟩ <;> simp
 ·intro b u q nf
  obtain ⟨sl,q'⟩:=sg.2.2 b u q
  refine ⟨sl,?_⟩
  rw [Heap.get?_update_other _ _ (fun z=>by rw [← z,he] at q; cases q; exact nf v hv)]
  exact Heap.get?_push_of_some _ q'
theorem O9 {c a0 : Value} {Q : Unit → Shared → Prop} (hA : A.frames = some (env :: outer)) (hL : env.frame = some L) (x : Fh B (env :: outer) e c a0 .none s.heap)
 (k : ∀ h',Fh B (env :: outer) e c a0 (rawInt L) h' → s.heap.UpToSlots h' → Q () { s with heap:=h' }) : wpAny M A (noteFrame (.ref e) env) Q E s:=by
 obtain ⟨b1,b2,b3,o,v,T,oT,ts,q1,q2,q3,q4,q5,q6,q7,q8,q9,q10,q11⟩:=x
 subst q2
 unfold noteFrame
 simp only [hL]
 refine wpAny_bind (wpAny_field q1 q3 q6 ?_)
 rw [if_pos (by simp)]
 refine wpAny_bind (wpAny_field q9 q10 q11 ?_)
 rw [if_neg (by simp [rawInt])]
 refine wpAny_bind (wpAny_setField q9 q10 (UN.mp q11).1 ?_)
 have no : ∀ b u,s.heap.get? b = some u → (∀ w,u.data ≠ .fields w) → b ≠ T:=fun b u q nf z=>by
  rw [z,q9] at q
  cases q
  exact nf ts q10
 have ot : ∀ b u,b ≠ T → s.heap.get? b = some u → (s.heap.update T (Obj.mapFields (·.setIfInBounds 3 Value.none))).get? b = some u:=fun b u n q=>(Heap.get?_update_other _ _ (Ne.symm n)).trans q
 refine GC hA (b3.of_keeps fun b u q nf=>⟨u,ot b u (no b u q nf) q,rfl⟩) hL (ot e o (Ne.symm q8) q1) (fun b u q=>ot b u (fun z=>by rw [z,q7] at q; cases q) (b1 b u q)) b2 q3 (UN.mp q6).1 q4 q5 fun h' f us=>k h' f fun b u q nf=>?_
 exact us b u (ot b u (no b u q nf) q) nf
theorem Lc {l : List Env} {c a0 m : Value} {Q : Unit → Shared → Prop} (x : Fh B l e c a0 m s.heap) (k : ∀ h',Fh B l e c a0 .none h' → s.heap.UpToSlots h' → Q () { s with heap:=h' }) : wpAny M A (setFlight (.ref e) none) Q E s:=by
 obtain ⟨b1,b2,b3,o,v,T,oT,ts,q1,q2,q3,q4,q5,q6,q7,q8,q9,q10,q11⟩:=x
 have z3 : 3 < ts.size:=(UN.mp q11).1
 unfold setFlight
 refine wpAny_bind (wpAny_field q1 q3 q6 ?_)
 rw [if_pos (by simp)]
 refine wpAny_setField q9 q10 z3 ?_
 have no : ∀ b u,s.heap.get? b = some u → (∀ w,u.data ≠ .fields w) → b ≠ T:=fun b u q nf z=>by
  rw [z,q9] at q
  cases q
  exact nf ts q10
 have ot : ∀ b u,b ≠ T → s.heap.get? b = some u → (s.heap.update T (Obj.mapFields (·.setIfInBounds 3 ((none : Option Addr).elim Value.none fun f=>rawInt f)))).get? b = some u:=fun b u n q=>(Heap.get?_update_other _ _ (Ne.symm n)).trans q
 have d1:=Obj.data_mapFields q10 (·.setIfInBounds 3 ((none : Option Addr).elim Value.none fun f=>rawInt f))
 exact k _ ⟨fun b u q=>ot b u (fun z=>by rw [z,q7] at q; cases q) (b1 b u q),b2,b3.of_keeps fun b u q nf=>⟨u,ot b u (no b u q nf) q,rfl⟩,o,v,T,_,_,ot e o (Ne.symm q8) q1,q2,q3,q4,q5,q6,q7,q8,Heap.get?_update_self _ q9 (Obj.isFreed_of_fields d1),d1,by simp [z3]⟩
  fun b u q nf=>⟨u.slots,ot b u (no b u q nf) q⟩
theorem Fh.up {c a0 m : Value} {h : Heap} (x : Fh B (env :: outer) e c a0 m h) : Fh B outer e c a0 m h:=by
 obtain ⟨b1,b2,⟨_,_,b3⟩,r⟩:=x
 exact ⟨b1,b2,b3,r⟩
theorem OY {c a0 : Value} {Q : Unit → Shared → Prop} (hA : A.frames = some (env :: outer)) (hL : env.frame = some L) (x : Fh B (env :: outer) e c a0 .none s.heap)
 (k : ∀ h',Fh B outer e c a0 .none h' → s.heap.UpToSlots h' → Q () { s with heap:=h' }) : wpAny M A (leaving env (.ref e)) Q E s:=by
 unfold leaving
 exact wpAny_bind (O9 hA hL x fun h1 f1 u1=>Lc (s:={ s with heap:=h1 }) f1 fun h2 f2 u2=>k h2 f2.up (u1.trans u2))
theorem Ql {h : Heap} {c : Value} {vs : List Value} {Q : Unit → Shared → Prop} (hA : A.frames = some (env :: outer)) (hL : env.frame = some L) (hB : B.StaysIn h) (hF : h.FunFrames B (env :: outer)) (hx : Heap.MadeExcOf h s.heap e c vs)
 (k : ∀ h' a0,Fh B outer e c a0 .none h' → s.heap.UpToSlots h' → Q () { s with heap:=h' }) : wpAny M A (leaving env (.ref e)) Q E s:=by
 obtain ⟨t,he,_,_⟩:=hx.there
 have fresh : B.get? e = none:=by
  cases q : B.get? e with
  | none=>rfl
  | some u=>have:=hB e u q; rw [hx.new] at this; cases this
 unfold leaving noteFrame
 simp only [hL]
 refine wpAny_bind (wpAny_bind (wpAny_field he rfl (x:=.none) rfl ?_))
 rw [if_neg (by decide)]
 exact GC hA (hF.of_keeps fun b u q _=>⟨u,hx.keeps b u q,rfl⟩) hL he (fun b u q=>hx.keeps b u (hB b u q)) fresh rfl (show 1 < 6 by decide) rfl rfl
  fun h1 f1 u1=>Lc (s:={ s with heap:=h1 }) f1 fun h2 f2 u2=>k h2 _ f2.up (u1.trans u2)
end
theorem HA : entryFor table "proto.unchain" = some Builtin.«proto.unchain»:=entryFor_of_fast (by kernel_rfl)
section
variable {prog : Program} {w : World} {A : Around} {E : Value → Shared → Prop} {s : Shared} {ea : Addr} {oe : Obj}
theorem Ow {α : Type} {a : Addr} {o : Obj} {v : Array Value} {Q : α → Shared → Prop} (hh : A.handled = some (.ref ea)) (he : s.heap.get? ea = some oe) (hc : HE oe) (ha : s.heap.get? a = some o) (hv : o.data = .fields v) (hz : 2 < v.size) (ne : ea ≠ a)
 (k : E (.ref a) { s with heap:=s.heap.update a (Obj.mapFields (·.setIfInBounds 2 (.ref ea))) }) : wpAny (model prog w) A (raiseNew (.ref a) : Sem α) Q E s:=by
 obtain ⟨ve,hd,h2⟩:=hc
 unfold raiseNew
 refine wpAny_bind (wpAny_handled ?_)
 rw [hh]
 dsimp only
 rw [if_pos (by simp [ne])]
 refine wpAny_bind (wpAny_holding (wpAny_runValue (codeAny_builtin HA ?_)))
 show wpAny _ _ (field (.ref ea) 2 >>= _) _ _ s
 refine wpAny_bind (wpAny_field he hd h2 ?_)
 rw [if_pos (by decide)]
 refine wpAny_bind (wpAny_pure (wpAny_pure ?_))
 refine wpAny_bind ?_
 unfold updateField
 refine wpAny_bind (wpAny_load ha ?_)
 rw [hv]
 dsimp only
 rw [if_pos hz]
 exact wpAny_update ha (wpAny_throw k)
theorem O1 {it : Addr} {h0 : Heap} {α : Type} {P : α → Shared → Prop} {G : Value → Shared → Prop} (hh : A.handled = some (.ref ea)) (he : s.heap.get? ea = some oe) (hc : HE oe) (hb : Heap.ExtBut it h0 s.heap)
 (k : ∀ a h',Shared.TypeIs { s with heap:=h' } (.ref a) "StopIteration" → Heap.ExtBut it h0 h' → G (.ref a) { s with heap:=h' }) : wpAny (model prog w) A (newExc (.type "StopIteration") [] >>= fun x=>(raiseNew x : Sem α)) P G s:=by
 refine wpAny_bind ?_
 simp only [newExc,newTuple]
 refine wpAny_bind (wpAny_newObj_type ?_ (by size_fits))
 refine wpAny_bind (m:=firstArgMember _ _) (wpAny_of_eq (a:=Value.none) (by first | rfl | (simp only [firstArgMember]; rfl)) ?_)
 refine wpAny_newObj_type ?_ (by size_fits)
 have old : ∀ (b : Addr) (u o1 o2 : Obj),s.heap.get? b = some u → ((s.heap.push o1).push o2).get? b = some u:=fun b u o1 o2 q=>Heap.get?_push_of_some _ (Heap.get?_push_of_some _ q)
 have lt : ∀ (b : Addr) (u o1 : Obj),s.heap.get? b = some u → (s.heap.push o1).objs.size ≠ b:=fun b u o1 q z=>by
  have:=Heap.lt_size q
  rw [← z,Heap.size_push] at this
  exact absurd this (Ue.mpr (Nat.le_succ _))
 refine Ow hh (old ea oe _ _ he) hc (Heap.get?_push_size _ rfl) rfl (show 2 < 6 by decide) (fun z=>lt ea oe _ he z.symm) (k _ _ ⟨_,Heap.get?_update_self _ (Heap.get?_push_size _ rfl) rfl,rfl⟩ fun b u n q=>?_)
 rw [Heap.get?_update_other _ _ (lt b u _ (hb b u n q))]
 exact old b u _ _ (hb b u n q)
theorem LN {it l : Addr} {i : Nat} {items : Array Value} {Q : Option Value → Shared → Prop} (hh : A.handled = some (.ref ea)) (he : s.heap.get? ea = some oe) (hc : HE oe) (ni : ea ≠ it) (st : s.heap.IsListIter it l i) (hl : s.heap.IsList l items) (hx : items[i]? = none)
 (k : ∀ h',Heap.ExtBut it s.heap h' → Q none { s with heap:=h' }) : wpAny (model prog w) A (pyNext (.ref it)) Q E s:=by
 obtain ⟨o,q1,q2,q3⟩:=id st
 obtain ⟨ol,p1,_,nl,p2⟩:=hl
 unfold pyNext
 refine wpAny_bind (wpAny_attempt (wpAny_callSpecial?_slot (name:=Str.ofString "__next__") st.typeIs slot_listiter_next (wpAny_call_entry slot_listiter_next st.typeIs entry_listiter_next ?_ (args_listiter_next _))))
 show wpAny _ A.in1 (field (.ref it) 0 >>= _) _ _ s
 refine wpAny_bind (wpAny_field q1 q3 (x:=.ref l) rfl ?_)
 show wpAny _ _ (if (Value.ref l == Value.none) = true then _ else _) _ _ s
 rw [if_neg (fun z=>nomatch z)]
 refine wpAny_bind (wpAny_field q1 q3 (x:=.int i 0) rfl (wpAny_bind (wpAny_seqItems p1 p2 ?_)))
 simp only [TL,hx]
 refine wpAny_bind (wpAny_rule (wpAny_bind (wpAny_setField q1 q3 (by simp) ?_)))
 refine O1 (A:=A.in1) (it:=it) (h0:=s.heap) hh ((Heap.get?_update_other _ _ (Ne.symm ni)).trans he) hc (Heap.SameBut.update ..).extBut fun a h' ty eb=>?_
 exact wpAny_bind (wpAny_isInstance (T:="StopIteration") (b:=true) ty isSubtype_stop (wpAny_pure (k h' eb)))
theorem Me {it l : Addr} {i : Nat} {items : Array Value} {Q : Option Value → Shared → Prop} (hh : A.handled = some (.ref ea)) (he : s.heap.get? ea = some oe) (hc : HE oe) (ni : ea ≠ it) (st : IsTupIter s.heap it l i) (hl : IsTup s.heap l items) (hx : items[i]? = none)
 (k : ∀ h',Heap.ExtBut it s.heap h' → Q none { s with heap:=h' }) : wpAny (model prog w) A (pyNext (.ref it)) Q E s:=by
 obtain ⟨o,q1,q2,q3⟩:=id st
 obtain ⟨ol,p1,_,nl,p2⟩:=hl
 unfold pyNext
 refine wpAny_bind (wpAny_attempt (wpAny_callSpecial?_slot (name:=Str.ofString "__next__") st.typeIs slot_tupleiter_next (wpAny_call_entry slot_tupleiter_next st.typeIs entry_tupleiter_next ?_ (args_tupleiter_next _))))
 show wpAny _ A.in1 (field (.ref it) 0 >>= _) _ _ s
 refine wpAny_bind (wpAny_field q1 q3 (x:=.ref l) rfl ?_)
 show wpAny _ _ (if (Value.ref l == Value.none) = true then _ else _) _ _ s
 rw [if_neg (fun z=>nomatch z)]
 refine wpAny_bind (wpAny_field q1 q3 (x:=.int i 0) rfl (wpAny_bind (wpAny_seqItems p1 p2 ?_)))
 simp only [TL,hx]
 refine wpAny_bind (wpAny_rule (wpAny_bind (wpAny_setField q1 q3 (by simp) ?_)))
 refine O1 (A:=A.in1) (it:=it) (h0:=s.heap) hh ((Heap.get?_update_other _ _ (Ne.symm ni)).trans he) hc (Heap.SameBut.update ..).extBut fun a h' ty eb=>?_
 exact wpAny_bind (wpAny_isInstance (T:="StopIteration") (b:=true) ty isSubtype_stop (wpAny_pure (k h' eb)))
theorem Nh {env : Env} {es : List Expr} {kk} {pos : Pos} {t : Addr} {items : Array Value} {Q : Unit → Shared → Prop} (hh : A.handled = some (.ref ea)) (he : s.heap.get? ea = some oe) (hc : HE oe) (ht : IsTup s.heap t items) (hn : (assignEach es env).length = items.size)
 (hs : (assignEach es env).findIdx? (·.1) = none) (k : ∀ h',Heap.ExtBut s.heap.objs.size s.heap h' → wpAny (model prog w) A (assignInOrder ((assignEach es env).map (·.2)) items.toList) Q E { s with heap:=h' }) :
 wpAny (model prog w) A (assign (.Tuple es kk pos) env (.ref t)) Q E s:=by
 have nt : t ≠ s.heap.objs.size:=by obtain ⟨o,q,_⟩:=ht; exact Sz (Heap.lt_size q)
 rw [assign_Tuple]
 refine wpAny_bind (wpAny_standAt ?_)
 unfold unpack
 rw [hn,hs]
 refine wpAny_bind (wpAny_holding ?_)
 unfold unpackItems notIterableAtAll
 refine wpAny_bind (wpAny_bind (wpAny_specialOf ht.typeIs slot_tuple_iter.lookup (wpAny_pure ?_)))
 simp only [Bool.false_eq_true,if_false]
 refine wpAny_bind (wpAny_holding (iter_tuple ht (wpAny_bind (wpAny_holding (draw_tuple nt items.size 0 _ _ ⟨_,Heap.get?_push_size _ rfl,rfl,rfl⟩ (ht.push _) (by lia) fun h1 i1 s1=>?_)))))
 rw [show List.take items.size (List.drop 0 items.toList) = items.toList by rw [List.drop_zero]; exact Uw (by simp),if_neg (by simp)]
 have ne : ea ≠ s.heap.objs.size:=Sz (Heap.lt_size he)
 refine wpAny_bind (wpAny_holding (Me (s:={ s with heap:=h1 }) hh (s1.extBut ea oe ne (Heap.get?_push_of_some _ he)) hc ne i1 ((ht.push _).extBut s1.extBut nt) (by simp) fun h2 e2=>?_))
 simp only [Option.isSome_none,Bool.false_eq_true,if_false]
 exact wpAny_pure (k h2 fun b u n q=>e2 b u n (s1.extBut b u n (Heap.get?_push_of_some _ q)))
end
end L2
namespace L2
open PySem PySem.Spec PyProof.Rows
structure Hx (X : Cx) (ea : Addr) (oe : Obj) : Prop where
 hd : X.A.handled = some (.ref ea)
 ct : HE oe
 ob : X.s₀.heap.get? ea = some oe
 fr : X.H₀ ea = none
 nf : ea ∉ X.fs
 nx : ea ∉ X.ex
section
variable {X : Cx} {pins : List (Addr × Obj)} {σ : St} {H : Hp} {s : Shared} {ea : Addr} {oe : Obj}
theorem Hx.at (x : Hx X ea oe) (I : Inv X pins σ H s) : s.heap.get? ea = some oe:=I.base.keep ea oe x.ob x.fr x.nf x.nx
theorem Hx.no (x : Hx X ea oe) (I : Inv X pins σ H s) : H ea = none:=I.base.free ea oe x.ob x.fr x.nx
theorem Hx.lt (x : Hx X ea oe) : ea < X.s₀.heap.objs.size:=Heap.lt_size x.ob
theorem Hx.ns (x : Hx X ea oe) (I : Inv X pins σ H s) : ea ∉ frs X.stack:=fun z=>by
 rcases SQ.mp (I.stkSub ea z) with e | z
 ·exact Sz (Sx x.lt I.ok.above) e
 ·exact x.nf z
theorem hxC {N : List Str} {scope : Scope} {fp : List Addr} (x : Hx X ea oe) (I : Inv X pins σ H s) (hf : ∀ b ∈ fp,EF X pins H b) (cl : List (Str × Addr)) (C : Addr) : Hx (AO X N scope cl C s H fp) ea oe :=
 ⟨x.hd,x.ct,x.at I,x.no I,x.ns I,fun z=>by
  rcases (hf ea z).2.2.2.1 with y | y
  ·exact x.nx y
  ·exact absurd x.lt (Ue.mpr y)⟩
theorem Kj {a it : Addr} (x : Hx X ea oe) (i : Nat) (pins : List (Addr × Obj)) (s : Shared) (σ : St) (H : Hp) (E : Value → Shared → Prop) (I : Inv X pins σ H s) (hf : ∀ b ∈ [it],EF X pins H b) (st : s.heap.IsListIter it a i) (hg : (Itl X.K a).stop i H) :
 wpAny (model X.prog X.w) X.A (pyNext (.ref it)) (fun r s1=>r = none ∧ Inv X pins σ H s1) E s:=by
 obtain ⟨xs,hq,hx⟩:=hg
 obtain ⟨its,rv,p,hz⟩:=I.list hq
 obtain ⟨f0,f1,f2,f3,f4,f5⟩:=hf it (Ul.mpr rfl)
 have hl:=rv.length
 have ni : ea ≠ it:=fun z=>by
  rcases f3 with y | y
  ·exact x.nx (z ▸ y)
  ·exact absurd x.lt (Ue.mpr (z ▸ y))
 exact LN x.hd (x.at I) x.ct ni st p.isList (by simp; lia) fun h' eb=>⟨rfl,I.turned (t':=s.toks) (fun b o hb e=>eb b o hb e) f0 f1 f3 f4 f5⟩
theorem Ki {tg : Expr} {a it : Addr} (i : Nat) (pins : List (Addr × Obj)) (s : Shared) (σ : St) (H : Hp) (E : Value → Shared → Prop) (I : Inv X pins σ H s) (hf : ∀ b ∈ [it],EF X pins H b) (st : s.heap.IsListIter it a i) (hg : (Itl X.K a).go i H) :
 wpAny (model X.prog X.w) X.A (pyNext (.ref it)) (fun r s1=>∃ u,r = some u ∧
  wpAny (model X.prog X.w) X.A (letOwnedTupleGo tg (.ref it) u) (fun _ s2=>∃ x H',Inv X pins σ H' s2 ∧ Ba x u ∧ (Itl X.K a).yld i H x H' ∧ s2.heap.IsListIter it a (i + 1) ∧ ∀ b ∈ [it],H' b = none) E s1) E s:=by
 obtain ⟨xs,x,hq,hx⟩:=hg
 obtain ⟨its,rv,p,hz⟩:=I.list hq
 obtain ⟨u,hu,ru⟩:=rv.get hx
 obtain ⟨f0,f1,f2,f3,f4,f5⟩:=hf it (Ul.mpr rfl)
 refine wpAny_pyNext_list_item st p.isList (x:=u) (by simpa using hu) fun h' st' sb=>?_
 have I1 : Inv X pins σ H { s with heap:=h' }:=I.turned (t':=s.toks) (fun b o hb e=>(sb.2 b hb).trans e) f0 f1 f3 f4 f5
 obtain ⟨o,e,c,d⟩:=id st'
 exact ⟨u,rfl,JJ (s:={ s with heap:=h' }) e c d (by decide) ⟨x,H,I1,ru,⟨rfl,fun ys hy=>by rw [I.list_inj hy hq]; exact hx⟩,st',fun b hb=>(hf b hb).1⟩⟩
theorem QL {K : SI} {es : List Expr} {k : Nat} {t : TGs} {n : Nat} {pos : Pos} (x : Hx X ea oe) (h : PGs X es t) (hn : (assignEach es X.env).length = n:=by rfl) (hst : (assignEach es X.env).findIdx? (·.1) = none:=by rfl) (e : X.K = K:=by rfl) : PG X (.Tuple es k pos) (LV K n t):=by
 subst e
 intro pins s σ H v u Q I r hw
 obtain ⟨a,xs,e1,hq,hl,hw⟩:=hw
 subst e1
 cases r
 obtain ⟨its,rv,ht,hz⟩:=I.tuple hq
 refine Nh x.hd (x.at I) x.ct ht (by simp [hn,← hl,rv.length]) hst fun h' hx=>?_
 have I1 : Inv X pins σ H { s with heap:=h' }:=I.kept (t':=s.toks) fun b o e=>hx b o (Sz (Heap.lt_size e)) e
 exact h pins _ σ H xs _ Q I1 (by simpa using rv) hw
end
section
variable {X : Cx} {N : List Str} {nt : Nat} {js : List Nat} {scope : Scope} {elt iter tg : Expr} {ifs : List Expr} {pos : Pos} {g : TG} {tc : TT} {te tl : TE} {ea : Addr} {oe : Obj}
set_option maxHeartbeats 4000000 in
theorem LZ {pins : List (Addr × Obj)} {σ : St} {H : Hp} {s₂ : Shared} {cl : List (Str × Addr)} {it a : Addr} {E : Value → Shared → Prop} {Fin : List V → Hp → Prop} {W : Nat → List V → Hp → Prop} {nn : Nat}
 {RR : Value → Addr → Result → Shared → Prop} (hx : Hx X ea oe) (ok : AQ X N nt js scope)
 (hcl : ∀ x c,cl.lookup x = some c → X.env.cells.lookup x = some c) (hcl2 : ∀ x ∈ scope.names,x.2 = .free → ∃ c,cl.lookup x.1 = some c)
 (hg : ∀ cl C s H fp,Hx (AO X N scope cl C s H fp) ea oe → PG (AO X N scope cl C s H fp) tg g) (hk : He g nt) (hc : ∀ cl C s H fp,PTs (AO X N scope cl C s H fp) ifs tc) (he : ∀ cl C s H fp,PE (AO X N scope cl C s H fp) elt te)
 (I : Inv X pins σ H s₂) (st : s₂.heap.IsListIter it a 0) (hf : ∀ b ∈ [it],EF X pins H b) (w0 : W 0 [] H) (lw : LcW (Itl X.K a) nn nt js σ g tc te Fin W)
 (hRR : ∀ D C s' H' zs m,Inv X pins σ (upd H' D (.lst zs)) s' → s'.heap.Ns C m → H' D = none → (upd H' D (.lst zs)) C = none → C ≠ X.env.locals → X.s₀.heap.objs.size ≤ C → (∀ x c,X.env.cells.lookup x = some c → c ≠ C) →
  (∀ p ∈ X.pn ++ pins,p.1 ≠ C) → Fin zs H' → RR (.ref D) C (.ok .next) s') :
 wpAny (model X.prog X.w) X.A (newList []) (fun acc s₃=>wpAny (model X.prog X.w) X.A (newFunctionEnv scope X.env.globals cl [] X.env.qual none .none (some X.env)) (fun cenv s₄ =>
  codeAny (model X.prog X.w) X.A (.compStart (.ListComp elt [⟨tg,iter,ifs,0⟩] scope pos) 0 (.ref it) acc { cenv with scope:=relabel scope X.env }) (RR acc cenv.locals) s₄) E s₃) E s₂:=by
 have T : Ku X.prog X.w X.K tg (Itl X.K a) [it] it (fun i h=>h.IsListIter it a i):=HH a it
 refine wpAny_newObj_type (wpAny_newFunctionEnv ok.nocell (by intro y hy; simp at hy) (fun h₁ hns₁ hsb₁=>?_) ok.kind)
 dsimp only at hns₁ hsb₁ ⊢
 generalize hH2 : s₂.heap.push { cls:=.type "list",dict:=none,data:=.seq ([] : List Value).toArray } = H2 at hns₁ hsb₁ ⊢
 have hC : H2.objs.size = s₂.heap.objs.size + 1:=by rw [← hH2,Heap.size_push]
 have hDC : s₂.heap.objs.size ≠ H2.objs.size:=by rw [hC]; exact Sz (Uj _)
 have hCle : s₂.heap.objs.size ≤ H2.objs.size:=by rw [hC]; exact Nat.le_succ _
 have below : ∀ b,b < s₂.heap.objs.size → b ≠ H2.objs.size ∧ b ≠ s₂.heap.objs.size:=fun b hb=>⟨by rw [hC]; exact Sz (Uk hb),Sz hb⟩
 have old : ∀ b o,s₂.heap.get? b = some o → h₁.get? b = some o:=fun b o e=>hsb₁.extBut b o (below b (Heap.lt_size e)).1 (Heap.get?_push_of_some _ (hH2 ▸ Heap.get?_push_of_some _ e))
 have hacc : h₁.get? s₂.heap.objs.size = some (CI []):=hsb₁.extBut _ _ hDC (Heap.get?_push_of_some _ (hH2 ▸ Heap.get?_push_size _ rfl))
 have ho:=T.obj 0 _ st
 have lt : ∀ b ∈ [it],b < s₂.heap.objs.size:=fun b hb=>by obtain ⟨o,e,_⟩:=ho b hb; exact Heap.lt_size e
 have loop : ∀ s₃ : Shared,s₃ = { s₂ with heap:=h₁,toks:=s₂.toks + ([] : List (Str × Value)).length } →
  codeAny (model X.prog X.w) X.A (.compLoop (.ListComp elt [⟨tg,iter,ifs,0⟩] scope pos) 0 (.ref it) (.ref s₂.heap.objs.size) (compEnvC scope cl H2.objs.size X.env)) (RR (.ref s₂.heap.objs.size) H2.objs.size) s₃:=by
  rintro s₃ rfl
  have I0 : Inv (AO X N scope cl H2.objs.size s₂ H [it]) [(s₂.heap.objs.size,CI [])] (cS nt js σ) H { s₂ with heap:=h₁,toks:=s₂.toks + ([] : List (Str × Value)).length } :=
   JE I ok hcl hcl2 hf ho (T2 _) hCle hDC old hns₁ hacc
  have fpy : ∀ {H' : Hp} {ys : List Value},(∀ b ∈ [it],H' b = none) → ∀ b ∈ [it],EF (AO X N scope cl H2.objs.size s₂ H [it]) [(s₂.heap.objs.size,CI ys)] H' b:=fun {H' ys} hn b hb =>
   ⟨hn b hb,(below b (lt b hb)).1,I0.ok.exfs b hb,.inl hb,(I0.ok.exf b hb).2,fun p hp=>by
    have hp' : p ∈ [(s₂.heap.objs.size,CI ys)]:=hp
    have e : p = (s₂.heap.objs.size,CI ys):=by simpa using hp'
    rw [e]; exact Ne.symm (below b (lt b hb)).2⟩
  refine Fc (fun n s'=>∃ i zs ys H',n = nn - i ∧ i ≤ nn ∧ Inv (AO X N scope cl H2.objs.size s₂ H [it]) [(s₂.heap.objs.size,CI ys)] (cS nt js σ) H' s' ∧ AH zs ys ∧ s'.heap.IsListIter it a i ∧ (∀ b ∈ [it],H' b = none) ∧ W i zs H') ?_ nn
   ⟨0,[],[],H,rfl,T5 _,I0,.nil,T.keep 0 _ _ st (fun b _ o e=>old b o e),fun b hb=>(hf b hb).1,w0⟩
  rintro n s' ⟨i,zs,ys,H',hn0,hile,I',rv,st',fr',w'⟩
  by_cases hlt : i < nn
  case neg =>
   have hie : i = nn:=Nat.le_antisymm hile (Ue.mp hlt)
   rw [hie] at w' st'
   obtain ⟨stop,zl,fin⟩:=lw.stop zs H' w'
   refine thn (Kj (hxC hx I hf cl H2.objs.size) nn _ s' _ H' (fun _ _=>False) I' (fpy fr') st' stop) fun r s4 ⟨hr,I4⟩=>?_
   subst hr
   have zD:=(I4.pin (s₂.heap.objs.size,CI ys) (T4 _ (Ul.mpr rfl)))
   have u:=I4.base
   have u2 : Un (frs X.stack) [it] H (upd H' s₂.heap.objs.size (.lst zs)) s₂.heap s4.heap :=
    ⟨u.keep,u.slot,fun b o q n hx=>by rw [AA (Sz (Heap.lt_size q))]; exact u.free b o q n hx,u.there,fun b xs q=>by rw [AA (Az (u.tups b xs q) zD.2.1)]; exact u.tups b xs q,
     fun b o xs q=>by rw [AA (Az (u.frzs b o xs q) zD.2.1)]; exact u.frzs b o xs q,fun b ps q=>by
      obtain ⟨more,e⟩:=u.tbls b ps q
      exact ⟨more,by rw [AA (Az e zD.2.1)]; exact e⟩⟩
   have hok2 : HOk X.prog X.w (upd H' s₂.heap.objs.size (.lst zs)) s4.heap:=HOk.track I4.hok zD.2.1 ⟨zl,ys,_,rv,zD.1⟩
   have I5 : Inv X pins σ (upd H' s₂.heap.objs.size (.lst zs)) s4:=I.call' I4.os u2 hok2 I4.bare fun b hb=>⟨(hf b hb).2.2.2.1,(hf b hb).2.1,(hf b hb).2.2.2.2.1,(hf b hb).2.2.2.2.2⟩
   obtain ⟨m,hn,_⟩:=I4.loc
   refine hRR _ _ s4 H' zs m I5 hn zD.2.1 ?_ ?_ (SJ I.sz hCle) ?_ ?_ fin
   ·rw [AA (Ne.symm hDC)]; exact I4.free
   ·exact SY (Sx I.lt hCle)
   ·intro x c e z
    obtain ⟨v,q⟩:=I.cell x c e
    exact absurd (Sx q.lt (by rw [z]; exact hCle)) (Sy _)
   ·intro p hp z
    exact absurd (Sx (Heap.lt_size (I.pin p hp).1) (by rw [z]; exact hCle)) (Sy _)
  case pos =>
   obtain ⟨go,zl⟩:=lw.go i zs H' hlt w'
   have step:=lw.step i zs H'
   refine thn (Ki (tg:=tg) (X:=AO X N scope cl H2.objs.size s₂ H [it]) i _ s' _ H' (fun _ _=>False) I' (fpy fr') st' go) fun r s4 ⟨u,hr,h4⟩=>?_
   subst hr
   refine thn h4 fun _ s5 ⟨x,H5,I5,r5,y5,st5,fr5⟩=>?_
   have I5':=I5.pinned (fpy fr5) (T.obj _ _ st5)
   refine thn (hg cl _ s₂ H [it] (hxC hx I hf cl _) _ s5 _ H5 x u _ I5' r5 (hk _ _ _ _ (step x H5 hlt w' y5))) fun _ s6 ⟨σ6,H6,I6,⟨hl6,hd6⟩,q6⟩=>?_
   refine thn (hc cl _ s₂ H [it] _ s6 σ6 H6 _ I6 q6) fun okb s7 ⟨H7,I7,q7⟩=>?_
   have frs' : ∀ {H8 : Hp} {σ8 : St} {s8 : Shared},Inv (AO X N scope cl H2.objs.size s₂ H [it]) ([(s₂.heap.objs.size,CI ys)] ++ Fn [it] s5.heap) σ8 H8 s8 → s8.heap.IsListIter it a (i + 1) ∧ ∀ b ∈ [it],H8 b = none:=fun {H8 σ8 s8} I8 =>
    ⟨T.keep _ _ _ st5 fun b hb o e=>(I8.pin (b,o) (T4 _ (T4 _ (Cp hb e)))).1,fun b hb=>by
     obtain ⟨o,e,d⟩:=T.obj _ _ st5 b hb
     exact (I8.pin (b,o) (T4 _ (T4 _ (Cp hb e)))).2.1⟩
   cases okb with
   | false =>
     rw [if_neg Bool.false_ne_true] at q7 ⊢
     obtain ⟨a1,a2⟩:=frs' I7
     exact ⟨nn - (i + 1),by rw [hn0]; exact Um hlt (Uj i),i + 1,zs,ys,H7,rfl,hlt,I7.unpinned.weak (by rw [hl6]) (Ge hl6 hd6),rv,a1,a2,q7⟩
   | true =>
     rw [if_pos rfl] at q7 ⊢
     refine thn (he cl _ s₂ H [it] _ s7 σ6 H7 _ I7 q7) fun v s8 ⟨y,H8,I8,r8,q8⟩=>?_
     have zD:=(I8.pin (s₂.heap.objs.size,CI ys) (T4 _ (SS _ (Ul.mpr rfl))))
     have ylen : ys.length < sizeLine:=by rw [← rv.length]; exact zl
     obtain ⟨a1,a2⟩:=frs' I8
     refine append_at (hsz:=by rw [TK]; exact SK ylen) zD.1 fun h9 hs9 hD9=>?_
     have I8u : Inv (AO X N scope cl H2.objs.size s₂ H [it]) [] (cS nt js σ) H8 s8:=(I8.pins_of (pins':=[]) fun p hp=>nomatch hp).weak (by rw [hl6]) (Ge hl6 hd6)
     have I9 : Inv (AO X N scope cl H2.objs.size s₂ H [it]) [] (cS nt js σ) H8 { s8 with heap:=h9 }:=I8u.turned (t':=s8.toks) (it:=s₂.heap.objs.size) (fun b o hb e=>hs9.extBut b o hb e) zD.2.1 hDC (.inr (T2 _))
      (fun x c e z=>by
       obtain ⟨v,q⟩:=I.cell x c (hcl x c e)
       exact absurd (Sx q.lt (by rw [z]; exact T2 _)) (Sy _)) (fun p hp=>nomatch hp)
     refine ⟨nn - (i + 1),by rw [hn0]; exact Um hlt (Uj i),i + 1,zs ++ [y],ys ++ [v],H8,rfl,hlt,I9.pins_of (fun p hp=>?_),rv.snoc r8,T.keep _ _ _ a1 fun b hb o e=>hs9.extBut b o (below b (lt b hb)).2 e,a2,q8⟩
     have e : p = (s₂.heap.objs.size,CI (ys ++ [v])):=by simpa using hp
     subst e
     refine ⟨?_,zD.2.1,hDC,zD.2.2.2.1,fun v z=>by cases z⟩
     rw [hD9]
     show some ({ cls:=.type "list",data:=.seq (ys.toArray.push v) (ys.length + 1) } : Obj) = some { cls:=.type "list",data:=.seq (ys ++ [v]).toArray (ys ++ [v]).length }
     rw [Tz,TY,List.push_toArray]
 exact codeAny_compStart_list (loop _ rfl) (T.self _ 0 _ _ _ (T.keep 0 _ _ st (fun b _ o e=>old b o e)) (loop _ rfl))
theorem OD {K : SI} {i : Nat} {y : Str} {py spos : Pos} (hx : Hx X ea oe) (hN : X.N.Nodup) (hi' : X.N[i]? = some y) (hy : X.env.kindOf y = some .local) (ok : AQ X N nt js scope) (hi : PE X iter tl) (hg : ∀ cl C s H fp,Hx (AO X N scope cl C s H fp) ea oe → PG (AO X N scope cl C s H fp) tg g) (hk : He g nt)
 (hc : ∀ cl C s H fp,PTs (AO X N scope cl C s H fp) ifs tc) (he : ∀ cl C s H fp,PE (AO X N scope cl C s H fp) elt te)
 (hsw : swapsWith (.ListComp elt [⟨tg,iter,ifs,0⟩] scope pos) (some (.Name y py)) spos.line X.env = pure true) (hs : ∀ x,foldedSetIterable iter X.env x = pure x:=by intro _; rfl) (eK : X.K = K:=by rfl) :
 PS X (.Assign [.Name y py] (.ListComp elt [⟨tg,iter,ifs,0⟩] scope pos) spos) (Lz (tLC (JG K tl) nt js g tc te) (Ck i)):=by
 subst eK
 intro pins s σ H D₀ I h
 obtain ⟨cl,hclos,hcl,hcl2⟩:=Dj (scope:=scope) (env:=X.env) fun x hx hf=>I.ok.has x.1 (ok.free x hx hf)
 rw [exec_Assign_Name_used _ _ _ _ hsw]
 refine wpAny_bind (wpAny_standAt (wpAny_bind ?_))
 show wpAny _ X.A (do let _ ← comprehension (.ListComp elt [⟨tg,iter,ifs,0⟩] scope pos) scope X.env _ (newList []) false (eval iter X.env) (some (assign (.Name y py) X.env))) _ _ s
 refine wpAny_bind (wpAny_mono (wpAny_comprehension_free (use:=some (assign (.Name y py) X.env)) (Q:=fun _ s'=>SP X pins D₀ .next s') rfl hs hclos ok.kind ok.names
  (thn (hi pins s σ H _ I (MS (show tLC (JG X.K tl) nt js g tc te σ H fun x H1=>Ck i x σ H1 D₀.nx from h))) fun v s1 ⟨x,H1,I1,r1,q1⟩=>?_)) (fun _ s' hq=>wpAny_pure (wpAny_pure hq)) fun _ _ e=>e)
 obtain ⟨a,e,⟨xs,hq⟩,nn,W,w0,lw⟩:=q1
 subst e
 cases r1
 obtain ⟨its,rv,p,hz⟩:=I1.list hq
 refine wpAny_pyIter_list p.isList ?_
 have I2 : Inv X pins σ H1 { s1 with heap:=s1.heap.push { cls:=.type "list_iterator",data:=.fields #[.ref a,.int 0 0] } }:=I1.kept (t':=s1.toks) fun b o e=>Heap.get?_push_of_some _ e
 have f2 : ∀ b ∈ [s1.heap.objs.size],EF X pins H1 b:=fun b hb=>by
  have e : b = s1.heap.objs.size:=Ul.mp hb
  subst e
  exact I1.fpOk (T2 _) (I1.hok.fresh (T2 _))
 refine LZ (RR:=fun acc C=>compPost (model X.prog X.w) X.A X.xe (some (assign (.Name y py) X.env)) (fun _ s'=>SP X pins D₀ .next s') acc C) hx ok hcl hcl2 hg hk hc he I2 ⟨_,Heap.get?_push_size _ rfl,rfl,rfl⟩ f2 w0 lw ?_
 intro D C s' H' zs m I3 hn hDn hCn hCL hC0 hCc hCp fin
 show wpAny _ X.A (assign (.Name y py) X.env (.ref D)) _ _ _
 refine wpAny_assign_Name (Fi (v:=.ref D) I3 hN hi' (.inl hy) rfl (fun s3 I4 hsb=>?_) (.inr hy))
 obtain ⟨a,hsb,ha⟩:=hsb
 have haC : C ≠ a:=by
  rcases ha with z | z
  ·rw [z]; exact hCL
  ·exact Ne.symm (hCc y a z)
 refine ⟨m,hn.sameBut hsb haC,fun h'' hs''=>?_⟩
 exact ⟨_,_,I4.turned (t':=s3.toks) (it:=C) (fun b o hb e=>hs''.extBut b o hb e) hCn hCL (.inr hC0) hCc hCp,fin D hDn⟩
end
end L2
namespace L2
open PySem PySem.Spec PyProof.Rows
def CX2 (P : Program) (w : World) : CXT:=fun outer H s E e s'=>∃ (ea : Addr) (cls a0 : Value) (B : Heap) (H' : Hp),e = .ref ea ∧ s'.os = s.os ∧ AllBare s'.gens ∧ Un (frs outer) [] H H' s.heap s'.heap ∧ HOk P w H' s'.heap ∧
 Fh B outer ea cls a0 .none s'.heap ∧ (∀ b o,s.heap.get? b = some o → b ∉ frs outer → ∃ o',B.get? b = some o') ∧ (∀ b u,H' b = some u → ∃ o',B.get? b = some o') ∧ E cls none H'
section
variable {P : Program} {w : World} {K : SI} {mg : Str → Option Value} {base : Heap} {N : List Str} {qual : Str} {scope : Scope} {f : Addr} {cd : Value} {A : Around} {outer : List Env} {s : Shared} {H : Hp} {E : XK}
theorem DH : Oi (DP (CX2 P w) P w K mg base N qual scope f cd A outer s H E) E:=by
 intro pins σ H1 s1 h2 ea cls vs I hx hE
 have k1 : ∀ b o,s1.heap.get? b = some o → b ∉ frs (DP (CX2 P w) P w K mg base N qual scope f cd A outer s H E).stack → ∃ o',(SD s1.heap (frs (DP (CX2 P w) P w K mg base N qual scope f cd A outer s H E).stack)).get? b = some o':=fun b o e n=>⟨o,PySem.W.hideAll_get _ e n⟩
 have k2 : ∀ b u,H1 b = some u → ∃ o',(SD s1.heap (frs (DP (CX2 P w) P w K mg base N qual scope f cd A outer s H E).stack)).get? b = some o':=fun b u e=>by
  obtain ⟨o,q⟩:=(I.hok b u e).got
  exact k1 b o q fun z=>by rw [I.stkFree b z] at e; cases e
 refine Ql (B:=SD s1.heap (frs (DP (CX2 P w) P w K mg base N qual scope f cd A outer s H E).stack)) (h:=s1.heap) (outer:=outer) I.ok.frames rfl (fun b o q=>SG _ q) (PySem.W.funFrames_hide I.stack (NI s1.heap _)) hx fun h' t fly us=>?_
 have us1 : s1.heap.UpToSlots h':=(Heap.UpToSlots.of_keeps hx.keeps).trans us
 have J:=I.flown (s':=s1) (toks:=s1.toks) Un.refl I.hok rfl I.bare (fun b o q=>SG _ q) k1 k2 fly.1 (Inv.slots I.stack us1)
 refine ⟨ea,cls,_,_,H1,rfl,I.os,I.bare,J.base,J.hok,fly,fun b o e n=>?_,k2,hE⟩
 obtain ⟨o1,q⟩:=I.base.there b o e (fun z=>nomatch z)
 refine k1 b o1 q fun z=>?_
 rcases SQ.mp (I.stkSub b z) with e1 | z
 ·exact Sz (Sx (Heap.lt_size e) I.ok.above) e1
 ·exact n z
theorem FH : FE (CX2 P w) (DP (CX2 P w) P w K mg base N qual scope f cd A outer s H E) E:=by
 rintro pins σ H1 s1 e s2 I ⟨ea,cls,a0,B,H',rfl,os,bare,un,hok,fly,k1,k2,hE⟩
 refine OY (B:=B) (outer:=outer) I.ok.frames rfl fly fun h' fly' us=>?_
 have J:=I.flown (toks:=s2.toks) un hok os bare fly.1 k1 k2 fly'.1 (Inv.slots fly.2.2.1 us)
 refine ⟨ea,cls,a0,B,H',rfl,os.trans I.os,bare,J.base,J.hok,fly',fun b o e n=>?_,k2,hE⟩
 obtain ⟨o1,q⟩:=I.base.there b o e (fun z=>nomatch z)
 refine k1 b o1 q fun z=>?_
 rcases SQ.mp (I.stkSub b z) with e1 | z
 ·exact Sz (Sx (Heap.lt_size e) I.ok.above) e1
 ·exact n z
theorem Fun.okY {x : Str} {st : Stmt} {fd : FuncData} {ps : List Str} {k : Nat} {sp : Sp} (F : Fun K x qual st f fd) (S : Ax N ps (Ac st)) (len : ∀ vs H Q E,sp vs H Q E → vs.length = ps.length)
 (hbody : ∀ (cdv : Value) (A : Around) (outer : List Env) (s : Shared) (H : Hp) (vs : List V) (Q : VK) (E : XK),Cf k (A.deeper (envOfC qual (Ac st) s.heap.objs.size f cdv)) → sp vs H Q E →
  ∃ t,PSs (DP (CX2 P w) P w K mg base N qual (Ac st) f cdv A outer s H E) (Ao st) t ∧ t { nx:=fun _ H'=>Q .non H',rt:=Q } (DN N vs) H) : AF P w K mg base (CX2 P w) (k + 1) f fd ps sp:=by
 obtain ⟨oc,od,kV,doc,pm,an,cdv,ct,osl,rfl,lk,hcd⟩:=F.ex
 exact Ob lk hcd S len fun A outer s H vs Q E hr hsp=>hbody cdv A outer s H vs Q E hr hsp
theorem AF.calm {fd : FuncData} {ps : List Str} {k : Nat} {sp : Sp} {CX : CXT} (F : AF P w K mg base CX0 k f fd ps sp) : AF P w K mg base CX k f fd ps sp :=
 ⟨F.len,fun A outer s H args us vs Q E hr he hb hv hs=>codeAny_mono (F.run A outer s H args us vs Q E hr he hb hv hs) fun r s' q=>by
  cases r with
  | ok fl=>cases fl <;> exact q
  | error e=>exact False.elim q⟩
theorem AF.or {fd : FuncData} {ps : List Str} {k : Nat} {sp sp' : Sp} {CX : CXT} (F : AF P w K mg base CX k f fd ps sp) (G : AF P w K mg base CX k f fd ps sp') : AF P w K mg base CX k f fd ps (fun vs H Q E=>sp vs H Q E ∨ sp' vs H Q E) :=
 ⟨fun vs H Q E h=>h.elim (F.len vs H Q E) (G.len vs H Q E),fun A outer s H args us vs Q E hr he hb hv hs=>hs.elim (F.run A outer s H args us vs Q E hr he hb hv) (G.run A outer s H args us vs Q E hr he hb hv)⟩
end
structure FdY (P : Program) (w : World) (K : SI) (mg : Str → Option Value) (base : Heap) (n : Nat) (x : Str) (ps : List Str) (sp : Sp) : Prop where
 ex : ∃ (f : Addr) (fd : FuncData),AF P w K mg base (CX2 P w) n f fd ps sp ∧ Cz K fd ps [] ∧ T9 K (.ref f) = true ∧ mg x = some (.ref f)
theorem DZ {X : Cx} {n k : Nat} {x : Str} {ps : List Str} {sp : Sp} {E : XK} {e : Expr} {es : List Expr} {t : TA} {p pos : Pos} (F : FdY X.prog X.w X.K X.mg X.base n x ps sp) (hr : Cf k X.A) (hg : Gl X x) (hp : FE (CX2 X.prog X.w) X E) (ha : PA X (e :: es) t) (hn : n ≤ k:=by decide)
 (hdb : (x == ("__debug__" : Str)) = false:=by decide) (he : starEach (e :: es) X.env = (false,eval e X.env) :: starEach es X.env:=by rfl) (hpl : (backTo pos (starEach es X.env)).any (·.1) = false:=by rfl) :
 PE X (.Call (.Name x p) (e :: es) [] pos) (Mj sp [] E t):=by
 obtain ⟨f,fd,F1,F2,F3,F4⟩:=F.ex
 exact La F1 (hr.mono hn) hg F4 F3 F2 .nil hp ha hdb he hpl
abbrev TB:=(St → Hp → Prop) → XK → St → Hp → Prop
def PB (X : Cx) (body : List Stmt) (t : TB) : Prop:=∀ (pins : List (Addr × Obj)) (s : Shared) (σ : St) (H : Hp) (nx : St → Hp → Prop) (E : XK),Inv X pins σ H s → t nx E σ H →
 wpAny (model X.prog X.w) X.A (execs body X.env) (fun fl s1=>fl = .next ∧ ∃ σ' H',Inv X pins σ' H' s1 ∧ nx σ' H') (fun e s2=>∃ H1 s1,Inv X pins σ H1 s1 ∧ CX2 X.prog X.w X.stack H1 s1 E e s2) s
section
variable {X : Cx} {n k : Nat} {x : Str} {ps : List Str} {sp : Sp} {e : Expr} {es : List Expr} {t : TA} {p pos : Pos}
end
abbrev SpH:=Value → Addr → Hp → VK → Prop
structure FnH (P : Program) (w : World) (K : SI) (mg : Str → Option Value) (base : Heap) (k : Nat) (f : Addr) (fd : FuncData) (x : Str) (sp : SpH) : Prop where
 run : ∀ (A : Around) (outer : List Env) (s : Shared) (H : Hp) (ea : Addr) (oe : Obj) (Q : VK),Cf k A → M8 P w K mg base (A.mark (some (.ref ea))) outer s H → BindsTo s fd ⟨[.ref ea],[]⟩ [(x,.ref ea)] → s.heap.get? ea = some oe → HE oe → H ea = none → ea ∉ frs outer → sp oe.cls ea H Q →
  codeAny (model P w) (A.mark (some (.ref ea))) (.call (.ref f) ⟨[.ref ea],[]⟩) (CR CX0 outer P w H s Q E0) s
section
variable {P : Program} {w : World} {K : SI} {mg : Str → Option Value} {base : Heap}
theorem Fun.okH {x qual y : Str} {st : Stmt} {f : Addr} {fd : FuncData} {N : List Str} {k : Nat} {sp : SpH} (F : Fun K x qual st f fd) (S : Ax N [y] (Ac st))
 (hbody : ∀ (cdv : Value) (A : Around) (outer : List Env) (s : Shared) (H : Hp) (ea : Addr) (oe : Obj) (Q : VK),Cf k (A.deeper (envOfC qual (Ac st) s.heap.objs.size f cdv)) → Hx ((DP CX0 P w K mg base N qual (Ac st) f cdv A outer s H E0).marked ea) ea oe → sp oe.cls ea H Q →
  ∃ t,PSs ((DP CX0 P w K mg base N qual (Ac st) f cdv A outer s H E0).marked ea) (Ao st) t ∧ t { nx:=fun _ H'=>Q .non H',rt:=Q } (DN N [.ref ea]) H) : FnH P w K mg base (k + 1) f fd y sp:=by
 obtain ⟨oc,od,kV,doc,pm,an,cdv,ct,osl,rfl,lk,hcd⟩:=F.ex
 refine ⟨fun A outer s H ea oe Q hr e0 hb ho hc hn hf hsp=>?_⟩
 have e1 : M8 P w K mg base A outer s H:=⟨e0.frames,e0.mod,e0.bs,e0.bsz,e0.funs,e0.frf,e0.hok,e0.bare⟩
 have KX : K.In s.heap:=e0.mod.kin.keeps fun b o e=>(e0.bs b o e).1
 have lim : s.heap.NoLimit:=e0.mod.nolimit.keeps fun b o e=>(e0.bs b o e).1
 have hkind : ∀ z ∈ [y].zip [Value.ref ea],(Ac st).names.lookup z.1 = some .local ∨ ((Ac st).names.lookup z.1 = some .cell ∧ ((cellsFrom (s.heap.objs.size + 1) (Ac st).names []).lookup z.1).isSome = true):=fun ⟨n,v⟩ hy=>by
  rcases S.par n (Ti hy).1 with q | q
  ·exact .inl q
  ·exact .inr ⟨q,Tn _ _ _ (.inl q)⟩
 refine codeAny_call_function (show (A.mark (some (.ref ea))).depth < _ from hr.depth) (KX _ _ lk) rfl S.co S.gen rfl (PySem.W.codeRec_of KX hcd) (hb _ _ _ _ ?_)
 refine wpAny_newFunctionEnv_cells S.kind hkind fun env he s1 x=>?_
 subst he
 refine ⟨lim.keeps x.toInCall.keep,codeAny_func ?_⟩
 have hx : Hx ((DP CX0 P w K mg base N qual (Ac st) f cdv A outer s H E0).marked ea) ea oe:=⟨rfl,hc,ho,hn,hf,fun z=>nomatch z⟩
 obtain ⟨t,ht,hq⟩:=hbody cdv A outer s H ea oe Q (hr.deeper _) hx hsp
 have I : Inv (DP CX0 P w K mg base N qual (Ac st) f cdv A outer s H E0) [] (DN N [.ref ea]) H s1:=HQ S hr.hd e1 rfl (.cons rfl .nil) x
 refine wpAny_mono (ht [] s1 (DN N [.ref ea]) H _ (I.marked ea) hq) (fun fl s' hs=>?_) fun e s' hs=>hs.elim
 have fin : ∀ {σ' : St} {H' : Hp} {v : V} {u : Value},Inv ((DP CX0 P w K mg base N qual (Ac st) f cdv A outer s H E0).marked ea) [] σ' H' s' → Ba v u → Q v H' → CE outer P w H s Q u s' :=
  fun {σ' H' v u} J rv q=>⟨v,H',J.os,J.bare,J.base,J.hok,rv,q⟩
 cases fl with
 | ret u =>
   obtain ⟨v,σ',H',J,rv,q⟩:=hs
   exact fin J rv q
 | next =>
   obtain ⟨σ',H',J,q⟩:=hs
   exact fin (v:=V.non) (u:=Value.none) J rfl q
 | brk=>obtain ⟨_,_,_,q⟩:=hs; exact False.elim q
 | cont=>obtain ⟨_,_,_,q⟩:=hs; exact False.elim q
end
structure FdH (P : Program) (w : World) (K : SI) (mg : Str → Option Value) (base : Heap) (n : Nat) (x y : Str) (sp : SpH) : Prop where
 ex : ∃ (f : Addr) (fd : FuncData),FnH P w K mg base n f fd y sp ∧ Cz K fd [y] [] ∧ T9 K (.ref f) = true ∧ mg x = some (.ref f)
abbrev Cx.kept (X : Cx) (ea : Addr) (oe : Obj) : Cx:={ X.marked ea with pn:=(ea,oe) :: X.pn }
section
variable {X : Cx} {pins : List (Addr × Obj)} {σ : St} {H : Hp} {s : Shared} {ea : Addr} {oe : Obj}
theorem Inv.kept2 (I : Inv X pins σ H s) (h1 : s.heap.get? ea = some oe) (h2 : H ea = none) (h3 : ea ≠ X.env.locals) (h4 : ea ∉ X.fs) (h5 : HE oe) : Inv (X.kept ea oe) pins σ H s :=
 ⟨⟨I.ok.mod,I.ok.kind,I.ok.glob,I.ok.blt,I.ok.above,I.ok.inj,I.ok.has,I.ok.cab,(fun z=>nomatch z),I.ok.frames,I.ok.stk,I.ok.exf,I.ok.bs,I.ok.bsz,I.ok.noex,I.ok.exfs,I.ok.funs,I.ok.frf⟩,I.os,I.bare,I.base,I.loc,I.cell,I.free,I.freeC,fun p hp=>by
   rcases SQ.mp (show p ∈ (ea,oe) :: (X.pn ++ pins) from hp) with e | z
   ·subst e
    obtain ⟨v,hv,_⟩:=h5
    exact ⟨h1,h2,h3,h4,fun w z=>by rw [hv] at z; cases z⟩
   ·exact I.pin p z,I.hok,I.len⟩
theorem Inv.unkept (J : Inv (X.kept ea oe) pins σ H s) (ok : X.Ok) : Inv X pins σ H s:=⟨ok,J.os,J.bare,J.base,J.loc,J.cell,J.free,J.freeC,fun p hp=>J.pin p (SO _ hp),J.hok,J.len⟩
end
def PV (sp : SpH) (ea : Addr) (cls : Value) (t : TA) : TE:=fun σ H Q=>t σ H fun vs H1=>vs = [.ref ea] ∧ sp cls ea H1 Q
theorem OJ {X : Cx} {ea : Addr} {oe : Obj} {k n : Nat} {x y : Str} {sp : SpH} {e : Expr} {t : TA} {p pos : Pos} (F : FdH X.prog X.w X.K X.mg X.base n x y sp) (hr : Cf k X.A) (hc : HE oe) (hst : X.stack = X.env :: X.outer) (hfr : X.env.frame = some X.env.locals) (hg : Gl X x) (ha : PA (X.kept ea oe) [e] t) (hn : n ≤ k)
 (hdb : (x == ("__debug__" : Str)) = false) (he : starEach [e] X.env = [(false,eval e X.env)]) : PE (X.kept ea oe) (.Call (.Name x p) [e] [] pos) (PV sp ea oe.cls t):=by
 obtain ⟨f,fd,F1,F2,F3,F4⟩:=F.ex
 intro pins s σ H Q I h
 refine wpAny_Call_Name_kw (EZ I hg F4 ?_ hdb)
 refine Tf (h₀:=X.base) I.ok.mod.kin F3 (thn (ha pos pins s σ H _ I h) fun us s1 ⟨vs,H1,I1,r,ev,q⟩=>⟨I1.kIn,?_⟩) he rfl
 subst ev
 obtain ⟨u,rfl,ru⟩:=r.one
 have ru : u = .ref ea:=ru
 subst ru
 obtain ⟨p1,p2,p3,p4,_⟩:=I1.pin (ea,oe) SN
 have p5 : ea ∉ frs X.stack:=fun z=>by
  rw [hst] at z
  have z : ea ∈ (X.env :: X.outer).filterMap (·.frame):=z
  rw [SM,hfr] at z
  rcases SQ.mp z with z | z
  ·exact p3 z
  ·exact p4 z
 have hb':=F2 s1 [.ref ea] I1.kIn rfl
 refine wpAny_call (codeAny_mono (F1.run X.A X.stack s1 H1 ea oe Q (hr.mono hn) I1.env0 hb' p1 hc p2 p5 q) fun r s2 hq=>?_)
 cases r with
 | error e=>exact False.elim hq
 | ok fl =>
   cases fl with
   | ret u=>exact I1.after hq
   | next=>exact False.elim hq
   | brk=>exact False.elim hq
   | cont=>exact False.elim hq
def PU (K : SI) (CE : Addr) (i j : Nat) (sp : SpH) (tb : TB) : TS:=fun D σ H=>tb D.nx (fun cls _ H2=>UO K cls (.ref CE) = some true ∧ ∀ ea,H2 ea = none → sp cls ea H2 fun v H3=>D.nx (((σ.set i (some (.ref ea))).set j (some v)).set i none) H3) σ H
theorem Nn {X : Cx} {k m : Nat} {CE : Addr} {sp : SpH} {g y n a c : Str} {i j : Nat} {gp np ap cpos spos yp hpos pos : Pos} {body : List Stmt} {tb : TB} (hb : PB X body tb) (F : FdH X.prog X.w X.K X.mg X.base m g c sp) (hr : Cf k X.A) (hg : Gl X g)
 (hgy : Gl X y) (hmy : X.mg y = some (.ref CE)) (nd : X.N.Nodup) (hi : X.N[i]? = some n) (hl : X.env.scope.names.lookup n = some .local) (hj : X.N[j]? = some a) (hla : X.env.scope.names.lookup a = some .local) (hst : X.stack = X.env :: X.outer) (hfr : X.env.frame = some X.env.locals) (hm : m ≤ k:=by decide)
 (hs : swapsWith (.Call (.Name g gp) [.Name n np] [] cpos) (some (.Name a ap)) spos.line X.env = pure false:=by rfl) (hdb : (g == ("__debug__" : Str)) = false:=by decide) (hdy : (y == ("__debug__" : Str)) = false:=by decide) (hdn : (n == ("__debug__" : Str)) = false:=by decide) (hcn : (n == ("__classdict__" : Str)) = false:=by decide)
 (he : starEach [.Name n np] X.env = [(false,eval (.Name n np) X.env)]:=by rfl) :
 PS X (.Try body [.ExceptHandler (some (.Name y yp)) (some n) [.Assign [.Name a ap] (.Call (.Name g gp) [.Name n np] [] cpos) spos] hpos] [] [] pos) (PU X.K CE i j sp tb):=by
 intro pins s σ H D I h
 refine wpAny_Try_except (wpAny_mono (hb pins s σ H _ _ I h) (fun fl s1 ⟨ef,σ',H',I1,q⟩=>?_) fun ex s2 ⟨H1,s1,I1,hq⟩=>?_)
 ·subst ef
  exact wpAny_execs_nil ⟨σ',H',I1,q⟩
 obtain ⟨ea,cls,a0,B,H2,rfl,os,bare,un,hok,fly,k1,k2,hxm,hts⟩:=hq
 have hH2 : H2 ea = none:=by
  cases z : H2 ea with
  | none=>rfl
  | some u=>obtain ⟨o',q'⟩:=k2 ea u z; rw [fly.2.1] at q'; cases q'
 have hts:=hts ea hH2
 have hA : X.A.frames = some (X.env :: X.outer):=by rw [← hst]; exact I.ok.frames
 have ff:=fly.2.2.1
 rw [hst] at fly
 refine O9 (B:=B) hA hfr fly fun h3 held us3=>?_
 refine Lc (s:={ s2 with heap:=h3 }) held fun h4 fly4 us4=>?_
 have u4:=us3.trans us4
 have J4:=I1.flown (toks:=s2.toks) un hok os bare fly.1 k1 k2 fly4.1 (Inv.slots ff u4)
 refine wpAny_handleBy_cons (codeAny_handlers_test ?_) (by intro q; cases q)
 refine EZ (X:=X.marked ea) (J4.marked ea) hgy hmy ?_ hdy
 obtain ⟨ob,hob,hcl,_⟩:=fly4.obj
 have LT : PySem.W.Looks (model X.prog X.w) h4 (typeOf (.ref ea)) cls:=by subst hcl; exact (PySem.W.Looks.ld hob).andThen .now
 refine (PySem.W.exm_one J4.kIn LT hxm).here ?_
 refine codeAny_handlers_suite_as ?_
 refine Lc (s:={ s2 with heap:=h4 }) fly4 fun h5 fly5 us5=>?_
 obtain ⟨oe,heo,hec,hct⟩:=fly5.obj
 have J5:=I1.flown (toks:=s2.toks) un hok os bare fly.1 k1 k2 fly5.1 (Inv.slots ff (u4.trans us5))
 have p5 : ea ∉ (X.env :: X.outer).filterMap (·.frame):=fun z=>by
  obtain ⟨_,o',e',nf⟩:=fly5.2.2.1.mem z
  rw [heo] at e'
  cases e'
  obtain ⟨v,hv,_⟩:=hct
  exact nf v hv
 rw [SM,hfr] at p5
 have p3 : ea ≠ X.env.locals:=fun z=>p5 (z ▸ SN)
 have p4 : ea ∉ X.fs:=fun z=>p5 (SO _ z)
 have J6 : Inv (X.kept ea oe) pins σ H2 { s2 with heap:=h5 }:=J5.kept2 heo hH2 p3 p4 hct
 have il : i < σ.length:=by rw [I.len]; exact (SU.mp hi).1
 have pn : PE (X.kept ea oe) (.Name n np) (Ij i):=ME hi (.inl hl) hdn hcn
 have PC:=OJ (p:=gp) (pos:=cpos) F hr hct hst hfr hg (A7 pn A8 he) hm hdb he
 have PA1 : PS (X.kept ea oe) (.Assign [.Name a ap] (.Call (.Name g gp) [.Name n np] [] cpos) spos) _:=Aq nd hj (.inl hla) PC hs (.inr hla)
 refine Dp (X:=X.kept ea oe) J6 nd hi (.inl hl) (v:=.ref ea) rfl (fun s6 I6=>?_) (.inr hl)
 have hq6 : Lz (PV sp ea oe.cls (KC (Ij i) Nk)) (Ck j) { nx:=fun σ' H3=>D.nx (σ'.set i none) H3,rt:=fun _ _=>False } (σ.set i (some (.ref ea))) H2 :=
  ⟨.ref ea,by rw [SV il],rfl,by rw [hec]; exact hts⟩
 refine wpAny_execs_cons (wpAny_mono (PA1 pins s6 _ _ _ I6 hq6) (fun fl s7 hs7=>?_) fun _ _ z=>False.elim z)
 cases fl with
 | next =>
   obtain ⟨σ',H7,I7,q7⟩:=hs7
   refine wpAny_execs_nil ?_
   obtain ⟨m,hn,hl7⟩:=id I7.loc
   refine wpAny_nameGoes_keeps hl hn (by rw [I.ok.kind]; rfl) fun h8 v hn8 sb=>?_
   exact ⟨_,_,(I7.unkept I.ok).gone nd hi hl7 hn8 sb,q7⟩
 | ret u=>obtain ⟨_,_,_,_,_,q7⟩:=hs7; exact q7.elim
 | brk=>obtain ⟨_,_,_,q7⟩:=hs7; exact q7.elim
 | cont=>obtain ⟨_,_,_,q7⟩:=hs7; exact q7.elim
section
open PySem.W
variable {X : Cx} (K : SI)
inductive Of (ea : Addr) (cls : Value) (xs : List V) (H : Hp) (Q : VK) : Prop
 | mk (D : _) (y : _) (c : _) (b : _) (h1 : cls = .ref D) (h2 : XTy K D) (h3 : xs = [.ref ea,y]) (h4 : NL y = some c) (h5 : kitOne K (.ref D) c = some b) (h6 : Q (.bl b) H) : Of ea cls xs H Q
theorem GV {ea : Addr} {oe : Obj} (hx : Hx X ea oe) (e : X.K = K:=by rfl) : C5 X (.builtin "isinstance") (Of K ea oe.cls):=by
 subst e
 intro pins s σ H xs us Q I r h
 obtain ⟨D,y,c,b,hD,T,rfl,hy,hk,q⟩:=h
 have hp : PQ ea D s.heap:=⟨oe,hx.at I,hD⟩
 obtain ⟨u,w',rfl,rx,ry⟩:=J8 r
 cases rx
 rw [JR ry hy]
 exact kia_one (MU T) I.kIn hp hk (fun z=>nomatch z) fun tk=>⟨.bl b,H,I.tok _,rfl,q⟩
end
end L2
namespace L2
open PySem PySem.Spec PyProof.Rows PySem.W
def DW : List Str:=["many","points","point","number","curve","stretch","deep","few","text","row"]
structure Kx (K : Frag) (D : Addr) (cs : List Addr) (n : Nat) : Prop where
 ty : XTy K D
 ve : kitOne K (.ref D) (.type "ValueError") = some true
 of : ∀ i c,cs[i]? = some c → kitOne K (.ref D) (.ref c) = some (i == n)
def K7 (K : Frag) (cs : List Addr) : SpH:=fun cls _ H Q=>∃ D n w,cls = .ref D ∧ Kx K D cs n ∧ DW[n]? = some w ∧ ∀ H',Ad H H' → Q (.str w) H'
def WB (K : Frag) (H : Hp) (x : V) (p : Str × Bool) : Prop:=∃ a,x = .ref a ∧ SqT K H a [.str p.1,.bl p.2]
theorem WB.same {K : Frag} {H H' : Hp} {x : V} {p : Str × Bool} (h : WB K H x p) (e : Ad H H') : WB K H' x p:=let ⟨a,q,r⟩:=h; ⟨a,q,r.same e⟩
theorem WBs.same {K : Frag} {H H' : Hp} {xs : List V} {ps : List (Str × Bool)} (h : Paired (WB K H) xs ps) (e : Ad H H') : Paired (WB K H') xs ps:=Paired.mapP h fun _ _ q=>WB.same q e
theorem WBs.snoc {K : Frag} {H : Hp} {xs : List V} {ps : List (Str × Bool)} {x y : V} {p r : Str × Bool} (h : Paired (WB K H) xs ps) (h1 : WB K H x p) (h2 : WB K H y r) : Paired (WB K H) (xs ++ [x,y]) (ps ++ [p,r]):=by
 induction h with
 | nil=>exact .cons h1 (.cons h2 .nil)
 | cons a b ih=>exact .cons a ih
def CZ (ps : List (Str × Bool)) : List V:=(ps.filter (·.2)).map fun p=>.str p.1
theorem Jn (ps : List (Str × Bool)) (p : Str × Bool) : CZ (ps ++ [p]) = if p.2 = true then CZ ps ++ [.str p.1] else CZ ps:=by
 unfold CZ
 rw [UP]
 by_cases h : p.2 = true
 ·rw [if_pos h,UK]
  simp [h]
 ·rw [if_neg h]
  simp [h]
theorem NA {K : Frag} {a : Addr} {xs : List V} {ps : List (Str × Bool)} {σ : St} {H : Hp} {Fin : List V → Hp → Prop} (hS : SqL K H a xs) (hP : Paired (WB K H) xs ps) (hz : xs.length ≤ sizeLine) (fin : Fin (CZ ps) H) :
 ∃ (n' : Nat) (W : Nat → List V → Hp → Prop),W 0 [] H ∧ LcW (Itl K a) n' 2 [] σ (LV K 2 (JK (Ck 0) (JK (Ck 1) Po))) (tB (Ij 1)) (Ij 0) Fin W:=by
 have hl:=hP.length
 have le : ∀ i,i ≤ xs.length → (CZ (ps.take i)).length ≤ i:=fun i hi=>by
  unfold CZ
  rw [TC]
  exact SJ (List.length_filter_le _ _) (by rw [Tp]; exact Nat.min_le_left _ _)
 refine ⟨xs.length,fun i zs H'=>H' = H ∧ zs = CZ (ps.take i),⟨rfl,rfl⟩,⟨?_,?_,?_⟩⟩
 ·rintro i zs H' hi ⟨rfl,rfl⟩
  exact ⟨⟨xs,xs[i],hS,by simp [hi]⟩,U3 (le i (SK hi)) (Sx hi hz)⟩
 ·rintro i zs H' x H1 hi ⟨rfl,rfl⟩ ⟨rfl,y⟩
  have hx:=y xs hS
  have hi' : i < ps.length:=by rw [← hl]; exact hi
  obtain ⟨q,hq,c,rfl,hT⟩:=Paired.get hP hx
  have et : ps.take (i + 1) = ps.take i ++ [q]:=by rw [UQ,hq]; rfl
  refine ⟨c,_,rfl,hT,rfl,.str q.1,_,rfl,.bl q.2,_,rfl,rfl,⟨.bl q.2,rfl,q.2,rfl,?_⟩⟩
  have e:=Jn (ps.take i) q
  rw [← et] at e
  by_cases h : q.2 = true
  ·rw [if_pos h] at e
   show if q.2 = true then _ else _
   rw [if_pos h]
   exact ⟨.str q.1,rfl,rfl,e.symm⟩
  ·rw [if_neg h] at e
   show if q.2 = true then _ else _
   rw [if_neg h]
   exact ⟨rfl,e.symm⟩
 ·rintro zs H' ⟨rfl,rfl⟩
  refine ⟨⟨xs,hS,T2 _⟩,SJ (le _ (T2 _)) hz,?_⟩
  rw [hl,UR]
  exact fin
theorem MJ {n : Nat} {w : Str} (h : DW[n]? = some w) : CZ (List.zip DW ((SA 10).map fun i=>i == n)) = [.str w]:=by
 have hn : n < 10:=by
  have:=(SU.mp h).1
  exact this
 have key : ∀ n : Fin 10,∀ w,DW[n.val]? = some w → CZ (List.zip DW ((SA 10).map fun i=>i == n.val)) = [.str w]:=by
  intro n w h
  match n,h with
  | 0,h=>cases h; rfl
  | 1,h=>cases h; rfl
  | 2,h=>cases h; rfl
  | 3,h=>cases h; rfl
  | 4,h=>cases h; rfl
  | 5,h=>cases h; rfl
  | 6,h=>cases h; rfl
  | 7,h=>cases h; rfl
  | 8,h=>cases h; rfl
  | 9,h=>cases h; rfl
 exact key ⟨n,hn⟩ w h
end L2
namespace L2
open PySem PySem.Spec PyProof.Rows
section
variable {prog : Program} {w : World} {A : Around} {E : Value → Shared → Prop}
end
end L2
namespace L2
open PySem PySem.Spec PyProof.Rows
namespace St
open SetTable
abbrev Ris (xs : Array Nat) : Prop:=xs.toList.Pairwise (· < ·)
theorem Ris.lt {xs : Array Nat} (h : Ris xs) {i k x y : Nat} (hi : xs[i]? = some x) (hk : xs[k]? = some y) (hl : i < k) : x < y:=by
 rw [← TZ] at hi hk
 obtain ⟨h1,e1⟩:=SU.mp hi
 obtain ⟨h2,e2⟩:=SU.mp hk
 rw [← e1,← e2]
 exact List.pairwise_iff_getElem.mp h i k h1 h2 hl
theorem below_go {xs : Array Nat} (hr : Ris xs) (j : Nat) : ∀ (fuel lo hi : Nat),hi ≤ xs.size → lo ≤ hi → hi - lo ≤ fuel → (∀ i x,i < lo → xs[i]? = some x → x < j) → (∀ i x,hi ≤ i → xs[i]? = some x → j ≤ x) →
 ∃ p,below.go xs j fuel lo hi = p ∧ p ≤ xs.size ∧ (∀ i x,i < p → xs[i]? = some x → x < j) ∧ ∀ i x,p ≤ i → xs[i]? = some x → j ≤ x:=by
 intro fuel
 induction fuel with
 | zero =>
   intro lo hi h1 h2 h3 hA hB
   exact ⟨lo,rfl,by lia,hA,fun i x hi'=>hB i x (by lia)⟩
 | succ fuel ih =>
   intro lo hi h1 h2 h3 hA hB
   unfold below.go
   by_cases hl : lo < hi
   ·rw [if_pos hl]
    have hm : (lo + hi) / 2 < xs.size:=by lia
    have g : xs[(lo + hi) / 2]? = some xs[(lo + hi) / 2]:=UI hm
    have gd : xs.getD ((lo + hi) / 2) j = xs[(lo + hi) / 2]:=by rw [UC,g]; rfl
    dsimp only
    rw [gd]
    by_cases hc : xs[(lo + hi) / 2] < j
    ·rw [if_pos hc]
     refine ih ((lo + hi) / 2 + 1) hi h1 (by lia) (by lia) (fun i x hi' hx=>?_) hB
     rcases US i ((lo + hi) / 2) with z | z
     ·exact Nat.lt_trans (hr.lt hx g z) hc
     ·have e : i = (lo + hi) / 2:=by lia
      subst e
      rw [g] at hx
      cases hx
      exact hc
    ·rw [if_neg hc]
     refine ih lo ((lo + hi) / 2) (by lia) (by lia) (by lia) hA (fun i x hi' hx=>?_)
     rcases US ((lo + hi) / 2) i with z | z
     ·exact SJ (Ue.mp hc) (SK (hr.lt g hx z))
     ·have e : i = (lo + hi) / 2:=by lia
      subst e
      rw [g] at hx
      cases hx
      exact Ue.mp hc
   ·rw [if_neg hl]
    exact ⟨lo,rfl,by lia,hA,fun i x hi'=>hB i x (by lia)⟩
theorem below_ok {xs : Array Nat} (hr : Ris xs) (j : Nat) : below xs j ≤ xs.size ∧ (∀ i x,i < below xs j → xs[i]? = some x → x < j) ∧ ∀ i x,below xs j ≤ i → xs[i]? = some x → j ≤ x:=by
 obtain ⟨p,e,h⟩:=below_go hr j xs.size 0 xs.size (T2 _) (T5 _) (by lia) (fun i x h=>absurd h (UT _)) (fun i x h hx=>by
  have:=(UN.mp hx).1
  lia)
 unfold below
 rw [e]
 exact h
theorem slot_live {t : SetTable} (hr : Ris t.place) {i j : Nat} (h : t.place[i]? = some j) : t.slot j = .live i:=by
 obtain ⟨_,b2,b3⟩:=below_ok hr j
 have e : below t.place j = i:=by
  rcases UU (below t.place j) i with z | z | z
  ·have hs : i < t.place.size:=(UN.mp h).1
   have g : t.place[below t.place j]? = some t.place[below t.place j]:=UI (by lia)
   have h1:=b3 _ _ (T2 _) g
   have h2:=hr.lt g h z
   lia
  ·exact z
  ·exact absurd (b2 i j z h) (Sy _)
 unfold slot
 rw [e]
 dsimp only
 rw [h]
 simp
theorem insert_list {α : Type} (xs : Array α) (p : Nat) (x : α) : (insertAt xs p x).toList = xs.toList.take p ++ x :: xs.toList.drop p:=by
 unfold insertAt
 simp [Array.toList_append,Array.toList_push,Array.toList_extract,List.extract_eq_drop_take]
 exact Uw (by rw [TN,SX]; exact T2 _)
theorem insert_at {α : Type} {xs : Array α} {p : Nat} {x : α} (hp : p ≤ xs.size) {i : Nat} : (insertAt xs p x)[i]? = if i < p then xs[i]? else if i = p then some x else xs[i - 1]?:=by
 rw [← TZ,insert_list]
 have hl : (xs.toList.take p).length = p:=by rw [Tp,SX]; lia
 by_cases h1 : i < p
 ·rw [if_pos h1,Tt (by rw [hl]; exact h1),Tv h1,TZ]
 ·rw [if_neg h1,Tq (by rw [hl]; lia),hl]
  by_cases h2 : i = p
  ·subst h2
   rw [if_pos rfl,Nat.sub_self]
   rfl
  ·rw [if_neg h2]
   obtain ⟨k,hk⟩ : ∃ k,i - p = k + 1:=⟨i - p - 1,by lia⟩
   rw [hk,Ua,Ui,TZ]
   congr 1
   lia
theorem Ris.put {xs : Array Nat} (hr : Ris xs) {j : Nat} (hn : ∀ i : Nat,xs[i]? ≠ some j) : Ris (insertAt xs (below xs j) j):=by
 obtain ⟨b1,b2,b3⟩:=below_ok hr j
 show List.Pairwise _ _
 rw [insert_list,List.pairwise_append]
 refine ⟨hr.sublist (Tw _ _),?_,?_⟩
 ·rw [List.pairwise_cons]
  refine ⟨fun y hy=>?_,hr.sublist (List.drop_sublist _ _)⟩
  obtain ⟨i,hi⟩:=UG hy
  rw [Ui,TZ] at hi
  have h1:=b3 _ y (UW _ _) hi
  have h2 : y ≠ j:=fun z=>hn _ (z ▸ hi)
  lia
 ·intro a ha b hb
  obtain ⟨i,hi⟩:=UG ha
  have hil : i < below xs j:=by
   have:=(SU.mp hi).1
   rw [Tp] at this
   lia
  rw [Tv hil,TZ] at hi
  have h1:=b2 i a hil hi
  rcases SQ.mp hb with z | z
  ·rw [z]; exact h1
  ·obtain ⟨k,hk⟩:=UG z
   rw [Ui,TZ] at hk
   have:=b3 _ b (UW _ _) hk
   lia
theorem adv_mask {t u : SetTable} (h : t.mask = u.mask) (p : Probe) : t.advance p = u.advance p:=by unfold advance; rw [h]
theorem advs_mask {t u : SetTable} (h : t.mask = u.mask) : ∀ n p,advs t n p = advs u n p
 | 0,_=>rfl
 | n + 1,p=>by show advs t n (t.advance p) = advs u n (u.advance p); rw [adv_mask h,advs_mask h n]
theorem start_mask {t u : SetTable} (h : t.mask = u.mask) (x : Int) : t.probeStart x = u.probeStart x:=by unfold probeStart; rw [h]
def Way (t : SetTable) (occ : Nat → Prop) (p : Probe) (j : Nat) : Prop:=∃ m,(advs t m p).j = j ∧ ∀ i,i < m → occ (advs t i p).j
theorem Way.mono {t : SetTable} {o1 o2 : Nat → Prop} {p : Probe} {j : Nat} (h : Way t o1 p j) (k : ∀ s,o1 s → o2 s) : Way t o2 p j:=let ⟨m,e,a⟩:=h; ⟨m,e,fun i hi=>k _ (a i hi)⟩
theorem Way.mask {t u : SetTable} {o : Nat → Prop} {p : Probe} {j : Nat} (h : Way t o p j) (e : t.mask = u.mask) : Way u o p j:=by
 obtain ⟨m,e1,a⟩:=h
 exact ⟨m,by rw [← advs_mask e]; exact e1,fun i hi=>by rw [← advs_mask e]; exact a i hi⟩
theorem advs_in (t : SetTable) : ∀ (c j r i pert : Nat),c ≤ r → advs t c { j:=j,more:=r,i:=i,perturb:=pert,dummy:=none } = { j:=j + c,more:=r - c,i:=i,perturb:=pert,dummy:=none }
 | 0,j,r,i,pert,_=>rfl
 | c + 1,j,r,i,pert,h=>by
   show advs t c (t.advance _) = _
   have e : t.advance { j:=j,more:=r,i:=i,perturb:=pert,dummy:=none } = { j:=j + 1,more:=r - 1,i:=i,perturb:=pert,dummy:=none }:=by
    unfold advance
    rw [if_pos (by show 0 < r; lia)]
   rw [e,advs_in t c (j + 1) (r - 1) i pert (by lia)]
   congr 1 <;> lia
theorem way_run {t : SetTable} {occ : Nat → Prop} {i pert c : Nat} (hc : c ≤ runEnd t.mask i - i) (h : ∀ d,d < c → occ (i + d)) : Way t occ (base t.mask i pert) (i + c) :=
 ⟨c,by unfold base; rw [advs_in t c i _ i pert hc],fun d hd=>by unfold base; rw [advs_in t d i _ i pert (by lia)]; exact h d hd⟩
theorem way_on {t : SetTable} {occ : Nat → Prop} {i pert j : Nat} (h : ∀ d,d ≤ runEnd t.mask i - i → occ (i + d)) (k : Way t occ (base t.mask (leap t.mask i pert).1 (leap t.mask i pert).2) j) : Way t occ (base t.mask i pert) j:=by
 obtain ⟨m,e,a⟩:=k
 have er : advs t (runEnd t.mask i - i + 1) (base t.mask i pert) = base t.mask (leap t.mask i pert).1 (leap t.mask i pert).2:=advs_run t _ _ _ _
 refine ⟨runEnd t.mask i - i + 1 + m,by rw [advs_add,er]; exact e,fun d hd=>?_⟩
 rcases US d (runEnd t.mask i - i + 1) with z | z
 ·have:=h d (by lia)
  unfold base
  rw [advs_in t d i _ i pert (by lia)]
  exact this
 ·obtain ⟨c,rfl⟩ : ∃ c,d = runEnd t.mask i - i + 1 + c:=⟨d - (runEnd t.mask i - i + 1),by lia⟩
  rw [advs_add,er]
  exact a c (by lia)
theorem run_31 {i : Nat} (h : i < 32) : i ≤ runEnd 31 i ∧ runEnd 31 i < 32:=by unfold runEnd; split <;> lia
def Tk (owner : Array (Option Nat)) (s : Nat) : Prop:=s < 32 ∧ owner.getD s (some 0) ≠ none
theorem free_way {t : SetTable} (hm : t.mask = 31) {owner : Array (Option Nat)} : ∀ (fuel i pert j : Nat),i < 32 → layClean.free 31 owner fuel i pert = some j → Way t (Tk owner) (base t.mask i pert) j:=by
 intro fuel
 induction fuel with
 | zero=>intro i pert j _ h; cases h
 | succ fuel ih =>
   intro i pert j hi h
   have hrun:=run_31 hi
   unfold layClean.free at h
   split at h
   ·next k hk =>
    cases h
    have hmem:=List.mem_of_find?_eq_some hk
    have hkl:=SH.mp hmem
    refine way_run (by rw [hm]; lia) fun d hd=>⟨by lia,?_⟩
    have:=List.find?_eq_some_iff_getElem.mp hk
    obtain ⟨_,n,hn,e,hbef⟩:=this
    rw [UH] at e
    subst e
    have:=hbef d hd
    rw [UH] at this
    intro z
    rw [z] at this
    cases this
   ·next hk =>
    refine way_on (fun d hd=>?_) ?_
    ·rw [List.find?_eq_none] at hk
     rw [hm] at hd
     have:=hk d (SH.mpr (by lia))
     refine ⟨by lia,fun z=>?_⟩
     rw [z] at this
     exact this rfl
    ·have h' : layClean.free 31 owner fuel (leap 31 i pert).1 (leap 31 i pert).2 = some j:=h
     have:=ih _ _ _ (Ux _ (by decide)) h'
     rw [hm] at this ⊢
     exact this
def WO (t : SetTable) (hs : List Int) (owner : Array (Option Nat)) : Prop:=∀ j i,owner.getD j none = some i → ∃ h,hs[i]? = some h ∧ Way t (Tk owner) (base t.mask (bits h % 32) (bits h)) j
theorem tk_set {owner : Array (Option Nat)} {j k s : Nat} (h : Tk owner s) : Tk (owner.setIfInBounds j (some k)) s:=by
 refine ⟨h.1,fun z=>?_⟩
 rw [UC,UX] at z
 split at z
 ·split at z <;> cases z
 ·rw [← UC] at z
  exact h.2 z
theorem stp_way {t : SetTable} (hm : t.mask = 31) {hs : List Int} {owner owner' : Array (Option Nat)} {k k' : Nat} {h : Int} (w : WO t hs owner) (hk : hs[k]? = some h) (e : stp (some (owner,k)) h = some (owner',k')) : WO t hs owner':=by
 have e' : (do let j ← layClean.free 31 owner (turns 31) (bits h % (31 + 1)) (bits h); pure (owner.setIfInBounds j (some k),k + 1)) = some (owner',k'):=e
 cases ef : layClean.free 31 owner (turns 31) (bits h % (31 + 1)) (bits h) with
 | none=>rw [ef] at e'; cases e'
 | some j =>
   rw [ef] at e'
   have e2 : some (owner.setIfInBounds j (some k),k + 1) = some (owner',k'):=e'
   cases e2
   intro s i hsi
   rw [UC,UX] at hsi
   by_cases hjs : j = s
   ·rw [if_pos hjs] at hsi
    split at hsi
    ·have ei : some k = some i:=hsi
     cases ei
     refine ⟨h,hk,?_⟩
     subst hjs
     exact (free_way hm _ _ _ _ (Ux _ (by decide)) ef).mono fun _=>tk_set
    ·cases hsi
   ·rw [if_neg hjs,← UC] at hsi
    obtain ⟨g,g1,g2⟩:=w s i hsi
    exact ⟨g,g1,g2.mono fun _=>tk_set⟩
theorem fold_way {t : SetTable} (hm : t.mask = 31) {hs0 : List Int} : ∀ (hs : List Int) {owner : Array (Option Nat)} {k : Nat},Own owner k → WO t hs0 owner → (∀ i h,hs[i]? = some h → hs0[k + i]? = some h) → k + hs.length ≤ 32 →
 ∃ owner',hs.foldl stp (some (owner,k)) = some (owner',k + hs.length) ∧ Own owner' (k + hs.length) ∧ WO t hs0 owner'
 | [],owner,k,ho,w,_,_=>⟨owner,rfl,ho,w⟩
 | h :: hs,owner,k,ho,w,hh,hl=>by
   rw [U9] at hl
   obtain ⟨o1,e1,ho1⟩:=stp_ok ho (by lia) h
   have w1:=stp_way hm w (hh 0 h rfl) e1
   obtain ⟨o2,e2,ho2,w2⟩:=fold_way hm hs ho1 w1 (fun i g hg=>by rw [show k + 1 + i = k + (i + 1) by lia]; exact hh (i + 1) g hg) (by lia)
   refine ⟨o2,?_,?_,w2⟩
   ·rw [List.foldl_cons,e1,e2,U9,show k + 1 + hs.length = k + (hs.length + 1) by lia]
   ·rw [U9,show k + (hs.length + 1) = k + 1 + hs.length by lia]; exact ho2
theorem wo_none (t : SetTable) (hs : List Int) : WO t hs (UL 32 none):=fun j i h=>by
 rw [UC,Array.getElem?_replicate] at h
 split at h <;> cases h
theorem lv_first (owner : Array (Option Nat)) : ∀ l : List Nat,(l.filterMap (lv owner)).map (·.1) = l.filter fun j=>(owner.getD j none).isSome
 | []=>rfl
 | a :: l=>by
   rw [SM,List.filter_cons]
   cases e : owner.getD a none with
   | none =>
     have : lv owner a = none:=by unfold lv; rw [e]; rfl
     rw [this]
     simp only [Option.isSome_none,Bool.false_eq_true,if_false]
     exact lv_first owner l
   | some v =>
     have : lv owner a = some (a,v):=by unfold lv; rw [e]; rfl
     rw [this]
     simp only [Option.isSome_some,if_true,U1]
     rw [lv_first owner l]
theorem laid_way (hashes : Array Int) (hn : hashes.size ≤ 32) (finger moves : Nat) (led plain : Bool) : ∃ t order,laid 31 finger moves led plain hashes = some (t,order) ∧ t.mask = 31 ∧ t.dummies = #[] ∧ t.place.size = hashes.size ∧ order.toList.Perm (SA hashes.size) ∧ Ris t.place ∧
 ∀ i k : Nat,order[i]? = some k → ∃ (j : Nat) (h : Int),t.place[i]? = some j ∧ hashes[k]? = some h ∧ Way t (fun s=>∃ q : Nat,t.place[q]? = some s) (t.probeStart h) j:=by
 have hm0 : (SetTable.fresh 0 0 false).mask = 7:=rfl
 obtain ⟨t0,ht0⟩ : ∃ t0 : SetTable,t0.mask = 31:=⟨{ (SetTable.fresh 0 0 false) with mask:=31 },rfl⟩
 obtain ⟨owner,e,ho,w⟩:=fold_way ht0 hashes.toList (hs0:=hashes.toList) own_none (wo_none t0 _) (fun i h hh=>by rw [UA]; exact hh) (by rw [SX]; lia)
 have hc : layClean 31 hashes = some owner:=by
  unfold layClean
  have e' : hashes.foldl stp (some (UL 32 none,0)) = some (owner,0 + hashes.toList.length):=by rw [← Array.foldl_toList]; exact e
  have e2 : hashes.foldl (init:=some (UL (31 + 1) none,0)) (fun acc h=>do
   let (owner,k) ← acc
   let j ← layClean.free 31 owner (turns 31) (bits h % (31 + 1)) (bits h)
   pure (owner.setIfInBounds j (some k),k + 1)) = some (owner,0 + hashes.toList.length):=e'
  rw [e2]; rfl
 have hp:=ho.2
 rw [UA,SX] at hp
 obtain ⟨t,ht⟩ : ∃ t : SetTable,t = { mask:=31,place:=(((SA 32).filterMap (lv owner)).map (·.1)).toArray,dummies:=#[],finger,led,moves,plain }:=⟨_,rfl⟩
 have htm : t.mask = 31:=by rw [ht]
 have hpl : t.place.toList = ((SA 32).filterMap (lv owner)).map (·.1):=by rw [ht]
 have occ : ∀ s,Tk owner s → ∃ q : Nat,t.place[q]? = some s:=fun s hs=>by
  have h1 : ∃ v,owner.getD s none = some v:=by
   have h2:=hs.2
   rw [UC] at h2
   have hlt : s < owner.size:=by rw [ho.1]; exact hs.1
   rw [UI hlt] at h2
   cases hv : owner[s] with
   | none=>rw [hv] at h2; exact absurd rfl h2
   | some v=>exact ⟨v,by rw [UC,UI hlt,hv]; rfl⟩
  obtain ⟨v,hv⟩:=h1
  have hmem : s ∈ t.place.toList:=by
   rw [hpl,lv_first]
   exact SE.mpr ⟨SH.mpr hs.1,by rw [hv]; rfl⟩
  obtain ⟨q,hq⟩:=UG hmem
  exact ⟨q,by rw [← TZ]; exact hq⟩
 refine ⟨t,(((SA 32).filterMap (lv owner)).map (·.2)).toArray,?_,htm,by rw [ht],?_,hp,?_,fun i k hk=>?_⟩
 ·unfold laid
  rw [hc,ht]
  rfl
 ·have:=hp.length_eq
  rw [TC,UB] at this
  rw [← SX,hpl,TC]; exact this
 ·show List.Pairwise _ _
  rw [hpl,lv_first]
  exact List.Pairwise.sublist List.filter_sublist List.pairwise_lt_range
 ·rw [← TZ] at hk
  have hk : (((SA 32).filterMap (lv owner)).map (·.2))[i]? = some k:=hk
  rw [Tu] at hk
  cases hg : ((SA 32).filterMap (lv owner))[i]? with
  | none=>rw [hg] at hk; cases hk
  | some x =>
    obtain ⟨j,k'⟩:=x
    rw [hg] at hk
    have ek : k' = k:=Su.inj hk
    obtain ⟨j',_,hj'⟩:=T3.mp (Tx hg)
    unfold lv at hj'
    cases hv : owner.getD j' none with
    | none=>rw [hv] at hj'; cases hj'
    | some v =>
      rw [hv] at hj'
      have e3 : (j',v) = (j,k'):=Su.inj hj'
      have ej : j' = j:=congrArg Prod.fst e3
      have ev : v = k:=(congrArg Prod.snd e3).trans ek
      rw [ej,ev] at hv
      obtain ⟨h,h1,h2⟩:=w j k hv
      refine ⟨j,h,?_,by rw [← TZ]; exact h1,?_⟩
      ·rw [← TZ,hpl,Tu,hg]; rfl
      ·have h3:=(h2.mono occ).mask (u:=t) (by rw [htm]; exact ht0)
       rw [ht0] at h3
       unfold probeStart
       rw [htm]
       exact h3
end St
end L2
namespace L2
open PySem PySem.Spec PyProof.Rows
namespace St
open SetTable
abbrev Occ (t : SetTable) (s : Nat) : Prop:=∃ q : Nat,t.place[q]? = some s
theorem go_way {t : SetTable} (hd : t.dummies = #[]) {ha : Nat → Int} {h : Int} : ∀ (fuel k : Nat) (p : Probe),k < fuel → p.dummy = none → Hit t k p →
 (∃ c j,probe.go t ha h fuel p = some (.empty j none) ∧ (advs t c p).j = j ∧ t.slot j = .empty ∧ ∀ l,l < c → Occ t (advs t l p).j) ∨
 ∃ c j i k',probe.go t ha h fuel p = some (.candidate j i (advs t (c + 1) p)) ∧ t.slot j = .live i ∧ t.place[i]? = some j ∧ (advs t (c + 1) p).dummy = none ∧ Hit t k' (advs t (c + 1) p) ∧ k' < k ∧ ∀ l,l < c + 1 → Occ t (advs t l p).j
 | fuel + 1,k,p,hk,hp,hh=>by
   unfold probe.go
   rcases slot_cases hd p.j with z | ⟨i,z,zp⟩
   ·rw [z]
    exact .inl ⟨0,p.j,by simp only [hp],rfl,z,fun l hl=>absurd hl (UT _)⟩
   ·rw [z]
    have hk0 : ∃ k',k = k' + 1:=by
     cases k with
     | zero=>unfold Hit at hh; rw [show advs t 0 p = p from rfl,z] at hh; cases hh
     | succ k'=>exact ⟨k',rfl⟩
    obtain ⟨k',rfl⟩:=hk0
    have hh' : Hit t k' (t.advance p):=hh
    by_cases hq : (ha i == h) = true
    ·refine .inr ⟨0,p.j,i,k',?_,z,zp,adv_dummy t hp,hh',by lia,fun l hl=>?_⟩
     ·simp only [hq]
      rfl
     ·obtain rfl : l = 0:=by lia
      exact ⟨i,zp⟩
    ·have hq' : (ha i == h) = false:=by simpa using hq
     simp only [hq']
     have front : ∀ {c : Nat},(∀ l,l < c → Occ t (advs t l (t.advance p)).j) → ∀ l,l < c + 1 → Occ t (advs t l p).j:=fun {c} hc l hl=>by
      cases l with
      | zero=>exact ⟨i,zp⟩
      | succ l=>exact hc l (by lia)
     rcases go_way hd fuel k' (t.advance p) (by lia) (adv_dummy t hp) hh' with ⟨c,j,e,r0,r1,r2⟩ | ⟨c,j,i',k2,e,r1,r2,r3,r4,r5,r6⟩
     ·exact .inl ⟨c + 1,j,e,r0,r1,front r2⟩
     ·exact .inr ⟨c + 1,j,i',k2,e,r1,r2,r3,r4,by lia,front r6⟩
theorem go_there {t : SetTable} (hr : Ris t.place) {ha : Nat → Int} {h : Int} {i0 j0 : Nat} (h0 : t.place[i0]? = some j0) (hh : (ha i0 == h) = true) : ∀ (fuel r : Nat) (p : Probe),r < fuel → p.dummy = none → (advs t r p).j = j0 → (∀ l,l < r → Occ t (advs t l p).j) →
 ∃ j i next,probe.go t ha h fuel p = some (.candidate j i next) ∧ t.slot j = .live i ∧ t.place[i]? = some j ∧ (i = i0 ∨ ∃ r',r' < r ∧ next.dummy = none ∧ (advs t r' next).j = j0 ∧ ∀ l,l < r' → Occ t (advs t l next).j)
 | fuel + 1,0,p,_,hp,hj,_=>by
   have hj : p.j = j0:=hj
   have z : t.slot p.j = .live i0:=by rw [hj]; exact slot_live hr h0
   unfold probe.go
   rw [z]
   refine ⟨p.j,i0,t.advance p,?_,z,by rw [hj]; exact h0,.inl rfl⟩
   simp only [hh]
   rfl
 | fuel + 1,r + 1,p,hk,hp,hj,ho=>by
   obtain ⟨i,hi⟩:=ho 0 (Nat.succ_pos _)
   have hi : t.place[i]? = some p.j:=hi
   have z : t.slot p.j = .live i:=slot_live hr hi
   unfold probe.go
   rw [z]
   have ho' : ∀ l,l < r → Occ t (advs t l (t.advance p)).j:=fun l hl=>ho (l + 1) (by lia)
   by_cases hq : (ha i == h) = true
   ·refine ⟨p.j,i,t.advance p,?_,z,hi,.inr ⟨r,Uj _,adv_dummy t hp,hj,ho'⟩⟩
    simp only [hq]
    rfl
   ·have hq' : (ha i == h) = false:=by simpa using hq
    simp only [hq']
    obtain ⟨j,i',next,e,r1,r2,r3⟩:=go_there hr h0 hh fuel r (t.advance p) (by lia) (adv_dummy t hp) hj ho'
    refine ⟨j,i',next,e,r1,r2,?_⟩
    rcases r3 with z | ⟨r',q1,q2⟩
    ·exact .inl z
    ·exact .inr ⟨r',by lia,q2⟩
section
variable {prog : Program} {w : World} {K : Type} [DecidableEq K] {knd : KeyKind prog w K} {A : Around} {E : Value → Shared → Prop} {s : Shared}
def Nms (knd : KeyKind prog w K) (h : Heap) (l : List Value) : Prop:=∀ v ∈ l,∃ b k',v = .ref b ∧ IsN knd h k' b
theorem unseen2 {ks : List K} {x : Addr} {Q : Bool → Shared → Prop} (hx : IsN knd s.heap ks x) {l : List Value} (hl : Nms knd s.heap l) (h : Q false s) : wpAny (model prog w) A (searchCouldBeSeen (.ref x) l) Q E s:=by
 unfold searchCouldBeSeen
 refine wpAny_bind ?_
 refine wpAny_forIn_list _ (fun Bj r s'=>r.1 = none ∧ s' = s ∧ Nms knd s.heap Bj) _ ?_ ?_ _ _ ⟨rfl,rfl,hl⟩
 ·rintro v Bj r s' ⟨hr,rfl,hall⟩
  obtain ⟨b,k',rfl,hb⟩:=hall v SN
  have hrest : Nms knd s'.heap Bj:=fun u hu'=>hall u (SO _ hu')
  have hc : ((match (Value.ref x),(Value.ref b) with | .ref a,.ref b=>a == b | _,_=>false) || (carriedByValue (.ref x) && carriedByValue (.ref b))) = (x == b):=by
   show ((x == b) || (false && false)) = _
   simp
  show wpAny _ _ (if ((match (Value.ref x),(Value.ref b) with | .ref a,.ref b=>a == b | _,_=>false) || (carriedByValue (.ref x) && carriedByValue (.ref b))) = true then _ else _) _ _ _
  rw [hc]
  by_cases hxb : (x == b) = true
  ·rw [if_pos hxb]
   exact wpAny_pure ⟨rfl,rfl,hrest⟩
  rw [if_neg hxb]
  refine wpAny_bind (wpAny_eqIsQuiet_tuple hx.key ?_)
  simp only [Bool.not_true,Bool.false_eq_true,if_false]
  refine wpAny_bind (wpAny_eqIsQuiet_tuple hb.key ?_)
  simp only [Bool.not_true,Bool.false_eq_true,if_false]
  refine wpAny_bind (ofClass_n hx ?_)
  simp only [Bool.false_eq_true,if_false]
  refine wpAny_bind (ofClass_n hb ?_)
  simp only [Bool.false_eq_true,if_false]
  exact wpAny_pure ⟨rfl,rfl,hrest⟩
 ·rintro ⟨r1,r2⟩ s' ⟨hr,rfl,_⟩
  simp only at hr
  subst hr
  exact wpAny_pure h
variable {S : Addr} {o : Obj} {es : Array (Int × Value)} {ep : Nat} {t : SetTable}
theorem nms_of {ks : List K} (hes : ∀ e ∈ es.toList,∃ b k',e.2 = Value.ref b ∧ IsN knd s.heap k' b) {h : Int} : Nms knd s.heap (List.map (fun x=>x.snd) (Array.filter (fun x=>x.fst == h) es).toList):=fun v hv=>by
 obtain ⟨e0,he0,rfl⟩:=UY.mp hv
 rw [Array.toList_filter] at he0
 exact hes e0 (SE.mp he0).1
theorem same_self (t : SetTable) : t.sameMemory t.moves t.mask = some true:=by unfold sameMemory; rw [if_pos (beq_self_eq_true _)]
theorem look_one (ho : s.heap.get? S = some o) (hd : o.data = .set es ep t) (hf : t.fits es.size = true) {x b : Addr} {ks kb : List K} (hx : IsN knd s.heap ks x) (hb : IsN knd s.heap kb b) (hes : ∀ e ∈ es.toList,∃ b k',e.2 = Value.ref b ∧ IsN knd s.heap k' b)
 (hu : A.units < cLine) {h h1 : Int} {F j i : Nat} {next : Probe} (r1 : t.slot j = .live i) (hei : es[i]? = some (h1,Value.ref b)) {Q : SetFound → Shared → Prop} (yes : kb = ks → Q (.there none) s) (no : kb ≠ ks → wpAny (model prog w) A (setSearchFrom S (.ref x) h true F (some next)) Q E s) :
 wpAny (model prog w) A (do
  if !t.led then
   if ← searchCouldBeSeen (.ref x) ((es.filter (·.1 == h)).toList.map (·.2)) then unsupported "set:the-search-would-show-the-table"
  let some (_,y):=es[i]? | unsupported "internal:set-entry"
  let equal ← holding [y] (eqBool y (.ref x))
  let (es',_,t') ← setState S
  if true && equal then return .there none
  let some same:=t'.sameMemory t.moves t.mask | unsupported "set.changed-during-lookup:is-the-new-block-at-the-old-address"
  let still ← match (if same then t'.slot j else .empty) with
   | .live i'=>match es'[i']? with
     | some (_,y')=>do pure (if ← isSame y' y then some i' else none)
     | none=>pure none
   | _=>pure none
  match still with
  | none=>rule "set.search.anew"; setSearchFrom S (.ref x) h true F none
  | some i'=>if equal then return .there (some i') else setSearchFrom S (.ref x) h true F (some next)) Q E s:=by
 have Bj : wpAny (model prog w) A (do
  let some (_,y):=es[i]? | unsupported "internal:set-entry"
  let equal ← holding [y] (eqBool y (.ref x))
  let (es',_,t') ← setState S
  if true && equal then return .there none
  let some same:=t'.sameMemory t.moves t.mask | unsupported "set.changed-during-lookup:is-the-new-block-at-the-old-address"
  let still ← match (if same then t'.slot j else .empty) with
   | .live i'=>match es'[i']? with
     | some (_,y')=>do pure (if ← isSame y' y then some i' else none)
     | none=>pure none
   | _=>pure none
  match still with
  | none=>rule "set.search.anew"; setSearchFrom S (.ref x) h true F none
  | some i'=>if equal then return .there (some i') else setSearchFrom S (.ref x) h true F (some next)) Q E s:=by
  rw [hei]
  dsimp only
  refine wpAny_bind (wpAny_holding (wpAny_eqBool_tuple hu hb.key hx.key ?_))
  refine wpAny_bind (wpAny_setState_of ho hd hf ?_)
  by_cases hk : kb = ks
  ·rw [decide_eq_true hk]
   simp only [Bool.and_self,if_true]
   exact wpAny_pure (yes hk)
  ·rw [decide_eq_false hk]
   simp only [Bool.and_false,Bool.false_eq_true,if_false,same_self,if_true,r1,hei]
   refine wpAny_bind (wpAny_isSame_ref_self ?_)
   simp only [if_true]
   refine wpAny_bind (wpAny_pure ?_)
   simp only [Bool.false_eq_true,if_false]
   exact no hk
 rcases Bool.eq_false_or_eq_true t.led with hl | hl
 ·simp only [hl,Bool.not_true,Bool.false_eq_true,if_false]
  exact Bj
 ·simp only [hl,Bool.not_false,if_true]
  refine wpAny_bind (unseen2 hx (nms_of (ks:=ks) hes) ?_)
  simp only [Bool.false_eq_true,if_false]
  exact Bj
theorem search_new (ho : s.heap.get? S = some o) (hd : o.data = .set es ep t) (hf : t.fits es.size = true) (hm : t.mask = 7 ∨ t.mask = 31) (hdm : t.dummies = #[]) {x : Addr} {ks : List K} (hx : IsN knd s.heap ks x)
 (hes : ∀ e ∈ es.toList,∃ b k',e.2 = Value.ref b ∧ IsN knd s.heap k' b ∧ k' ≠ ks) (hu : A.units < cLine) {h : Int} {Q : SetFound → Shared → Prop} (hQ : ∀ j,t.slot j = .empty → Way t (Occ t) (t.probeStart h) j → Q (.free j false) s) :
 ∀ (k F c0 : Nat) (stand : Option Probe),k < F → k < 10 * turns t.mask → stand.getD (t.probeStart h) = advs t c0 (t.probeStart h) → (∀ l,l < c0 → Occ t (advs t l (t.probeStart h)).j) → (stand.getD (t.probeStart h)).dummy = none → Hit t k (stand.getD (t.probeStart h)) → wpAny (model prog w) A (setSearchFrom S (.ref x) h true F stand) Q E s:=by
 have hes' : ∀ e ∈ es.toList,∃ b k',e.2 = Value.ref b ∧ IsN knd s.heap k' b:=fun e he=>let ⟨b,k',q1,q2,_⟩:=hes e he; ⟨b,k',q1,q2⟩
 have hps : t.place.size = es.size:=by
  unfold fits at hf
  rw [Bool.and_eq_true] at hf
  exact eq_of_beq hf.1
 intro k
 induction k using Nat.strongRecOn with
 | ind k ih =>
   intro F c0 stand hF hk hst hoc hdn hh
   obtain ⟨F',rfl⟩ : ∃ F',F = F' + 1:=⟨F - 1,by lia⟩
   unfold setSearchFrom
   refine wpAny_bind (wpAny_setState_of ho hd hf ?_)
   dsimp only
   have hgw : t.gaveWay = false:=by
    unfold gaveWay
    rcases hm with z | z <;> rw [z] <;> rfl
   rw [hgw]
   simp only [Bool.false_eq_true,if_false]
   have more : ∀ {c : Nat},(∀ l,l < c → Occ t (advs t l (stand.getD (t.probeStart h))).j) → ∀ l,l < c0 + c → Occ t (advs t l (t.probeStart h)).j:=fun {c} hc l hl=>by
    rcases US l c0 with z | z
    ·exact hoc l z
    ·obtain ⟨d,rfl⟩ : ∃ d,l = c0 + d:=⟨l - c0,by lia⟩
     have:=hc d (by lia)
     rw [hst,← advs_add] at this
     exact this
   split
   ·next met heq =>
    rcases go_way hdm (10 * turns t.mask) k _ hk hdn hh with ⟨c,j,e,r0,r1,r2⟩ | ⟨c,j,i,k',e,r1,r2,r3,r4,r5,r6⟩
    ·have e2:=Su.inj (e.symm.trans heq)
     subst e2
     refine wpAny_pure (hQ j r1 ⟨c0 + c,?_,more r2⟩)
     rw [advs_add,← hst]; exact r0
    ·have e2:=Su.inj (e.symm.trans heq)
     subst e2
     dsimp only
     have hil : i < es.size:=by
      have:=(UN.mp r2).1
      lia
     obtain ⟨h0,y,hei⟩ : ∃ h0 y,es[i]? = some (h0,y):=⟨es[i].1,es[i].2,UI hil⟩
     obtain ⟨b,kb,eb,hb,hne⟩:=hes (h0,y) (Tx (by rw [TZ]; exact hei))
     have eb : y = .ref b:=eb
     subst eb
     refine look_one ho hd hf hx hb hes' hu r1 hei (fun z=>absurd z hne) fun _=>?_
     refine ih k' r5 F' (c0 + (c + 1)) (some _) (by lia) (by lia) ?_ (more r6) r3 r4
     show advs t (c + 1) (stand.getD (t.probeStart h)) = _
     rw [hst,← advs_add]
   ·next heq =>
    exfalso
    rcases go_way hdm (10 * turns t.mask) k _ hk hdn hh with ⟨c,j,e,_⟩ | ⟨c,j,i,k',e,_⟩
    ·exact heq _ e
    ·exact heq _ e
theorem search_old (ho : s.heap.get? S = some o) (hd : o.data = .set es ep t) (hf : t.fits es.size = true) (hm : t.mask = 7 ∨ t.mask = 31) (hr : Ris t.place) {x : Addr} {ks : List K} (hx : IsN knd s.heap ks x)
 (hes : ∀ e ∈ es.toList,∃ b k',e.2 = Value.ref b ∧ IsN knd s.heap k' b) (hu : A.units < cLine) {h : Int} {i0 j0 : Nat} {b0 : Addr} (h0 : t.place[i0]? = some j0) (he0 : es[i0]? = some (h,Value.ref b0)) (hb0 : IsN knd s.heap ks b0) {Q : SetFound → Shared → Prop} (hQ : Q (.there none) s) :
 ∀ (r F : Nat) (stand : Option Probe),r < F → r < 10 * turns t.mask → (stand.getD (t.probeStart h)).dummy = none → (advs t r (stand.getD (t.probeStart h))).j = j0 → (∀ l,l < r → Occ t (advs t l (stand.getD (t.probeStart h))).j) → wpAny (model prog w) A (setSearchFrom S (.ref x) h true F stand) Q E s:=by
 have hps : t.place.size = es.size:=by
  unfold fits at hf
  rw [Bool.and_eq_true] at hf
  exact eq_of_beq hf.1
 intro r
 induction r using Nat.strongRecOn with
 | ind r ih =>
   intro F stand hF hk hdn hj hoc
   obtain ⟨F',rfl⟩ : ∃ F',F = F' + 1:=⟨F - 1,by lia⟩
   unfold setSearchFrom
   refine wpAny_bind (wpAny_setState_of ho hd hf ?_)
   dsimp only
   have hgw : t.gaveWay = false:=by
    unfold gaveWay
    rcases hm with z | z <;> rw [z] <;> rfl
   rw [hgw]
   simp only [Bool.false_eq_true,if_false]
   have hh : ∀ {ha : Nat → Int},(∀ i,ha i = (es[i]?.map (·.1)).getD 0) → (ha i0 == h) = true:=fun {ha} e=>by
    rw [e,he0]
    simp
   split
   ·next met heq =>
    obtain ⟨j,i,next,e,r1,r2,r3⟩:=go_there hr h0 (hh fun _=>rfl) (10 * turns t.mask) r _ hk hdn hj hoc
    have e2:=Su.inj (e.symm.trans heq)
    subst e2
    dsimp only
    have hil : i < es.size:=by
     have:=(UN.mp r2).1
     lia
    obtain ⟨h1,y,hei⟩ : ∃ h1 y,es[i]? = some (h1,y):=⟨es[i].1,es[i].2,UI hil⟩
    obtain ⟨b,kb,eb,hb⟩:=hes (h1,y) (Tx (by rw [TZ]; exact hei))
    have eb : y = .ref b:=eb
    subst eb
    refine look_one ho hd hf hx hb hes hu r1 hei (fun _=>hQ) fun hne=>?_
    rcases r3 with z | ⟨r',q1,q2,q3,q4⟩
    ·subst z
     rw [he0] at hei
     cases hei
     exact absurd (hb.key.inj hb0.key) hne
    ·exact ih r' q1 F' (some next) (by lia) (by lia) q2 q3 q4
   ·next heq =>
    exfalso
    obtain ⟨j,i,next,e,_⟩:=go_there hr h0 (hh fun _=>rfl) (10 * turns t.mask) r _ hk hdn hj hoc
    exact heq _ e
end
end St
end L2
namespace L2
open PySem PySem.Spec PyProof.Rows
namespace St
open SetTable
theorem fm_at {α β : Type} {f : α → Option β} : ∀ {l : List α} {i : Nat},(∀ x ∈ l,∃ y,f x = some y) → (l.filterMap f)[i]? = l[i]?.bind f
 | [],i,_=>by simp
 | a :: l,i,h=>by
   obtain ⟨y,hy⟩:=h a SN
   rw [UJ hy]
   cases i with
   | zero=>rw [List.getElem?_cons_zero,List.getElem?_cons_zero]; exact hy.symm
   | succ i=>rw [Ua,Ua]; exact fm_at fun x hx=>h x (SO _ hx)
section
variable {prog : Program} {w : World} {K : Type} [DecidableEq K] (knd : KeyKind prog w K) (G : Addr → Prop)
structure Bdy (h : Heap) (keys : List (List K)) (es : Array (Int × Value)) (t : SetTable) : Prop where
 dm : t.dummies = #[]
 ps : t.place.size = es.size
 len : es.size = keys.length
 ris : Ris t.place
 ent : ∀ (i : Nat) (e : Int × Value),es[i]? = some e → ∃ (b : Addr) (k : List K) (j : Nat),e = (tupleKeyHash knd k,Value.ref b) ∧ IsN knd h k b ∧ k ∈ keys ∧ G b ∧ t.place[i]? = some j ∧ Way t (Occ t) (t.probeStart e.1) j
 key : ∀ k ∈ keys,∃ (i : Nat) (b : Addr),es[i]? = some (tupleKeyHash knd k,Value.ref b) ∧ IsN knd h k b
def SetM (h : Heap) (S : Addr) (keys : List (List K)) : Prop:=∃ o es ep t,h.get? S = some o ∧ o.ExactSet ∧ o.data = .set es ep t ∧ (t.mask = 7 ∧ es.size ≤ 4 ∨ t.mask = 31) ∧ Bdy knd G h keys es t
variable {knd} {G}
theorem Bdy.keep {h h' : Heap} {keys : List (List K)} {es : Array (Int × Value)} {t : SetTable} (x : Bdy knd G h keys es t) (k : ∀ b o ks,IsN knd h ks b → h.get? b = some o → h'.get? b = some o) : Bdy knd G h' keys es t :=
 ⟨x.dm,x.ps,x.len,x.ris,fun i e he=>let ⟨b,ks,j,q1,q2,q3⟩:=x.ent i e he; ⟨b,ks,j,q1,q2.keep fun o eo=>k b o ks q2 eo,q3⟩,fun ks hk=>let ⟨i,b,q1,q2⟩:=x.key ks hk; ⟨i,b,q1,q2.keep fun o eo=>k b o ks q2 eo⟩⟩
theorem Bdy.nums {h : Heap} {keys : List (List K)} {es : Array (Int × Value)} {t : SetTable} (x : Bdy knd G h keys es t) : ∀ e ∈ es.toList,∃ b k',e.2 = Value.ref b ∧ IsN knd h k' b ∧ k' ∈ keys:=fun e he=>by
 obtain ⟨i,hi⟩:=UG he
 rw [TZ] at hi
 obtain ⟨b,k,j,rfl,q2,q3,_⟩:=x.ent i e hi
 exact ⟨b,k,rfl,q2,q3⟩
variable {A : Around} {E : Value → Shared → Prop} {s : Shared}
theorem Bdy.again {h : Heap} {keys : List (List K)} {es es2 : Array (Int × Value)} {t t2 : SetTable} {order : Array Nat} (x : Bdy knd G h keys es t) (eo : order.toList.Perm (SA es.size)) (e2 : es2 = order.filterMap (es[·]?)) (d2 : t2.dummies = #[]) (p2 : t2.place.size = es.size) (r2 : Ris t2.place)
 (w2 : ∀ i k : Nat,order[i]? = some k → ∃ (j : Nat) (g : Int),t2.place[i]? = some j ∧ (es.map (·.1))[k]? = some g ∧ Way t2 (Occ t2) (t2.probeStart g) j) : es2.toList.Perm es.toList ∧ Bdy knd G h keys es2 t2:=by
 have hall : ∀ k ∈ order.toList,∃ y,es[k]? = some y:=fun k hk=>⟨_,UI (SH.mp (eo.mem_iff.mp hk))⟩
 have at2 : ∀ i : Nat,es2[i]? = order[i]?.bind (es[·]?):=fun i=>by
  rw [← TZ,e2,Array.toList_filterMap,fm_at hall,TZ]
 have hperm : es2.toList.Perm es.toList:=by
  rw [e2,Array.toList_filterMap]
  have:=eo.filterMap (fun i=>es[i]?)
  rw [filterMap_getElem?_range] at this
  exact this
 have hsz : es2.size = es.size:=by
  have:=hperm.length_eq
  rw [SX,SX] at this
  exact this
 refine ⟨hperm,d2,by rw [p2,hsz],by rw [hsz]; exact x.len,r2,fun i e he=>?_,fun k hk=>?_⟩
 ·rw [at2] at he
  cases ho : order[i]? with
  | none=>rw [ho] at he; cases he
  | some k =>
    rw [ho] at he
    have he : es[k]? = some e:=he
    obtain ⟨b,ks,_,q1,q2,q3,q4,_⟩:=x.ent k e he
    obtain ⟨j,g,w1,w2',w3⟩:=w2 i k ho
    rw [Array.getElem?_map,he] at w2'
    have eg : e.1 = g:=Su.inj w2'
    exact ⟨b,ks,j,q1,q2,q3,q4,w1,by rw [eg]; exact w3⟩
 ·obtain ⟨i,b,q1,q2⟩:=x.key k hk
  have hm : (tupleKeyHash knd k,Value.ref b) ∈ es2.toList:=hperm.mem_iff.mpr (Tx (by rw [TZ]; exact q1))
  obtain ⟨i2,hi2⟩:=UG hm
  rw [TZ] at hi2
  exact ⟨i2,b,hi2,q2⟩
theorem Bdy.more {h : Heap} {keys : List (List K)} {es : Array (Int × Value)} {t t1 : SetTable} {x : Addr} {ks : List K} {j p : Nat} (B : Bdy knd G h keys es t) (hx : IsN knd h ks x) (hG : G x) (he : t.slot j = .empty) (hw : Way t (Occ t) (t.probeStart (tupleKeyHash knd ks)) j) (e1 : t1 = (t.put j).1) (ep : p = (t.put j).2) :
 t1.mask = t.mask ∧ Bdy knd G h (ks :: keys) (insertAt es p (tupleKeyHash knd ks,Value.ref x)) t1:=by
 have hput : t1 = { t with place:=insertAt t.place (below t.place j) j }:=by
  rw [e1]
  unfold put
  have hz : has t.dummies j = false:=by rw [B.dm]; unfold has; rfl
  simp only [hz,Bool.false_eq_true,if_false]
 have ep : p = below t.place j:=by rw [ep]; rfl
 have hn : ∀ i : Nat,t.place[i]? ≠ some j:=fun i z=>by rw [slot_live B.ris z] at he; cases he
 have hple : p ≤ t.place.size:=by rw [ep]; exact (below_ok B.ris j).1
 have hple' : p ≤ es.size:=by rw [← B.ps]; exact hple
 have hmk : t1.mask = t.mask:=by rw [hput]
 have pl : ∀ i : Nat,t1.place[i]? = if i < p then t.place[i]? else if i = p then some j else t.place[i - 1]?:=fun i=>by
  rw [hput]
  show (insertAt t.place (below t.place j) j)[i]? = _
  rw [← ep,insert_at hple]
 have up : ∀ s,Occ t s → Occ t1 s:=fun s ⟨q,hq⟩=>by
  rcases US q p with z | z
  ·exact ⟨q,by rw [pl,if_pos z]; exact hq⟩
  ·exact ⟨q + 1,by rw [pl,if_neg (by lia),if_neg (by lia)]; exact hq⟩
 have mv : ∀ {g : Int} {r : Nat},Way t (Occ t) (t.probeStart g) r → Way t1 (Occ t1) (t1.probeStart g) r:=fun {g r} z=>by
  have:=(z.mono up).mask (u:=t1) hmk.symm
  rw [start_mask hmk.symm g] at this
  exact this
 refine ⟨hmk,?_,?_,?_,?_,fun i e he=>?_,fun k hk=>?_⟩
 ·rw [hput]; exact B.dm
 ·rw [hput]
  show (insertAt _ _ _).size = _
  rw [insert_size,insert_size,B.ps]
 ·rw [insert_size,B.len]; rfl
 ·rw [hput]
  exact B.ris.put hn
 ·rw [insert_at hple'] at he
  rcases UU i p with z | z | z
  ·rw [if_pos z] at he
   obtain ⟨b,k,r,q1,q2,q3,q4,q5,q6⟩:=B.ent i e he
   exact ⟨b,k,r,q1,q2,SO _ q3,q4,by rw [pl,if_pos z]; exact q5,mv q6⟩
  ·rw [if_neg (by lia),if_pos z] at he
   cases he
   exact ⟨x,ks,j,rfl,hx,SN,hG,by rw [pl,if_neg (by lia),if_pos z],mv hw⟩
  ·rw [if_neg (by lia),if_neg (by lia)] at he
   obtain ⟨b,k,r,q1,q2,q3,q4,q5,q6⟩:=B.ent (i - 1) e he
   exact ⟨b,k,r,q1,q2,SO _ q3,q4,by rw [pl,if_neg (by lia),if_neg (by lia)]; exact q5,mv q6⟩
 ·rcases SQ.mp hk with z | z
  ·subst z
   exact ⟨p,x,by rw [insert_at hple',if_neg (Sy _),if_pos rfl],hx⟩
  ·obtain ⟨i,b,q1,q2⟩:=B.key k z
   rcases US i p with y | y
   ·exact ⟨i,b,by rw [insert_at hple',if_pos y]; exact q1,q2⟩
   ·exact ⟨i + 1,b,by rw [insert_at hple',if_neg (by lia),if_neg (by lia)]; exact q1,q2⟩
theorem add_tail2 {S : Addr} {o : Obj} {es : Array (Int × Value)} {ep : Nat} {t : SetTable} (ho : s.heap.get? S = some o) (hcl : o.ExactSet) (hd : o.data = .set es ep t) {es1 : Array (Int × Value)} {t1 : SetTable} {keys : List (List K)}
 (hmk : t1.mask = 7 ∧ es1.size ≤ 5 ∨ t1.mask = 31) (B : Bdy knd G s.heap keys es1 t1) (h17 : es1.size ≤ 17) {m : Nat} (hm : m = es1.size) {Q : Bool → Shared → Prop}
 (h : ∀ h',Heap.SameBut S s.heap h' → SetM knd G h' S keys → Q true { s with heap:=h' }) :
 wpAny (model prog w) A (do storeSet S es1 t1; if (!false && t1.tooFull) = true then do { setRelay S (grown m); pure true } else pure true) Q E s:=by
 refine wpAny_bind (wpAny_storeSet_of ho hd ?_ (SJ h17 (by decide)))
 have hg1 : (s.heap.update S (Obj.putSet es1 t1)).get? S = some { o with data:=.set es1 (ep + 1) t1 }:=by
  have:=Heap.get?_update_self (Obj.putSet es1 t1) ho (by rw [putSet_of _ _ hd]; rfl)
  rw [putSet_of _ _ hd] at this; exact this
 have sb1 : Heap.SameBut S s.heap (s.heap.update S (Obj.putSet es1 t1)):=Heap.SameBut.update ..
 generalize s.heap.update S (Obj.putSet es1 t1) = h1 at hg1 sb1 ⊢
 have other : ∀ {g g' : Heap} {o' : Obj} {es' ep' t'},g.get? S = some o' → o'.data = .set es' ep' t' → Heap.SameBut S g g' → ∀ b oo ks,IsN knd g ks b → g.get? b = some oo → g'.get? b = some oo:=fun {g g' o' es' ep' t'} e1 e2 sb b oo ks hN e=>by
  have hne : b ≠ S:=by
   rintro rfl
   obtain ⟨o2,items,n,q1,q2,q3,_⟩:=hN
   rw [e1] at q1
   cases q1
   rw [e2] at q3
   cases q3
  exact (sb.2 b hne).trans e
 have B1 : Bdy knd G h1 keys es1 t1:=B.keep (other ho hd sb1)
 have hfl : SetTable.fill t1 = es1.size:=by unfold SetTable.fill; rw [B.dm,B.ps]; rfl
 by_cases hfull : t1.tooFull = true
 ·have hf5 : es1.size * 5 ≥ t1.mask * 3:=by
   unfold tooFull at hfull
   rw [hfl] at hfull
   exact of_decide_eq_true hfull
  have hm7 : t1.mask = 7 ∧ es1.size = 5:=by
   rcases hmk with z | z
   ·rw [z.1] at hf5; exact ⟨z.1,by lia⟩
   ·rw [z] at hf5; lia
  simp only [hfull,Bool.not_false,Bool.and_self,if_true]
  refine wpAny_bind ?_
  unfold setRelay
  have hfit1 : t1.fits es1.size = true:=by
   unfold fits
   rw [hfl,B.ps,hm7.1,hm7.2]; rfl
  refine wpAny_bind (wpAny_setState_of (s:={ s with heap:=h1 }) (o:={ o with data:=.set es1 (ep + 1) t1 }) hg1 rfl hfit1 ?_)
  dsimp only
  have hgr : grown m = 20:=by rw [hm,hm7.2]; rfl
  have hsa : sizeAbove 20 = 32:=by decide
  rw [hgr,hsa,if_neg (by decide)]
  have hrl : t1.relaid (es1.map (·.1)) 20 = laid 31 t1.finger (t1.movedTo 31) t1.led t1.plain (es1.map (·.1)):=by
   unfold relaid
   rw [hsa]
  obtain ⟨t2,order,el,et1,et2,et3,eo,er,ew⟩:=laid_way (es1.map (·.1)) (by rw [Array.size_map]; lia) t1.finger (t1.movedTo 31) t1.led t1.plain
  rw [Array.size_map] at et3 eo
  obtain ⟨hperm,B2⟩:=B1.again eo rfl et2 et3 er ew
  have hsz2 : (order.filterMap (es1[·]?)).size = es1.size:=by
   have:=hperm.length_eq
   rw [SX,SX] at this
   exact this
  rw [hrl,el]
  refine wpAny_bind ?_
  show wpAny _ _ (if ((order.filterMap (es1[·]?)).size != es1.size) = true then _ else pure (order.filterMap (es1[·]?),t2)) _ _ _
  rw [if_neg (by rw [hsz2]; simp)]
  refine wpAny_pure ?_
  generalize order.filterMap (es1[·]?) = es2 at hperm hsz2 B2 ⊢
  refine wpAny_storeSet_of (s:={ s with heap:=h1 }) (o:={ o with data:=.set es1 (ep + 1) t1 }) hg1 rfl ?_ (by rw [hsz2]; exact SJ h17 (by decide))
  have hg2 : (h1.update S (Obj.putSet es2 t2)).get? S = some { o with data:=.set es2 (ep + 1 + 1) t2 }:=by
   have:=Heap.get?_update_self (Obj.putSet es2 t2) hg1 (by rw [putSet_of (es:=es1) (ep:=ep + 1) (t:=t1) _ _ rfl]; rfl)
   rw [putSet_of (es:=es1) (ep:=ep + 1) (t:=t1) _ _ rfl] at this; exact this
  have sb2 : Heap.SameBut S h1 (h1.update S (Obj.putSet es2 t2)):=Heap.SameBut.update ..
  exact wpAny_pure (h (h1.update S (Obj.putSet es2 t2)) ⟨sb2.1.trans sb1.1,fun b hb=>(sb2.2 b hb).trans (sb1.2 b hb)⟩ ⟨_,_,_,_,hg2,hcl,rfl,.inr et1,B2.keep (other (es':=es1) (ep':=ep + 1) (t':=t1) hg1 rfl sb2)⟩)
 ·have hfull' : t1.tooFull = false:=by simpa using hfull
  simp only [hfull',Bool.and_false,Bool.false_eq_true,if_false]
  refine wpAny_pure (h h1 sb1 ⟨_,_,_,_,hg1,hcl,rfl,?_,B1⟩)
  rcases hmk with z | z
  ·refine .inl ⟨z.1,?_⟩
   unfold tooFull at hfull'
   rw [hfl,z.1] at hfull'
   have hf':=of_decide_eq_false hfull'
   lia
  ·exact .inr z
def kAdd (ks : List K) (keys : List (List K)) : List (List K):=if ks ∈ keys then keys else ks :: keys
theorem add_m {S x : Addr} {ks : List K} {keys : List (List K)} {Q : Bool → Shared → Prop} (hS : SetM knd G s.heap S keys) (hx : IsN knd s.heap ks x) (hGx : G x) (hl : keys.length ≤ 16) (hu : A.units < cLine)
 (h : ∀ b h',Heap.SameBut S s.heap h' → SetM knd G h' S (kAdd ks keys) → Q b { s with heap:=h' }) : wpAny (model prog w) A (setAddHashed S (.ref x) (tupleKeyHash knd ks)) Q E s:=by
 obtain ⟨o,es,ep,t,ho,hcl,hd,hmk,B⟩:=id hS
 have hn:=B.len
 have hm : t.mask = 7 ∨ t.mask = 31:=hmk.elim (fun z=>.inl z.1) .inr
 have hsz : es.size ≤ t.mask:=by rcases hmk with z | z <;> lia
 have hfl : SetTable.fill t = es.size:=by unfold SetTable.fill; rw [B.dm,B.ps]; rfl
 have hfit : t.fits es.size = true:=by
  unfold fits
  rw [hfl,B.ps]
  simp
  exact hsz
 unfold setAddHashed setAddHashedIn
 refine wpAny_holding (wpAny_bind (wpAny_setState_of ho hd hfit ?_))
 dsimp only
 have hbs : byScan (.ref x) es = false:=rfl
 rw [hbs]
 simp only [Bool.false_eq_true,if_false]
 obtain ⟨k,hk1,hk2⟩:=start_hit hm B.dm (by rw [B.ps]; exact hsz) (tupleKeyHash knd ks)
 have hkF : k < 100000:=by
  unfold turns at hk1
  rcases hm with z | z <;> rw [z] at hk1 <;> lia
 by_cases hin : ks ∈ keys
 ·obtain ⟨i0,b0,he0,hb0⟩:=B.key ks hin
  obtain ⟨b,k',j0,q1,q2,q3,q4,q5,q6⟩:=B.ent i0 _ he0
  obtain ⟨m,m1,m2⟩:=q6
  have hmk' : m < k:=by
   refine Nat.lt_of_not_le fun hle=>?_
   unfold Hit at hk2
   rcases US k m with z | z
   ·obtain ⟨q,hq⟩:=m2 k z
    rw [slot_live B.ris hq] at hk2
    cases hk2
   ·have e : k = m:=by lia
    rw [e,m1,slot_live B.ris q5] at hk2
    cases hk2
  refine wpAny_bind (m:=setSearch S (.ref x) (tupleKeyHash knd ks) true) (search_old ho hd hfit hm B.ris hx (fun e he=>let ⟨b,k',q1,q2,_⟩:=B.nums e he; ⟨b,k',q1,q2⟩) hu q5 he0 hb0 ?_ m 100000 none (by lia) (by lia) rfl m1 m2)
  dsimp only
  refine wpAny_pure (h false s.heap (Heap.SameBut.refl ..) ?_)
  unfold kAdd
  rw [if_pos hin]
  exact hS
 ·have hes : ∀ e ∈ es.toList,∃ b k',e.2 = Value.ref b ∧ IsN knd s.heap k' b ∧ k' ≠ ks:=fun e he=>by
   obtain ⟨b,k,q1,q2,q3⟩:=B.nums e he
   exact ⟨b,k,q1,q2,fun z=>hin (z ▸ q3)⟩
  refine wpAny_bind (m:=setSearch S (.ref x) (tupleKeyHash knd ks) true) (search_new ho hd hfit hm B.dm hx hes hu (fun j hj hw=>?_) k 100000 0 none hkF hk1 rfl (fun l hl=>absurd hl (UT _)) rfl hk2)
  dsimp only
  refine wpAny_bind (wpAny_setState_of ho hd hfit ?_)
  dsimp only
  obtain ⟨hmk1,B1⟩:=B.more hx hGx hj hw rfl rfl
  generalize (t.put j).1 = t1 at hmk1 B1 ⊢
  generalize (t.put j).2 = p at B1 ⊢
  have hsz1 : (insertAt es p (tupleKeyHash knd ks,Value.ref x)).size = es.size + 1:=insert_size _ _ _
  have tail:=add_tail2 (knd:=knd) (G:=G) (A:=A) (E:=E) (Q:=Q) ho hcl hd (es1:=insertAt es p (tupleKeyHash knd ks,Value.ref x)) (t1:=t1) (keys:=ks :: keys) (by rw [hmk1,hsz1]; rcases hmk with z | z; exact .inl ⟨z.1,by lia⟩; exact .inr z) B1 (by rw [hsz1]; lia) (m:=es.size + 1) (by rw [hsz1]) (fun h' sb hM=>h true h' sb (by unfold kAdd; rw [if_neg hin]; exact hM))
  split
  ·refine wpAny_bind (hashByValue_n hx ?_)
   simp only [if_true]
   exact tail
  ·refine wpAny_bind (wpAny_pure ?_)
   simp only [if_true]
   exact tail
end
end St
end L2
namespace L2
open PySem PySem.Spec PyProof.Rows
namespace St
section
variable {prog : Program} {w : World} {K : Type} [DecidableEq K] {knd : KeyKind prog w K} {G : Addr → Prop} {A : Around} {R : Result → Shared → Prop} {I : Addr} {fp wr : List Addr} {GG : Array GenState → Array GenState → Prop} {n : Nat} {P : Nat → Value → Prop} {St : Nat → Shared → Prop}
theorem SetM.stay {h h' : Heap} {S : Addr} {keys : List (List K)} (x : SetM knd G h S keys) (k : ∀ b o,b = S ∨ G b → h.get? b = some o → h'.get? b = some o) : SetM knd G h' S keys:=by
 obtain ⟨o,es,ep,t,h1,h2,h3,h4,B⟩:=x
 refine ⟨o,es,ep,t,k _ _ (.inl rfl) h1,h2,h3,h4,B.dm,B.ps,B.len,B.ris,fun i e he=>?_,fun ks hk=>?_⟩
 ·obtain ⟨b,ks,j,q1,q2,q3,q4,q5⟩:=B.ent i e he
  exact ⟨b,ks,j,q1,q2.keep fun o eo=>k b o (.inr q4) eo,q3,q4,q5⟩
 ·obtain ⟨i,b,q1,q2⟩:=B.key ks hk
  obtain ⟨b',_,_,e,_,_,q4,_⟩:=B.ent i _ q1
  have eb : b = b':=Value.ref.inj (congrArg Prod.snd e)
  exact ⟨i,b,q1,q2.keep fun o eo=>k b o (.inr (eb ▸ q4)) eo⟩
def kD (key : Nat → List K) : Nat → List (List K)
 | 0=>[]
 | i + 1=>kAdd (key i) (kD key i)
theorem kD_length (key : Nat → List K) : ∀ i,(kD key i).length ≤ i
 | 0=>T2 _
 | i + 1=>by
   have:=kD_length key i
   show (kAdd _ _).length ≤ _
   unfold kAdd
   split
   ·lia
   ·rw [U9]; lia
theorem kD_mem {key : Nat → List K} {k : List K} : ∀ {i},k ∈ kD key i ↔ ∃ j,j < i ∧ key j = k
 | 0=>⟨(fun h=>nomatch h),(fun ⟨_,h,_⟩=>absurd h (UT _))⟩
 | i + 1=>by
   show k ∈ kAdd (key i) (kD key i) ↔ _
   unfold kAdd
   split
   ·next h =>
    rw [kD_mem (i:=i)]
    refine ⟨fun ⟨j,h1,h2⟩=>⟨j,by lia,h2⟩,fun ⟨j,h1,h2⟩=>?_⟩
    rcases US j i with z | z
    ·exact ⟨j,z,h2⟩
    ·obtain rfl : j = i:=by lia
     rw [← h2]
     exact kD_mem.mp h
   ·rw [SQ,kD_mem (i:=i)]
    refine ⟨fun h=>?_,fun ⟨j,h1,h2⟩=>?_⟩
    ·rcases h with z | ⟨j,h1,h2⟩
     ·exact ⟨i,Uj _,z.symm⟩
     ·exact ⟨j,by lia,h2⟩
    ·rcases US j i with z | z
     ·exact .inr ⟨j,z,h2⟩
     ·obtain rfl : j = i:=by lia
      exact .inl h2.symm
theorem kD_all {key : Nat → List K} : ∀ {n},(kD key n).length = n ↔ ∀ i j,i < n → j < n → key i = key j → i = j
 | 0=>⟨fun _ i _ h=>absurd h (UT _),fun _=>rfl⟩
 | n + 1=>by
   have hl:=kD_length key n
   have ih:=kD_all (key:=key) (n:=n)
   show (kAdd (key n) (kD key n)).length = n + 1 ↔ _
   unfold kAdd
   split
   ·next h =>
    refine ⟨fun z=>by lia,fun z=>?_⟩
    obtain ⟨j,h1,h2⟩:=kD_mem.mp h
    have:=z j n (by lia) (Uj _) h2
    lia
   ·next h =>
    rw [U9]
    refine ⟨fun z i j hi hj e=>?_,fun z=>?_⟩
    ·have z':=ih.mp (by lia)
     rcases US i n with a | a
     ·rcases US j n with b | b
      ·exact z' i j a b e
      ·obtain rfl : j = n:=by lia
       exact absurd (kD_mem.mpr ⟨i,a,e⟩) h
     ·obtain rfl : i = n:=by lia
      rcases US j i with b | b
      ·exact absurd (kD_mem.mpr ⟨j,b,e.symm⟩) h
      ·lia
    ·have:=ih.mpr fun i j hi hj e=>z i j (by lia) (by lia) e
     lia
theorem loop_m (W : WalksS prog w A.in1 I fp wr GG n P St) (S : Addr) (hSf : S ∉ fp) (key : Nat → List K) (adr : Nat → Addr) (hval : ∀ i v,P i v → v = Value.ref (adr i)) (hG : ∀ i,i < n → G (adr i)) (hGw : ∀ b,G b → b ∉ wr ∧ b ≠ S)
 (hn : n ≤ 17) (hu : A.units + 1 < cLine) (left i : Nat) (s : Shared) (hk : i + left = n) (hst : St i s) (hN : ∀ j,j < n → IsN knd s.heap (key j) (adr j)) (hS : SetM knd G s.heap S (kD key i))
 (hR : ∀ s',Moved (S :: wr) GG s s' → SetM knd G s'.heap S (kD key n) → R (.ok (.ret .none)) s') : codeAny (model prog w) A (.builtin "set.update.loop" ⟨[.ref S,.ref I],[]⟩) R s:=by
 have grow : ∀ {a b : Shared},Moved wr GG a b → Moved (S :: wr) GG a b:=fun m=>m.mono fun _=>SO _
 have stay : ∀ {a b : Shared},Moved wr GG a b → ∀ c o,c = S ∨ G c → a.heap.get? c = some o → b.heap.get? c = some o:=fun m c o hc=>m.heap c o (hc.elim (fun z=>z ▸ mt (W.sub _) hSf) fun z=>(hGw c z).1)
 induction left generalizing i s with
 | zero =>
   obtain rfl : i = n:=by lia
   refine turn_of (show wpAny (model prog w) A.in1 (pyNext (Value.ref I) >>= _) _ _ s from wpAny_bind (W.done s _ _ hst fun s' m=>?_))
   exact wpAny_pure (hR s' (grow m) (hS.stay (stay m)))
 | succ left ih =>
   have hlt : i < n:=by lia
   refine turn_of (show wpAny (model prog w) A.in1 (pyNext (Value.ref I) >>= _) _ _ s from wpAny_bind (W.item i s _ _ hlt hst fun v s' hP hst' m=>?_))
   obtain rfl:=hval i v hP
   have hN' : ∀ j,j < n → IsN knd s'.heap (key j) (adr j):=fun j hj=>(hN j hj).keep fun o e=>stay m _ o (.inr (hG j hj)) e
   have hS' : SetM knd G s'.heap S (kD key i):=hS.stay (stay m)
   refine wpAny_bind (m:=holding [Value.ref (adr i)] (setAdd S (Value.ref (adr i)))) (wpAny_holding ?_)
   unfold setAdd
   refine wpAny_holding (wpAny_bind (wpAny_pyHash_tuple hu (hN' i hlt).key ?_))
   refine add_m (knd:=knd) (G:=G) (s:={ s' with toks:=s'.toks + ((key i).length + 1) }) hS' (hN' i hlt) (hG i hlt) (by have:=kD_length key i; lia) hu fun bb h' sb hS2=>?_
   have other : ∀ c o,c ≠ S → s'.heap.get? c = some o → h'.get? c = some o:=fun c o hc e=>(sb.2 c hc).trans e
   refine wpAny_pure ⟨plainId_quiet F.plain_set_update_loop _,ih (i + 1) _ (by lia) (W.frame _ s' _ _ hst' (UW _ _) fun b hb o e=>other b o (fun z=>hSf (z ▸ hb)) e) (fun j hj=>(hN' j hj).keep fun o e=>other _ o (hGw _ (hG j hj)).2 e) hS2 fun s'' m2 hS3=>?_⟩
   exact hR s'' (((grow m).then_heap (UW _ _) fun b o hb e=>other b o (fun z=>hb (z ▸ SN)) e).trans W.gtrans m2) hS3
end
section
variable {prog : Program} {w : World} {K : Type} [DecidableEq K] {knd : KeyKind prog w K} {A : Around} {E : Value → Shared → Prop} {s : Shared}
theorem init_m {l : Addr} {items : Array Value} (led : Bool) (key : Nat → List K) (adr : Nat → Addr) (hh : A.handled = none) (hl : s.heap.IsList l items) (hv : ∀ (i : Nat) (v : Value),items[i]? = some v → v = Value.ref (adr i)) (hN : ∀ j,j < items.size → IsN knd s.heap (key j) (adr j))
 (hb : items.size ≤ 17) (hu : A.units + 20 < cLine) {Q : Fin → Shared → Prop} {E' : Value → Shared → Prop}
 (h : ∀ (h' : Heap) (tk : Nat),SetM knd (fun b=>b < s.heap.objs.size) h' s.heap.objs.size (kD key items.size) → (∀ b o,s.heap.get? b = some o → h'.get? b = some o) → Q (.done (.ret .none)) { s with heap:=h',toks:=tk }) :
 wpAny (model prog w) A (Builtin.«set.__init__» ⟨[.ref s.heap.objs.size,.ref l],[]⟩) Q E' { s with heap:=s.heap.push (nS led) }:=by
 have lS : l < s.heap.objs.size:=by obtain ⟨_,e,_⟩:=hl; exact Heap.lt_size e
 obtain ⟨⟨_,od,_,osl⟩,el,hc,nl,hd⟩:=id hl
 simp only at hc hd; subst hc hd
 have el1 : (s.heap.push (nS led)).get? l = some { cls:=.type "list",dict:=od,data:=.seq items nl,slots:=osl }:=Heap.get?_push_of_some _ el
 have eS : (s.heap.push (nS led)).get? s.heap.objs.size = some (nS led):=Heap.get?_push_size _ rfl
 have hl1 : (s.heap.push (nS led)).IsList l items:=⟨_,el1,rfl,nl,rfl⟩
 have t1:=F.sub_list_set; have t2:=F.sub_list_frozenset; have t3 : (Value.type "list" == Value.type "dict") = false:=by decide
 unfold Builtin.«set.__init__» noKeywords Builtin.Frozenset.updateFrom
 generalize hPI : pyIter = PI; wp_walk; subst hPI
 have zS : (s.heap.push (nS led)).objs.size = s.heap.objs.size + 1:=Heap.size_push ..
 refine wpAny_pyIter_list hl1 (wpAny_bind (wpAny_runValue ?_))
 have up : ∀ b o,s.heap.get? b = some o → ((s.heap.push (nS led)).push (nI l)).get? b = some o:=fun b o e=>Heap.get?_push_of_some _ (Heap.get?_push_of_some _ e)
 have lI : l ≠ (s.heap.push (nS led)).objs.size:=by rw [zS]; exact Sz (Uk lS)
 have empty : Bdy knd (fun b=>b < s.heap.objs.size) ((s.heap.push (nS led)).push (nI l)) (kD key 0) #[] (.fresh 0 0 led):=⟨rfl,rfl,rfl,List.Pairwise.nil,fun i e he=>by simp at he,fun k hk=>nomatch hk⟩
 refine loop_m (knd:=knd) (G:=fun b=>b < s.heap.objs.size) ((Walks.list (A:=A.in1) hh _ l lI items).toS) s.heap.objs.size ?_ key adr (fun i v hP=>hv i v hP) (fun i hi=>?_) (fun b hb=>⟨?_,Sz hb⟩) hb (by lia) items.size 0 _ (UA _)
  ⟨⟨_,Heap.get?_push_size _ rfl,rfl,rfl⟩,hl1.push _⟩ (fun j hj=>(hN j hj).keep fun o e=>up _ _ e) ⟨_,_,_,_,Heap.get?_push_of_some _ eS,⟨rfl,rfl,rfl⟩,rfl,.inl ⟨rfl,T5 _⟩,empty⟩ ?_
 ·rw [zS]; intro hm
  rcases SQ.mp hm with z | z
  ·exact absurd z (Sz (Uj _))
  ·exact absurd (Ul.mp z) (SY lS)
 ·obtain ⟨_,_,_,e,_⟩:=hN i hi; exact Heap.lt_size e
 ·rw [zS]; intro hm
  exact absurd (Ul.mp hm) (Sz (Uk hb))
 rintro ⟨h',g',d',tk',os'⟩ m hS'
 obtain rfl : g' = s.gens:=m.gens
 obtain rfl : d' = s.drawn:=m.drawn
 obtain rfl : os' = s.os:=m.os
 refine wpAny_pure (wpAny_pure (h h' tk' hS' fun b o e=>?_))
 have lb:=Heap.lt_size e
 refine m.heap b o (fun hm=>?_) (up b o e)
 rw [zS] at hm
 rcases SQ.mp hm with z | z
 ·exact absurd z (Sz lb)
 ·exact absurd (Ul.mp z) (Sz (Uk lb))
theorem call_setM {l : Addr} {items : Array Value} {Q : Value → Shared → Prop} (key : Nat → List K) (adr : Nat → Addr) (hh : A.handled = none) (hl : s.heap.IsList l items) (hv : ∀ (i : Nat) (v : Value),items[i]? = some v → v = Value.ref (adr i)) (hN : ∀ j,j < items.size → IsN knd s.heap (key j) (adr j))
 (hb : items.size ≤ 17) (hu : A.units + 40 < cLine)
 (h : ∀ (h' : Heap) (tk : Nat),SetM knd (fun b=>b < s.heap.objs.size) h' s.heap.objs.size (kD key items.size) → (∀ b o,s.heap.get? b = some o → h'.get? b = some o) → Q (.ref s.heap.objs.size) { s with heap:=h',toks:=tk }) :
 wpAny (model prog w) A (call (.type "set") [.ref l]) Q E s:=by
 obtain ⟨_,_,hmro⟩:=F.called_set.mro
 have m1:=F.called_set.made; have m2:=F.called_set.sub; have m3:=F.called_set.notType; have m4:=F.called_set.canCreate; have m5:=F.typeCall_set_1 (.ref l)
 refine wpAny_call (codeAny_of_tree (show wpAny _ _ (callAny (.type "set") _) _ _ _ from wpAny_pure ⟨Code.quiet_builtin _ (by decide +kernel),codeAny_builtin F.entry_type_call ?_⟩))
 rw [Around.under_plain (weight_type_call_type "set" [.ref l] []) rfl]
 repeat any_goals first | assumption | wp_step
 refine codeAny_mono (code_set_new_1 (.ref l) (E:=E) (Q₁:=fun v s₁=>v = .ref s.heap.objs.size ∧ ∃ led,s₁ = { s with heap:=s.heap.push (nS led) }) fun led=>⟨rfl,led,rfl⟩) fun r s₁ hr=>?_
 rcases r with e | fl
 ·exact hr
 cases fl with
 | ret v =>
   obtain ⟨e1,led,e2⟩:=hr
   subst e1 e2
   have hT : Shared.TypeIs { s with heap:=s.heap.push (nS led) } (.ref s.heap.objs.size) "set":=⟨_,Heap.get?_push_size _ rfl,rfl⟩
   have m6:=F.called_set.init.lookup; have m7:=F.called_set.init.bind (.ref s.heap.objs.size)
   repeat any_goals first | assumption | wp_step
   refine codeAny_mono (codeAny_call_builtin (R:=wants (fun r s₂=>r = .none ∧ Q (.ref s.heap.objs.size) s₂) E) F.called_set.init.plain F.entry_set_init (check_set_init_1 hT ?_)) fun r₂ s₂ hr₂=>?_
   ·refine init_m (knd:=knd) led key adr ?_ hl hv hN hb ?_ fun h' tk hS hk=>?_
    ·simp [hh]
    ·simp only [Around.in1]; lia
    ·exact ⟨rfl,h h' tk hS hk⟩
   ·rcases r₂ with e | fl₂
    ·exact hr₂
    cases fl₂ with
    | ret _ =>
      obtain ⟨e3,q⟩:=hr₂
      subst e3
      repeat any_goals first | assumption | wp_step
    | _=>exact hr₂.elim
 | _=>exact hr.elim
end
end St
section
variable {X : Cx}
inductive MA (K : SI) (xs : List V) (H : Hp) (Q : VK) : Prop
 | mk (l : Addr) (ys : List V) (qs : List Rat) (h1 : xs = [.ref l]) (h2 : SqL K H l ys) (h3 : AM H ys qs) (h4 : qs.length ≤ 17) (h5 : ∀ p n,n ≤ qs.length → (n = qs.length ↔ qs.Nodup) → H p = none → Q (.ref p) (upd H p (Kw p n))) : MA K xs H Q
theorem M3 (hc : X.calm = true) (hu : X.A.units + 64 < cLine) : C5 X (.type "set") (MA X.K):=by
 intro pins s σ H xs us Q I r h
 obtain ⟨l,ys,qs,rfl,hq,hn,h17,q⟩:=h
 obtain ⟨u,rfl,rfl⟩:=DL r
 obtain ⟨its,rv,p,hz⟩:=I.list hq
 have hl:=rv.length
 have hyl:=hn.length
 have hsz : its.toArray.size = qs.length:=by rw [TK]; lia
 let adr : Nat → Addr:=fun j=>match ys[j]? with | some (.ref r)=>r | _=>0
 have had : ∀ j,j < qs.length → ∃ r,ys[j]? = some (.ref r) ∧ adr j = r ∧ H r = some (nT (qs.getD j 0)):=fun j hj=>by
  have g : qs[j]? = some (qs.getD j 0):=by rw [Ug,Uo hj]; rfl
  obtain ⟨y,hy,r,rfl,hr⟩:=Paired.get' hn g
  exact ⟨r,hy,by show (match ys[j]? with | some (.ref r)=>r | _=>0) = r; rw [hy],hr⟩
 refine St.call_setM (knd:=Dg X.prog X.w) (fun j=>kQ (qs.getD j 0)) adr (I.ok.hd hc) p.isList (fun i v hv=>?_) (fun j hj=>?_) (by lia) (by lia) fun h' tk hS hk=>?_
 ·have hv' : its[i]? = some v:=by simpa using hv
  have hi : i < its.length:=(SU.mp hv').1
  obtain ⟨r,hy,hr,_⟩:=had i (by lia)
  obtain ⟨u,hu1,ru⟩:=rv.get hy
  rw [hv'] at hu1
  cases hu1
  rw [hr]; exact ru
 ·rw [hsz] at hj
  obtain ⟨r,_,hr,hH⟩:=had j hj
  rw [hr]
  exact Pk I.hok hH
 ·have hnd : (St.kD (fun j=>kQ (qs.getD j 0)) its.toArray.size).length = qs.length ↔ qs.Nodup:=by
   rw [hsz,St.kD_all]
   refine ⟨fun z=>?_,fun z i j hi hj e=>?_⟩
   ·refine List.pairwise_iff_getElem.mpr fun i j hi hj hlt e=>?_
    have:=z i j hi hj (by rw [Ug,Ug,Uo hi,Uo hj,e])
    lia
   ·have e':=Ph e
    have g1 : qs[i]? = some (qs.getD i 0):=by rw [Ug,Uo hi]; rfl
    have g2 : qs[j]? = some (qs.getD j 0):=by rw [Ug,Uo hj]; rfl
    exact (List.getElem?_inj hi z).mp (by rw [g1,g2,e'])
  have hle:=St.kD_length (fun j=>kQ (qs.getD j 0)) its.toArray.size
  generalize hkk : St.kD (fun j=>kQ (qs.getD j 0)) its.toArray.size = kk at hS hnd hle
  obtain ⟨o,es,ep,t,h1,h2,h3,h4,B⟩:=hS
  have h7:=B.len
  have hfit : SetTable.fits t es.size = true:=by
   unfold SetTable.fits SetTable.fill
   rw [B.dm,B.ps]
   rcases h4 with z | z <;> simp <;> lia
  have new : BG X.prog X.w (upd H s.heap.objs.size (Kw s.heap.objs.size kk.length)) h' s.heap.objs.size (Kw s.heap.objs.size kk.length):=by
   refine ⟨⟨o,es,ep,t,h1,h2,h3,hfit,h7⟩,⟨o,h1⟩,fun g1 g2 hg hk=>?_⟩
   obtain ⟨o,es,ep,t,k1,k2,k3,k4,k5⟩:=hg
   exact ⟨o,es,ep,t,hk o k1,k2,k3,k4,k5⟩
  exact ⟨.ref s.heap.objs.size,_,I.laid (t':=tk) hk (T2 _) new,rfl,q _ _ (by lia) hnd (I.hok.fresh (T2 _))⟩
theorem Q7 (K : SI) (hc : X.calm = true) (hu : X.A.units + 64 < cLine) (e : X.K = K:=by rfl) : C5 X (.type "set") (MA K):=by subst e; exact M3 hc hu
end
end L2
namespace L2
open PySem PySem.Spec PyProof.Rows
section
open PySem.W
variable {X : Cx} (K : SI)
inductive TyP (K : SI) (H : Hp) : V → Value → Prop where
 | non : TyP K H .non (.type "NoneType")
 | bl (x : Bool) : TyP K H (.bl x) (.type "bool")
 | int (i : Int) : TyP K H (.int i) (.type "int")
 | str (x : Str) : TyP K H (.str x) (.type "str")
 | lst {a : Addr} {xs : List V} (e : SqL K H a xs) : TyP K H (.ref a) (.type "list")
 | tup {a : Addr} {xs : List V} (e : SqT K H a xs) : TyP K H (.ref a) (.type "tuple")
 | dK {a : Addr} {kvs : List (Key × V)} (e : H a = some (.dK kvs)) : TyP K H (.ref a) (.type "dict")
 | dT {a : Addr} {kvs : List (List Key × V)} (e : H a = some (.dT kvs)) : TyP K H (.ref a) (.type "dict")
inductive N4 (xs : List V) (H : Hp) (Q : VK) : Prop
 | mk (x : _) (t : _) (tp : _) (ys : _) (cs : _) (b : _) (h1 : xs = [x,.ref tp]) (h2 : TyP K H x t) (h3 : H tp = some (.tup ys)) (h4 : ys.map NL = cs.map some) (h5 : kitAny K t cs = some b) (h6 : Q (.bl b) H) : N4 xs H Q
theorem Oa (e : X.K = K:=by rfl) : C5 X (.builtin "isinstance") (N4 K):=by
 subst e
 intro pins s σ H xs us Q I r h
 obtain ⟨x,t,tp,ys,cs,b,rfl,ty,htp,hys,hk,q⟩:=h
 obtain ⟨u,w',rfl,rx,ry⟩:=J8 r
 cases ry
 obtain ⟨_,its,rv,⟨cc,dd,dt,sl⟩,e1,e2,n,e3⟩:=I.hok tp _ htp
 have e2 : cc = .type "tuple":=e2
 have e3 : dt = .seq its.toArray n:=e3
 subst e2 e3
 rw [HV rv hys] at e1
 have fin : ∀ tk,EP X pins σ Q (.bool b) { s with toks:=tk }:=fun tk=>⟨.bl b,H,I.tok _,rfl,q⟩
 cases ty with
 | non=>cases (show u = Value.none from rx); exact kia_tup kitx_none I.kIn True.intro e1 hk (fun z=>nomatch z) fin
 | bl y=>cases (show u = Value.bool y from rx); exact kia_tup kitx_bool I.kIn True.intro e1 hk (fun z=>nomatch z) fin
 | int i=>obtain ⟨t,q⟩:=(show ∃ t,u = Value.int i t from rx); cases q; exact kia_tup kitx_int I.kIn True.intro e1 hk (fun z=>nomatch z) fin
 | str y=>obtain ⟨t,q⟩:=(show ∃ t,u = Value.str y t from rx); cases q; exact kia_tup kitx_str I.kIn True.intro e1 hk (fun z=>nomatch z) fin
 | @lst a xs hz =>
   cases (show u = Value.ref a from rx)
   obtain ⟨_,_,⟨o,_,o1,o2,_⟩,_⟩:=I.list hz
   exact kia_tup kitx_list I.kIn ⟨o,o1,o2⟩ e1 hk (fun z=>nomatch z) fin
 | @tup a xs hz =>
   cases (show u = Value.ref a from rx)
   obtain ⟨_,_,⟨o,o1,o2,_⟩,_⟩:=I.tuple hz
   exact kia_tup kitx_tuple I.kIn ⟨o,o1,o2⟩ e1 hk (fun z=>nomatch z) fin
 | @dK a kvs ea =>
   cases (show u = Value.ref a from rx)
   obtain ⟨_,_,vs,_,p⟩:=(show BG X.prog X.w H s.heap a (.dK kvs) from I.hok a _ ea)
   obtain ⟨o,es,ep,h1,h2,_⟩:=p
   exact kia_tup kitx_dict I.kIn ⟨o,h1,h2.1⟩ e1 hk (fun z=>nomatch z) fin
 | @dT a kvs ea =>
   cases (show u = Value.ref a from rx)
   obtain ⟨_,_,vs,_,p⟩:=(show BG X.prog X.w H s.heap a (.dT kvs) from I.hok a _ ea)
   obtain ⟨o,es,ep,h1,h2,_⟩:=p
   exact kia_tup kitx_dict I.kIn ⟨o,h1,h2.1⟩ e1 hk (fun z=>nomatch z) fin
end
theorem CA {c k pos es env} : starEach (.Constant c k pos :: es) env = (false,eval (.Constant c k pos) env) :: starEach es env:=by rfl
theorem Q8 {xs k pos es env} : starEach (.Tuple xs k pos :: es) env = (false,eval (.Tuple xs k pos) env) :: starEach es env:=by rfl
theorem QH {xs pos es env} : starEach (.List xs pos :: es) env = (false,eval (.List xs pos) env) :: starEach es env:=by rfl
theorem Ms {x op y pos es env} : starEach (.BinOp x op y pos :: es) env = (false,eval (.BinOp x op y pos) env) :: starEach es env:=by rfl
theorem QI {x y pos es env} : starEach (.Dict x y pos :: es) env = (false,eval (.Dict x y pos) env) :: starEach es env:=by rfl
end L2
namespace L2
open PySem PySem.Spec PyProof.Rows
section
variable {X : Cx} {e : Expr} {es : List Expr} {te : TE} {t : TA} {pos : Pos}
@[irreducible] def PEk (X : Cx) (e : Expr) (te : TE) : Prop:=PE X e te
@[irreducible] def PAk (X : Cx) (es : List Expr) (t : TA) : Prop:=PA X es t
theorem pek (h : PE X e te) : PEk X e te:=by unfold PEk; exact h
theorem PEk.to (h : PEk X e te) : PE X e te:=by unfold PEk at h; exact h
theorem PAk.to (h : PAk X es t) : PA X es t:=by unfold PAk at h; exact h
theorem Eg : PAk X [] Nk:=by unfold PAk; exact A8
theorem AB (ha : PEk X e te) (hr : PAk X es t) (hs : starEach (e :: es) X.env = (false,eval e X.env) :: starEach es X.env) : PAk X (e :: es) (KC te t):=by unfold PAk; exact A7 ha.to hr.to hs
theorem Iz {i j pos} : PEk X (.Constant (.int i) j pos) (tC (.int i)):=pek Ab
theorem OI {b j pos} : PEk X (.Constant (.bool b) j pos) (tC (.bl b)):=pek E1
theorem Np {j pos} : PEk X (.Constant .none j pos) (tC .non):=pek D0
theorem Bg {x j pos} : PEk X (.Constant (.str x) j pos) (tC (.str x)):=pek Ah
theorem KY {x1} (h : PAk X es t) : PEk X (.Tuple es x1 pos) (PR t):=pek (AV h.to)
theorem G0 (h : PAk X es t) : PEk X (.List es pos) (Q0 t):=pek (AY h.to)
theorem OG {a b : Expr} {ta tb : TE} {op : Operator} {r : R2} (ho : OpR X (binaryOp op) r) (ha : PEk X a ta) (hb : PEk X b tb) : PEk X (.BinOp a op b pos) (tOp r ta tb):=pek (Al ho ha.to hb.to)
theorem OH {a b : Expr} {ta tb : TE} {r : R2} (hr : IxR X r) (ha : PEk X a ta) (hb : PEk X b tb) (hs : Ls b) : PEk X (.Subscript a b pos) (tOp r ta tb):=pek (Aw hr ha.to hb.to hs)
theorem Iw {i : Nat} {x : Str} {pos' : Pos} (hN : X.N.Nodup) (hi : X.N[i]? = some x) (hx : Loc X.env.scope x) (he : PEk X e te) (hs : swapsWith e (some (.Name x pos')) pos.line X.env = pure false:=by rfl) (hf : X.fn x = true ∨ X.env.scope.names.lookup x = some .local:=by first | exact .inl rfl | exact .inr rfl | assumption) :
 PS X (.Assign [.Name x pos'] e pos) (Lz te (Ck i)):=Aq hN hi hx he.to hs hf
end
end L2
namespace L2
open PySem PySem.Spec PyProof.Rows
section
variable {X : Cx} {e k : Expr} {te tk : TE}
end
end L2
namespace L2
open PySem PySem.Spec PyProof.Rows
def sg (x : Str) : List Nat:=x.cps.toList
theorem BU {x y : Str} (h : sg x = sg y) : x = y:=by
 obtain ⟨a⟩:=x
 obtain ⟨b⟩:=y
 exact congrArg Str.mk (Array.toList_inj.mp h)
theorem AE (x y : Str) : sg (x ++ y) = sg x ++ sg y:=cps_toList_append x y
theorem Ai (x : Str) : x.length = (sg x).length:=by
 show x.cps.size = x.cps.toList.length
 simp
theorem BC (s : String) : sg (Str.ofString s) = s.toList.map Char.toNat:=signs_ofString s
def dg (n : Nat) : List Nat:=(Nat.toDigits 10 n).map Char.toNat
theorem Dv {n c : Nat} (h : c ∈ dg n) : 48 ≤ c ∧ c ≤ 57:=by
 obtain ⟨ch,hc,e⟩:=UY.mp h
 rw [← e]
 exact digit_range (Nat.isDigit_of_mem_toDigits (by decide) (by decide) hc)
theorem HU (n : Nat) : dg n ≠ []:=fun h=>Nat.toDigits_ne_nil (UZ.mp h)
theorem GY {n k : Nat} (hk : 0 < k) (h : n < 10 ^ k) : (dg n).length ≤ k:=by
 unfold dg
 rw [TC]
 exact (Nat.length_toDigits_le_iff (by decide) hk).mpr h
def vl (l : List Nat) (a : Nat) : Nat:=l.foldl (fun a c=>a * 10 + (c - 48)) a
theorem NY : ∀ (l : List Char) (a : Nat),vl (l.map Char.toNat) a = Nat.ofDigitChars 10 l a
 | [],a=>rfl
 | c :: r,a=>by
   have e : vl ((c :: r).map Char.toNat) a = vl (r.map Char.toNat) (a * 10 + (c.toNat - 48)):=rfl
   rw [e,NY r,Nat.ofDigitChars_cons,Nat.mul_comm]
   rfl
theorem HF (n : Nat) : vl (dg n) 0 = n:=by
 unfold dg
 rw [NY,Nat.ofDigitChars_ten_toDigits]
theorem Lk {n : Nat} (h : 10 ≤ n) : dg n = dg (n / 10) ++ [(V0 (n % 10)).toNat]:=by
 unfold dg
 rw [Nat.toDigits_of_base_le (by decide) h,UK]
 rfl
theorem JM {n : Nat} (h : n < 10) : dg n = [(V0 n).toNat]:=by
 unfold dg
 rw [Nat.toDigits_of_lt_base h]
 rfl
theorem Gb : ∀ {n : Nat} {r : List Nat},dg n = 48 :: r → n = 0:=by
 intro n
 induction n using Nat.strongRecOn with
 | _ n ih =>
   intro r h
   by_cases hn : n < 10
   ·rw [JM hn] at h
    have e:=(Us.inj h).1
    have : ∀ m,m < 10 → (V0 m).toNat = 48 → m = 0:=by decide
    exact this n hn e
   ·rw [Lk (by lia)] at h
    cases hd : dg (n / 10) with
    | nil=>exact absurd hd (HU _)
    | cons c t =>
      rw [hd] at h
      have e : c = 48:=(Us.inj h).1
      subst e
      have:=ih (n / 10) (by lia) hd
      lia
def txI (i : Int) : Str:=Str.ofString (toString i)
theorem Ex (n : Nat) : sg (txI n) = dg n:=by
 unfold txI dg
 rw [BC]
 have e : toString ((n : Nat) : Int) = Nat.repr n:=rfl
 rw [e,Nat.toList_repr]
theorem Mr {n : Nat} (h : 0 < n) : sg (txI (-(n : Int))) = 45 :: dg n:=by
 unfold txI dg
 rw [BC]
 obtain ⟨m,rfl⟩ : ∃ m,n = m + 1:=⟨n - 1,by lia⟩
 have e : toString (-((m + 1 : Nat) : Int)) = "-" ++ Nat.repr (m + 1):=rfl
 rw [e,String.toList_append,UK,Nat.toList_repr]
 rfl
theorem Dm (i : Int) : (∃ n : Nat,i = n ∧ sg (txI i) = dg n) ∨ (∃ n : Nat,0 < n ∧ i = -(n : Int) ∧ sg (txI i) = 45 :: dg n):=by
 by_cases h : 0 ≤ i
 ·exact .inl ⟨i.toNat,by lia,by rw [← Ex]; congr; lia⟩
 ·exact .inr ⟨(-i).toNat,by lia,by lia,by rw [← Mr (by lia)]; congr; lia⟩
theorem Dl (i : Int) {c : Nat} (h : c ≠ 45 ∧ (c < 48 ∨ 57 < c)) : c ∉ sg (txI i):=int_text_free' c h i
def tx (x : Rat) : Str:=if x.den = 1 then txI x.num else txI x.num ++ Str.ofString "/" ++ txI x.den
theorem O2 : Str.ofString "/" = ⟨#[47]⟩:=by apply BU; rw [BC]; rfl
theorem Mm {x : Str} {c : Nat} (h : c ∉ sg x) : Txt.split x ⟨#[c]⟩ = [x]:=by
 have hl:=split_len x c
 have hj:=StrLaws.join_split x ⟨#[c]⟩
 rw [cnt_none c x.cps.toList h] at hl
 cases e : Txt.split x ⟨#[c]⟩ with
 | nil=>rw [e] at hl; simp at hl
 | cons p r =>
   cases r with
   | nil=>rw [e,join_one] at hj; rw [hj]
   | cons q r=>rw [e] at hl; simp at hl; lia
theorem JT {c : Nat} : ∀ {a b p q : List Nat},c ∉ a → c ∉ p → a ++ c :: b = p ++ c :: q → a = p ∧ b = q
 | [],b,[],q,_,_,h=>⟨rfl,(Us.inj h).2⟩
 | [],b,y :: p,q,_,hp,h=>absurd (SQ.mpr (.inl (Us.inj h).1)) hp
 | x :: a,b,[],q,ha,_,h=>absurd (SQ.mpr (.inl (Us.inj h).1.symm)) ha
 | x :: a,b,y :: p,q,ha,hp,h=>by
   have h1:=Us.inj h
   obtain ⟨e1,e2⟩:=JT (fun z=>ha (SO _ z)) (fun z=>hp (SO _ z)) h1.2
   rw [h1.1,e1]
   exact ⟨rfl,e2⟩
theorem LD {a b : Str} {c : Nat} (ha : c ∉ sg a) (hb : c ∉ sg b) : Txt.split (a ++ ⟨#[c]⟩ ++ b) ⟨#[c]⟩ = [a,b]:=by
 have hl:=split_len (a ++ ⟨#[c]⟩ ++ b) c
 have hj:=StrLaws.join_split (a ++ ⟨#[c]⟩ ++ b) ⟨#[c]⟩
 have hf:=StrLaws.split_free (a ++ ⟨#[c]⟩ ++ b) c
 have es : (a ++ ⟨#[c]⟩ ++ b).cps.toList = sg a ++ c :: sg b:=by
  show sg (a ++ ⟨#[c]⟩ ++ b) = _
  rw [AE,AE,TX]
  rfl
 rw [es,cnt_append,cnt_cons,cnt_none c _ ha,cnt_none c _ hb,if_pos rfl] at hl
 cases e : Txt.split (a ++ ⟨#[c]⟩ ++ b) ⟨#[c]⟩ with
 | nil=>rw [e] at hl; simp at hl
 | cons p r =>
   cases r with
   | nil=>rw [e] at hl; simp at hl
   | cons q r =>
     cases r with
     | nil =>
       rw [e,join_cons_cons,join_one] at hj
       rw [e] at hf
       have hs:=congrArg sg hj
       have e2 : sg (p ++ ⟨#[c]⟩ ++ q) = sg p ++ c :: sg q:=by
        rw [AE,AE,TX]
        rfl
       rw [e2,show sg (a ++ ⟨#[c]⟩ ++ b) = _ from es] at hs
       obtain ⟨z1,z2⟩:=JT (hf p (by simp)) ha hs
       rw [BU z1,BU z2]
     | cons _ _=>rw [e] at hl; simp at hl; lia
theorem Mc (x : Rat) : Txt.split (tx x) (Str.ofString "/") = if x.den = 1 then [txI x.num] else [txI x.num,txI x.den]:=by
 unfold tx
 rw [O2]
 split
 ·exact Mm (Dl _ (by decide))
 ·exact LD (Dl _ (by decide)) (Dl _ (by decide))
section
variable {X : Cx}
inductive KN (x : V) (vs : List V) (H : Hp) (Q : VK) : Prop
 | mk (y z : Str) (h1 : x = .str y) (h2 : vs = [.str z]) (h3 : Q (.bl (Txt.startswith y z)) H) : KN x vs H Q
theorem Hu : MtR X "str.startswith" KN:=by
 intro pins s σ H x vs v us Q I rx rv h
 obtain ⟨y,z,rfl,rfl,q⟩:=h
 obtain ⟨t,rfl⟩:=rx
 obtain ⟨u,rfl,ru⟩:=rv.one
 obtain ⟨t',rfl⟩:=ru
 exact SC.startswith ⟨.bl _,H,I,rfl,q⟩
theorem HG : ∀ l : List (Str × Tok),AH (l.map fun p=>V.str p.1) (strValues l)
 | []=>.nil
 | p :: r=>.cons ⟨p.2,rfl⟩ (HG r)
inductive Mz (x : V) (vs : List V) (H : Hp) (Q : VK) : Prop
 | mk (y z : Str) (h1 : x = .str y) (h2 : vs = [.str z]) (h3 : (z.length == 0) = false) (h4 : y.length + 2 ≤ sizeLine) (h5 : ∀ p,H p = none → Q (.ref p) (upd H p (.lst ((Txt.split y z).map V.str)))) : Mz x vs H Q
theorem BE : MtR X "str.split" Mz:=by
 intro pins s σ H x vs v us Q I rx rv h
 obtain ⟨y,z,rfl,rfl,hz,hy,q⟩:=h
 obtain ⟨t,rfl⟩:=rx
 obtain ⟨u,rfl,ru⟩:=rv.one
 obtain ⟨t',rfl⟩:=ru
 have fin : ∀ (l : List (Str × Tok)) (k : Nat),l.map (·.1) = Txt.split y z → EP X pins σ Q (.ref s.heap.objs.size) { s with heap:=s.heap.push { cls:=.type "list",data:=.seq (strValues l).toArray },toks:=k }:=by
  intro l k e
  have em : l.map (fun p=>V.str p.1) = (Txt.split y z).map V.str:=by rw [← e,V1]; rfl
  have hv:=HG l
  rw [em] at hv
  have hb : ((Txt.split y z).map V.str).length ≤ sizeLine:=by
   rw [TC]
   exact SJ (split_le y z) hy
  exact ⟨.ref s.heap.objs.size,_,I.laid (t':=k) (o:=.lst ((Txt.split y z).map V.str)) (fun b ob q=>Heap.get?_push_of_some _ q) (T2 _) ⟨hb,_,0,hv,Heap.get?_push_size _ rfl⟩,rfl,q _ (I.hok.fresh (T2 _))⟩
 cases h1 : (decide (y.length < z.length) || decide (Builtin.Str.strKind y < Builtin.Str.strKind z))
 ·have hn : (Builtin.Str.partsBetween y (Builtin.Str.occurrences y z 0 y.length (y.length + 1)) z.length).length ≤ sizeLine:=by
   have e1:=StrLaws.occ_length_le y z 0 y.length (y.length + 1)
   rw [len_partsBetween]; lia
  cases hf : (Builtin.Str.occurrences y z 0 y.length (y.length + 1)).isEmpty
  ·refine call_meets F.slot_str_split (typeIs_str _ _ _) F.entry_str_split (F.args_str_split_2 _ _) (meets_str_split_sep y z t t' h1 hz hf (by lia) hn) ?_
   show wants (EP X pins σ Q) X.xe _ { s with toks:=_,heap:=s.heap.push { cls:=.type "list",data:=.seq (strsFrom s.toks (Builtin.Str.partsBetween y (Builtin.Str.occurrences y z 0 y.length (y.length + 1)) z.length)).toArray } }
   rw [strsFrom_eq]
   exact fin (numbered s.toks _) _ ((numbered_texts _ _).trans ((if_neg (ne_true_of_eq_false h1)).trans (if_neg (ne_true_of_eq_false hf))).symm)
  ·exact call_meets F.slot_str_split (typeIs_str _ _ _) F.entry_str_split (F.args_str_split_2 _ _) (meets_str_split_not_found y z t t' h1 hz hf)
    (fin [(y,t)] s.toks ((if_neg (ne_true_of_eq_false h1)).trans (if_pos hf)).symm)
 ·exact call_meets F.slot_str_split (typeIs_str _ _ _) F.entry_str_split (F.args_str_split_2 _ _) (meets_str_split_cannot_occur y z t t' h1)
   (fin [(y,t)] s.toks (if_pos h1).symm)
inductive Qc (x : V) (lo : Option Int) (hi : Option Int) (H : Hp) (Q : VK) : Prop
 | mk (y : Str) (c : Nat) (r : List Nat) (h1 : x = .str y) (h2 : lo = some 1) (h3 : hi = none) (h4 : sg y = c :: r) (h5 : y.length ≤ sizeLine) (h6 : Q (.str ⟨r.toArray⟩) H) : Qc x lo hi H Q
theorem Ot : SlR X Qc:=by
 intro pins s σ H x v vl vu lo hi sl Q I rx hs pl pu h
 obtain ⟨y,c,r,rfl,rfl,rfl,e,hy,q⟩:=h
 obtain ⟨t,rfl⟩:=rx
 cases pl with
 | int i u =>
   cases pu
   have e2 : y.length = r.length + 1:=by rw [Ai,e]; rfl
   have e1:=StrLaws.sliced_plain y (a:=1) (b:=y.length) (by lia) (T2 _)
   have e3 : Builtin.Str.strSliceIndices (some 1) none 1 y.length = Builtin.Str.strSliceIndices (some ((1 : Nat) : Int)) (some (y.length : Int)) 1 y.length:=StrLaws.sliceIdx_none_hi _ _
   have e4 : (Builtin.Str.strSliceIndices (some 1) none 1 y.length).length = r.length:=by
    rw [e3,StrLaws.strSliceIndices_plain (by lia) (T2 _),TC,UB]; lia
   refine ⟨"str",_,F.slot_str_getitem.lookup,typeIs_str s y t,?_⟩
   refine wpAny_getItem_str_slice (l:=some (1,u)) (u:=none) (st:=none) hs rfl ?_
   unfold sliceMade slicePicked
   have e5 : (((none : Option (Int × Tok)).map (·.1)).getD 1 == 1 && (Builtin.Str.strSliceIndices ((some ((1 : Int),u)).map (·.1)) ((none : Option (Int × Tok)).map (·.1)) (((none : Option (Int × Tok)).map (·.1)).getD 1) y.length).length == y.length) = false:=by
    show (true && (Builtin.Str.strSliceIndices (some 1) none 1 y.length).length == y.length) = false
    rw [e4,e2]; simp
   rw [e5,if_neg Bool.false_ne_true]
   have e6 : ((Builtin.Str.strSliceIndices (some 1) none 1 y.length).filterMap (y.cps[·]?)) = r:=by
    rw [e3,e1]
    show ((sg y).drop 1).take _ = r
    rw [e]
    show r.take (y.length - 1) = r
    exact Uw (by lia)
   have fin : (Made.str ⟨((Builtin.Str.strSliceIndices (some 1) none 1 y.length).filterMap (y.cps[·]?)).toArray⟩).post (EP X pins σ Q) s:=by
    rw [e6]
    exact ⟨by show r.toArray.size ≤ sizeLine; simp; lia,⟨.str ⟨r.toArray⟩,H,I.tok _,⟨_,rfl⟩,q⟩⟩
   exact fin
def Its (x : Str) : It:=⟨fun i _=>i < (sg x).length,fun i H v H'=>H' = H ∧ ∃ c,(sg x)[i]? = some c ∧ v = .str ⟨#[c]⟩,fun i _=>(sg x).length ≤ i⟩
theorem Md {P : Program} {w : World} {K : SI} {tg : Expr} (it : Addr) (x : Str) (t : Tok) : Ku P w K tg (Its x) [it] it (fun i h=>h.IsStrIter it "str_ascii_iterator" x t i) where
 mem:=by simp
 obj:=fun i h st b hb=>by
  have e : b = it:=by simpa using hb
  subst e
  obtain ⟨o,e,c,d⟩:=st
  exact ⟨o,e,fun v z=>by rw [d] at z; cases z⟩
 keep:=fun i h h' st k=>let ⟨o,e,r⟩:=st; ⟨o,k it (by simp) o e,r⟩
 item:=by
  intro X hP hw hK hc i pins s σ H E I hf st hg
  subst hP hw hK
  obtain ⟨f0,f1,f2,f3,f4,f5⟩:=hf it (by simp)
  obtain ⟨c,hx⟩ : ∃ c,(sg x)[i]? = some c:=⟨_,Uo hg⟩
  refine wpAny_pyNext_ascii_item st (c:=c) (by rw [← hx]; simp [sg]) fun h' st' sb=>?_
  have I1 : Inv X pins σ H { s with heap:=h',toks:=s.toks + 1 }:=I.turned (fun b o hb e=>(sb.2 b hb).trans e) f0 f1 f3 f4 f5
  obtain ⟨o,e,c',d⟩:=id st'
  exact ⟨_,rfl,JJ (s:={ s with heap:=h',toks:=s.toks + 1 }) e c' d (by decide) ⟨.str ⟨#[c]⟩,H,I1,⟨_,rfl⟩,⟨rfl,c,hx,rfl⟩,st',fun b hb=>(hf b hb).1⟩⟩
 done:=by
  intro X hP hw hK hc i pins s σ H E I hf st hg
  subst hP hw hK
  obtain ⟨f0,f1,f2,f3,f4,f5⟩:=hf it (by simp)
  have hx : x.cps[i]? = none:=by
   have : (sg x).length ≤ i:=hg
   simp [sg] at this
   simp [this]
  exact wpAny_pyNext_ascii_end (I.ok.hd hc) st hx fun h' eb=>⟨rfl,I.turned (t':=s.toks) (fun b o hb e=>eb b o hb e) f0 f1 f3 f4 f5⟩
 self:=fun _ _ _ _ _ st h=>wpAny_pyIter_striter_ascii st h
inductive Qn (tl : TE) (σ : St) (H : Hp) (R : It → Hp → Prop) : Prop
 | mk (h : tl σ H fun v H1=>∃ x,v = .str x ∧ (∀ c ∈ sg x,c < 128) ∧ R (Its x) H1) : Qn tl σ H R
theorem O6 {tg l : Expr} {tl : TE} (hl : PE X l tl) : PI X tg l (Qn tl):=by
 intro pins s σ H R I h
 obtain ⟨h⟩:=h
 refine thn (hl pins s σ H _ I h) fun v s1 ⟨x,H1,I1,r1,q1⟩=>?_
 obtain ⟨x,rfl,ha,q⟩:=q1
 obtain ⟨t,rfl⟩:=r1
 refine wpAny_pyIter_ascii (by
  rw [V2]
  intro c hc
  exact decide_eq_true (ha c (by simpa [sg] using hc))) ?_
 refine ⟨s1.heap.objs.size,[s1.heap.objs.size],_,_,H1,rfl,I1.kept (t':=s1.toks) fun b o e=>Heap.get?_push_of_some _ e,Md _ x t,⟨_,Heap.get?_push_size _ rfl,rfl,rfl⟩,fun b hb=>?_,q⟩
 have e : b = s1.heap.objs.size:=by simpa using hb
 subst e
 exact I1.fpOk (T2 _) (I1.hok.fresh (T2 _))
end
theorem JB {x : Str} {js : List Nat} {te : TE} {σ : St} {H : Hp} {Fin : List V → Hp → Prop} (Pv : Nat → List V → Hp → Prop) (h0 : Pv 0 [] H) (hl : ∀ i zs H,i ≤ (sg x).length → Pv i zs H → zs.length = i) (hz : (sg x).length ≤ sizeLine)
 (hs : ∀ i c zs H,(sg x)[i]? = some c → Pv i zs H → te ((cS 1 js σ).set 0 (some (.str ⟨#[c]⟩))) H fun y H4=>Pv (i + 1) (zs ++ [y]) H4) (fin : ∀ zs H',Pv (sg x).length zs H' → Fin zs H') :
 ∃ (n' : Nat) (W : Nat → List V → Hp → Prop),W 0 [] H ∧ LcW (Its x) n' 1 js σ (Ck 0) Lv te Fin W:=by
 refine ⟨(sg x).length,Pv,h0,⟨?_,?_,?_⟩⟩
 ·intro i zs H' hi p
  have h2:=hl i zs H' (SK hi) p
  exact ⟨hi,by lia⟩
 ·rintro i zs H' v H1 hi p ⟨rfl,c,hc,rfl⟩
  exact hs i c zs _ hc p
 ·intro zs H' p
  have h2:=hl _ zs H' (T2 _) p
  exact ⟨T2 _,by lia,fin zs H' p⟩
end L2
namespace L2
open PySem PySem.Spec PyProof.Rows
theorem OV : typeLookup (.type "str") "__int__" = pure none:=by rw [typeLookup_type,builtinLookup_eq_fast]; kernel_rfl
theorem MO : typeLookup (.type "str") "__index__" = pure none:=by rw [typeLookup_type,builtinLookup_eq_fast]; kernel_rfl
theorem MN : typeLookup (.type "str") "__trunc__" = pure none:=by rw [typeLookup_type,builtinLookup_eq_fast]; kernel_rfl
theorem DJ {p : Nat → Bool} : ∀ {l : List Nat},(∀ c ∈ l,p c = false) → l.dropWhile p = l
 | [],_=>rfl
 | c :: r,h=>by rw [List.dropWhile_cons,h c (by simp)]; rfl
theorem Em {p : Nat → Bool} : ∀ {l : List Nat},(∀ c ∈ l,p c = true) → l.takeWhile p = l
 | [],_=>rfl
 | c :: r,h=>by rw [List.takeWhile_cons,h c (by simp),Em fun d hd=>h d (SO _ hd)]; rfl
theorem Fz {f : (Array Nat × Bool) → Nat → Option (Array Nat × Bool)} (hf : ∀ ds b c,48 ≤ c → c ≤ 57 → f (ds,b) c = some (ds.push (c - 48),true)) :
 ∀ (l : List Nat) (ds : Array Nat) (b : Bool),(∀ c ∈ l,48 ≤ c ∧ c ≤ 57) → l.foldlM f (ds,b) = some (ds ++ (l.map (· - 48)).toArray,b || !l.isEmpty)
 | [],ds,b,_=>by simp
 | c :: r,ds,b,h=>by
   rw [List.foldlM_cons,hf ds b c (h c (by simp)).1 (h c (by simp)).2]
   show r.foldlM f (ds.push (c - 48),true) = _
   rw [Fz hf r _ _ fun d hd=>h d (SO _ hd)]
   simp
theorem JL : ∀ (l : List Nat) (a : Nat),(l.map (· - 48)).foldl (fun acc d=>acc * 10 + d) a = vl l a
 | [],_=>rfl
 | c :: r,a=>JL r (a * 10 + (c - 48))
theorem Li (l : List Nat) : (#[] ++ (l.map (· - 48)).toArray).foldl (fun acc d=>acc * 10 + d) 0 = vl l 0:=by
 rw [← Array.foldl_toList]
 simpa using JL l 0
open Lean in
local macro_rules
 | `(tactic| trivial)=>do
   let p : Name:=.num (.str (.str (.str (.str (.str .anonymous "_private") "PySem") "Builtin") "Int") "W0All") 0
   let n:=mkIdent (p ++ `PySem.Builtin.isBlank)
   `(tactic| unfold $n:ident)
open Lean in
local macro_rules
 | `(tactic| trivial)=>do
   let p : Name:=.num (.str (.str (.str (.str (.str .anonymous "_private") "PySem") "Builtin") "Int") "W0All") 0
   let n:=mkIdent (p ++ `PySem.Builtin.digitValue?)
   `(tactic| unfold $n:ident)
open Lean in
local macro_rules
 | `(tactic| trivial)=>do
   let p : Name:=.num (.str (.str (.str (.str (.str .anonymous "_private") "PySem") "Builtin") "Int") "W0All") 0
   let n:=mkIdent (p ++ `PySem.Builtin.numeralDigits?)
   `(tactic| unfold $n:ident)
open Lean in
local macro_rules
 | `(tactic| trivial)=>do
   let p : Name:=.num (.str (.str (.str (.str (.str .anonymous "_private") "PySem") "Builtin") "Int") "W0All") 0
   let n:=mkIdent (p ++ `PySem.Builtin.prefixBase?)
   `(tactic| unfold $n:ident)
open Lean in
local macro_rules
 | `(tactic| trivial)=>do
   let p : Name:=.num (.str (.str (.str (.str (.str .anonymous "_private") "PySem") "Builtin") "Int") "W0All") 0
   let n:=mkIdent (p ++ `PySem.Builtin.readNumeral)
   `(tactic| unfold $n:ident)
set_option maxHeartbeats 0 in
theorem E4 (x : Str) (u : Tok) (t l : List Nat) (n : Int) (hx : sg x = t) (ht : t = l ∧ n = vl l 0 ∨ t = 45 :: l ∧ n = -(vl l 0 : Int)) (h60 : l.length ≤ 100) (hl : ∀ c ∈ l,48 ≤ c ∧ c ≤ 57) (hn : l ≠ []) (h0 : ∀ r,l = 48 :: r → r = []) :
 Meets (Builtin.«int.__new__» ⟨[.type "int",.str x u],[]⟩) (Made.int n).spec :=
 Meets.of_wp fun prog w A R s hs=>by
  have hr : ∀ c ∈ t,45 ≤ c ∧ c ≤ 57:=by
   intro c hc
   rcases ht with ⟨rfl,_⟩ | ⟨rfl,_⟩
   ·have:=hl c hc; lia
   ·rcases SQ.mp hc with z | z
    ·lia
    ·have:=hl c z; lia
  have hlen : t.length ≤ 101:=by
   rcases ht with ⟨rfl,_⟩ | ⟨rfl,_⟩
   ·lia
   ·simp; lia
  obtain ⟨hp,g,d,tk,os⟩:=s
  have f1:=F.conv_sub_int
  have f2:=F.madeHere_int
  have hT : (⟨hp,g,d,tk,os⟩ : Shared).TypeIs (.str x u) "str":=rfl
  have f3:=OV
  have f4:=MO
  have f5:=MN
  repeat (any_goals (first | assumption | wp_step))
  have e1 : (if (x.cps.all fun x=>decide (x < 128)) = true then x.cps.toList else Unicode.numberText x.cps.toList) = t:=by
   rw [if_pos]
   ·exact hx
   ·rw [V2]
    intro c hc
    have:=hr c (by rw [← hx]; simpa [sg] using hc)
    exact decide_eq_true (by lia)
  have e2 : t.takeWhile (fun x=>x != 0) = t:=Em fun c hc=>by have:=hr c hc; simp; lia
  rw [e1,e2,if_pos (by lia)]
  refine wpAny_bind (wpAny_pure ?_)
  dsimp only
  have hB : ∀ c,45 ≤ c → ¬ (c == 32 || (decide (9 ≤ c) && decide (c ≤ 13))) = true:=fun c h=>by simp; lia
  obtain ⟨c,r,rfl⟩ : ∃ c r,l = c :: r:=by
   cases l with
   | nil=>exact absurd rfl hn
   | cons c r=>exact ⟨c,r,rfl⟩
  have c1:=hl c (by simp)
  have c45 : ¬ c = 45:=by lia
  have c43 : ¬ c = 43:=by lia
  have hrev : ∀ p : Nat → Bool,(∀ d ∈ c :: r,p d = false) → ((c :: r).reverse.dropWhile p).reverse = c :: r:=fun p h=>by
   rw [DJ fun d hd=>h d (List.mem_reverse.mp hd),List.reverse_reverse]
  have c48 : c = 48 → r = []:=fun e=>h0 r (by rw [e])
  by_cases z : c = 48
  ·have y:=c48 z
   clear c48 h0
   subst y
   subst z
   clear c45 c43
   split
   all_goals rename_i heq
   all_goals revert heq
   all_goals trivial
   all_goals rw [DJ (l:=t) (fun c hc=>by trivial; exact Bool.eq_false_iff.mpr (hB c (hr c hc).1))]
   all_goals rcases ht with ⟨rfl,rfl⟩ | ⟨rfl,rfl⟩
   all_goals dsimp only
   all_goals try simp only [Us.injEq,false_and,imp_self,implies_true,not_false_eq_true]
   all_goals trivial
   all_goals first | dsimp only | skip
   all_goals try simp only [Us.injEq,false_and,imp_self,implies_true,not_false_eq_true]
   all_goals try rw [if_neg (by simp : ¬ (10 == 0) = true)]
   all_goals try dsimp only
   all_goals rw [hrev _ (fun d hd=>by trivial; exact Bool.eq_false_iff.mpr (hB d (by have:=hl d hd; lia)))]
   all_goals trivial
   all_goals rw [Fz (fun ds b e h1 h2=>by
    have e95 : ¬ (e == 95) = true:=by simp; lia
    dsimp only
    rw [if_neg e95]
    trivial
    rw [if_pos (by simp; lia)]
    dsimp only
    rw [if_pos (by lia)]) _ _ _ hl]
   all_goals simp only [Option.bind_eq_bind,Option.bind_some,List.isEmpty_cons,Bool.not_false,Bool.false_or,if_true,reduceIte]
   all_goals rw [if_neg (by simp),if_neg (by first | (simp; done) | (have h61:=h60; simp at h61 ⊢; lia)),if_neg (by simp),Li]
   all_goals try rw [if_neg Bool.false_ne_true]
   all_goals try rw [if_pos _root_.trivial]
   all_goals intro heq
   all_goals cases heq
   all_goals rw [if_pos (by simp)]
   all_goals repeat (first | assumption | wp_step)
   all_goals exact ⟨_,rfl,hs⟩
  ·split
   all_goals rename_i heq
   all_goals revert heq
   all_goals trivial
   all_goals rw [DJ (l:=t) (fun c hc=>by trivial; exact Bool.eq_false_iff.mpr (hB c (hr c hc).1))]
   all_goals rcases ht with ⟨rfl,rfl⟩ | ⟨rfl,rfl⟩
   all_goals dsimp only
   all_goals try simp only [c45,c43,Us.injEq,false_and,imp_self,implies_true,not_false_eq_true]
   all_goals trivial
   all_goals first | dsimp only | skip
   all_goals try simp only [z,Us.injEq,false_and,imp_self,implies_true,not_false_eq_true]
   all_goals try rw [if_neg (by simp : ¬ (10 == 0) = true)]
   all_goals try dsimp only
   all_goals rw [hrev _ (fun d hd=>by trivial; exact Bool.eq_false_iff.mpr (hB d (by have:=hl d hd; lia)))]
   all_goals trivial
   all_goals rw [Fz (fun ds b e h1 h2=>by
    have e95 : ¬ (e == 95) = true:=by simp; lia
    dsimp only
    rw [if_neg e95]
    trivial
    rw [if_pos (by simp; lia)]
    dsimp only
    rw [if_pos (by lia)]) _ _ _ hl]
   all_goals simp only [Option.bind_eq_bind,Option.bind_some,List.isEmpty_cons,Bool.not_false,Bool.false_or,if_true,reduceIte]
   all_goals rw [if_neg (by simp),if_neg (by first | (simp; done) | (have h61:=h60; simp at h61 ⊢; lia)),if_neg (by simp),Li]
   all_goals try rw [if_neg Bool.false_ne_true]
   all_goals try rw [if_pos _root_.trivial]
   all_goals intro heq
   all_goals cases heq
   all_goals rw [if_pos (by simp)]
   all_goals repeat (first | assumption | wp_step)
   all_goals exact ⟨_,rfl,hs⟩
section
variable {X : Cx}
theorem ED (K : SI) : Tb K (.type "str") (.type "str") = some true:=by kernel_rfl
inductive Oe (xs : List V) (H : Hp) (Q : VK) : Prop
 | mk (y : Str) (h1 : xs = [.str y]) (h2 : y.length ≤ sizeLine) (h3 : Q (.int (y.length : Nat)) H) : Oe xs H Q
theorem Dw : C5 X (.builtin "len") Oe:=by
 intro pins s σ H xs us Q I r h
 obtain ⟨y,rfl,hy,q⟩:=h
 obtain ⟨u,rfl,rx⟩:=DL r
 obtain ⟨t,rfl⟩:=rx
 have hl:=Ft
 have hs : sizeLine = 16777216:=sizeLine_eq
 exact len_str (by lia) ⟨.int _,H,I.tok _,⟨_,rfl⟩,q⟩
inductive Og (xs : List V) (H : Hp) (Q : VK) : Prop
 | mk (i : Int) (h1 : xs = [.str (txI i)]) (h2 : i.natAbs < 10 ^ 60) (h3 : Q (.int i) H) : Og xs H Q
theorem BH : C5 X (.type "int") Og:=by
 intro pins s σ H xs us Q I r h
 obtain ⟨i,rfl,hi,q⟩:=h
 obtain ⟨u,rfl,rx⟩:=DL r
 obtain ⟨t,rfl⟩:=rx
 have fin : (Made.int i).post (fun obj s₁=>s₁.TypeIs obj "int" ∧ EP X pins σ Q obj s₁) s:=⟨rfl,⟨.int i,H,I.tok _,⟨_,rfl⟩,q⟩⟩
 rcases Dm i with ⟨n,e,hs⟩ | ⟨n,hp,e,hs⟩
 ·exact call_int_1 (E4 (txI i) t (dg n) (dg n) i hs (.inl ⟨rfl,by rw [HF]; exact e⟩) (SJ (GY (k:=60) (by decide) (by lia)) (by decide)) (fun c hc=>Dv hc) (HU n) (fun r hr=>by
   have z:=Gb hr
   subst z
   exact (Us.inj hr).2.symm)) fin
 ·exact call_int_1 (E4 (txI i) t (45 :: dg n) (dg n) i hs (.inr ⟨rfl,by rw [HF]; exact e⟩) (SJ (GY (k:=60) (by decide) (by lia)) (by decide)) (fun c hc=>Dv hc) (HU n) (fun r hr=>by
   have z:=Gb hr
   subst z
   exact (Us.inj hr).2.symm)) fin
end
end L2
namespace L2
open PySem PySem.Spec PyProof.Rows
theorem NP {x sep : Str} {c : Nat} {w : List Nat} (hw : sg sep = c :: w) {k : Nat} (h : StrLaws.At x sep x.length k) : (sg x)[k]? = some c:=by
 obtain ⟨h1,h2⟩:=h
 rw [StrLaws.subAt_eq] at h2
 have h3 : ((sg x).drop k).take sep.length = sg sep:=by simpa [sg] using h2
 have h4 : (((sg x).drop k).take sep.length)[0]? = some c:=by rw [h3,hw]; rfl
 have h5 : 0 < sep.length:=by rw [Ai,hw]; simp
 rw [Tv h5,Ui] at h4
 simpa using h4
theorem Oh {x sep : Str} {k : Nat} {r : List Nat} (h : (sg x).drop k = sg sep ++ r) (hk : k ≤ (sg x).length) : StrLaws.At x sep x.length k:=by
 have hl:=congrArg To h
 rw [TN,Tz] at hl
 refine ⟨by rw [Ai x,Ai sep]; lia,?_⟩
 rw [StrLaws.subAt_eq,Ai]
 show (((sg x).drop k).take (sg sep).length == sg sep) = true
 rw [h,List.take_left']
 ·simp
 ·rfl
theorem Ml {x t : Str} {a b : Nat} {r : List Nat} (h : (sg x).drop a = sg t ++ r) (hb : b = a + (sg t).length) : Builtin.Str.strSub x a b = t:=by
 apply BU
 show (Builtin.Str.strSub x a b).cps.toList = sg t
 rw [StrLaws.strSub_toList]
 show ((sg x).drop a).take (b - a) = sg t
 rw [h,List.take_left']
 lia
theorem Jp {x sep : Str} {c : Nat} {w : List Nat} (hw : sg sep = c :: w) : ∀ (ts : List Str) (t : Str) (a : Nat) (cuts : List Nat) (f : Nat),(sg x).drop a = sg (Str.join sep (t :: ts)) → a ≤ (sg x).length → (∀ u ∈ t :: ts,c ∉ sg u) →
 StrLaws.ChainG x sep x.length a cuts f → (∀ k,f ≤ k → ¬ StrLaws.At x sep x.length k) → StrLaws.partsFrom x sep.length a cuts = t :: ts
 | ts,t,a,cuts,f,h,ha,hf,hc,hn=>by
   have hlen:=congrArg To h
   rw [TN] at hlen
   -- no cut within the first text
   have inT : ∀ (r : List Nat),(sg x).drop a = sg t ++ r → ∀ k,a ≤ k → k < a + (sg t).length → ¬ StrLaws.At x sep x.length k:=by
    intro r hr k h1 h2 hA
    have e:=NP hw hA
    have e2 : ((sg x).drop a)[k - a]? = some c:=by rw [Ui,show a + (k - a) = k by lia]; exact e
    rw [hr,Tt (by lia)] at e2
    exact hf t (by simp) (Tx e2)
   cases ts with
   | nil =>
     rw [join_one] at h hlen
     have h' : (sg x).drop a = sg t ++ []:=by rw [h,Te]
     cases cuts with
     | nil =>
       show [Builtin.Str.strSub x a x.length] = [t]
       rw [Ml h' (by rw [Ai]; lia)]
     | cons d r =>
       obtain ⟨h1,h2,h3,h4⟩:=hc
       have:=h2.1
       rw [Ai x,Ai sep,hw,U9] at this
       exact absurd h2 (inT [] h' d h1 (by lia))
   | cons u ts =>
     rw [join_cons_cons,AE,AE,TX] at h
     have hd : (sg x).drop (a + (sg t).length) = sg sep ++ sg (Str.join sep (u :: ts)):=by
      rw [← V3,h,V4]
      rfl
     rw [join_cons_cons,AE,AE,Tz,Tz] at hlen
     have hA : StrLaws.At x sep x.length (a + (sg t).length):=Oh hd (by lia)
     cases cuts with
     | nil =>
       have e : f = a:=hc
       exact absurd hA (hn _ (by lia))
     | cons d r =>
       obtain ⟨h1,h2,h3,h4⟩:=hc
       have ed : d = a + (sg t).length:=by
        rcases UU d (a + (sg t).length) with z | z | z
        ·exact absurd h2 (inT _ h d h1 z)
        ·exact z
        ·exact absurd hA (h3 _ (by lia) z)
       show Builtin.Str.strSub x a d :: StrLaws.partsFrom x sep.length (d + sep.length) r = t :: u :: ts
       rw [Ml h ed]
       refine congrArg (t :: ·) (Jp hw ts u (d + sep.length) r f ?_ ?_ (fun v hv=>hf v (SO _ hv)) h4 hn)
       ·rw [ed,Ai sep,← V3,hd,V4]
        rfl
       ·rw [ed,Ai sep]; lia
theorem JC (x : Str) : 1 ≤ Builtin.Str.strKind x:=by
 unfold Builtin.Str.strKind
 split
 ·decide
 ·split <;> decide
theorem Eu {sep : Str} {c : Nat} {w : List Nat} (hw : sg sep = c :: w) (hk : Builtin.Str.strKind sep = 1) (t : Str) (ts : List Str) (hf : ∀ u ∈ t :: ts,c ∉ sg u) : Txt.split (Str.join sep (t :: ts)) sep = t :: ts:=by
 have hs : 1 ≤ sep.length:=by rw [Ai,hw]; simp
 obtain ⟨f,hG,hn⟩:=StrLaws.occ_tight (Str.join sep (t :: ts)) sep hs
 have key:=Jp (x:=Str.join sep (t :: ts)) hw ts t 0 _ f (by rw [List.drop_zero]) (T5 _) hf hG hn
 unfold Txt.split
 split
 ·rename_i h1
  rw [Bool.or_eq_true,decide_eq_true_eq,decide_eq_true_eq] at h1
  rcases h1 with h1 | h1
  ·cases ts with
   | nil=>rw [join_one]
   | cons u ts =>
     rw [join_cons_cons,Ai,AE,AE,Tz,Tz,← Ai sep] at h1
     lia
  ·rw [hk] at h1
   have:=JC (Str.join sep (t :: ts))
   lia
 ·split
  ·rename_i he
   rw [List.isEmpty_iff.mp he] at key
   have k2 : [Builtin.Str.strSub (Str.join sep (t :: ts)) 0 (Str.join sep (t :: ts)).length] = t :: ts:=key
   rw [StrLaws.sub_whole] at k2
   exact k2
  ·rw [StrLaws.partsBetween_eq]
   exact key
theorem KD : ∀ {ts : List Str} {us : List Value},AH (ts.map V.str) us → ∃ l : List (Str × Tok),us = strValues l ∧ l.map (·.1) = ts
 | [],_,.nil=>⟨[],rfl,rfl⟩
 | x :: ts,_,.cons ⟨t,e⟩ r=>by
   obtain ⟨l,rfl,e2⟩:=KD r
   subst e
   exact ⟨(x,t) :: l,rfl,by rw [U1,e2]⟩
theorem K1 {b : Nat} : ∀ {l : List Nat},(∀ x ∈ l,x ≤ b) → l.sum ≤ l.length * b
 | [],_=>by simp
 | x :: r,h=>by
   have h1:=h x (by simp)
   have h2:=K1 fun y hy=>h y (SO _ hy)
   rw [V5,U9,U0]
   lia
theorem CN {sep : Str} {ts : List Str} (hs : sep.length ≤ 2) (h : ∀ t ∈ ts,t.length ≤ 1000) (hn : ts.length ≤ 100) : JoinOk sep ts = true:=by
 unfold JoinOk
 rw [StrLaws.joinTotal]
 have h1 : (ts.map (·.length)).sum ≤ ts.length * 1000:=by
  have:=K1 (b:=1000) (l:=ts.map (·.length)) (fun x hx=>by
   obtain ⟨t,ht,rfl⟩:=UY.mp hx
   exact h t ht)
  rwa [TC] at this
 have h2 : ts.length * sep.length ≤ ts.length * 2:=Nat.mul_le_mul_left _ hs
 have h3:=sizeLine_eq
 unfold Builtin.Str.tooLong
 rw [decide_eq_false (by lia)]
 rfl
theorem D8 {sep : Str} (hs : sep.length ≤ 2) {b : Nat} : ∀ {ts : List Str},(∀ t ∈ ts,t.length ≤ b) → (Str.join sep ts).length ≤ ts.length * (b + 2):=by
 intro ts h
 have h0:=StrLaws.join_length_le sep ts
 have h1 : (ts.map (·.length)).sum ≤ ts.length * b:=by
  have:=K1 (b:=b) (l:=ts.map (·.length)) (fun x hx=>by
   obtain ⟨t,ht,rfl⟩:=UY.mp hx
   exact h t ht)
  rwa [TC] at this
 have h2 : ts.length * sep.length ≤ ts.length * 2:=Nat.mul_le_mul_left _ hs
 rw [Nat.mul_add]
 lia
theorem CK {sep : Str} {c : Nat} (hs : c ∉ sg sep) : ∀ {ts : List Str},(∀ t ∈ ts,c ∉ sg t) → c ∉ sg (Str.join sep ts)
 | [],_=>by intro h; cases h
 | [x],h=>by rw [join_one]; exact h x (by simp)
 | x :: y :: r,h=>by
   rw [join_cons_cons,AE,AE]
   intro hm
   rcases SR.mp hm with hm | hm
   ·rcases SR.mp hm with hm | hm
    ·exact h x (by simp) hm
    ·exact hs hm
   ·exact CK hs (ts:=y :: r) (fun t ht=>h t (SO _ ht)) hm
theorem DA (x : Rat) {c : Nat} (h : c ≠ 45 ∧ c ≠ 47 ∧ (c < 48 ∨ 57 < c)) : c ∉ sg (tx x):=by
 unfold tx
 split
 ·exact Dl _ ⟨h.1,h.2.2⟩
 ·rw [AE,AE,O2]
  intro hm
  rcases SR.mp hm with hm | hm
  ·rcases SR.mp hm with hm | hm
   ·exact Dl _ ⟨h.1,h.2.2⟩ hm
   ·exact h.2.1 (Ul.mp hm)
  ·exact Dl _ ⟨h.1,h.2.2⟩ hm
section
variable {X : Cx}
inductive O5 (K : SI) (x : V) (vs : List V) (H : Hp) (Q : VK) : Prop
 | mk (sep : Str) (l : Addr) (ts : List Str) (h1 : x = .str sep) (h2 : vs = [.ref l]) (h3 : SqL K H l (ts.map V.str)) (h4 : JoinOk sep ts = true) (h5 : Q (.str (Str.join sep ts)) H) : O5 K x vs H Q
theorem Df (K : SI) (e : X.K = K:=by rfl) : MtR X "str.join" (O5 K):=by
 subst e
 intro pins s σ H x vs v us Q I rx rv h
 obtain ⟨sep,l,ts,rfl,rfl,hS,hj,q⟩:=h
 obtain ⟨t,rfl⟩:=rx
 obtain ⟨u,rfl,ru⟩:=rv.one
 cases ru
 obtain ⟨its,r,pl,hz⟩:=I.list hS
 obtain ⟨ls,rfl,e2⟩:=KD r
 refine SC.join pl.isList e2 hj fun t' k=>?_
 rw [show Txt.join sep ts = Str.join sep ts from StrLaws.glued_eq_join sep ts]
 exact ⟨.str (Str.join sep ts),H,I.tok _,⟨_,rfl⟩,q⟩
end
theorem AQ.lookN {X : Cx} {NX N : List Str} {sc scope0 scope : Scope} {nt : Nat} {js : List Nat} {cl : List (Str × Addr)} {C : Addr} {s : Shared} {H : Hp} {fp : List Addr} (hs : X.env.scope = sc) (h : IT NX (Qa scope0 sc) N nt js scope = true) :
 AQ (AO X NX scope0 cl C s H fp) N nt js scope:=AQ.look (NX:=NX) (sc:=Qa scope0 sc) rfl (by rw [← hs]; rfl) h
end L2
namespace L2
open PySem PySem.Spec PyProof.Rows
section
variable {X : Cx} {pins : List (Addr × Obj)} {σ : St} {H : Hp} {s : Shared} {a : Addr} {y v : V} {u r : Value} {A : Around} {E : Value → Shared → Prop} {kvs : List (Key × V)} {k : Key}
end
section
variable {X : Cx} {pins : List (Addr × Obj)} {σ : St} {H : Hp} {s : Shared} {a : Addr} {v d : V} {u r : Value} {A : Around} {E : Value → Shared → Prop} {kvs : List (Key × V)} {k : Key}
end
inductive Mi (CX : CXT) (P : Program) (w : World) (K : SI) (mg : Str → Option Value) (base : Heap) (n : Nat) (E : XK) (tv : TE) (t : TA) (σ : St) (H : Hp) (Q : VK) : Prop
 | mk (h : tv σ H fun x H1=>∃ f fd,x = .ref f ∧ T9 K (.ref f) = true ∧ t σ H1 fun vs H2=>∃ ps sp,AF P w K mg base CX n f fd ps sp ∧ Cz K fd ps [] ∧ sp vs H2 Q E) : Mi CX P w K mg base n E tv t σ H Q
section
variable {X : Cx} {CX : CXT} {n : Nat} {E : XK} {p pos apos cpos : Pos} {e f o i : Expr} {es : List Expr} {td ty tx tv : TE} {t : TA}
theorem MG (P : Program) (w : World) (K : SI) (mg : Str → Option Value) (base : Heap) (hr : Cf n X.A) (hx : FE CX X E) (hv : PE X (.Subscript o i p) tv) (ha : PA X (e :: es) t) (he : starEach (e :: es) X.env = (false,eval e X.env) :: starEach es X.env:=by rfl) (hpl : (backTo pos (starEach es X.env)).any (·.1) = false:=by rfl) (eP : X.prog = P:=by rfl) (eW : X.w = w:=by rfl) (eK : X.K = K:=by rfl) (eM : X.mg = mg:=by rfl) (eB : X.base = base:=by rfl) :
 PE X (.Call (.Subscript o i p) (e :: es) [] pos) (Mi CX P w K mg base n E tv t):=by
 subst eP eW eK eM eB
 rintro pins s σ H Q I ⟨h⟩
 show wpAny _ _ (do let f ← eval (Expr.Subscript o i p) X.env; callWith pos f [] (backTo pos (starEach (e :: es) X.env)) (backToKw pos (keywordEach [] X.env))) _ _ _
 refine wpAny_bind (thn (hv pins s σ H _ I h) fun u s0 ⟨x,H0,I0,r0,f,fd,ex,hk,q⟩=>?_)
 subst ex
 obtain rfl : u = Value.ref f:=r0
 refine Tf (h₀:=X.base) I0.ok.mod.kin hk (thn (ha pos pins s0 σ H0 _ I0 q) fun us s1 ⟨vs,H1,I1,r,ps,sp,F,hb,q1⟩=>⟨I1.kIn,?_⟩) he hpl
 exact Mu F hr hb .nil hx I1 r (by rw [Te]; exact q1)
end
structure FdM (CX : CXT) (P : Program) (w : World) (K : SI) (mg : Str → Option Value) (base : Heap) (n : Nat) (C : Addr) (m : Str) (ps : List Str) (sp : Sp) : Prop where
 ex : ∃ (f : Addr) (fd : FuncData),AF P w K mg base CX n f fd ps sp ∧ Cz K fd ps [] ∧ QT K C m f
structure FdI (CX : CXT) (P : Program) (w : World) (K : SI) (mg : Str → Option Value) (base : Heap) (n : Nat) (C : Addr) (x : Str) (ps : List Str) (sp : Sp) : Prop where
 ex : ∃ (f : Addr) (fd : FuncData),AF P w K mg base CX n f fd ps sp ∧ Cz K fd ps [] ∧ Mk K C f ∧ mg x = some (.ref C)
section
variable {X : Cx} {CX : CXT} {n k : Nat} {C : Addr} {ps : List Str} {sp : Sp} {E : XK} {x m : Str} {p pos apos : Pos} {e o : Expr} {es : List Expr} {ta : TE} {t : TA}
end
section
variable {X : Cx} {o value : Expr} {f : Str} {pos pos' : Pos} {ta tv : TE}
end
end L2
namespace L2
open PySem PySem.Spec PyProof.Rows
section
variable {prog : Program} {w : World} {A : Around} {E : Value → Shared → Prop} {s : Shared}
end
end L2
namespace L2
open PySem PySem.Spec PyProof.Rows
end L2
namespace L2
open PySem PySem.Spec PyProof.Rows
section
variable {prog : Program} {w : World} {A : Around} {E : Value → Shared → Prop} {s : Shared}
end
end L2
namespace L2
open PySem PySem.Spec PyProof.Rows
section
variable {X : Cx} {n k : Nat} {C : Addr} {ps : List Str} {sp : Sp} {E : XK} {x m : Str} {p pos apos : Pos} {e o : Expr} {es : List Expr} {ta : TE} {t : TA}
end
end L2
namespace L2
open PySem PySem.Spec PyProof.Rows
def BD (i : Str) (n : Nat) : Str:=⟨(Tj n i.cps).foldl (· ++ ·) #[]⟩
inductive O4 (x y : V) (H : Hp) (Q : VK) : Prop
 | mk (i : Str) (n : Nat) (h1 : x = .str i) (h2 : y = .int (n : Nat)) (hn : 2 ≤ n) (hi : 1 ≤ i.length) (hl : i.length * n ≤ 100000) (hz : (BD i n).length ≤ sizeLine) (q : Q (.str (BD i n)) H) : O4 x y H Q
theorem ER {X : Cx} : OpR X (binaryOp .Mult) O4:=by
 intro pins s σ H x y v u Q I rx ry h
 obtain ⟨i,n,rfl,rfl,hn,hi,hl,hz,q⟩:=h
 obtain ⟨t,rfl⟩:=rx
 obtain ⟨t',rfl⟩:=ry
 have hn' : n ≤ 100000:=SJ (Nat.le_mul_of_pos_left n hi) hl
 have e1 : ¬ ((n : Int) < 1):=by lia
 have e2 : ((n : Int) == 1 || i.length == 0) = false:=by
  rw [Bool.or_eq_false_iff]
  exact ⟨beq_eq_false_iff_ne.mpr (by lia),beq_eq_false_iff_ne.mpr (by lia)⟩
 refine P.mul_str (by rw [decide_eq_false (show ¬ ((n : Int) < -(2 ^ 63 : Int)) by lia),decide_eq_false (show ¬ ((n : Int) ≥ 2 ^ 63) by lia)]; rfl) (fun _ _=>?_) (fun _ _=>?_) ?_
 ·have h2 : ((i.length * n : Nat) : Int) ≤ ((100000 : Nat) : Int):=Int.ofNat_le.mpr hl
  rw [Int.natCast_mul] at h2
  intro hc
  have:=Int.lt_mul_of_ediv_lt (show (0 : Int) < n by lia) hc
  lia
 ·show decide _ = false
  simp only [TL]
  exact decide_eq_false (by have:=sizeLine_eq; lia)
 ·rw [if_neg e1,if_neg (by rw [e2]; exact Bool.false_ne_true),TL]
  exact ⟨hz,⟨.str (BD i n),H,I.tok _,⟨_,rfl⟩,q⟩⟩
end L2
namespace L2
open PySem PySem.Spec PyProof.Rows
end L2
namespace L2
open PySem PySem.Spec PyProof.Rows
section
variable {X : Cx}
inductive KO (x : V) (vs : List V) (H : Hp) (Q : VK) : Prop
 | mk (l : Addr) (xs : List V) (k : Nat) (y : V) (h1 : x = .ref l) (h2 : vs = [.int (k : Nat),y]) (h3 : H l = some (.lst xs)) (h4 : k ≤ xs.length) (h5 : xs.length < sizeLine) (h6 : Q .non (upd H l (.lst (xs.take k ++ y :: xs.drop k)))) : KO x vs H Q
theorem AH.takeN {vs : List V} {us : List Value} (h : AH vs us) : ∀ k,AH (vs.take k) (us.take k):=by
 induction h with
 | nil=>intro k; cases k <;> exact .nil
 | cons a b ih =>
   intro k
   cases k with
   | zero=>exact .nil
   | succ k=>exact .cons a (ih k)
theorem AH.dropN {vs : List V} {us : List Value} (h : AH vs us) : ∀ k,AH (vs.drop k) (us.drop k):=by
 induction h with
 | nil=>intro k; cases k <;> exact .nil
 | cons a b ih =>
   intro k
   cases k with
   | zero=>exact .cons a b
   | succ k=>exact ih k
theorem MV {prog : Program} {w : World} {A : Around} {E : Value → Shared → Prop} {s : Shared} {Q : Value → Shared → Prop} {l : Addr} {x : Value} {u : Value} {S : PySem.Spec} (T1 : s.TypeIs (.ref l) "list") (M : Meets (Builtin.«list.insert» ⟨[.ref l,x,u],[]⟩) S) (hS : S A (wants Q E) s) : wpAny (model prog w) A (call (.builtin "list.insert") [.ref l,x,u]) Q E s :=
 @call_meets prog w A E s _ _ _ _ _ _ _ _ F.slot_list_insert T1 F.entry_list_insert (F.args_list_insert_3 (.ref l) x u) M hS
theorem HM : MtM X "list.insert" KO:=by
 intro pins s σ H x vs v us Q I rx rv h
 obtain ⟨l,xs,k,y,rfl,rfl,hH,hk,hz,q⟩:=h
 cases rx
 obtain ⟨ui,u,rfl,ri,ru⟩:=J8 rv
 obtain ⟨t,rfl⟩:=ri
 obtain ⟨z,its,n,r,hl,e⟩:=I.lstM hH
 have hsl:=sizeLine_eq
 have hfit : ¬ (!Builtin.List.listFitsIndex (k : Int)) = true:=by
  have : Builtin.List.listFitsIndex (k : Int) = true:=by
   unfold Builtin.List.listFitsIndex
   rw [Bool.and_eq_true]
   exact ⟨decide_eq_true (by lia),decide_eq_true (by lia)⟩
  rw [this]; exact Bool.false_ne_true
 have hsz : its.toArray.size ≤ sizeLine:=by rw [TK,← hl]; exact z
 refine MV ⟨_,e,rfl⟩ (@AutoSeq1.list_insert_list_int_val_1 l its.toArray n _ _ u hfit hsz) (And.intro e ?_)
 refine ⟨.non,_,I.lset (its':=its.take k ++ u :: its.drop k) hH e ?_ ((r.takeN k).append (.cons ru (r.dropN k))) ?_,rfl,q⟩
 ·have e1 : ¬ ((k : Int) < 0):=by lia
  have e2 : min (k : Int).toNat its.length = k:=by rw [TL]; lia
  simp only [e1,if_false,TK,e2]
  apply Array.toList_inj.mp
  simp [Uw]
 ·rw [Tz,U9,Tp,TN]; lia
end
theorem Pn {l : Option Int} {k len : Nat} (h : len ≤ k) : Builtin.Str.strSliceIndices l (some (k : Int)) 1 len = Builtin.Str.strSliceIndices l (some (len : Int)) 1 len:=by
 have a : ¬ ((k : Int) < 0):=by lia
 have b : ¬ ((len : Int) < 0):=by lia
 have c : min (k : Int) len = len:=by lia
 simp [Builtin.Str.strSliceIndices,a,b,c]
theorem OX {u : Option Int} {k len : Nat} (h : len ≤ k) : Builtin.Str.strSliceIndices (some (k : Int)) u 1 len = Builtin.Str.strSliceIndices (some (len : Int)) u 1 len:=by
 have a : ¬ ((k : Int) < 0):=by lia
 have b : ¬ ((len : Int) < 0):=by lia
 have c : min (k : Int) len = len:=by lia
 simp [Builtin.Str.strSliceIndices,a,b,c]
theorem Pl (y : Str) (k : Nat) : (Builtin.Str.strSliceIndices none (some (k : Int)) 1 y.length).filterMap (y.cps[·]?) = (sg y).take k ∧ (Builtin.Str.strSliceIndices none (some (k : Int)) 1 y.length).length = ((sg y).take k).length:=by
 rw [StrLaws.sliceIdx_none_lo]
 have key : ∀ b,b ≤ y.length → (Builtin.Str.strSliceIndices (some 0) (some (b : Int)) 1 y.length).filterMap (y.cps[·]?) = (sg y).take b ∧ (Builtin.Str.strSliceIndices (some 0) (some (b : Int)) 1 y.length).length = ((sg y).take b).length:=fun b hb=>by
  have e1:=StrLaws.sliced_plain y (a:=0) (b:=b) (T5 _) hb
  have e2:=StrLaws.strSliceIndices_plain (a:=0) (b:=b) (len:=y.length) (T5 _) hb
  refine ⟨e1,?_⟩
  rw [show (0 : Int) = ((0 : Nat) : Int) from rfl,e2,TC,UB,Tp,← Ai]; lia
 by_cases h : k ≤ y.length
 ·exact key k h
 ·rw [Pn (by lia)]
  have e:=key y.length (T2 _)
  rw [show (sg y).take k = (sg y).take y.length by rw [Uw (by rw [← Ai]; lia),Uw (by rw [← Ai]; lia)]]
  exact e
theorem MW (y : Str) (k : Nat) : (Builtin.Str.strSliceIndices (some (k : Int)) none 1 y.length).filterMap (y.cps[·]?) = (sg y).drop k ∧ (Builtin.Str.strSliceIndices (some (k : Int)) none 1 y.length).length = ((sg y).drop k).length:=by
 rw [StrLaws.sliceIdx_none_hi]
 have key : ∀ a,a ≤ y.length → (Builtin.Str.strSliceIndices (some (a : Int)) (some (y.length : Int)) 1 y.length).filterMap (y.cps[·]?) = (sg y).drop a ∧ (Builtin.Str.strSliceIndices (some (a : Int)) (some (y.length : Int)) 1 y.length).length = ((sg y).drop a).length:=fun a ha=>by
  have e1:=StrLaws.sliced_plain y (a:=a) (b:=y.length) ha (T2 _)
  have e2:=StrLaws.strSliceIndices_plain (a:=a) (b:=y.length) (len:=y.length) ha (T2 _)
  refine ⟨?_,?_⟩
  ·rw [e1]
   exact Uw (by show ((sg y).drop a).length ≤ _; rw [TN,← Ai]; lia)
  ·rw [e2,TC,UB,TN,← Ai]
 by_cases h : k ≤ y.length
 ·exact key k h
 ·rw [OX (by lia)]
  have e:=key y.length (T2 _)
  rw [show (sg y).drop k = (sg y).drop y.length by rw [List.drop_eq_nil_of_le (by rw [← Ai]; lia),List.drop_eq_nil_of_le (by rw [← Ai]; lia)]]
  exact e
inductive Oy (x : V) (lo : Option Int) (hi : Option Int) (H : Hp) (Q : VK) : Prop
 | to (y : Str) (k : Nat) (h1 : x = .str y) (h2 : lo = none) (h3 : hi = some (k : Nat)) (h5 : y.length ≤ sizeLine) (h6 : Q (.str ⟨((sg y).take k).toArray⟩) H) : Oy x lo hi H Q
 | frm (y : Str) (k : Nat) (h1 : x = .str y) (h2 : lo = some (k : Nat)) (h3 : hi = none) (h5 : y.length ≤ sizeLine) (h6 : Q (.str ⟨((sg y).drop k).toArray⟩) H) : Oy x lo hi H Q
theorem Ee {X : Cx} : SlR X Oy:=by
 intro pins s σ H x v vl vu lo hi sl Q I rx hs pl pu h
 have hfin : ∀ (y : Str) (t : Tok) (is : List Nat) (l : List Nat),is.filterMap (y.cps[·]?) = l → is.length = l.length → (l.length = (sg y).length → l = sg y) → l.length ≤ sizeLine → Q (.str ⟨l.toArray⟩) H →
  (if (true && is.length == y.length) = true then Made.val (.str y t) else Made.str ⟨(is.filterMap (y.cps[·]?)).toArray⟩).post (EP X pins σ Q) s:=fun y t is l e1 e2 e3 e4 q=>by
  by_cases hc : is.length = y.length
  ·rw [if_pos (by rw [Bool.true_and]; exact beq_iff_eq.mpr hc)]
   have el:=e3 (by rw [← e2,hc,Ai])
   have ey : (⟨l.toArray⟩ : Str) = y:=BU (by rw [el]; simp [sg])
   rw [ey] at q
   exact ⟨.str y,H,I,⟨t,rfl⟩,q⟩
  ·rw [if_neg (by rw [Bool.true_and]; exact fun z=>hc (beq_iff_eq.mp z)),e1]
   exact ⟨by show l.toArray.size ≤ sizeLine; simpa using e4,⟨.str ⟨l.toArray⟩,H,I.tok _,⟨_,rfl⟩,q⟩⟩
 cases h with
 | to y k h1 h2 h3 hy q =>
   subst h1 h2 h3
   obtain ⟨t,rfl⟩:=rx
   cases pl
   cases pu with
   | int i u =>
     obtain ⟨e1,e2⟩:=Pl y k
     refine ⟨"str",_,F.slot_str_getitem.lookup,typeIs_str s y t,?_⟩
     refine wpAny_getItem_str_slice (l:=none) (u:=some ((k : Int),u)) (st:=none) hs rfl ?_
     unfold sliceMade slicePicked
     exact hfin y t _ _ e1 e2 (fun z=>Uw (by rw [Tp] at z; lia)) (by rw [Tp,← Ai]; lia) q
 | frm y k h1 h2 h3 hy q =>
   subst h1 h2 h3
   obtain ⟨t,rfl⟩:=rx
   cases pl with
   | int i u =>
     cases pu
     obtain ⟨e1,e2⟩:=MW y k
     refine ⟨"str",_,F.slot_str_getitem.lookup,typeIs_str s y t,?_⟩
     refine wpAny_getItem_str_slice (l:=some ((k : Int),u)) (u:=none) (st:=none) hs rfl ?_
     unfold sliceMade slicePicked
     refine hfin y t _ _ e1 e2 (fun z=>?_) (by rw [TN,← Ai]; lia) q
     rw [TN] at z
     by_cases hk : k = 0
     ·rw [hk]; rfl
     ·have : (sg y).length = 0:=by lia
      rw [UM.mp this]; simp
theorem LO {x : Str} {js : List Nat} {tc : TT} {te : TE} {σ : St} {H : Hp} {Fin : List V → Hp → Prop} (Pv : Nat → List V → Hp → Prop) (h0 : Pv 0 [] H) (hl : ∀ i zs H,i ≤ (sg x).length → Pv i zs H → zs.length ≤ i) (hz : (sg x).length ≤ sizeLine)
 (hs : ∀ i c zs H,(sg x)[i]? = some c → Pv i zs H → tc ((cS 1 js σ).set 0 (some (.str ⟨#[c]⟩))) H fun b H3=>if b = true then te ((cS 1 js σ).set 0 (some (.str ⟨#[c]⟩))) H3 fun y H4=>Pv (i + 1) (zs ++ [y]) H4 else Pv (i + 1) zs H3) (fin : ∀ zs H',Pv (sg x).length zs H' → Fin zs H') :
 ∃ (n' : Nat) (W : Nat → List V → Hp → Prop),W 0 [] H ∧ LcW (Its x) n' 1 js σ (Ck 0) tc te Fin W:=by
 refine ⟨(sg x).length,Pv,h0,⟨?_,?_,?_⟩⟩
 ·intro i zs H' hi p
  have h2:=hl i zs H' (SK hi) p
  exact ⟨hi,by lia⟩
 ·rintro i zs H' v H1 hi p ⟨rfl,c,hc,rfl⟩
  exact hs i c zs _ hc p
 ·intro zs H' p
  have h2:=hl _ zs H' (T2 _) p
  exact ⟨T2 _,by lia,fin zs H' p⟩
def tBv (P : Program) (w : World) (K : SI) (mg : Str → Option Value) (base : Heap) (n : Nat) (tv : TE) (t : TA) (j : Nat) : TB:=fun nx E σ H=>tv σ H fun x H1=>∃ f fd,x = .ref f ∧ T9 K (.ref f) = true ∧ t σ H1 fun vs H2=>∃ ps sp,AF P w K mg base (CX2 P w) n f fd ps sp ∧ Cz K fd ps [] ∧ sp vs H2 (fun v H3=>nx (σ.set j (some v)) H3) E
theorem Nr {X : Cx} {n j : Nat} {p pos yp spos : Pos} {e o i : Expr} {es : List Expr} {tv : TE} {t : TA} {y : Str} (P : Program) (w : World) (K : SI) (mg : Str → Option Value) (base : Heap) (hr : Cf n X.A) (hv : PE X.nox (.Subscript o i p) tv) (ha : PA X.nox (e :: es) t) (nd : X.N.Nodup) (hj : X.N[j]? = some y) (hy : Loc X.env.scope y)
 (hs : swapsWith (.Call (.Subscript o i p) (e :: es) [] pos) (some (.Name y yp)) spos.line X.env = pure false:=by rfl) (hf : X.fn y = true ∨ X.env.scope.names.lookup y = some .local:=by first | exact .inl rfl | exact .inr rfl | assumption)
 (he : starEach (e :: es) X.env = (false,eval e X.env) :: starEach es X.env:=by rfl) (hpl : (backTo pos (starEach es X.env)).any (·.1) = false:=by rfl) (eP : X.prog = P:=by rfl) (eW : X.w = w:=by rfl) (eK : X.K = K:=by rfl) (eM : X.mg = mg:=by rfl) (eB : X.base = base:=by rfl) :
 PB X [.Assign [.Name y yp] (.Call (.Subscript o i p) (e :: es) [] pos) spos] (tBv P w K mg base n tv t j):=by
 subst eP eW eK eM eB
 intro pins s σ H nx E I h
 have run : wpAny (model X.prog X.w) X.A (eval (.Call (.Subscript o i p) (e :: es) [] pos) X.env) (EP X pins σ fun v H3=>nx (σ.set j (some v)) H3) (fun e s2=>∃ H1 s1,Inv X pins σ H1 s1 ∧ CX2 X.prog X.w X.stack H1 s1 E e s2) s:=by
  show wpAny _ _ (do let f ← eval (Expr.Subscript o i p) X.env; callWith pos f [] (backTo pos (starEach (e :: es) X.env)) (backToKw pos (keywordEach [] X.env))) _ _ _
  refine wpAny_bind (wpAny_mono (hv pins s σ H _ (I.wish _) h) (fun u s0 ⟨x,H0,I0,r0,f,fd,ex,hk,q⟩=>?_) fun _ _ z=>False.elim z)
  subst ex
  obtain rfl : u = Value.ref f:=r0
  refine Tf (h₀:=X.base) I.ok.mod.kin hk (wpAny_mono (ha pos pins s0 σ H0 _ I0 q) (fun us s1 ⟨vs,H1,I1,r,ps,sp,F1,F2,q1⟩=>⟨I1.unwish.kIn,?_⟩) fun _ _ z=>False.elim z) he hpl
  have I1:=I1.unwish
  have hlen : us.length = ps.length:=by rw [← r.length]; exact F1.len _ _ _ _ q1
  have hb':=F2 s1 us I1.kIn (by rw [Te]; exact hlen)
  rw [Te] at hb'
  refine wpAny_call (codeAny_mono (F1.run X.A X.stack s1 H1 ⟨us,[]⟩ us vs _ _ hr I1.env0 hb' r q1) fun r s2 hq=>?_)
  cases r with
  | error e=>exact ⟨H1,s1,I1,hq⟩
  | ok fl =>
    cases fl with
    | ret u=>exact I1.after hq
    | next=>exact False.elim hq
    | brk=>exact False.elim hq
    | cont=>exact False.elim hq
 exact wpAny_execs_cons (wpAny_Assign_Name (thn run fun v s1 ⟨z,H1,I1,r1,q1⟩=>Dp I1 nd hj hy r1 (fun s2 I2=>wpAny_execs_nil ⟨rfl,_,H1,I2,q1⟩) hf) hs)
end L2
namespace L2
open PySem PySem.Spec PyProof.Rows
@[irreducible] def KP (K : SI) : R2:=fun x y H Q=>∃ p ds d,y = .ref p ∧ Rds K H (.ref p) (.tuple ds) ∧ Rds K H x d ∧ SeqAt.shaped (.tuple ds) = true ∧ SeqAt.shaped d = true ∧ Q (.bl (ds.any fun y=>PyData.eqv y d)) H
theorem NH {K : SI} {x y : V} {H : Hp} {Q : VK} (h : ∃ p ds d,y = .ref p ∧ Rds K H (.ref p) (.tuple ds) ∧ Rds K H x d ∧ SeqAt.shaped (.tuple ds) = true ∧ SeqAt.shaped d = true ∧ Q (.bl (ds.any fun y=>PyData.eqv y d)) H) : KP K x y H Q:=by
 unfold KP; exact h
theorem QN {X : Cx} (K : SI) {k : Nat} (hr : Cf k X.A) (e : X.K = K:=by rfl) : OpR X (compareOp .In) (KP K):=by
 subst e
 intro pins s σ H x y v u Q I rx ry h
 unfold KP at h
 obtain ⟨p,ds,d,rfl,r1,r2,h1,h2,q⟩:=h
 cases ry
 obtain ⟨as,q1⟩:=BV I r1 (u:=.ref p) rfl
 obtain ⟨bs,q2⟩:=BV I r2 rx
 exact SeqAt.in_tuple_reads q1 q2 (SeqAt.canLay_of_shaped h1) (SeqAt.canLay_of_shaped h2) (PyProof.Rows.room_in_shaped h2 (by have:=hr.un; lia)) ⟨.bl _,H,I,rfl,q⟩
end L2
namespace Pf
set_option maxHeartbeats 4000000
open PySem L2
def top (i : Nat) : Stmt:=PySem.Challenge.pw_onecurve_k61_bent_texts.main.body.getD i (.Pass ⟨0,0,0,0⟩)
theorem GX {a1 : Type} {p : a1 → Prop} {G : Prop} (h : ∃ x1,p x1) (f : ∀ x1,p x1 → G) : G:=Exists.elim h f
theorem FW {a1 a2 : Type} {p : a1 → a2 → Prop} {G : Prop} (h : ∃ x1 x2,p x1 x2) (f : ∀ x1 x2,p x1 x2 → G) : G:=Exists.elim h fun x1 h=>GX h (f x1)
theorem IS {a1 a2 a3 : Type} {p : a1 → a2 → a3 → Prop} {G : Prop} (h : ∃ x1 x2 x3,p x1 x2 x3) (f : ∀ x1 x2 x3,p x1 x2 x3 → G) : G:=Exists.elim h fun x1 h=>FW h (f x1)
theorem NJ {a1 a2 a3 a4 : Type} {p : a1 → a2 → a3 → a4 → Prop} {G : Prop} (h : ∃ x1 x2 x3 x4,p x1 x2 x3 x4) (f : ∀ x1 x2 x3 x4,p x1 x2 x3 x4 → G) : G:=Exists.elim h fun x1 h=>IS h (f x1)
theorem HD {A1 A2 G : Prop} (h : A1 ∧ A2) (f : A1 → A2 → G) : G:=f h.1 h.2
theorem DK {A1 A2 A3 G : Prop} (h : A1 ∧ A2 ∧ A3) (f : A1 → A2 → A3 → G) : G:=HD h.2 (f h.1)
theorem E6 {A1 A2 A3 A4 G : Prop} (h : A1 ∧ A2 ∧ A3 ∧ A4) (f : A1 → A2 → A3 → A4 → G) : G:=DK h.2 (f h.1)
theorem Qv {A1 A2 A3 A4 A5 G : Prop} (h : A1 ∧ A2 ∧ A3 ∧ A4 ∧ A5) (f : A1 → A2 → A3 → A4 → A5 → G) : G:=E6 h.2 (f h.1)
theorem Qu {A1 A2 A3 A4 A5 A6 G : Prop} (h : A1 ∧ A2 ∧ A3 ∧ A4 ∧ A5 ∧ A6) (f : A1 → A2 → A3 → A4 → A5 → A6 → G) : G:=Qv h.2 (f h.1)
inductive Ed (K : SI) (vs : List V) (H : Hp) (Q : VK) (E_3 : XK) : Prop
 | mk (r : Addr) (xs : List V) (qs : List Rat) (h1 : vs = [.ref r]) (h2 : SqL K H r xs) (h3 : By K H xs qs) (h4 : qs.length ≤ 1000) (h5 : ∀ p H',Ad H H' → Crv K H' p (Cv.strip qs) → Q (.ref p) H') : Ed K vs H Q E_3
inductive Ip (K : SI) (n : Nat) (vs : List V) (H : Hp) (Q : VK) (E_3 : XK) : Prop
 | mk (a : Addr) (most : Int) (h1 : vs = [.ref a,.int most]) (h2 : Pen H a) (h3 : 0 ≤ most) (h4 : most ≤ 100) (h5 : ∀ (qs : List Rat) (r : Addr) (H' : Hp),Mv a H H' → Pen H' a → Crv K H' r qs → PN qs → (qs.length : Int) ≤ most → (∀ q ∈ qs,RB n q) → Q (.ref r) H') : Ip K n vs H Q E_3
def DM (ps : List Rat) : List Kv:=(SA (ps.length - 1)).map fun k : Nat=>(⟨ps.getD 0 0,(k : Int),ps.getD (k + 1) 0⟩ : Kv)
def BI (pss : List (List Rat)) : List Kv:=(pss.map DM).flatten
theorem Bs (ps : List Rat) : (DM ps).length = ps.length - 1:=by unfold DM; rw [TC,UB]
theorem E8 (pss : List (List Rat)) (ps : List Rat) : BI (pss ++ [ps]) = BI pss ++ DM ps:=by
 unfold BI
 rw [UK,List.flatten_append]
 simp
theorem CQ : ∀ pss : List (List Rat),(∀ ps ∈ pss,ps.length ≤ 3) → (BI pss).length ≤ 2 * pss.length
 | [],_=>T2 _
 | p :: r,h=>by
   have ih:=CQ r fun ps hp=>h ps (SO _ hp)
   have hp:=h p SN
   have e : BI (p :: r) = DM p ++ BI r:=rfl
   rw [e,Tz,Bs,U9]
   lia
def P23 (pss : List (List Rat)) : Prop:=∀ ps ∈ pss,ps.length = 2 ∨ ps.length = 3
theorem P23.take {pss : List (List Rat)} (h : P23 pss) (i : Nat) : ∀ ps ∈ pss.take i,ps.length ≤ 3:=fun ps hp=>by
 have:=h ps (V6 hp); lia
theorem getD_some {l : List Rat} {i : Nat} (h : i < l.length) : l[i]? = some (l.getD i 0):=by rw [Ug,Uo h]; rfl
def cnt (x : Rat) : List Rat → Nat
 | []=>0
 | y :: r=>(if x ≤ y then 1 else 0) + cnt x r
theorem N2 (x : Rat) : ∀ l,cnt x l ≤ l.length
 | []=>T2 _
 | y :: r=>by
   have:=N2 x r
   show (if x ≤ y then 1 else 0) + cnt x r ≤ r.length + 1
   split <;> lia
theorem Mw (x : Rat) : x ≤ x + 1:=by grind
theorem Ov (x : Rat) : ¬ x + 1 ≤ x:=by grind
theorem JQ (x : Rat) : ∀ l,cnt (x + 1) l ≤ cnt x l
 | []=>T2 _
 | y :: r=>by
   have:=JQ x r
   show (if x + 1 ≤ y then 1 else 0) + cnt (x + 1) r ≤ (if x ≤ y then 1 else 0) + cnt x r
   by_cases h : x + 1 ≤ y
   ·rw [if_pos h,if_pos (Rat.le_trans (Mw x) h)]; lia
   ·rw [if_neg h]; lia
theorem Kq {x : Rat} : ∀ {l},x ∈ l → cnt (x + 1) l < cnt x l
 | y :: r,h=>by
   show (if x + 1 ≤ y then 1 else 0) + cnt (x + 1) r < (if x ≤ y then 1 else 0) + cnt x r
   rcases SQ.mp h with z | z
   ·subst z
    have:=JQ x r
    rw [if_neg (Ov x),if_pos Rat.le_refl]; lia
   ·have:=Kq z
    by_cases h : x + 1 ≤ y
    ·rw [if_pos h,if_pos (Rat.le_trans (Mw x) h)]; lia
    ·rw [if_neg h]; lia
theorem Ou {j : Nat} (h : j ≤ 100) : RB 7 ((j : Nat) : Rat):=⟨by rw [Rat.num_natCast]; unfold Bd; lia,by rw [Rat.den_natCast]; unfold Bd; decide⟩
inductive Fm (K : SI) (n : Nat) (vs : List V) (H : Hp) (Q : VK) (E_3 : XK) : Prop
 | mk (a : Addr) (m : Int) (h1 : vs = [.ref a,.int m]) (h2 : Pen H a) (h3 : 0 ≤ m) (h4 : m ≤ 100) (h5 : ∀ (l : Addr) (H' : Hp) (zs : List V) (qs : List Rat),Mv a H H' → Pen H' a → H l = none → H' l = some (.lst zs) → AM H' zs qs → (qs.length : Int) = m → qs.Nodup → (∀ q ∈ qs,RB (n + 8) q) → Q (.ref l) H') : Fm K n vs H Q E_3
inductive Fl (K : SI) (n : Nat) (vs : List V) (H : Hp) (Q : VK) (E_3 : XK) : Prop
 | mk (a : Addr) (most : Int) (h1 : vs = [.ref a,.int most]) (h2 : Pen H a) (h3 : 1 ≤ most) (h4 : most ≤ 100) (h5 : ∀ (r : Addr) (H' : Hp) (xs : List V) (pss : List (List Rat)),Mv a H H' → Pen H' a → SqT K H' r xs → Bo K H' xs pss → P23 pss → (∀ ps ∈ pss,∀ q ∈ ps,RB (n + 8) q) → 1 ≤ pss.length → (pss.length : Int) ≤ most → ((BI pss).length : Int) ≤ most → (pss.map fun ps=>ps.getD 0 0).Nodup → Q (.ref r) H') : Fl K n vs H Q E_3
inductive FX (K : SI) (vs : List V) (H : Hp) (Q : VK) (E_3 : XK) : Prop
 | mk (r : Addr) (xs : List V) (pss : List (List Rat)) (h1 : vs = [.ref r]) (h2 : SqT K H r xs) (h3 : Bo K H xs pss) (h4 : P23 pss) (h5 : pss.length ≤ 100) (h6 : ∀ (p : Addr) (H' : Hp) (ys : List V),Ad H H' → H p = none → H' p = some (.lst ys) → Hd K H' ys (BI pss) → Q (.ref p) H') : FX K vs H Q E_3
theorem E9 : ∀ {pss : List (List Rat)},P23 pss → pss.length ≤ (BI pss).length
 | [],_=>T2 _
 | p :: r,h=>by
   have ih:=E9 (pss:=r) fun ps hp=>h ps (SO _ hp)
   have hp:=h p SN
   have e : BI (p :: r) = DM p ++ BI r:=rfl
   rw [e,Tz,Bs,U9]
   lia
inductive Ec (K : SI) (vs : List V) (H : Hp) (Q : VK) (E_3 : XK) : Prop
 | mk (b : Bool) (r : Addr) (xs : List V) (pss : List (List Rat)) (h1 : vs = [.ref r]) (h2 : Sq b K H r xs) (h3 : Bo K H xs pss) (h4 : P23 pss) (h5 : 1 ≤ pss.length) (h6 : (pss.map fun ps=>ps.getD 0 0).Nodup) (h7 : (BI pss).length ≤ 12) (h8 : ∀ (p : Addr) (H' : Hp),Ad H H' → SqT K H' p xs → (b = false → p = r) → Q (.ref p) H') : Ec K vs H Q E_3
theorem Sq.len {b : Bool} {K : SI} {H : Hp} {r : Addr} {xs : List V} (h : Sq b K H r xs) : SqL K H r xs ∨ SqT K H r xs:=by
 cases b
 ·exact .inr h
 ·exact .inl h
inductive Ea (K : SI) (vs : List V) (H : Hp) (Q : VK) (E_3 : XK) : Prop
 | mk (l : Addr) (ys : List V) (qs : List Rat) (h1 : vs = [.ref l]) (h2 : SqL K H l ys) (h3 : AM H ys qs) (h4 : qs.length ≤ 17) (h5 : ∀ H',Ad H H' → Q (.bl (decide qs.Nodup)) H') : Ea K vs H Q E_3
inductive Wh (K : SI) (H : Hp) : V → Bool → Prop where
 | int (i : Int) : Wh K H (.int i) true
 | bl (b : Bool) : Wh K H (.bl b) false
 | oth {x : V} {t : Value} (ty : TyX K H x t) (h : Tb K t (.type "int") = some false) : Wh K H x false
inductive Nb (K : SI) (H : Hp) : V → Bool → Prop where
 | no {x : V} {t : Value} (ty : TyX K H x t) (h : Tb K t (.type "tuple") = some false) : Nb K H x false
 | len {a : Addr} {xs : List V} (h : SqT K H a xs) (hl : xs.length ≠ 2) : Nb K H (.ref a) false
 | one {a : Addr} {p q : V} (h : SqT K H a [p,q]) (w : Wh K H p false) : Nb K H (.ref a) false
 | two {a : Addr} {i : Int} {q : V} (h : SqT K H a [.int i,q]) (w : Wh K H q false) : Nb K H (.ref a) false
 | nums {a : Addr} {i j : Int} {b : Bool} (h : SqT K H a [.int i,.int j]) (e : b = (decide (1 ≤ j) && decide ((U4 i j : Int) = 1))) : Nb K H (.ref a) b
inductive Pb (K : SI) (H : Hp) : V → Bool → Prop where
 | no {x : V} {t : Value} (ty : TyX K H x t) (h : Tb K t (.type "tuple") = some false) : Pb K H x false
 | len {a : Addr} {xs : List V} (h : SqT K H a xs) (h2 : xs.length ≠ 2) (h3 : xs.length ≠ 3) : Pb K H (.ref a) false
 | all {a : Addr} {xs : List V} {bs : List Bool} (h : SqT K H a xs) (h23 : xs.length = 2 ∨ xs.length = 3) (hb : Paired (Nb K H) xs bs) : Pb K H (.ref a) (bs.all id)
theorem TyX.same {K : SI} {H H' : Hp} {x : V} {t : Value} (h : TyX K H x t) (e : Ad H H') : TyX K H' x t:=by
 cases h with
 | of ty=>exact .of (by
  cases ty with
  | non=>exact .non
  | bl x=>exact .bl x
  | int i=>exact .int i
  | str x=>exact .str x
  | flt x=>exact .flt x
  | lst q=>exact .lst (e _ _ q)
  | frz q=>exact .frz (e _ _ q)
  | tup q=>exact .tup (e _ _ q)
  | dK q=>exact .dK (e _ _ q)
  | dT q=>exact .dT (e _ _ q)
  | ins q a b c d f=>exact .ins (e _ _ q) a b c d f)
 | tup q=>exact .tup (q.same e)
 | lst q=>exact .lst (Ad.seq e q)
theorem Wh.same {K : SI} {H H' : Hp} {x : V} {b : Bool} (h : Wh K H x b) (e : Ad H H') : Wh K H' x b:=by
 cases h with
 | int i=>exact .int i
 | bl b=>exact .bl b
 | oth ty k=>exact .oth (TyX.same ty e) k
theorem Nb.same {K : SI} {H H' : Hp} {x : V} {b : Bool} (h : Nb K H x b) (e : Ad H H') : Nb K H' x b:=by
 cases h with
 | no ty k=>exact .no (TyX.same ty e) k
 | len q l=>exact .len (q.same e) l
 | one q w=>exact .one (q.same e) (w.same e)
 | two q w=>exact .two (q.same e) (w.same e)
 | nums q k=>exact .nums (q.same e) k
theorem Pb.same {K : SI} {H H' : Hp} {x : V} {b : Bool} (h : Pb K H x b) (e : Ad H H') : Pb K H' x b:=by
 cases h with
 | no ty k=>exact .no (TyX.same ty e) k
 | len q l2 l3=>exact .len (q.same e) l2 l3
 | all q l hb=>exact .all (q.same e) l (Paired.mapP hb fun _ _ z=>z.same e)
theorem Nb.of {K : SI} {H : Hp} {x : V} {q : Rat} (h : Be K H x q) : Nb K H x true:=by
 obtain ⟨r,rfl,hS⟩:=h
 refine .nums hS ?_
 have h1 : 1 ≤ (q.den : Int):=by have:=q.den_pos; lia
 have h2 : (U4 q.num (q.den : Int) : Int) = 1:=by
  have:=q.reduced
  show ((V7 q.num.natAbs (q.den : Int).natAbs : Nat) : Int) = 1
  rw [Int.natAbs_natCast]
  exact_mod_cast this
 rw [decide_eq_true h1,decide_eq_true h2]
 rfl
theorem Nb.all {K : SI} {H : Hp} {xs : List V} {qs : List Rat} (h : By K H xs qs) : Paired (Nb K H) xs (Tj qs.length true):=by
 induction h with
 | nil=>exact .nil
 | cons a _ ih=>exact .cons (Nb.of a) ih
theorem Ha (n : Nat) : (Tj n true).all id = true:=by
 induction n with
 | zero=>rfl
 | succ n ih=>rw [TU,List.all_cons,ih]; rfl
theorem Pb.of {K : SI} {H : Hp} {x : V} {ps : List Rat} (h : PtV K H x ps) (h23 : ps.length = 2 ∨ ps.length = 3) : Pb K H x true:=by
 obtain ⟨a,rfl,xs,hS,hn⟩:=h
 have:=Pb.all hS (by rw [hn.length]; exact h23) (Nb.all hn)
 rw [Ha] at this
 exact this
inductive Mn (K : SI) (vs : List V) (H : Hp) (Q : VK) (E_3 : XK) : Prop
 | mk (x : _) (b : _) (h1 : vs = [x]) (h2 : Wh K H x b) (h3 : Q (.bl b) H) : Mn K vs H Q E_3
inductive KL (K : SI) (vs : List V) (H : Hp) (Q : VK) (E_3 : XK) : Prop
 | mk (x : _) (b : _) (h1 : vs = [x]) (h2 : Nb K H x b) (h3 : Q (.bl b) H) : KL K vs H Q E_3
inductive KJ (K : SI) (vs : List V) (H : Hp) (Q : VK) (E_3 : XK) : Prop
 | mk (x : _) (b : _) (h1 : vs = [x]) (h2 : Pb K H x b) (h3 : ∀ H',Ad H H' → Q (.bl b) H') : KJ K vs H Q E_3
inductive Hg (K : SI) (H : Hp) : V → Prop where
 | no {x : V} {t : Value} (ty : TyP K H x t) (h : PySem.W.kitAny K t [.type "list",.type "tuple"] = some false) : Hg K H x
 | nil {b : Bool} {r : Addr} (h : Sq b K H r []) : Hg K H (.ref r)
 | pt {b : Bool} {r : Addr} {xs : List V} {bs : List Bool} (h : Sq b K H r xs) (hp : Paired (Pb K H) xs bs) (hb : bs.all id = false) (h17 : xs.length ≤ 17) : Hg K H (.ref r)
 | twice {b : Bool} {r : Addr} {xs : List V} {pss : List (List Rat)} (h : Sq b K H r xs) (hp : Bo K H xs pss) (h23 : P23 pss) (hnd : ¬ (pss.map fun ps=>ps.getD 0 0).Nodup) (h17 : pss.length ≤ 17) : Hg K H (.ref r)
def NT (K : SI) (H : Hp) (x : V) : Prop:=∃ (b : Bool) (r : Addr) (xs : List V) (pss : List (List Rat)),x = .ref r ∧ Sq b K H r xs ∧ Bo K H xs pss ∧ P23 pss ∧ 1 ≤ pss.length ∧ (pss.map fun ps=>ps.getD 0 0).Nodup ∧ 12 < (BI pss).length ∧ pss.length ≤ 17
inductive Fj (K : SI) (CP CM : Addr) (vs : List V) (H : Hp) (E_2 : VK) (E : XK) : Prop
 | mk (x : V) (h1 : vs = [x]) (h2 : ((Hg K H x ∧ ∀ H',Ad H H' → E (.ref CP) none H') ∨ (NT K H x ∧ ∀ H',Ad H H' → E (.ref CM) none H'))) : Fj K CP CM vs H E_2 E
theorem TyP.same {K : SI} {H H' : Hp} {x : V} {t : Value} (h : TyP K H x t) (e : Ad H H') : TyP K H' x t:=by
 cases h with
 | non=>exact .non
 | bl x=>exact .bl x
 | int i=>exact .int i
 | str x=>exact .str x
 | lst q=>exact .lst (Ad.seq e q)
 | tup q=>exact .tup (q.same e)
 | dK q=>exact .dK (e _ _ q)
 | dT q=>exact .dT (e _ _ q)
theorem MH {K : SI} {H : Hp} {xs : List V} {pss : List (List Rat)} (h : Bo K H xs pss) (h23 : P23 pss) : Paired (Pb K H) xs (Tj pss.length true):=by
 induction h with
 | nil=>exact .nil
 | cons a _ ih=>exact .cons (Pb.of a.pt (h23 _ SN)) (ih fun ps hp=>h23 ps (SO _ hp))
theorem NM {K : SI} {H : Hp} {a b : Addr} {xs ys : List V} {Q : VK} (ha : SqT K H a xs) (hb : SqT K H b ys) (hl : xs.length + ys.length ≤ sizeLine) (h : ∀ (p : Addr) (H' : Hp),Ad H H' → SqT K H' p (xs ++ ys) → Q (.ref p) H') : Kb K (.ref a) (.ref b) H Q:=by
 by_cases ex : xs = []
 ·subst ex
  exact .inr ⟨a,b,ys,rfl,rfl,ha,hb,h b H (Ad.refl _) hb⟩
 ·refine .inl ⟨a,b,xs,ys,rfl,rfl,ha,hb,ex,hl,fun ey=>?_,fun _ p hp=>h p _ (Ad.new hp) (SqT.of A9)⟩
  subst ey
  exact h a H (Ad.refl _) (by rw [Te]; exact ha)
structure Pok (K : SI) (H : Hp) (r : Addr) (xs : List V) (pss : List (List Rat)) : Prop where
 S : SqT K H r xs
 P : Bo K H xs pss
 h23 : P23 pss
 h1 : 1 ≤ pss.length
 nd : (pss.map fun ps=>ps.getD 0 0).Nodup
 h12 : (BI pss).length ≤ 12
inductive Na (K : SI) (H : Hp) (pss : List (List Rat)) : V → Nat → Prop where
 | pt {y : V} (h : Pb K H y false) : Na K H pss y 1
 | twice {y : V} {ps : List Rat} (h : PtT K H y ps) (h23 : ps.length = 2 ∨ ps.length = 3) (hm : ps.getD 0 0 ∈ pss.map fun ps=>ps.getD 0 0) : Na K H pss y 1
 | many {y : V} {ps : List Rat} (h : PtT K H y ps) (h23 : ps.length = 2 ∨ ps.length = 3) (hm : ps.getD 0 0 ∉ pss.map fun ps=>ps.getD 0 0) (ht : 12 < (BI (pss ++ [ps])).length) : Na K H pss y 0
def TkR (pss : List (List Rat)) (q : Rat) (n : Nat) : Prop:=(n = 2 ∧ q ∉ pss.map fun ps=>ps.getD 0 0) ∨ (n = 1 ∧ pss.length = 1 ∧ q ∈ pss.map fun ps=>ps.getD 0 0)
inductive Qx (K : SI) (H : Hp) (pss : List (List Rat)) (m : Nat) (ps : List Rat) : V → Nat → Prop where
 | pt {y : V} (h : Pb K H y false) : Qx K H pss m ps y 1
 | many {y : V} {qs : List Rat} (h : PtT K H y qs) (h0 : qs.getD 0 0 = ps.getD 0 0) (h23 : qs.length = 2 ∨ qs.length = 3) (ht : 12 < (BI (pss.set m qs)).length) : Qx K H pss m ps y 0
def HtR (K : SI) (H : Hp) (pss : List (List Rat)) (q : Rat) (y : V) (n : Nat) : Prop:=(n = 2 ∧ q ∉ pss.map fun ps=>ps.getD 0 0) ∨ (n = 1 ∧ (q ∈ pss.map fun ps=>ps.getD 0 0) ∧ Nb K H y false)
inductive Lr (K : SI) (H : Hp) (pss : List (List Rat)) (q : Rat) : V → Nat → Prop where
 | far {s : V} (h : q ∉ pss.map fun ps=>ps.getD 0 0) : Lr K H pss q s 2
 | odd {s : V} (h : q ∈ pss.map fun ps=>ps.getD 0 0) (hs : Nb K H s false) (hn : s ≠ .non) : Lr K H pss q s 1
 | many {s : V} {c : Rat} {m : Nat} {ps : List Rat} (hm : pss[m]? = some ps) (hq : ps.getD 0 0 = q) (hs : Be K H s c) (ht : 12 < (BI (pss.set m (ps.take 2 ++ [c]))).length) : Lr K H pss q s 0
inductive Rf (K : SI) (H : Hp) (pss : List (List Rat)) : Int → V → V → Nat → Prop where
 | put {x y : V} {n : Nat} (h : Na K H pss y n) : Rf K H pss 0 x y n
 | out {x y : V} {q : Rat} {n : Nat} (hx : Dx H x q) (h : TkR pss q n) : Rf K H pss 1 x y n
 | hgt {x y : V} {q : Rat} {n : Nat} (hx : Dx H x q) (h : HtR K H pss q y n) : Rf K H pss 2 x y n
 | slo {x y : V} {q : Rat} {n : Nat} (hx : Dx H x q) (h : Lr K H pss q y n) : Rf K H pss 3 x y n
 | gain {x : V} {q : Rat} {k : Int} (hx : Dx H x q) (h : (q,k) ∉ ((BI pss).map fun t=>(t.x,t.k))) : Rf K H pss 4 x (.int k) 2
 | loss {x y : V} {q : Rat} {n : Nat} (hx : Dx H x q) (h : TkR pss q n) : Rf K H pss 5 x y n
 | new {x y : V} {n : Nat} (h : Na K H pss y n) : Rf K H pss 6 x y n
theorem Py {xs : List V} {i : Int} (h0 : 0 ≤ i) (h : i < (xs.length : Int)) : ∃ x,atI xs i = some x ∧ x ∈ xs:=by
 have hk : i.toNat < xs.length:=by lia
 have e : ((i.toNat : Nat) : Int) = i:=by lia
 have q : atI xs ((i.toNat : Nat) : Int) = some xs[i.toNat]:=As (Uo hk)
 rw [e] at q
 exact ⟨_,q,Uq hk⟩
def Fg (x : Rat) : Prop:=x.num.natAbs < 10 ^ 60 ∧ x.den < 10 ^ 60
theorem Fs {i : Int} (h : i.natAbs < 10 ^ 60) : i.natAbs.log2 < 1920:=by
 by_cases h0 : i.natAbs = 0
 ·rw [h0]; decide +kernel
 ·have:=(Nat.log2_lt (k:=200) h0).mpr (by lia); lia
theorem Fu {i : Int} (h : i.natAbs < 10 ^ 60) : (txI i).length ≤ 61:=by
 rw [Ai]
 rcases Dm i with ⟨n,e,hs⟩ | ⟨n,hp,e,hs⟩
 ·rw [hs]
  exact SJ (GY (k:=60) (by decide) (by lia)) (by decide)
 ·rw [hs,U9]
  have:=GY (n:=n) (k:=60) (by decide) (by lia)
  lia
theorem Kk {x : Rat} (h : Fg x) : (tx x).length ≤ 123:=by
 have h1:=Fu h.1
 have h2:=Fu (i:=(x.den : Int)) (by have:=h.2; lia)
 unfold tx
 split
 ·lia
 ·have l3 : (Str.ofString "/").length = 1:=by rw [Ai,BC]; rfl
  rw [Ai,AE,AE,Tz,Tz,← Ai,← Ai,← Ai]
  lia
theorem Pp {c : Nat} (h1 : 48 ≤ c) (h2 : c ≤ 57) : (!(Builtin.Str.occurrences (Str.ofString "0123456789") ⟨#[c]⟩ 0 (Str.ofString "0123456789").length 1).isEmpty) = true:=by
 rw [PyProof.Rows.empty_one,Bool.not_not]
 refine decide_eq_true ?_
 show c ∈ sg _
 rw [BC]
 have : c = 48 ∨ c = 49 ∨ c = 50 ∨ c = 51 ∨ c = 52 ∨ c = 53 ∨ c = 54 ∨ c = 55 ∨ c = 56 ∨ c = 57:=by lia
 rcases this with rfl | rfl | rfl | rfl | rfl | rfl | rfl | rfl | rfl | rfl <;> decide
theorem CS : sg (Str.ofString "-") = [45]:=by rw [BC]; rfl
theorem K4 {t : Str} {r : List Nat} (h : sg t = 45 :: r) : Txt.startswith t (Str.ofString "-") = true:=by
 unfold Txt.startswith
 rw [StrLaws.subAt_eq,Ai,Ai t,CS,h]
 show (decide (0 + 1 ≤ (45 :: r).length) && ((((sg t).drop 0).take 1) == sg (Str.ofString "-"))) = true
 rw [h,CS]
 simp
theorem LB {t : Str} {c : Nat} {r : List Nat} (h : sg t = c :: r) (hc : c ≠ 45) : Txt.startswith t (Str.ofString "-") = false:=by
 unfold Txt.startswith
 rw [StrLaws.subAt_eq,Ai,Ai t,CS,h]
 show (decide (0 + 1 ≤ (c :: r).length) && ((((sg t).drop 0).take 1) == sg (Str.ofString "-"))) = false
 rw [h,CS]
 simp [hc]
theorem MM (xs : List Rat) : ((xs.map nD).any fun y=>PyData.eqv y .none) = false:=by
 induction xs with
 | nil=>rfl
 | cons x r ih=>rw [U1,TR,ih]; rfl
inductive DC (K : SI) (vs : List V) (H : Hp) (Q : VK) (E_3 : XK) : Prop
 | mk (x : V) (q : Rat) (h1 : vs = [x]) (h2 : Be K H x q) (h3 : Fg q) (h4 : Q (.str (tx q)) H) : DC K vs H Q E_3
inductive DO (vs : List V) (H : Hp) (Q : VK) (E_3 : XK) : Prop
 | mk (t : Str) (h1 : vs = [.str t]) (h2 : Q .non H) : DO vs H Q E_3
inductive BB (K : SI) (vs : List V) (H : Hp) (Q : VK) (E_3 : XK) : Prop
 | mk (l : Addr) (xs : List Rat) (h1 : vs = [.ref l,.int 60]) (h2 : SqL K H l (xs.map fun x=>V.str (tx x))) (h3 : (∀ x ∈ xs,Fg x)) (h4 : xs.length ≤ 60000) (h5 : ∀ p ys H',Ad H H' → H p = none → H' p = some (.lst ys) → AM H' ys xs → Q (.ref p) H') : BB K vs H Q E_3
inductive Gg (K : SI) (vs : List V) (H : Hp) (Q : VK) (E_3 : XK) : Prop
 | mk (x : Rat) (h1 : vs = [.str (tx x)]) (h2 : Fg x) (h3 : ∀ z H',Ad H H' → Be K H' z x → Q z H') : Gg K vs H Q E_3
theorem K2 {l : List Rat} (h : PN l) : Cv.strip l = l:=by
 have e:=Cv.take_strip l l.length (fun j q hj e=>absurd (SU.mp e).1 (by lia)) (by
  rcases h with h | h
  ·left; rw [h]; rfl
  ·right; exact h)
 rw [UR] at e
 exact e.symm
theorem MY {n : Nat} {x : Rat} (hn : n ≤ 199) (h : RB n x) : Fg x:=by
 obtain ⟨h1,h2⟩:=h
 have h1:=h1.mono hn
 have h2:=h2.mono hn
 unfold Bd at h1 h2
 unfold Fg
 lia
def AL : Str:=Str.ofString " "
def CD : Str:=Str.ofString ":"
def AZ : Str:=Str.ofString ", "
theorem CV : sg AL = [32]:=by unfold AL; rw [BC]; rfl
theorem CU : sg CD = [58]:=by unfold CD; rw [BC]; rfl
theorem BK : sg AZ = [44,32]:=by unfold AZ; rw [BC]; rfl
theorem Ce : AL.length = 1:=by rw [Ai,CV]; rfl
theorem Cd : CD.length = 1:=by rw [Ai,CU]; rfl
theorem Bh : AZ.length = 2:=by rw [Ai,BK]; rfl
theorem Ld {x : Str} (h : ∀ c ∈ sg x,c < 256) : Builtin.Str.strKind x = 1:=by
 unfold Builtin.Str.strKind
 rw [if_pos]
 rw [V2]
 intro c hc
 exact decide_eq_true (h c (by simpa [sg] using hc))
def ptx (ps : List Rat) : Str:=Str.join CD (ps.map tx)
def Bc (pss : List (List Rat)) : Str:=Str.join AZ (pss.map ptx)
theorem Ca {qs : List Rat} (h : qs ≠ []) : Txt.split (Str.join AL (qs.map tx)) AL = qs.map tx:=by
 cases qs with
 | nil=>exact absurd rfl h
 | cons x r =>
   rw [U1]
   exact Eu (c:=32) CV (Ld (by rw [CV]; decide)) _ _ (by
    rw [← U1 (f:=tx)]
    intro u hu
    obtain ⟨y,_,rfl⟩:=UY.mp hu
    exact DA y (by decide))
theorem C9 {ps : List Rat} (h : ps ≠ []) : Txt.split (ptx ps) CD = ps.map tx:=by
 unfold ptx
 cases ps with
 | nil=>exact absurd rfl h
 | cons x r =>
   rw [U1]
   exact Eu (c:=58) CU (Ld (by rw [CU]; decide)) _ _ (by
    rw [← U1 (f:=tx)]
    intro u hu
    obtain ⟨y,_,rfl⟩:=UY.mp hu
    exact DA y (by decide))
theorem BJ {pss : List (List Rat)} (h : pss ≠ []) : Txt.split (Bc pss) AZ = pss.map ptx:=by
 unfold Bc
 cases pss with
 | nil=>exact absurd rfl h
 | cons x r =>
   rw [U1]
   exact Eu (c:=44) BK (Ld (by rw [BK]; decide)) _ _ (by
    rw [← U1 (f:=ptx)]
    intro u hu
    obtain ⟨y,_,rfl⟩:=UY.mp hu
    exact CK (by rw [CU]; decide) fun t ht=>by
     obtain ⟨z,_,rfl⟩:=UY.mp ht
     exact DA z (by decide))
theorem Dz {qs : List Rat} (h : ∀ q ∈ qs,Fg q) : ∀ t ∈ qs.map tx,t.length ≤ 123:=fun t ht=>by
 obtain ⟨x,hx,rfl⟩:=UY.mp ht
 exact Kk (h x hx)
theorem FZ {ps : List Rat} (h : ∀ q ∈ ps,Fg q) (h3 : ps.length ≤ 3) : (ptx ps).length ≤ 375:=by
 have:=D8 (sep:=CD) (by rw [Cd]; decide) (Dz h)
 rw [TC] at this
 unfold ptx
 lia
theorem Ds {pss : List (List Rat)} (h : ∀ ps ∈ pss,∀ q ∈ ps,Fg q) (h3 : P23 pss) : ∀ t ∈ pss.map ptx,t.length ≤ 375:=fun t ht=>by
 obtain ⟨x,hx,rfl⟩:=UY.mp ht
 exact FZ (h x hx) (by rcases h3 x hx with z | z <;> lia)
inductive DB (K : SI) (sep : Str) (vs : List V) (H : Hp) (Q : VK) (E_3 : XK) : Prop
 | mk (r : Addr) (xs : List V) (qs : List Rat) (h1 : vs = [.ref r]) (h2 : SqT K H r xs) (h3 : By K H xs qs) (h4 : (∀ q ∈ qs,Fg q)) (h5 : qs.length ≤ 100) (h6 : ∀ H',Ad H H' → Q (.str (Str.join sep (qs.map tx))) H') : DB K sep vs H Q E_3
def ctx (qs : List Rat) : Str:=if qs = [] then Str.ofString "0" else Str.join AL (qs.map tx)
inductive Ik (K : SI) (vs : List V) (H : Hp) (Q : VK) (E_3 : XK) : Prop
 | mk (r : Addr) (qs : List Rat) (h1 : vs = [.ref r]) (h2 : Crv K H r qs) (h3 : (∀ q ∈ qs,Fg q)) (h4 : qs.length ≤ 100) (h5 : ∀ H',Ad H H' → Q (.str (ctx qs)) H') : Ik K vs H Q E_3
inductive EG (K : SI) (vs : List V) (H : Hp) (Q : VK) (E_3 : XK) : Prop
 | mk (r : Addr) (xs : List V) (pss : List (List Rat)) (h1 : vs = [.ref r]) (h2 : SqT K H r xs) (h3 : Pts K H xs pss) (h4 : P23 pss) (h5 : (∀ ps ∈ pss,∀ q ∈ ps,Fg q)) (h6 : pss.length ≤ 100) (h7 : ∀ H',Ad H H' → Q (.str (Bc pss)) H') : EG K vs H Q E_3
inductive EJ (K : SI) (vs : List V) (H : Hp) (Q : VK) (E_3 : XK) : Prop
 | mk (qs : List Rat) (h1 : vs = [.str (Str.join AL (qs.map tx))]) (h2 : qs ≠ []) (h3 : qs.length ≤ 16) (h4 : (∀ q ∈ qs,Fg q)) (h5 : (1 < qs.length → ∃ q,qs[qs.length - 1]? = some q ∧ q ≠ 0)) (h6 : ∀ p H',Ad H H' → Crv K H' p (Cv.strip qs) → Q (.ref p) H') : EJ K vs H Q E_3
inductive EH (K : SI) (vs : List V) (H : Hp) (Q : VK) (E_3 : XK) : Prop
 | mk (pss : List (List Rat)) (h1 : vs = [.str (Bc pss),.int 60]) (h2 : 1 ≤ pss.length) (h3 : P23 pss) (h4 : (∀ ps ∈ pss,∀ q ∈ ps,Fg q)) (h5 : (pss.map fun ps=>ps.getD 0 0).Nodup) (h6 : (BI pss).length ≤ 12) (h7 : ∀ p xs H',Ad H H' → SqT K H' p xs → Pts K H' xs pss → Q (.ref p) H') : EH K vs H Q E_3
inductive EI (K : SI) (vs : List V) (H : Hp) (Q : VK) (E_3 : XK) : Prop
 | mk (pss : List (List Rat)) (h1 : vs = [.str (Bc pss)]) (h2 : 1 ≤ pss.length) (h3 : P23 pss) (h4 : (∀ ps ∈ pss,∀ q ∈ ps,Fg q)) (h5 : (pss.map fun ps=>ps.getD 0 0).Nodup) (h6 : (BI pss).length ≤ 12) (h7 : ∀ p xs H',Ad H H' → SqT K H' p xs → Pts K H' xs pss → Q (.ref p) H') : EI K vs H Q E_3
def BF (l : List Nat) : Bool:=!l.isEmpty && decide (l.length ≤ 60) && !(l.head? == some 48 && decide (1 < l.length)) && l.all fun c=>decide (48 ≤ c) && decide (c ≤ 57)
def BS : List Nat → Bool
 | 45 :: r=>!(r == [48]) && BF r
 | l=>BF l
def Bl : List Nat → Int
 | 45 :: r=>-(vl r 0 : Int)
 | l=>(vl l 0 : Int)
def ni (t : Str) : Option (Int × Nat) :=
 match Txt.split t (Str.ofString "/") with
 | [p]=>if BS (sg p) = true then some (Bl (sg p),1) else none
 | [p,q]=>if (BS (sg p) && !(sg q == [49]) && BF (sg q) && decide (0 < vl (sg q) 0) && decide (V7 (Bl (sg p)).natAbs (vl (sg q) 0) = 1)) = true then some (Bl (sg p),vl (sg q) 0) else none
 | _=>none
theorem Ma : ∀ (l : List Nat) (a c : Nat),vl (l ++ [c]) a = vl l a * 10 + (c - 48)
 | [],_,_=>rfl
 | d :: r,a,c=>Ma r (a * 10 + (d - 48)) c
theorem M9 : ∀ {l : List Nat} {a : Nat},0 < a → 0 < vl l a
 | [],_,h=>h
 | c :: r,a,h=>M9 (l:=r) (a:=a * 10 + (c - 48)) (by lia)
theorem HS : ∀ (n : Nat) (l : List Nat),l.length = n → l ≠ [] → (∀ c ∈ l,48 ≤ c ∧ c ≤ 57) → (∀ r,l = 48 :: r → r = []) → dg (vl l 0) = l
 | 0,l,hn,hne,_,_=>absurd (UM.mp hn) hne
 | n + 1,l,hn,hne,hd,h0=>by
   obtain ⟨p,c,rfl⟩ : ∃ p c,l = p ++ [c]:=⟨l.dropLast,l.getLast hne,(List.dropLast_concat_getLast hne).symm⟩
   rw [Ma]
   have hc:=hd c (T4 _ (Ul.mpr rfl))
   have key : ∀ m,m < 10 → (V0 m).toNat = m + 48:=by decide
   by_cases hp : p = []
   ·subst hp
    have e : vl [] 0 * 10 + (c - 48) = c - 48:=by show 0 * 10 + _ = _; lia
    rw [e,JM (by lia),key _ (by lia),Nat.sub_add_cancel hc.1]; rfl
   ·have hd' : ∀ d ∈ p,48 ≤ d ∧ d ≤ 57:=fun d h=>hd d (SS _ h)
    obtain ⟨d,r,rfl⟩ : ∃ d r,p = d :: r:=by
     cases p with
     | nil=>exact absurd rfl hp
     | cons d r=>exact ⟨d,r,rfl⟩
    have hd48 : d ≠ 48:=fun z=>by subst z; have:=h0 _ rfl; simp at this
    have hdd:=hd' d (SN ..)
    have ih:=HS n (d :: r) (by simp at hn; exact hn) hp hd' (fun r' e=>absurd (Us.inj e).1 hd48)
    have hpos : 0 < vl (d :: r) 0:=M9 (l:=r) (a:=0 * 10 + (d - 48)) (by lia)
    rw [Lk (by lia)]
    have e1 : (vl (d :: r) 0 * 10 + (c - 48)) / 10 = vl (d :: r) 0:=by lia
    have e2 : (vl (d :: r) 0 * 10 + (c - 48)) % 10 = c - 48:=by lia
    rw [e1,e2,ih,key _ (by lia),Nat.sub_add_cancel hc.1]
theorem BZ {l : List Nat} : BF l = true ↔ l ≠ [] ∧ l.length ≤ 60 ∧ (∀ c ∈ l,48 ≤ c ∧ c ≤ 57) ∧ ∀ r,l = 48 :: r → r = []:=by
 unfold BF
 rw [Bool.and_eq_true,Bool.and_eq_true,Bool.and_eq_true,Ud]
 constructor
 ·rintro ⟨⟨⟨h1,h2⟩,h3⟩,h4⟩
  refine ⟨fun z=>by rw [z] at h1; simp at h1,of_decide_eq_true h2,fun c hc=>by have:=h4 c hc; simpa using this,fun r hr=>?_⟩
  rw [hr] at h3
  cases r with
  | nil=>rfl
  | cons c r=>simp at h3
 ·rintro ⟨h1,h2,h3,h4⟩
  refine ⟨⟨⟨by cases l; exact absurd rfl h1; rfl,decide_eq_true h2⟩,?_⟩,fun c hc=>by have:=h3 c hc; simpa using this⟩
  cases l with
  | nil=>exact absurd rfl h1
  | cons c r =>
    by_cases hc : c = 48
    ·subst hc; rw [h4 r rfl]; rfl
    ·simp [hc]
theorem Eh {l : List Nat} (h : BF l = true) : l = dg (vl l 0) ∧ vl l 0 < 10 ^ 60:=by
 obtain ⟨h1,h2,h3,h4⟩:=BZ.mp h
 have e:=HS _ l rfl h1 h3 h4
 refine ⟨e.symm,?_⟩
 have:=(Nat.length_toDigits_le_iff (b:=10) (n:=vl l 0) (k:=60) (by decide) (by decide)).mp (by
  have e' : ((Nat.toDigits 10 (vl l 0)).map Char.toNat).length = l.length:=congrArg To e
  rw [TC] at e'; lia)
 exact this
theorem IQ {n : Nat} (h : n < 10 ^ 60) : BF (dg n) = true:=BZ.mpr ⟨HU n,GY (by decide) h,fun _ hc=>Dv hc,fun r hr=>by
 have z:=Gb hr
 subst z
 exact (Us.inj hr).2.symm⟩
theorem Mf {i : Int} (h : i.natAbs < 10 ^ 60) : BS (sg (txI i)) = true ∧ Bl (sg (txI i)) = i:=by
 rcases Dm i with ⟨n,e,hs⟩ | ⟨n,hp,e,hs⟩
 ·rw [hs]
  obtain ⟨c,r,ec⟩ : ∃ c r,dg n = c :: r:=by
   cases hc : dg n with
   | nil=>exact absurd hc (HU n)
   | cons c r=>exact ⟨c,r,rfl⟩
  have hc:=Dv (n:=n) (c:=c) (by rw [ec]; simp)
  have h45 : c ≠ 45:=by lia
  have t1 : BS (c :: r) = BF (c :: r):=by unfold BS; split; exact absurd (Us.inj ‹_›).1 h45; rfl
  have t2 : Bl (c :: r) = (vl (c :: r) 0 : Int):=by unfold Bl; split; exact absurd (Us.inj ‹_›).1 h45; rfl
  have f:=IQ (n:=n) (by lia)
  have v:=HF n
  rw [ec] at f v ⊢
  exact ⟨by rw [t1,f],by rw [t2,v,e]⟩
 ·rw [hs]
  have f:=IQ (n:=n) (by lia)
  refine ⟨?_,?_⟩
  ·show (!(dg n == [48]) && BF (dg n)) = true
   rw [f,Bool.and_true,Bool.not_eq_true']
   refine beq_eq_false_iff_ne.mpr fun z=>?_
   have:=Gb z
   lia
  ·show -(vl (dg n) 0 : Int) = i
   rw [HF,e]
theorem DQ {t : Str} (h : BS (sg t) = true) : t = txI (Bl (sg t)) ∧ (Bl (sg t)).natAbs < 10 ^ 60:=by
 by_cases hm : ∃ r,sg t = 45 :: r
 ·obtain ⟨r,hr⟩:=hm
  rw [hr] at h ⊢
  have h' : (!(r == [48]) && BF r) = true:=h
  rw [Bool.and_eq_true] at h'
  obtain ⟨e,hl⟩:=Eh h'.2
  have hp : 0 < vl r 0:=U5 fun z=>by
   have e':=e
   rw [z] at e'
   have : r = [48]:=e'.trans (by decide)
   rw [this] at h'
   simp at h'
  refine ⟨BU ?_,?_⟩
  ·show sg t = sg (txI (-(vl r 0 : Int)))
   rw [Mr hp,hr,← e]
  ·show (-(vl r 0 : Int)).natAbs < 10 ^ 60
   lia
 ·have t1 : BS (sg t) = BF (sg t):=by unfold BS; split; exact absurd ⟨_,‹_›⟩ hm; rfl
  have t2 : Bl (sg t) = (vl (sg t) 0 : Int):=by unfold Bl; split; exact absurd ⟨_,‹_›⟩ hm; rfl
  rw [t1] at h
  obtain ⟨e,hl⟩:=Eh h
  rw [t2]
  exact ⟨BU (by rw [Ex,← e]),by lia⟩
theorem FK {q : Rat} (h : Fg q) : ni (tx q) = some (q.num,q.den):=by
 obtain ⟨h1,h2⟩:=Mf h.1
 unfold ni
 rw [Mc]
 by_cases hd : q.den = 1
 ·rw [if_pos hd]
  show (if BS (sg (txI q.num)) = true then some (Bl (sg (txI q.num)),1) else none) = _
  rw [if_pos h1,h2,hd]
 ·rw [if_neg hd]
  show (if (BS (sg (txI q.num)) && !(sg (txI (q.den : Int)) == [49]) && BF (sg (txI (q.den : Int))) && decide (0 < vl (sg (txI (q.den : Int))) 0) && decide (V7 (Bl (sg (txI q.num))).natAbs (vl (sg (txI (q.den : Int))) 0) = 1)) = true then some (Bl (sg (txI q.num)),vl (sg (txI (q.den : Int))) 0) else none) = _
  rw [Ex,HF,h1,h2,IQ h.2,decide_eq_true q.den_pos,decide_eq_true (show V7 q.num.natAbs q.den = 1 from q.reduced)]
  have e1 : (dg q.den == [49]) = false:=beq_eq_false_iff_ne.mpr fun z=>hd (by have z2:=HF q.den; rw [z] at z2; exact z2.symm)
  rw [e1]; rfl
theorem DG {t : Str} {a : Int} {b : Nat} (h : ni t = some (a,b)) : ∃ q : Rat,Fg q ∧ t = tx q ∧ q.num = a ∧ q.den = b:=by
 have hj:=StrLaws.join_split t (Str.ofString "/")
 unfold ni at h
 split at h
 ·rename_i p e
  rw [e,PyProof.Rows.join_one] at hj
  split at h
  ·rename_i ht
   obtain ⟨e1,e2⟩:=DQ ht
   cases h
   refine ⟨((Bl (sg p) : Int) : Rat),⟨by rw [Rat.num_intCast]; exact e2,by rw [Rat.den_intCast]; decide⟩,?_,Rat.num_intCast _,Rat.den_intCast _⟩
   unfold tx
   rw [if_pos (Rat.den_intCast _),Rat.num_intCast,← hj,← e1]
  ·cases h
 ·rename_i p q e
  rw [e,PyProof.Rows.join_cons_cons,PyProof.Rows.join_one] at hj
  split at h
  ·rename_i ht
   simp only [Bool.and_eq_true,decide_eq_true_eq] at ht
   obtain ⟨⟨⟨⟨h1,h2⟩,h3⟩,h4⟩,h5⟩:=ht
   obtain ⟨e1,e2⟩:=DQ h1
   obtain ⟨e3,e4⟩:=Eh h3
   cases h
   refine ⟨⟨Bl (sg p),vl (sg q) 0,by lia,h5⟩,⟨e2,e4⟩,?_,rfl,rfl⟩
   have hn1 : ¬ vl (sg q) 0 = 1:=fun z=>by
    rw [z] at e3
    rw [e3] at h2
    exact absurd h2 (by decide)
   unfold tx
   show t = if vl (sg q) 0 = 1 then _ else txI (Bl (sg p)) ++ Str.ofString "/" ++ txI (vl (sg q) 0 : Int)
   rw [if_neg hn1,← e1,← hj]
   congr 1
   exact BU (by rw [Ex,← e3])
  ·cases h
 ·cases h
def Tg (t : Str) : Prop:=(∀ c ∈ sg t,c < 128) ∧ t.length ≤ 50000
def fgB (c : Nat) : Bool:=decide (48 ≤ c) && decide (c ≤ 57)
theorem Ko (c : Nat) : (!(Builtin.Str.occurrences (Str.ofString "0123456789") ⟨#[c]⟩ 0 (Str.ofString "0123456789").length 1).isEmpty) = fgB c:=by
 by_cases h : 48 ≤ c ∧ c ≤ 57
 ·rw [Pp h.1 h.2]; unfold fgB; rw [decide_eq_true h.1,decide_eq_true h.2]; rfl
 ·rw [PyProof.Rows.empty_one,Bool.not_not]
  have e : fgB c = false:=by
   unfold fgB
   rw [Bool.and_eq_false_iff]
   by_cases h1 : 48 ≤ c
   ·exact .inr (decide_eq_false fun z=>h ⟨h1,z⟩)
   ·exact .inl (decide_eq_false h1)
  rw [e]
  refine decide_eq_false fun z=>h ?_
  have z' : c ∈ sg (Str.ofString "0123456789"):=z
  rw [BC] at z'
  have : c = 48 ∨ c = 49 ∨ c = 50 ∨ c = 51 ∨ c = 52 ∨ c = 53 ∨ c = 54 ∨ c = 55 ∨ c = 56 ∨ c = 57:=by simpa using z'
  rcases this with rfl | rfl | rfl | rfl | rfl | rfl | rfl | rfl | rfl | rfl <;> exact ⟨by decide,by decide⟩
theorem LC (t : Str) : Txt.startswith t (Str.ofString "-") = ((sg t).head? == some 45):=by
 cases h : sg t with
 | nil =>
   unfold Txt.startswith
   rw [StrLaws.subAt_eq,Ai,Ai t,CS,h]; rfl
 | cons c r =>
   by_cases hc : c = 45
   ·subst hc; rw [K4 h]; rfl
   ·rw [LB h hc]; simp [hc]
theorem Fb {sep : Str} : ∀ {ts : List Str} {x : Str},x ∈ ts → (∀ c ∈ sg x,c ∈ sg (Str.join sep ts)) ∧ x.length ≤ (Str.join sep ts).length
 | [y],x,h=>by rw [Ul.mp h,PyProof.Rows.join_one]; exact ⟨fun _ hc=>hc,T2 _⟩
 | y :: z :: r,x,h=>by
   have es : sg (Str.join sep (y :: z :: r)) = sg y ++ sg sep ++ sg (Str.join sep (z :: r)):=by rw [PyProof.Rows.join_cons_cons,AE,AE]
   have el : (Str.join sep (y :: z :: r)).length = (sg y).length + (sg sep).length + (Str.join sep (z :: r)).length:=by rw [Ai,es,Tz,Tz,← Ai (Str.join sep (z :: r))]
   rw [es,el]
   rcases SQ.mp h with e | e
   ·rw [e]
    exact ⟨fun c hc=>SS _ (SS _ hc),by rw [Ai]; lia⟩
   ·have ih:=Fb (sep:=sep) e
    exact ⟨fun c hc=>T4 _ (ih.1 c hc),by have:=ih.2; lia⟩
theorem Ct (t sep : Str) : Txt.split t sep ≠ []:=by
 unfold Txt.split
 split
 ·exact V8 _ _
 ·split
  ·exact V8 _ _
  ·intro z
   have z:=congrArg To z
   rw [PyProof.Rows.len_partsBetween] at z
   exact absurd z (Nat.succ_ne_zero _)
theorem Cs {t sep : Str} (h : Tg t) : ∀ x ∈ Txt.split t sep,Tg x:=fun x hx=>by
 have hj:=StrLaws.join_split t sep
 have hm:=Fb (sep:=sep) hx
 rw [hj] at hm
 exact ⟨fun c hc=>h.1 c (hm.1 c hc),SJ hm.2 h.2⟩
theorem Kz {q : Rat} (h : Fg q) : Tg (tx q):=by
 have hI : ∀ i : Int,∀ c ∈ sg (txI i),c < 128:=fun i c hc=>by
  rcases Dm i with ⟨n,_,hs⟩ | ⟨n,_,_,hs⟩
  ·rw [hs] at hc; have:=Dv hc; lia
  ·rw [hs] at hc
   rcases SQ.mp hc with z | z
   ·lia
   ·have:=Dv z; lia
 refine ⟨fun c hc=>?_,SJ (Kk h) (by decide)⟩
 unfold tx at hc
 split at hc
 ·exact hI _ c hc
 ·rw [AE,AE] at hc
  rcases SR.mp hc with z | z
  ·rcases SR.mp z with z | z
   ·exact hI _ c z
   ·have z' : c ∈ [47]:=by rw [BC] at z; exact z
    rw [Ul.mp z']; decide
  ·exact hI _ c z
inductive Im (vs : List V) (H : Hp) (Q : VK) (E_3 : XK) : Prop
 | mk (t : Str) (h1 : vs = [.str t,.int 60]) (h2 : Tg t) (h3 : ∀ H',Ad H H' → Q (.bl (BF (sg t))) H') : Im vs H Q E_3
inductive K5 (vs : List V) (H : Hp) (Q : VK) (E_3 : XK) : Prop
 | mk (t : Str) (h1 : vs = [.str t,.int 60]) (h2 : Tg t) (h3 : ∀ H',Ad H H' → Q (.bl (BS (sg t))) H') : K5 vs H Q E_3
inductive EK (vs : List V) (H : Hp) (Q : VK) (E_3 : XK) : Prop
 | mk (t : Str) (h1 : vs = [.str t,.int 60]) (h2 : Tg t) (h3 : (∀ (q : Rat) (p : Addr) (H' : Hp),Fg q → t = tx q → Ad H H' → H p = none → H' p = some (nT q) → Q (.ref p) H')) (h4 : (ni t = none → ∀ H',Ad H H' → Q .non H')) : EK vs H Q E_3
theorem KA {t : Str} {c : Nat} {r : List Nat} (h : Tg t) (e : sg t = c :: r) : Tg ⟨r.toArray⟩:=by
 have e' : sg ⟨r.toArray⟩ = r:=by simp [sg]
 refine ⟨fun d hd=>h.1 d (by rw [e]; rw [e'] at hd; exact SO _ hd),?_⟩
 have:=h.2
 rw [Ai,e] at this
 rw [Ai,e']
 simp at this
 lia
def rn (t : Str) : Option Rat:=(ni t).map fun p=>U6 p.1 p.2
theorem HK {q : Rat} (h : Fg q) : rn (tx q) = some q:=by unfold rn; rw [FK h]; exact congrArg some (U7 q)
theorem FY {t : Str} (h : ni t = none) : rn t = none:=by unfold rn; rw [h]; rfl
theorem Ii {x q : Rat} (h1 : Fg x) (h2 : Fg q) (e : tx x = tx q) : x = q:=by
 have h:=HK h1
 rw [e,HK h2] at h
 exact (Su.inj h).symm
def Mx (H : Hp) (v : V) : Option Rat → Prop
 | none=>v = .non
 | some q=>Dx H v q
def mO : Option Rat → PyData
 | none=>.none
 | some q=>nD q
theorem Mx.same {H H' : Hp} {v : V} {o : Option Rat} (h : Mx H v o) (e : Ad H H') : Mx H' v o:=by
 cases o with
 | none=>exact h
 | some q=>obtain ⟨r,h1,h2⟩:=h; exact ⟨r,h1,e _ _ h2⟩
theorem Mxs.same {H H' : Hp} {vs : List V} {os : List (Option Rat)} (h : Paired (Mx H) vs os) (e : Ad H H') : Paired (Mx H') vs os:=Paired.mapP h fun _ _ z=>Mx.same z e
theorem Mxs.rds {K : SI} {H : Hp} {vs : List V} {os : List (Option Rat)} {p : Addr} (h : Paired (Mx H) vs os) (s : SqL K H p vs) : Rds K H (.ref p) (.list (os.map mO)):=.lst s (by rw [h.length,TC]) fun i x d e1 e2=>by
 obtain ⟨o,ho,hm⟩:=Paired.get h e1
 rw [Tu,ho] at e2
 cases e2
 cases o with
 | none=>rw [show x = .non from hm]; exact .non
 | some q=>obtain ⟨r,rfl,hr⟩:=hm; exact Be.rds (Be.of hr)
theorem MR : ∀ os : List (Option Rat),PyData.canLayAll0 (os.map mO) = true
 | []=>rfl
 | o :: r=>by
   show (PyData.canLay0 (mO o) && PyData.canLayAll0 (r.map mO)) = true
   rw [MR r]; cases o <;> rfl
theorem JA : ∀ os : List (Option Rat),PyData.depthAll (os.map mO) ≤ 1
 | []=>T5 _
 | o :: r=>by
   show max (PyData.depth (mO o)) (PyData.depthAll (r.map mO)) ≤ 1
   have:=JA r
   have h : PyData.depth (mO o) ≤ 1:=by cases o; exact T5 _; exact T2 _
   lia
theorem Kh (os : List (Option Rat)) : SeqAt.shaped (.list (os.map mO)) = true:=by
 show (PyData.canLayAll0 (os.map mO) && decide (PyData.depthAll (os.map mO) + 1 ≤ 64)) = true
 rw [MR,Bool.true_and]
 exact decide_eq_true (by have:=JA os; lia)
theorem G9 : ∀ os : List (Option Rat),((os.map mO).any fun y=>PyData.eqv y .none) = os.any V9
 | []=>rfl
 | o :: r=>by rw [U1,TR,TR,G9 r]; cases o <;> rfl
theorem Kt {ts : List Str} (h : ∃ t ∈ ts,ni t = none) : ((ts.map rn).any V9) = true:=by
 obtain ⟨t,ht,e⟩:=h
 exact List.any_eq_true.mpr ⟨none,UY.mpr ⟨t,ht,FY e⟩,rfl⟩
theorem CO : ∀ {ws : List Str},(∀ w ∈ ws,ni w ≠ none) → ∃ qs : List Rat,ws = qs.map tx ∧ ∀ q ∈ qs,Fg q
 | [],_=>⟨[],rfl,nofun⟩
 | w :: r,h=>by
   obtain ⟨qs,e,hf⟩:=CO (ws:=r) fun v hv=>h v (SO _ hv)
   cases hw : ni w with
   | none=>exact absurd hw (h w (SN ..))
   | some p =>
     obtain ⟨q,hq,e2,_⟩:=DG (a:=p.1) (b:=p.2) hw
     exact ⟨q :: qs,by rw [U1,← e,← e2],fun x hx=>by
      rcases SQ.mp hx with z | z
      ·rw [z]; exact hq
      ·exact hf x z⟩
inductive Cb (K : SI) (CT : Addr) (vs : List V) (H : Hp) (E_2 : VK) (E : XK) : Prop
 | mk (l : Addr) (ts : List Str) (h1 : vs = [.ref l,.int 60]) (h2 : SqL K H l (ts.map V.str)) (h3 : (∀ t ∈ ts,Tg t)) (h4 : ts.length ≤ 60000) (h5 : (∃ t ∈ ts,ni t = none)) (h6 : ∀ H',Ad H H' → E (.ref CT) none H') : Cb K CT vs H E_2 E
def J2 (K : SI) (H : Hp) (x : V) : Prop:=∃ t,TyX K H x t ∧ Tb K t (.type "str") = some false
theorem J2.same {K : SI} {H H' : Hp} {x : V} (h : J2 K H x) (e : Ad H H') : J2 K H' x:=by
 obtain ⟨t,ty,k⟩:=h
 exact ⟨t,TyX.same ty e,k⟩
inductive DR (K : SI) (CT : Addr) (vs : List V) (H : Hp) (E_2 : VK) (E : XK) : Prop
 | mk (x : V) (h1 : vs = [x]) (h2 : J2 K H x) (h3 : ∀ H',Ad H H' → E (.ref CT) none H') : DR K CT vs H E_2 E
def JX (t : Str) : Prop:=∃ p ∈ Txt.split t (Str.ofString ", "),(∃ w ∈ Txt.split p (Str.ofString ":"),ni w = none) ∨ ¬ ((Txt.split p (Str.ofString ":")).length = 2 ∨ (Txt.split p (Str.ofString ":")).length = 3)
inductive RPX (K : SI) (H : Hp) : V → Nat → Prop
 | no {x : V} (h : J2 K H x) : RPX K H x 2
 | bad {t : Str} (h : Tg t) (hb : JX t) : RPX K H (.str t) 2
 | twice {pss : List (List Rat)} (h1 : 1 ≤ pss.length) (h17 : pss.length ≤ 17) (h23 : P23 pss) (hf : ∀ ps ∈ pss,∀ q ∈ ps,Fg q) (hnd : ¬ (pss.map fun ps=>ps.getD 0 0).Nodup) : RPX K H (.str (Bc pss)) 1
 | many {pss : List (List Rat)} (h1 : 1 ≤ pss.length) (h17 : pss.length ≤ 17) (h23 : P23 pss) (hf : ∀ ps ∈ pss,∀ q ∈ ps,Fg q) (hnd : (pss.map fun ps=>ps.getD 0 0).Nodup) (ht : 12 < (BI pss).length) : RPX K H (.str (Bc pss)) 0
def IU (CM CP CT : Addr) : Nat → Addr
 | 0=>CM
 | 1=>CP
 | _=>CT
inductive Jf (K : SI) (cl : Nat → Addr) (vs : List V) (H : Hp) (E_2 : VK) (E : XK) : Prop
 | mk (x : V) (n : Nat) (h1 : vs = [x,.int 60]) (h2 : RPX K H x n) (h3 : ∀ H',Ad H H' → E (.ref (cl n)) none H') : Jf K cl vs H E_2 E
def E7 (p : Str) : Prop:=(∀ w ∈ Txt.split p (Str.ofString ":"),ni w ≠ none) ∧ ((Txt.split p (Str.ofString ":")).length = 2 ∨ (Txt.split p (Str.ofString ":")).length = 3)
theorem JI {t : Str} (hb : JX t) (hg : ∀ p ∈ Txt.split t (Str.ofString ", "),E7 p) : False:=by
 obtain ⟨p,hp,h⟩:=hb
 obtain ⟨h1,h2⟩:=hg p hp
 rcases h with ⟨w,hw,e⟩ | h
 ·exact h1 w hw e
 ·exact h h2
theorem QO {n : Nat} (h : ¬ (n = 2 ∨ n = 3)) : inV (V.int ((n : Nat) : Int)) [.int 2,.int 3] = false:=by
 have e : inV (V.int ((n : Nat) : Int)) [.int 2,.int 3] = (decide ((2 : Int) = ((n : Nat) : Int)) || (decide ((3 : Int) = ((n : Nat) : Int)) || false)):=rfl
 rw [e,decide_eq_false (by lia),decide_eq_false (by lia)]; rfl
inductive K8 (vs : List V) (H : Hp) (Q : VK) (E_3 : XK) : Prop
 | mk (t : Str) (h1 : vs = [.str t]) (h2 : Tg t) (h3 : ∀ H',Ad H H' → Q (.bl (BF (sg t))) H') : K8 vs H Q E_3
def Sok (t : Str) : Prop:=∀ c ∈ sg t,c < 128
theorem Oq {t : Str} (h : Sok t) : PyData.canLay0 (.str t) = true:=by
 show t.cps.all (fun c=>decide (c < 0x110000)) = true
 rw [V2]
 intro c hc
 exact decide_eq_true (Nat.lt_trans (h c (by simpa [sg] using hc)) (by decide))
theorem KI : ∀ {ts : List Str},(∀ t ∈ ts,Sok t) → PyData.canLayAll0 (ts.map PyData.str) = true
 | [],_=>rfl
 | t :: r,h=>by
   show (PyData.canLay0 (.str t) && PyData.canLayAll0 (r.map PyData.str)) = true
   rw [KI fun u hu=>h u (SO _ hu),Oq (h t (SN ..))]; rfl
theorem HI : ∀ ts : List Str,PyData.depthAll (ts.map PyData.str) ≤ 1
 | []=>T5 _
 | t :: r=>by
   show max (PyData.depth (.str t)) (PyData.depthAll (r.map PyData.str)) ≤ 1
   have:=HI r
   have h : PyData.depth (.str t) ≤ 1:=T5 _
   lia
theorem KH {ts : List Str} (h : ∀ t ∈ ts,Sok t) : SeqAt.shaped (.list (ts.map PyData.str)) = true:=by
 show (PyData.canLayAll0 (ts.map PyData.str) && decide (PyData.depthAll (ts.map PyData.str) + 1 ≤ 64)) = true
 rw [KI h,Bool.true_and]
 exact decide_eq_true (by have:=HI ts; lia)
theorem Jc {K : SI} {H : Hp} {p : Addr} {ts : List Str} (s : SqL K H p (ts.map V.str)) : Rds K H (.ref p) (.list (ts.map PyData.str)):=.lst s (by rw [TC,TC]) fun i x d e1 e2=>by
 rw [Tu] at e1 e2
 obtain ⟨t,ht,rfl⟩:=Va.mp e1
 rw [ht] at e2
 cases e2
 exact .str t
theorem Jd : ∀ ts us : List Str,PyData.eqvAll (ts.map PyData.str) (us.map PyData.str) = decide (ts = us)
 | [],[]=>rfl
 | [],_ :: _=>rfl
 | _ :: _,[]=>rfl
 | t :: ts,u :: us=>by
   show ((t == u) && PyData.eqvAll (ts.map PyData.str) (us.map PyData.str)) = _
   rw [Jd ts us,Bool.eq_iff_iff]
   simp
theorem Pq {K : SI} {H : Hp} {a b : Addr} {ts us : List Str} {Q : VK} {neg : Bool} (s1 : SqL K H a (ts.map V.str)) (s2 : SqL K H b (us.map V.str)) (o1 : ∀ t ∈ ts,Sok t) (o2 : ∀ t ∈ us,Sok t) (h : Q (.bl (if neg then !decide (ts = us) else decide (ts = us))) H) : EM K neg (.ref a) (.ref b) H Q:=by
 refine FA ⟨_,_,Jc s1,Jc s2,KH o1,KH o2,?_⟩
 have e : PyData.eqv (.list (ts.map PyData.str)) (.list (us.map PyData.str)) = decide (ts = us):=Jd ts us
 rw [e]; exact h
theorem MK {c : Nat} : (⟨#[c]⟩ : Str) = Str.ofString "0" ↔ c = 48:=by
 constructor
 ·intro z
  have z1:=congrArg sg z
  rw [BC] at z1
  exact (Us.inj z1).1
 ·rintro rfl; decide +kernel
inductive Il (vs : List V) (H : Hp) (Q : VK) (E_3 : XK) : Prop
 | mk (t : Str) (h1 : vs = [.str t]) (h2 : Tg t) (h3 : (∀ (q : Rat) (p : Addr) (H' : Hp),Fg q → t = tx q → Ad H H' → H p = none → H' p = some (nT q) → Q (.ref p) H')) (h4 : (ni t = none → ∀ H',Ad H H' → Q .non H')) : Il vs H Q E_3
theorem NK {m n : Nat} (hn : 0 < n) : (U6 (m : Int) (n : Int)).den = n ↔ V7 m n = 1:=by
 constructor
 ·intro h
  have hq:=(U6 (m : Int) (n : Int)).reduced
  have e:=U7 (U6 (m : Int) (n : Int))
  rw [h] at e hq
  have e2:=(Rat.divInt_eq_divInt_iff (by lia) (by lia)).mp e
  have e3 : (U6 (m : Int) (n : Int)).num = m:=Int.eq_of_mul_eq_mul_right (by lia) e2
  rw [e3] at hq
  exact hq
 ·intro h
  have e : U6 (m : Int) (n : Int) = ⟨(m : Int),n,by lia,h⟩:=by rw [Rat.mk_eq_divInt]
  rw [e]
def JV (x u : Str) : Prop:=(∃ r,sg x = 45 :: r ∧ sg u = r) ∨ ((∀ r,sg x ≠ 45 :: r) ∧ u = x)
theorem JV.is {x u : Str} (h : JV x u) : BS (sg x) = (BF (sg u) && !decide (x = Str.ofString "-0")):=by
 rcases h with ⟨r,h1,h2⟩ | ⟨h1,rfl⟩
 ·rw [h1,h2]
  show (!(r == [48]) && BF r) = _
  rw [Bool.and_comm]
  congr 2
  rw [Bool.eq_iff_iff,beq_iff_eq,decide_eq_true_eq]
  constructor
  ·intro z; exact BU (by rw [h1,z,BC]; rfl)
  ·intro z
   rw [z,BC] at h1
   exact (Us.inj h1).2.symm
 ·have e : BS (sg u) = BF (sg u):=by unfold BS; split; exact absurd ‹_› (h1 _); rfl
  rw [e,decide_eq_false fun z=>h1 [48] (by rw [z,BC]; rfl)]; simp
theorem JV.val {x u : Str} (h : JV x u) (hf : BF (sg u) = true) : (Bl (sg x)).natAbs = vl (sg u) 0:=by
 rcases h with ⟨r,h1,h2⟩ | ⟨h1,rfl⟩
 ·rw [h1,h2]
  show (-(vl r 0 : Int)).natAbs = vl r 0
  lia
 ·have e : Bl (sg u) = (vl (sg u) 0 : Int):=by unfold Bl; split; exact absurd ‹_› (h1 _); rfl
  rw [e]; lia
def wdT : Nat → Str
 | 0=>"many"
 | 1=>"points"
 | _=>"text"
inductive Res
 | word (n : Nat)
 | num (q : Rat)
 | crv (qs : List Rat)
 | pts (pss : List (List Rat))
def NU (t : Str) : Prop:=(∃ w ∈ Txt.split t (Str.ofString " "),ni w = none) ∨ ∃ qs : List Rat,t = Str.join AL (qs.map tx) ∧ (∀ q ∈ qs,Fg q) ∧ qs ≠ [] ∧ (16 < qs.length ∨ (1 < qs.length ∧ qs[qs.length - 1]? = some 0))
inductive RdW : Nat → Str → Res → Prop
 | num {q : Rat} (h : Fg q) : RdW 0 (tx q) (.num q)
 | num0 {t : Str} (h : ni t = none) : RdW 0 t (.word 2)
 | crv0 : RdW 1 (Str.ofString "0") (.crv [])
 | crv {qs : List Rat} (hf : ∀ q ∈ qs,Fg q) (hn : qs ≠ []) (h16 : qs.length ≤ 16) {q : Rat} (hl : qs[qs.length - 1]? = some q) (h0 : q ≠ 0) : RdW 1 (Str.join AL (qs.map tx)) (.crv qs)
 | crvX {t : Str} (h : NU t) : RdW 1 t (.word 2)
 | bad {t : Str} (h : JX t) : RdW 2 t (.word 2)
 | twice {pss : List (List Rat)} (h1 : 1 ≤ pss.length) (h17 : pss.length ≤ 17) (h23 : P23 pss) (hf : ∀ ps ∈ pss,∀ q ∈ ps,Fg q) (hnd : ¬ (pss.map fun ps=>ps.getD 0 0).Nodup) : RdW 2 (Bc pss) (.word 1)
 | many {pss : List (List Rat)} (h1 : 1 ≤ pss.length) (h17 : pss.length ≤ 17) (h23 : P23 pss) (hf : ∀ ps ∈ pss,∀ q ∈ ps,Fg q) (hnd : (pss.map fun ps=>ps.getD 0 0).Nodup) (ht : 12 < (BI pss).length) : RdW 2 (Bc pss) (.word 0)
 | pts {pss : List (List Rat)} (h1 : 1 ≤ pss.length) (h23 : P23 pss) (hf : ∀ ps ∈ pss,∀ q ∈ ps,Fg q) (hnd : (pss.map fun ps=>ps.getD 0 0).Nodup) (ht : (BI pss).length ≤ 12) : RdW 2 (Bc pss) (.pts pss)
def J0 (K : SI) (H : Hp) (v : V) : Res → Prop
 | .word n=>v = .str (wdT n)
 | .num q=>Be K H v q
 | .crv qs=>∃ a,v = .ref a ∧ Crv K H a qs
 | .pts pss=>∃ r xs,v = .ref r ∧ SqT K H r xs ∧ Pts K H xs pss
inductive Eb (K : SI) (CT : Addr) (vs : List V) (H : Hp) (E_2 : VK) (E : XK) : Prop
 | mk (x : V) (h1 : vs = [x]) (h2 : (J2 K H x ∨ ∃ t,x = .str t ∧ Tg t ∧ ni t = none)) (h3 : ∀ H',Ad H H' → E (.ref CT) none H') : Eb K CT vs H E_2 E
inductive Dr (K : SI) (CT : Addr) (vs : List V) (H : Hp) (E_2 : VK) (E : XK) : Prop
 | mk (x : V) (h1 : vs = [x]) (h2 : (J2 K H x ∨ ∃ t,x = .str t ∧ Tg t ∧ NU t)) (h3 : ∀ H',Ad H H' → E (.ref CT) none H') : Dr K CT vs H E_2 E
inductive Dq (K : SI) (cl : Nat → Addr) (vs : List V) (H : Hp) (E_2 : VK) (E : XK) : Prop
 | mk (x : V) (n : Nat) (h1 : vs = [x]) (h2 : RPX K H x n) (h3 : ∀ H',Ad H H' → E (.ref (cl n)) none H') : Dq K cl vs H E_2 E
inductive K6 (K : SI) (vs : List V) (H : Hp) (Q : VK) (E_3 : XK) : Prop
 | mk (way : Nat) (x : V) (h1 : vs = [.int (way : Nat),x]) (h2 : way < 3) (h3 : ((∃ t res,x = .str t ∧ Tg t ∧ RdW way t res ∧ ∀ v H',Ad H H' → J0 K H' v res → Q v H') ∨ (J2 K H x ∧ ∀ H',Ad H H' → Q (.str (wdT 2)) H'))) : K6 K vs H Q E_3
theorem Dy : Str.ofString "0" = Str.join AL (([0] : List Rat).map tx):=by decide +kernel
theorem AF.up {P : Program} {w : World} {K : SI} {mg : Str → Option Value} {base : Heap} {CX : CXT} {k n : Nat} {f : Addr} {fd : FuncData} {ps : List Str} {sp : Sp} (F : AF P w K mg base CX k f fd ps sp) (h : k ≤ n) : AF P w K mg base CX n f fd ps sp:=⟨F.len,fun A outer s H args us vs Q E hr=>F.run A outer s H args us vs Q E (hr.mono h)⟩
inductive Io (K : SI) (vs : List V) (H : Hp) (Q : VK) (E_3 : XK) : Prop
 | mk (way : Nat) (t : Str) (res : Res) (h1 : vs = [.int (way : Nat),.str t]) (h2 : Tg t) (h3 : RdW way t res) (h4 : ∀ v H',Ad H H' → J0 K H' v res → Q v H') : Io K vs H Q E_3
theorem FF : ∀ (pss : List (List Rat)),(BI pss).length = (pss.map fun ps=>ps.length - 1).sum
 | []=>rfl
 | p :: r=>by
   have e : BI (p :: r) = DM p ++ BI r:=rfl
   rw [e,Tz,Bs,FF r]; rfl
theorem Mg {pss : List (List Rat)} (h : ∀ ps ∈ pss,1 ≤ ps.length) : (pss.map fun ps=>(ps.length : Int) - 1).sum = ((BI pss).length : Int):=by
 rw [FF]
 induction pss with
 | nil=>rfl
 | cons p r ih =>
   rw [U1,U1,V5,V5,ih fun ps hp=>h ps (SO _ hp)]
   have:=h p (SN ..)
   lia
theorem LW {H : Hp} {ys : List V} {qs : List Rat} (h : AM H ys qs) (h1 : 1 ≤ qs.length) : ∃ r,ys[0]? = some (.ref r) ∧ H r = some (nT (qs.getD 0 0)):=by
 cases h with
 | nil=>exact absurd h1 (by decide)
 | cons a b=>obtain ⟨r,rfl,hr⟩:=a; exact ⟨r,rfl,hr⟩
def wsO (p : Str) : List (Option Rat):=(Txt.split p (Str.ofString ":")).map rn
def PtM (K : SI) (H : Hp) (v : V) (os : List (Option Rat)) : Prop:=∃ a us,v = .ref a ∧ SqT K H a us ∧ Paired (Mx H) us os
theorem PtMs.same {K : SI} {H H' : Hp} {vs : List V} {os : List (List (Option Rat))} (h : Paired (PtM K H) vs os) (e : Ad H H') : Paired (PtM K H') vs os:=Paired.mapP h fun _ _ ⟨a,us,h1,h2,h3⟩=>⟨a,us,h1,h2.same e,Mxs.same h3 e⟩
def PtN (K : SI) (H : Hp) (v : V) (qs : List Rat) : Prop:=∃ a us,v = .ref a ∧ SqT K H a us ∧ AM H us qs
theorem PtNs.same {K : SI} {H H' : Hp} {vs : List V} {os : List (List Rat)} (h : Paired (PtN K H) vs os) (e : Ad H H') : Paired (PtN K H') vs os:=Paired.mapP h fun _ _ ⟨a,us,h1,h2,h3⟩=>⟨a,us,h1,h2.same e,AM.same h3 e⟩
theorem Ks {t p : Str} (hp : p ∈ Txt.split t (Str.ofString ", ")) (hg : ¬ E7 p) : JX t:=by
 refine ⟨p,hp,?_⟩
 by_cases h : ∀ w ∈ Txt.split p (Str.ofString ":"),ni w ≠ none
 ·exact .inr fun z=>hg ⟨h,z⟩
 ·exact .inl (Classical.byContradiction fun z=>h fun w hw e=>z ⟨w,hw,e⟩)
theorem Mxs.rdsT {K : SI} {H : Hp} {vs : List V} {os : List (Option Rat)} {p : Addr} (h : Paired (Mx H) vs os) (s : SqT K H p vs) : Rds K H (.ref p) (.tuple (os.map mO)):=.tup s (by rw [h.length,TC]) fun i x d e1 e2=>by
 obtain ⟨o,ho,hm⟩:=Paired.get h e1
 rw [Tu,ho] at e2
 cases e2
 cases o with
 | none=>rw [show x = .non from hm]; exact .non
 | some q=>obtain ⟨r,rfl,hr⟩:=hm; exact Be.rds (Be.of hr)
theorem Pz {ws : List Str} (h : ∀ w ∈ ws,ni w ≠ none) : ((ws.map rn).any V9) = false:=by
 rw [List.any_eq_false]
 intro o ho
 obtain ⟨w,hw,rfl⟩:=UY.mp ho
 cases hn : ni w with
 | none=>exact absurd hn (h w hw)
 | some p=>unfold rn; rw [hn]; exact Bool.false_ne_true
theorem Kf : ∀ {qs : List Rat},(∀ q ∈ qs,Fg q) → (qs.map tx).map rn = qs.map some
 | [],_=>rfl
 | q :: r,h=>by rw [U1,U1,U1,HK (h q (SN ..)),Kf fun x hx=>h x (SO _ hx)]
theorem JU : ∀ qs : List Rat,(qs.map some).any V9 = false
 | []=>rfl
 | q :: r=>by rw [U1,TR,JU r]; rfl
theorem IL : ∀ {H : Hp} {zs : List V} {qs : List Rat},Paired (Mx H) zs (qs.map some) → AM H zs qs
 | _,_,[],h=>by cases h; exact .nil
 | _,_,q :: r,h=>by
   cases h with
   | cons a b=>exact .cons a (IL b)
theorem Ih : ∀ {xs ys : List Rat},(∀ q ∈ xs,Fg q) → (∀ q ∈ ys,Fg q) → xs.map tx = ys.map tx → xs = ys
 | [],[],_,_,_=>rfl
 | [],_ :: _,_,_,h=>by cases h
 | _ :: _,[],_,_,h=>by cases h
 | x :: xs,y :: ys,h1,h2,h=>by
   have e:=Us.inj h
   rw [Ii (h1 x (SN ..)) (h2 y (SN ..)) e.1,Ih (fun q hq=>h1 q (SO _ hq)) (fun q hq=>h2 q (SO _ hq)) e.2]
theorem Gd {xs ys : List Rat} (h1 : ∀ q ∈ xs,Fg q) (h2 : ∀ q ∈ ys,Fg q) (n1 : xs ≠ []) (n2 : ys ≠ []) (h : Str.join AL (xs.map tx) = Str.join AL (ys.map tx)) : xs = ys:=by
 have e:=Ca n1
 rw [h,Ca n2] at e
 exact (Ih h2 h1 e).symm
theorem Jl : ∀ {xs ys : List (List Rat)},(∀ ps ∈ xs,ps ≠ [] ∧ ∀ q ∈ ps,Fg q) → (∀ ps ∈ ys,ps ≠ [] ∧ ∀ q ∈ ps,Fg q) → xs.map ptx = ys.map ptx → xs = ys
 | [],[],_,_,_=>rfl
 | [],_ :: _,_,_,h=>by cases h
 | _ :: _,[],_,_,h=>by cases h
 | x :: xs,y :: ys,h1,h2,h=>by
   have e:=Us.inj h
   have hx:=h1 x (SN ..)
   have hy:=h2 y (SN ..)
   have ex:=C9 hx.1
   rw [e.1,C9 hy.1] at ex
   rw [Ih hy.2 hx.2 ex,Jl (fun q hq=>h1 q (SO _ hq)) (fun q hq=>h2 q (SO _ hq)) e.2]
theorem IA {pss : List (List Rat)} (h23 : P23 pss) (hf : ∀ ps ∈ pss,∀ q ∈ ps,Fg q) : ∀ ps ∈ pss,ps ≠ [] ∧ ∀ q ∈ ps,Fg q:=fun ps hp=>⟨fun z=>by have:=h23 ps hp; rw [z] at this; simp at this,hf ps hp⟩
theorem GH {α : Type} {l : List α} (h : 1 ≤ l.length) : l ≠ []:=fun z=>by rw [z] at h; simp at h
theorem BW {xs ys : List (List Rat)} (h1 : 1 ≤ xs.length) (h2 : 1 ≤ ys.length) (x23 : P23 xs) (y23 : P23 ys) (hx : ∀ ps ∈ xs,∀ q ∈ ps,Fg q) (hy : ∀ ps ∈ ys,∀ q ∈ ps,Fg q) (h : Bc xs = Bc ys) : xs = ys:=by
 have e:=BJ (GH h1)
 rw [h,BJ (GH h2)] at e
 exact (Jl (IA y23 hy) (IA x23 hx) e).symm
theorem D7 {pss : List (List Rat)} (h1 : 1 ≤ pss.length) (h23 : P23 pss) (hf : ∀ ps ∈ pss,∀ q ∈ ps,Fg q) : ¬ JX (Bc pss):=fun hb=>JI hb fun p hp=>by
 rw [show Txt.split (Bc pss) (Str.ofString ", ") = pss.map ptx from BJ (GH h1)] at hp
 obtain ⟨ps,hps,rfl⟩:=UY.mp hp
 have hne:=(IA h23 hf ps hps).1
 have es : Txt.split (ptx ps) (Str.ofString ":") = ps.map tx:=C9 hne
 unfold E7
 rw [es,TC]
 refine ⟨fun w hw z=>?_,h23 ps hps⟩
 obtain ⟨q,hq,rfl⟩:=UY.mp hw
 rw [FK (hf ps hps q hq)] at z
 cases z
theorem EW {qs : List Rat} (hf : ∀ q ∈ qs,Fg q) (hn : qs ≠ []) (h16 : qs.length ≤ 16) (hl : 1 < qs.length → qs[qs.length - 1]? ≠ some 0) : ¬ NU (Str.join AL (qs.map tx)):=by
 rintro (⟨w,hw,e⟩ | ⟨ys,e,hy,hyn,hb⟩)
 ·rw [show Txt.split (Str.join AL (qs.map tx)) (Str.ofString " ") = qs.map tx from Ca hn] at hw
  obtain ⟨q,hq,rfl⟩:=UY.mp hw
  rw [FK (hf q hq)] at e
  cases e
 ·obtain rfl:=Gd hf hy hn hyn e
  rcases hb with z | ⟨z1,z2⟩
  ·lia
  ·exact hl z1 z2
theorem RdW.det {w w' : Nat} {t t' : Str} {a b : Res} (h1 : RdW w t a) (h2 : RdW w' t' b) (hw : w = w') (ht : t = t') : a = b:=by
 have fz : ∀ q ∈ ([0] : List Rat),Fg q:=fun q hq=>by rw [Ul.mp hq]; exact ⟨by decide,by decide⟩
 cases h1 with
 | num h =>
   cases h2 with
   | num h'=>rw [Ii h h' ht]
   | num0 h'=>rw [← ht,FK h] at h'; cases h'
   | _=>cases hw
 | num0 h =>
   cases h2 with
   | num h'=>rw [ht,FK h'] at h; cases h
   | num0 h'=>rfl
   | _=>cases hw
 | crv0 =>
   cases h2 with
   | crv0=>rfl
   | crv hf hn h16 hl h0 =>
     rw [Dy] at ht
     obtain rfl:=Gd fz hf (V8 _ _) hn ht
     cases hl
     exact absurd rfl h0
   | crvX h=>rw [← ht,Dy] at h; exact absurd h (EW fz (V8 _ _) (by decide) fun z=>absurd z (by decide))
   | _=>cases hw
 | crv hf hn h16 hl h0 =>
   cases h2 with
   | crv0 =>
     rw [Dy] at ht
     obtain rfl:=Gd hf fz hn (V8 _ _) ht
     cases hl
     exact absurd rfl h0
   | crv hf' hn' h16' hl' h0'=>rw [Gd hf hf' hn hn' ht]
   | crvX h=>rw [← ht] at h; exact absurd h (EW hf hn h16 fun _ z=>h0 (Su.inj (hl.symm.trans z)))
   | _=>cases hw
 | crvX h =>
   cases h2 with
   | crv0=>rw [ht,Dy] at h; exact absurd h (EW fz (V8 _ _) (by decide) fun z=>absurd z (by decide))
   | crv hf hn h16 hl h0=>rw [ht] at h; exact absurd h (EW hf hn h16 fun _ z=>h0 (Su.inj (hl.symm.trans z)))
   | crvX h'=>rfl
   | _=>cases hw
 | bad h =>
   cases h2 with
   | bad h'=>rfl
   | twice h1 h17 h23 hf hnd=>rw [ht] at h; exact absurd h (D7 h1 h23 hf)
   | many h1 h17 h23 hf hnd hm=>rw [ht] at h; exact absurd h (D7 h1 h23 hf)
   | pts h1 h23 hf hnd hm=>rw [ht] at h; exact absurd h (D7 h1 h23 hf)
   | _=>cases hw
 | twice h1 h17 h23 hf hnd =>
   cases h2 with
   | bad h'=>rw [← ht] at h'; exact absurd h' (D7 h1 h23 hf)
   | twice=>rfl
   | many g1 g17 g23 gf gnd gm=>obtain rfl:=BW h1 g1 h23 g23 hf gf ht; exact absurd gnd hnd
   | pts g1 g23 gf gnd gm=>obtain rfl:=BW h1 g1 h23 g23 hf gf ht; exact absurd gnd hnd
   | _=>cases hw
 | many h1 h17 h23 hf hnd hm =>
   cases h2 with
   | bad h'=>rw [← ht] at h'; exact absurd h' (D7 h1 h23 hf)
   | twice g1 g17 g23 gf gnd=>obtain rfl:=BW h1 g1 h23 g23 hf gf ht; exact absurd hnd gnd
   | many=>rfl
   | pts g1 g23 gf gnd gm=>obtain rfl:=BW h1 g1 h23 g23 hf gf ht; lia
   | _=>cases hw
 | pts h1 h23 hf hnd hm =>
   cases h2 with
   | bad h'=>rw [← ht] at h'; exact absurd h' (D7 h1 h23 hf)
   | twice g1 g17 g23 gf gnd=>obtain rfl:=BW h1 g1 h23 g23 hf gf ht; exact absurd hnd gnd
   | many g1 g17 g23 gf gnd gm=>obtain rfl:=BW h1 g1 h23 g23 hf gf ht; lia
   | pts g1 g23 gf gnd gm=>rw [BW h1 g1 h23 g23 hf gf ht]
   | _=>cases hw
theorem JH {K : SI} {H : Hp} : ∀ {ps : List Str} {zs : List V},Paired (PtM K H) zs (ps.map wsO) → (∀ p ∈ ps,E7 p) → ∃ pss : List (List Rat),ps = pss.map ptx ∧ P23 pss ∧ (∀ qs ∈ pss,∀ q ∈ qs,Fg q) ∧ Paired (PtN K H) zs pss
 | [],_,.nil,_=>⟨[],rfl,nofun,nofun,.nil⟩
 | p :: ps,_,.cons h r,hg=>by
   obtain ⟨pss,e1,e2,e3,e4⟩:=JH r fun x hx=>hg x (SO _ hx)
   obtain ⟨g1,g2⟩:=hg p (SN ..)
   obtain ⟨qs,eq,hf⟩:=CO g1
   obtain ⟨a,us,ev,hS,hm⟩:=h
   have ew : wsO p = qs.map some:=by unfold wsO; rw [eq,Kf hf]
   rw [ew] at hm
   have hj:=StrLaws.join_split p (Str.ofString ":")
   rw [eq] at hj g2
   rw [TC] at g2
   refine ⟨qs :: pss,by rw [U1,← e1]; congr 1; exact hj.symm,fun x hx=>?_,fun x hx=>?_,.cons ⟨a,us,ev,hS,IL hm⟩ e4⟩
   ·rcases SQ.mp hx with z | z
    ·rw [z]; exact g2
    ·exact e2 x z
   ·rcases SQ.mp hx with z | z
    ·rw [z]; exact hf
    ·exact e3 x z
theorem RdW.len17 {w : Nat} {t : Str} {res : Res} {pss : List (List Rat)} (h : RdW w t res) (ht : t = Bc pss) (h1 : 1 ≤ pss.length) (h23 : P23 pss) (hf : ∀ ps ∈ pss,∀ q ∈ ps,Fg q) (hw : w = 2:=by rfl) : pss.length ≤ 17:=by
 cases h with
 | bad h=>rw [ht] at h; exact absurd h (D7 h1 h23 hf)
 | twice g1 g17 g23 gf gnd=>obtain rfl:=BW g1 h1 g23 h23 gf hf ht; exact g17
 | many g1 g17 g23 gf gnd gm=>obtain rfl:=BW g1 h1 g23 h23 gf hf ht; exact g17
 | pts g1 g23 gf gnd gm=>obtain rfl:=BW g1 h1 g23 h23 gf hf ht; have:=E9 h23; lia
 | _=>cases hw
theorem Ez {x : Str} {a b : Nat} (ha : a ≤ b) (hb : b ≤ x.length) (hn : ∀ k,a ≤ k → k < b → ¬ StrLaws.At x AZ x.length k) : ∀ u r,sg (Builtin.Str.strSub x a b) ≠ u ++ 44 :: 32 :: r:=fun u r e=>by
 have e1 : sg (Builtin.Str.strSub x a b) = ((sg x).drop a).take (b - a):=StrLaws.strSub_toList ..
 rw [e1] at e
 have el:=congrArg To e
 rw [Tp,TN,← Ai,Tz,U9,U9] at el
 obtain ⟨M,ew⟩ : ∃ M,(sg x).drop a = (u ++ 44 :: 32 :: r) ++ M:=⟨((sg x).drop a).drop (b - a),by rw [← e]; exact (UD ..).symm⟩
 have ed : (sg x).drop (a + u.length) = sg AZ ++ (r ++ M):=by
  rw [← V3,ew,TX,V4 rfl,BK]; rfl
 exact hn (a + u.length) (by lia) (by lia) (Oh ed (by rw [← Ai]; lia))
theorem FI {x : Str} : ∀ (cuts : List Nat) (a f : Nat),a ≤ x.length → StrLaws.ChainG x AZ x.length a cuts f → (∀ k,f ≤ k → ¬ StrLaws.At x AZ x.length k) → ∀ p ∈ StrLaws.partsFrom x AZ.length a cuts,∀ u r,sg p ≠ u ++ 44 :: 32 :: r
 | [],a,f,ha,h,hn,p,hp=>by
   have e : f = a:=h
   subst e
   rw [Ul.mp hp]
   exact Ez ha (T2 _) fun k h1 _=>hn k h1
 | d :: c,a,f,ha,h,hn,p,hp=>by
   have hd:=h.2.1.1
   rcases SQ.mp hp with rfl | hp'
   ·exact Ez h.1 (by lia) h.2.2.1
   ·exact FI c _ f (by lia) h.2.2.2 hn p hp'
theorem Je (x : Str) : ∀ p ∈ Txt.split x AZ,∀ u r,sg p ≠ u ++ 44 :: 32 :: r:=by
 obtain ⟨f,hG,hn⟩:=StrLaws.occ_tight x AZ (by rw [Bh]; decide)
 have hw : (∀ k,¬ StrLaws.At x AZ x.length k) → ∀ u r,sg x ≠ u ++ 44 :: 32 :: r:=fun h=>by
  have:=Ez (x:=x) (a:=0) (b:=x.length) (T5 _) (T2 _) fun k _ _=>h k
  rw [StrLaws.sub_whole] at this
  exact this
 unfold Txt.split
 split
 ·rename_i h1
  intro p hp
  rw [Ul.mp hp]
  refine hw fun k hA=>?_
  rw [Bool.or_eq_true,decide_eq_true_eq,decide_eq_true_eq] at h1
  rcases h1 with h1 | h1
  ·have:=hA.1; lia
  ·rw [Ld (x:=AZ) (by rw [BK]; decide)] at h1
   have:=JC x
   lia
 ·split
  ·rename_i he
   intro p hp
   rw [Ul.mp hp]
   have e0 : Builtin.Str.occurrences x AZ 0 x.length (x.length + 1) = []:=List.isEmpty_iff.mp he
   rw [e0] at hG
   have ef : f = 0:=hG
   subst ef
   exact hw fun k=>hn k (T5 _)
  ·rw [StrLaws.partsBetween_eq]
   exact FI _ 0 f (T5 _) hG hn
theorem NZ (q : Rat) : sg (tx q) ≠ []:=by
 have hI : ∀ i : Int,sg (txI i) ≠ []:=fun i=>by
  rcases Dm i with ⟨n,_,hs⟩ | ⟨n,_,_,hs⟩
  ·rw [hs]; exact HU n
  ·rw [hs]; exact V8 _ _
 unfold tx
 split
 ·exact hI _
 ·rw [AE,AE]
  exact fun z=>hI _ (Vb.mp (Vb.mp z).1).1
theorem EN (ps : List Rat) : 44 ∉ sg (ptx ps):=CK (by rw [CU]; decide) fun t ht=>by
 obtain ⟨z,_,rfl⟩:=UY.mp ht
 exact DA z (by decide)
theorem OB {ps : List Rat} (h : ps ≠ []) : sg (ptx ps) ≠ []:=by
 obtain ⟨q,r,rfl⟩ : ∃ q r,ps = q :: r:=by
  cases ps with
  | nil=>exact absurd rfl h
  | cons q r=>exact ⟨q,r,rfl⟩
 unfold ptx
 cases r with
 | nil=>rw [List.map_singleton,PyProof.Rows.join_one]; exact NZ q
 | cons v r =>
   rw [U1,U1,PyProof.Rows.join_cons_cons,AE,AE]
   exact fun z=>NZ q (Vb.mp (Vb.mp z).1).1
def Cok (l : List Nat) : Prop:=∀ a r,l = a ++ 44 :: r → ∃ d r',r = 32 :: d :: r'
theorem JP : ∀ {pss : List (List Rat)},(∀ ps ∈ pss,ps ≠ []) → Cok (sg (Bc pss)) ∧ (pss ≠ [] → sg (Bc pss) ≠ [])
 | [],_=>⟨fun a r e=>(by cases a <;> cases (show ([] : List Nat) = _ from e)),fun z=>absurd rfl z⟩
 | [p],h=>by
   unfold Bc
   rw [List.map_singleton,PyProof.Rows.join_one]
   exact ⟨fun a r e=>absurd (show 44 ∈ sg (ptx p) by rw [e]; simp) (EN p),fun _=>OB (h p (Ul.mpr rfl))⟩
 | p :: q :: r,h=>by
   obtain ⟨ih,ihn⟩:=JP (pss:=q :: r) fun ps hp=>h ps (SO _ hp)
   have es : sg (Bc (p :: q :: r)) = sg (ptx p) ++ 44 :: 32 :: sg (Bc (q :: r)):=by
    unfold Bc
    rw [U1,U1,PyProof.Rows.join_cons_cons,AE,AE,BK,TX]; rfl
   rw [es]
   have hB:=ihn (V8 _ _)
   refine ⟨fun a s e=>?_,fun _ z=>by simp at z⟩
   generalize sg (Bc (q :: r)) = B at ih hB e
   have hA:=EN p
   generalize sg (ptx p) = A at hA e
   clear es ihn h
   induction A generalizing a with
   | nil =>
     cases a with
     | nil =>
       have e':=(Us.inj e).2
       cases B with
       | nil=>exact absurd rfl hB
       | cons d B=>exact ⟨d,B,e'.symm⟩
     | cons x a =>
       have e1:=(Us.inj e).2
       cases a with
       | nil=>exact absurd (Us.inj e1).1 (by decide)
       | cons y a=>exact ih a s (Us.inj e1).2
   | cons c A iA =>
     cases a with
     | nil=>exact absurd (SQ.mpr (.inl (Us.inj e).1.symm)) hA
     | cons x a=>exact iA a (by first | exact (Us.inj e).2 | exact fun z=>hA (SO _ z)) (by first | exact (Us.inj e).2 | exact fun z=>hA (SO _ z))
def cm (t : Str) : Nat:=(sg t).count 44
theorem NC {ts : List Str} : ∀ {p : Str},p ∈ ts → ∃ pre post,sg (Str.join AZ ts) = pre ++ (sg p ++ post) ∧ (post = [] ∨ ∃ q,post = 44 :: q):=by
 induction ts with
 | nil=>intro p h; cases h
 | cons t r ih =>
   intro p h
   cases r with
   | nil =>
     rw [Ul.mp h,PyProof.Rows.join_one]
     exact ⟨[],[],by simp,.inl rfl⟩
   | cons v r =>
     rw [PyProof.Rows.join_cons_cons,AE,AE,BK]
     rcases SQ.mp h with e | e
     ·rw [e]
      exact ⟨[],44 :: 32 :: sg (Str.join AZ (v :: r)),by simp,.inr ⟨_,rfl⟩⟩
     ·obtain ⟨pre,post,e1,e2⟩:=ih e
      exact ⟨sg t ++ [44,32] ++ pre,post,by rw [e1]; simp,e2⟩
theorem N1 {ts : List Str} (hc : Cok (sg (Str.join AZ ts))) (hs : ∀ p ∈ ts,∀ u r,sg p ≠ u ++ 44 :: 32 :: r) : ∀ p ∈ ts,44 ∉ sg p:=fun p hp h=>by
 obtain ⟨a,b,e⟩:=List.append_of_mem h
 obtain ⟨pre,post,e1,e2⟩:=NC hp
 obtain ⟨d,r,e3⟩:=hc (pre ++ a) (b ++ post) (by rw [e1,e]; simp)
 cases b with
 | nil =>
   rcases e2 with z | ⟨q,z⟩
   ·rw [z] at e3; cases e3
   ·rw [z] at e3; exact absurd (Us.inj e3).1 (by decide)
 | cons x b =>
   have hx : x = 32:=(Us.inj e3).1
   rw [hx] at e
   exact hs p hp a b e
theorem Ga : ∀ {ts : List Str},ts ≠ [] → cm (Str.join AZ ts) + 1 = (ts.map cm).sum + ts.length
 | [],h=>absurd rfl h
 | [t],_=>by rw [PyProof.Rows.join_one]; simp
 | t :: v :: r,_=>by
   have ih:=Ga (ts:=v :: r) (V8 _ _)
   have e : cm (Str.join AZ (t :: v :: r)) = cm t + 1 + cm (Str.join AZ (v :: r)):=by
    unfold cm
    rw [PyProof.Rows.join_cons_cons,AE,AE,BK,Vc,Vc]; rfl
   rw [e,U1,V5,U9]
   lia
theorem F0 {sep : Str} : ∀ {ts : List Str},ts ≠ [] → (Str.join sep ts).length + sep.length = (ts.map fun t=>t.length).sum + ts.length * sep.length
 | [],h=>absurd rfl h
 | [t],_=>by rw [PyProof.Rows.join_one]; simp
 | t :: v :: r,_=>by
   have ih:=F0 (sep:=sep) (ts:=v :: r) (V8 _ _)
   have e : (Str.join sep (t :: v :: r)).length = t.length + sep.length + (Str.join sep (v :: r)).length:=by rw [PyProof.Rows.join_cons_cons,Ai,AE,AE,Tz,Tz,← Ai,← Ai,← Ai]
   rw [e,U1,V5,U9,U0]
   lia
theorem Lf {ts : List Str} (h : ∀ p ∈ ts,44 ∉ sg p) : (ts.map cm).sum = 0:=by
 induction ts with
 | nil=>rfl
 | cons t r ih =>
   rw [U1,V5,ih fun p hp=>h p (SO _ hp),show cm t = 0 from List.count_eq_zero.mpr (h t (SN ..))]
theorem CL {sep : Str} (hs : Sok sep) : ∀ {ts : List Str},(∀ t ∈ ts,Sok t) → ∀ c ∈ sg (Str.join sep ts),c < 128
 | [],_,c,hc=>by cases (show c ∈ ([] : List Nat) from hc)
 | [t],h,c,hc=>by rw [PyProof.Rows.join_one] at hc; exact h t (Ul.mpr rfl) c hc
 | t :: v :: r,h,c,hc=>by
   rw [PyProof.Rows.join_cons_cons,AE,AE] at hc
   rcases SR.mp hc with z | z
   ·rcases SR.mp z with z | z
    ·exact h t (SN ..) c z
    ·exact hs c z
   ·exact CL hs (fun x hx=>h x (SO _ hx)) c z
structure Nd (sep t u : Str) : Prop where
 asc : ∀ c ∈ sg u,c < 128
 len : u.length ≤ 2 * t.length + 100
 cms : sep = AZ → (Cok (sg u) ∨ ∀ p ∈ Txt.split t AZ,44 ∉ sg p) → cm u ≤ cm t + 1
theorem Kr {sep t x : Str} {ts' : List Str} (hA : ∀ c ∈ sg t,c < 128) (hx : Sok x) (hsep : Sok sep) (hs2 : sep.length ≤ 2) (hxl : x.length ≤ max 70 t.length) (hx44 : x ∈ Txt.split t sep ∨ 44 ∉ sg x) (hne : ts' ≠ []) (hm : ∀ p ∈ ts',p = x ∨ p ∈ Txt.split t sep) (hl : ts'.length ≤ (Txt.split t sep).length + 1) (hw : (ts'.map fun t=>t.length).sum ≤ ((Txt.split t sep).map fun t=>t.length).sum + x.length) : Nd sep t (Str.join sep ts'):=by
 have hj:=StrLaws.join_split t sep
 have hn:=Ct t sep
 have hpA : ∀ p ∈ Txt.split t sep,Sok p:=fun p hp c hc=>hA c (by rw [← hj]; exact (Fb hp).1 c hc)
 refine ⟨CL hsep fun p hp=>?_,?_,fun hc hor=>?_⟩
 ·rcases hm p hp with z | z
  ·rw [z]; exact hx
  ·exact hpA p z
 ·have e1:=F0 (sep:=sep) hne
  have e2:=F0 (sep:=sep) hn
  rw [hj] at e2
  have hmul : ts'.length * sep.length ≤ (Txt.split t sep).length * sep.length + sep.length:=by
   rw [← U0]; exact Nat.mul_le_mul_right _ hl
  lia
 ·subst hc
  have e1:=Ga hne
  have e2:=Ga hn
  rw [hj] at e2
  have hfree : ∀ p ∈ ts',44 ∉ sg p:=by
   rcases hor with hk | hf
   ·refine N1 hk fun p hp u r e=>?_
    have hin : p ∈ Txt.split t AZ ∨ 44 ∉ sg p:=by
     rcases hm p hp with z | z
     ·rw [z]; exact hx44
     ·exact .inl z
    rcases hin with z | z
    ·exact Je t p z u r e
    ·exact z (by rw [e]; simp)
   ·intro p hp
    rcases hm p hp with z | z
    ·rw [z]
     rcases hx44 with y | y
     ·exact hf x y
     ·exact y
    ·exact hf p z
  rw [Lf hfree] at e1
  lia
theorem Ib {sep t u : Str} {a m : Nat} {l : List Nat} (hA : ∀ c ∈ sg t,c < 128) (hl : l.length ≤ 1) (hlA : ∀ c ∈ l,c < 128) (ham : a ≤ m) (hu : sg u = (sg t).take a ++ l ++ (sg t).drop m) : Nd sep t u:=by
 refine ⟨fun c hc=>?_,?_,fun _ _=>?_⟩
 ·rw [hu] at hc
  rcases SR.mp hc with z | z
  ·rcases SR.mp z with z | z
   ·exact hA c (V6 z)
   ·exact hlA c z
  ·exact hA c (List.mem_of_mem_drop z)
 ·rw [Ai u,hu,Ai t,Tz,Tz,Tp,TN]; lia
 ·unfold cm
  rw [hu,Vc,Vc]
  have h1 : l.count 44 ≤ 1:=SJ List.count_le_length hl
  have h2 : ((sg t).drop m).count 44 ≤ ((sg t).drop a).count 44:=by
   rw [show (sg t).drop m = ((sg t).drop a).drop (m - a) by rw [V3]; congr 1; lia]
   exact (List.drop_sublist _ _).count_le _
  have h3 : (sg t).count 44 = ((sg t).take a).count 44 + ((sg t).drop a).count 44:=by rw [← Vc,UD]
  lia
theorem KG {ts : List Str} {d : Int} (h0 : 0 ≤ d) (h1 : d < (ts.length : Int)) : ∃ t,atI (ts.map V.str) d = some (.str t) ∧ t ∈ ts:=by
 obtain ⟨n,rfl⟩ : ∃ n : Nat,d = (n : Int):=⟨d.toNat,by lia⟩
 obtain ⟨t,ht⟩ : ∃ t,ts[n]? = some t:=⟨_,Uo (show n < ts.length by lia)⟩
 exact ⟨t,As (by rw [Tu,ht]; rfl),Tx ht⟩
inductive K9 (vs : List V) (H : Hp) (Q : VK) (E_3 : XK) : Prop
 | mk (a : Addr) (t sep : Str) (h1 : vs = [.ref a,.str t,.str sep]) (h2 : Pen H a) (h3 : (∀ c ∈ sg t,c < 128)) (h4 : t.length ≤ 20000) (h5 : (sep = AL ∨ sep = AZ)) (h6 : ∀ u H',Mv a H H' → Pen H' a → Nd sep t u → Q (.str u) H') : K9 vs H Q E_3
theorem NF {len n : Nat} (h : n < len) : ixN len (n : Int) = some n:=by
 unfold ixN
 simp [h]
def Jz : List Str:=(["0","00","-0","01","2/4","3/1","1/0","-1/-2","1/-2","","-","1/2/3","1:1","5:1:2","1:1:1:1","+1"] : List Str) ++ [BD "1" 60,BD "1" 61,"-" ++ BD "7" 60,"1/" ++ BD "3" 60,"1/" ++ BD "1" 61," 1","1 ","0/5","7:-1/9"]
theorem Jy : ∀ x ∈ Jz,x.length ≤ 70 ∧ (∀ c ∈ sg x,c < 128 ∧ c ≠ 44):=by decide +kernel
theorem OR {t : Str} {a c : Nat} (hL : t.length ≤ 20000) : (⟨((sg t).take a).toArray⟩ : Str).length + (⟨#[c]⟩ : Str).length ≤ sizeLine:=by
 have:=sizeLine_eq
 have e1 : (⟨((sg t).take a).toArray⟩ : Str).length = ((sg t).take a).length:=by rw [Ai]; simp [sg]
 have e2 : (⟨#[c]⟩ : Str).length = 1:=rfl
 rw [e1,e2,Tp,← Ai]; lia
theorem Nw {t : Str} {a c m : Nat} (hL : t.length ≤ 20000) : (⟨((sg t).take a).toArray⟩ ++ ⟨#[c]⟩ : Str).length + (⟨((sg t).drop m).toArray⟩ : Str).length ≤ sizeLine:=by
 have:=sizeLine_eq
 have e1 : (⟨((sg t).take a).toArray⟩ ++ ⟨#[c]⟩ : Str).length = ((sg t).take a).length + 1:=by rw [Ai,AE,Tz]; simp [sg]
 have e2 : (⟨((sg t).drop m).toArray⟩ : Str).length = ((sg t).drop m).length:=by rw [Ai]; simp [sg]
 rw [e1,e2,Tp,TN,← Ai]; lia
theorem GU {sep : Str} {ts : List Str} (h : (ts.map fun t=>t.length).sum + ts.length * sep.length ≤ 1000000) : JoinOk sep ts = true:=by
 unfold JoinOk
 rw [StrLaws.joinTotal]
 have h3:=sizeLine_eq
 unfold Builtin.Str.tooLong
 rw [decide_eq_false (by lia)]
 rfl
theorem Ie {f : Str → Nat} : ∀ {l : List Str} {i : Nat} {v x : Str},l[i]? = some x → ((l.set i v).map f).sum + f x = (l.map f).sum + f v
 | [],_,_,_,h=>by cases h
 | y :: l,0,v,x,h=>by cases h; rw [List.set_cons_zero,U1,U1,V5,V5]; lia
 | y :: l,i + 1,v,x,h=>by
   have ih:=Ie (f:=f) (l:=l) (i:=i) (v:=v) h
   rw [List.set_cons_succ,U1,U1,V5,V5]; lia
theorem Oj {f : Str → Nat} {l : List Str} {k : Nat} {x : Str} : ((l.take k ++ x :: l.drop k).map f).sum = (l.map f).sum + f x:=by
 have e : (l.map f).sum = ((l.take k).map f).sum + ((l.drop k).map f).sum:=by rw [← List.sum_append,← UK,UD]
 rw [UK,List.sum_append,U1,V5,e]; lia
theorem OT {t : Str} {a m : Nat} (hL : t.length ≤ 20000) : (⟨((sg t).take a).toArray⟩ : Str).length + (⟨((sg t).drop m).toArray⟩ : Str).length ≤ sizeLine:=by
 have:=sizeLine_eq
 have e1 : (⟨((sg t).take a).toArray⟩ : Str).length = ((sg t).take a).length:=by rw [Ai]; simp [sg]
 have e2 : (⟨((sg t).drop m).toArray⟩ : Str).length = ((sg t).drop m).length:=by rw [Ai]; simp [sg]
 rw [e1,e2,Tp,TN,← Ai]; lia
theorem Ic {t : Str} (hg : ∀ p ∈ Txt.split t (Str.ofString ", "),E7 p) : ∃ pss : List (List Rat),t = Bc pss ∧ 1 ≤ pss.length ∧ P23 pss ∧ ∀ ps ∈ pss,∀ q ∈ ps,Fg q:=by
 have hj:=StrLaws.join_split t (Str.ofString ", ")
 have hn:=Ct t (Str.ofString ", ")
 have hp : ∀ {l : List Str},(∀ p ∈ l,E7 p) → ∃ pss : List (List Rat),l = pss.map ptx ∧ P23 pss ∧ ∀ ps ∈ pss,∀ q ∈ ps,Fg q:=fun {l} hl=>by
  induction l with
  | nil=>exact ⟨[],rfl,nofun,nofun⟩
  | cons p l ih =>
    obtain ⟨pss,e,h23,hf⟩:=ih fun x hx=>hl x (SO _ hx)
    obtain ⟨h1,h2⟩:=hl p (SN ..)
    obtain ⟨ps,ep,hpf⟩:=CO h1
    have hjp:=StrLaws.join_split p (Str.ofString ":")
    rw [ep] at hjp h2
    rw [TC] at h2
    refine ⟨ps :: pss,by rw [U1,← e]; congr 1; exact hjp.symm,fun x hx=>?_,fun x hx=>?_⟩
    ·rcases SQ.mp hx with z | z
     ·rw [z]; exact h2
     ·exact h23 x z
    ·rcases SQ.mp hx with z | z
     ·rw [z]; exact hpf
     ·exact hf x z
 obtain ⟨pss,e,h23,hf⟩:=hp hg
 rw [e] at hj hn
 exact ⟨pss,hj.symm,U8.mpr fun z=>hn (by rw [z]; rfl),h23,hf⟩
theorem Lo {pss : List (List Rat)} (h1 : 1 ≤ pss.length) : cm (Bc pss) + 1 = pss.length:=by
 have e:=Ga (ts:=pss.map ptx) (by simpa using GH h1)
 rw [Lf fun p hp=>by obtain ⟨ps,_,rfl⟩:=UY.mp hp; exact EN ps,TC] at e
 rw [UA] at e
 exact e
theorem QK (t : Str) : ∃ res,RdW 0 t res:=by
 cases h : ni t with
 | none=>exact ⟨_,.num0 h⟩
 | some p =>
   obtain ⟨q,hq,e,_⟩:=DG (a:=p.1) (b:=p.2) h
   rw [e]
   exact ⟨_,.num hq⟩
theorem Qb (t : Str) : ∃ res,RdW 1 t res:=by
 by_cases hall : ∀ w ∈ Txt.split t (Str.ofString " "),ni w ≠ none
 ·obtain ⟨qs,e,hf⟩:=CO hall
  have hj:=StrLaws.join_split t (Str.ofString " ")
  have hn:=Ct t (Str.ofString " ")
  rw [e] at hj hn
  have hqn : qs ≠ []:=fun z=>hn (by rw [z]; rfl)
  have et : t = Str.join AL (qs.map tx):=hj.symm
  have hqp:=U8.mpr hqn
  obtain ⟨q0,hq0⟩ : ∃ q0,qs[qs.length - 1]? = some q0:=⟨_,Uo (by lia)⟩
  by_cases h16 : 16 < qs.length
  ·exact ⟨_,.crvX (.inr ⟨qs,et,hf,hqn,.inl h16⟩)⟩
  by_cases h0 : q0 = 0
  ·by_cases h1 : 1 < qs.length
   ·exact ⟨_,.crvX (.inr ⟨qs,et,hf,hqn,.inr ⟨h1,by rw [hq0,h0]⟩⟩)⟩
   ·obtain ⟨x,rfl⟩ : ∃ x,qs = [x]:=by
     match qs,hqp,h1 with
     | [x],_,_=>exact ⟨x,rfl⟩
     | _ :: _ :: _,_,h=>exact absurd (by simp) h
    cases hq0
    rw [et,h0,← Dy]
    exact ⟨_,.crv0⟩
  ·rw [et]
   exact ⟨_,.crv hf hqn (by lia) hq0 h0⟩
 ·exact ⟨_,.crvX (.inl (Classical.byContradiction fun z=>hall fun w hw e=>z ⟨w,hw,e⟩))⟩
theorem QJ {t : Str} (h : Cok (sg t) → cm t ≤ 16) : ∃ res,RdW 2 t res:=by
 by_cases hb : JX t
 ·exact ⟨_,.bad hb⟩
 ·obtain ⟨pss,e,h1,h23,hf⟩:=Ic (t:=t) fun p hp=>Classical.byContradiction fun z=>hb (Ks hp z)
  have hc:=h (by rw [e]; exact (JP fun ps hp=>(IA h23 hf ps hp).1).1)
  have e2:=Lo h1
  rw [e] at hc ⊢
  by_cases hnd : (pss.map fun ps=>ps.getD 0 0).Nodup
  ·by_cases ht : (BI pss).length ≤ 12
   ·exact ⟨_,.pts h1 h23 hf hnd ht⟩
   ·exact ⟨_,.many h1 (by lia) h23 hf hnd (by lia)⟩
  ·exact ⟨_,.twice h1 (by lia) h23 hf hnd⟩
theorem Oc {K : SI} {H : Hp} {v v' : V} {res : Res} {Q : VK} (h1 : J0 K H v res) (h2 : J0 K H v' res) (h : Q (.bl false) H) : EM K true v v' H Q:=by
 cases res with
 | word n =>
   rw [show v = _ from h1,show v' = _ from h2]
   have hw : SeqAt.shaped (.str (wdT n)) = true:=by
    match n with
    | 0=>decide +kernel
    | 1=>decide +kernel
    | n + 2=>show SeqAt.shaped (.str (Str.ofString "text")) = true; decide +kernel
   refine FA ⟨.str (wdT n),.str (wdT n),.str _,.str _,hw,hw,?_⟩
   rw [show PyData.eqv (.str (wdT n)) (.str (wdT n)) = true from beq_self_eq_true (wdT n)]
   exact h
 | num q=>exact eqN h1 h2 (by rw [decide_eq_true rfl]; exact h)
 | crv qs =>
   obtain ⟨a,rfl,ha⟩:=h1
   obtain ⟨b,rfl,hb⟩:=h2
   exact eqT ha hb (by rw [decide_eq_true rfl]; exact h)
 | pts pss =>
   obtain ⟨r,xs,rfl,hS,hP⟩:=h1
   obtain ⟨r',xs',rfl,hS',hP'⟩:=h2
   exact QR hS hP hS' hP' (by rw [decide_eq_true rfl]; exact h)
theorem nl0 {t : Str} (h : 10 ∈ sg t) : RdW 0 t (.word 2):=.num0 (by
 cases e : ni t with
 | none=>rfl
 | some p =>
   obtain ⟨q,_,e2,_⟩:=DG (a:=p.1) (b:=p.2) e
   rw [e2] at h
   exact absurd h (DA q (by decide)))
theorem nl1 {t : Str} (h : 10 ∈ sg t) : RdW 1 t (.word 2):=.crvX (.inl (Classical.byContradiction fun z=>by
 obtain ⟨qs,e,hf⟩:=CO (ws:=Txt.split t (Str.ofString " ")) fun w hw e=>z ⟨w,hw,e⟩
 have hj:=StrLaws.join_split t (Str.ofString " ")
 rw [e] at hj
 rw [← hj] at h
 exact CK (show 10 ∉ sg AL by rw [CV]; decide) (fun u hu=>by obtain ⟨q,_,rfl⟩:=UY.mp hu; exact DA q (by decide)) h))
theorem nl2 {t : Str} (h : 10 ∈ sg t) : RdW 2 t (.word 2):=.bad (Classical.byContradiction fun hb=>by
 obtain ⟨pss,e,h1,h23,hf⟩:=Ic (t:=t) fun p hp=>Classical.byContradiction fun z=>hb (Ks hp z)
 rw [e] at h
 exact CK (show 10 ∉ sg AZ by rw [BK]; decide) (fun u hu=>by
  obtain ⟨ps,_,rfl⟩:=UY.mp hu
  exact CK (show 10 ∉ sg CD by rw [CU]; decide) fun w hw=>by obtain ⟨q,_,rfl⟩:=UY.mp hw; exact DA q (by decide)) h)
theorem MC {pss : List (List Rat)} (h : ∀ ps ∈ pss,∀ q ∈ ps,Fg q) (h23 : P23 pss) : (Bc pss).length ≤ pss.length * 377:=by
 have:=D8 (sep:=AZ) (by rw [Bh]; decide) (Ds h h23)
 rw [TC] at this
 exact this
theorem N6 {pss : List (List Rat)} (h : ∀ ps ∈ pss,∀ q ∈ ps,Fg q) : ∀ c ∈ sg (Bc pss),c < 128 :=
 CL (by unfold Sok; rw [BK]; decide) fun t ht=>by
  obtain ⟨ps,hp,rfl⟩:=UY.mp ht
  exact CL (by unfold Sok; rw [CU]; decide) fun u hu=>by
   obtain ⟨q,hq,rfl⟩:=UY.mp hu
   exact (Kz (h ps hp q hq)).1
theorem J0.same {K : SI} {H H' : Hp} {v : V} {res : Res} (h : J0 K H v res) (e : Ad H H') : J0 K H' v res:=by
 cases res with
 | word n=>exact h
 | num q=>exact Be.same h e
 | crv qs=>obtain ⟨a,h1,h2⟩:=h; exact ⟨a,h1,h2.same e⟩
 | pts pss=>obtain ⟨r,xs,h1,h2,h3⟩:=h; exact ⟨r,xs,h1,h2.same e,Pts.same h3 e⟩
def Ek : Rat:=⟨1,2,by decide,by decide⟩
theorem Fw (K : SI) : Tb K (.type "tuple") (.type "str") = some false:=by kernel_rfl
theorem OZ (K : SI) : Tb K (.type "NoneType") (.type "str") = some false:=by kernel_rfl
theorem NB (K : SI) : Tb K (.type "int") (.type "str") = some false:=by kernel_rfl
theorem P8 (K : SI) : Tb K (.type "bool") (.type "str") = some false:=by kernel_rfl
theorem P4 (K : SI) : Tb K (.type "list") (.type "str") = some false:=by kernel_rfl
theorem P7 (K : SI) : Tb K (.type "dict") (.type "str") = some false:=by kernel_rfl
section
variable {P : Program} {w : World} {K : SI} {mg : Str → Option Value} {base : Heap}
theorem D9 : Ax ["_law_script","_law_k","_law_cell"] ["_law_script","_law_k"] (Ac (top 44)):=⟨rfl,rfl,rfl,by decide +kernel,rfl,by decide +kernel,by decide +kernel⟩
theorem Ju {f : Addr} {fd : FuncData} (F : Fun K "_law_pen" "_law_pen" (top 44) f fd) (QV : mg "len" = none) (hT : P.given.tree = none) :
 AF P w K mg base CX0 33 f fd ["_law_script","_law_k"] (Mo K):=by
 refine F.ok D9 (fun vs H Q E h=>?_) (fun cdv A outer s H vs Q E hr h=>?_)
 ·obtain ⟨_,_,_,rfl,_⟩:=h; rfl
 refine ⟨_,(Aa (K:=K) (Aq (i:=2) D9.nd rfl (Or.inl rfl) (Al BA (Al C7 Ab (pv 1)) Ab))
  (Aa (K:=K) (Av (K:=K) (Ag FJ (pv 1) (Af (BY K) rfl QV AJ (A7 (pv 0) A8)) (Ak _)) (Ae (Aq (i:=2) D9.nd rfl (Or.inl rfl) (Aw (ixL K) (pv 0) (pv 1) (fun u v=>rfl)))) (Ae (Av (K:=K) (Ag Cy (Af (BY K) rfl QV AJ (A7 (pv 0) A8)) Ab (Ak _)) (Ae (Aq (i:=2) D9.nd rfl (Or.inl rfl) (Al BA (Aw (ixL K) (pv 0) (Al C8 (pv 1) (Af (BY K) rfl QV AJ (A7 (pv 0) A8))) (fun u v=>rfl)) (Al C7 Ab (pv 1))))) Am (by rfl) (by rfl))) (by rfl) (by rfl))
  (Aa (K:=K) (Av (K:=K) (Ag O8 (pv 2) (Al EA Ab Ab) (Ak _)) (Ae (Aj (AY (A7 (Al D6 (pv 2) (Al EA Ab Ab)) (A7 (Al C8 (pv 2) Ab) (A7 Ab A8)))))) Am (by rfl) (by rfl))
  (Ae (Aj (AY (A7 Ab (A7 (Al BA (Al C8 (pv 2) Ab) (Al C7 Ab (pv 1))) (A7 Ab A8)))))) (by rfl)) (by rfl)) (by rfl)),?_⟩
 obtain ⟨a,ns,k,rfl,hS,h63,h0,h62,q⟩:=h
 have hl : (ns.map V.int).length = ns.length:=TC _
 have P3 : 3 ≤ sizeLine:=by decide
 have C1 : Ky 10 18:=by unfold Ky; decide
 refine ⟨_,rfl,_,_,rfl,rfl,.inl ⟨by decide,by decide⟩,_,_,rfl,rfl,?_⟩
 refine ⟨_,rfl,_,rfl,a,_,rfl,.inl hS,_,_,rfl,rfl,_,rfl,?_⟩
 rw [hl]
 have hk1 : k < (ns.length : Int) → ∃ v : Int,atI (ns.map V.int) k = some (.int v):=fun c=>Lq h0 c
 have hk2 : 0 < (ns.length : Int) → ∃ v : Int,atI (ns.map V.int) (k % (ns.length : Int)) = some (.int v):=fun c=>Lq (Uy _ (by lia)) (Uz _ c)
 refine Hv (fun c=>?_) (fun c=>?_)
 ·obtain ⟨v,hv⟩:=(hk1 (of_decide_eq_true c))
  refine ⟨_,rfl,_,rfl,a,_,_,_,rfl,rfl,hS,hv,?_⟩
  refine ⟨_,rfl,_,_,rfl,rfl,C1,_,_,rfl,rfl,_,rfl,?_⟩
  refine Hv (fun c=>?_) (fun c=>?_)
  ·exact ⟨_,rfl,_,_,rfl,rfl,C1,_,_,rfl,rfl,_,rfl,_,_,rfl,rfl,(by first | decide | (dsimp only; decide)),P3,fun p hp=>q p _ _ hp⟩
  ·exact ⟨_,rfl,_,_,rfl,rfl,(by first | decide | (dsimp only; decide)),_,rfl,_,_,rfl,rfl,.inl ⟨by decide,by decide⟩,_,_,rfl,rfl,P3,fun p hp=>q p _ _ hp⟩
 ·refine ⟨_,rfl,a,_,rfl,.inl hS,_,_,rfl,rfl,_,rfl,?_⟩
  rw [hl]
  refine Hv (fun c=>?_) (fun c=>?_)
  ·obtain ⟨v,hv⟩:=(hk2 (of_decide_eq_true c))
   have c' : 0 < (((ns.map V.int).length : Nat) : Int):=by rw [hl]; exact of_decide_eq_true c
   rw [← hl] at hv
   refine ⟨_,rfl,_,rfl,_,rfl,a,_,rfl,.inl hS,_,_,rfl,rfl,c',a,_,_,_,rfl,rfl,hS,hv,_,rfl,_,_,rfl,rfl,.inl ⟨by decide,by decide⟩,_,_,rfl,rfl,?_⟩
   refine ⟨_,rfl,_,_,rfl,rfl,C1,_,_,rfl,rfl,_,rfl,?_⟩
   refine Hv (fun c=>?_) (fun c=>?_)
   ·exact ⟨_,rfl,_,_,rfl,rfl,C1,_,_,rfl,rfl,_,rfl,_,_,rfl,rfl,(by first | decide | (dsimp only; decide)),P3,fun p hp=>q p _ _ hp⟩
   ·exact ⟨_,rfl,_,_,rfl,rfl,(by first | decide | (dsimp only; decide)),_,rfl,_,_,rfl,rfl,.inl ⟨by decide,by decide⟩,_,_,rfl,rfl,P3,fun p hp=>q p _ _ hp⟩
  ·refine ⟨_,rfl,_,_,rfl,rfl,C1,_,_,rfl,rfl,_,rfl,?_⟩
   refine Hv (fun c=>?_) (fun c=>?_)
   ·exact ⟨_,rfl,_,_,rfl,rfl,C1,_,_,rfl,rfl,_,rfl,_,_,rfl,rfl,(by first | decide | (dsimp only; decide)),P3,fun p hp=>q p _ _ hp⟩
   ·exact ⟨_,rfl,_,_,rfl,rfl,(by first | decide | (dsimp only; decide)),_,rfl,_,_,rfl,rfl,.inl ⟨by decide,by decide⟩,_,_,rfl,rfl,P3,fun p hp=>q p _ _ hp⟩
theorem Iu : Ax ["_law_number_here"] ["_law_number_here"] (Ac (top 52)):=⟨rfl,rfl,rfl,by decide +kernel,rfl,by decide +kernel,by decide +kernel⟩
theorem IF {f : Addr} {fd : FuncData} (F : Fun K "_law_text" "_law_text" (top 52) f fd) (QZ : mg "str" = none) (hT : P.given.tree = none) :
 AF P w K mg base CX0 33 f fd ["_law_number_here"] (DC K):=by
 refine F.ok Iu (fun vs H Q E h=>?_) (fun cdv A outer s H vs Q E hr h=>?_)
 ·obtain ⟨_,_,rfl,_⟩:=h; rfl
 refine ⟨_,(Aa (K:=K) (Av (K:=K) (Ag BR (Aw (ixT K) (pv 0) Ab (fun u v=>rfl)) Ab (Ak _)) (Ae (Aj (Ay BQ rfl QZ Dk (A7 (Aw (ixT K) (pv 0) Ab (fun u v=>rfl)) A8)))) Am (by rfl) (by rfl))
  (Ae (Aj (Al Bp (Al Bp (Ay BQ rfl QZ Dk (A7 (Aw (ixT K) (pv 0) Ab (fun u v=>rfl)) A8)) Ah) (Ay BQ rfl QZ Dk (A7 (Aw (ixT K) (pv 0) Ab (fun u v=>rfl)) A8))))) (by rfl)),?_⟩
 obtain ⟨x,q,rfl,⟨r,rfl,hr'⟩,hf,q0⟩:=h
 have hd:=hf.2
 have hs:=sizeLine_eq
 have l1:=Fu hf.1
 have l2:=Fu (i:=(q.den : Int)) (by lia)
 refine ⟨_,rfl,r,_,_,_,rfl,rfl,hr',rfl,rfl,_,rfl,?_⟩
 by_cases h1 : q.den = 1
 ·have e : tx q = txI q.num:=if_pos h1
  rw [e] at q0
  exact AX (by rw [decide_eq_true (show V.int (q.den : Int) = V.int 1 by rw [h1]; rfl)] <;> rfl) ⟨_,rfl,r,_,_,_,rfl,rfl,hr',rfl,_,rfl,Fs hf.1,q0⟩
 ·have e : tx q = txI q.num ++ Str.ofString "/" ++ txI q.den:=if_neg h1
  rw [e] at q0
  rw [decide_eq_false (fun z=>h1 (by have:=V.int.inj z; lia))]
  have l3 : (Str.ofString "/").length = 1:=by rw [Ai,BC]; rfl
  have l4 : (txI q.num ++ Str.ofString "/").length = (txI q.num).length + 1:=by rw [Ai,AE,Tz,← Ai,← Ai,l3]
  refine AR ⟨_,rfl,r,_,_,_,rfl,rfl,hr',rfl,_,rfl,Fs hf.1,_,_,rfl,rfl,?_,_,rfl,r,_,_,_,rfl,rfl,hr',rfl,_,rfl,Fs (by lia),_,_,rfl,rfl,?_,q0⟩
  ·show (txI q.num).length + (Str.ofString "/").length ≤ sizeLine
   lia
  ·show (txI q.num ++ Str.ofString "/").length + (txI q.den).length ≤ sizeLine
   lia
theorem Hl : Ax ["_law_numbers"] ["_law_numbers"] (Ac (top 53)):=⟨rfl,rfl,rfl,by decide +kernel,rfl,by decide +kernel,by decide +kernel⟩
theorem Hs {f : Addr} {fd : FuncData} (F : Fun K "_law_texts" "_law_texts" (top 53) f fd) (Rg : Fd P w K mg base 33 "_law_text" ["_law_number_here"] (DC K)) (hT : P.given.tree = none) :
 AF P w K mg base CX0 34 f fd ["_law_numbers"] (DB K AL):=by
 refine F.ok Hl (fun vs H Q E h=>?_) (fun cdv A outer s H vs Q E hr h=>?_)
 ·obtain ⟨_,_,_,rfl,_⟩:=h; rfl
 refine ⟨_,(Ae (Aj (AW K PySem.F.plainAttrs_str PySem.F.slot_str_join PySem.F.type_str_join (Df K) Ah (A7 (Cj rfl (N:=["_law_number_here"]) (nt:=1) (js:=[]) (AQ.look (NX:=["_law_numbers"]) (sc:=Ac (top 53)) rfl rfl (by decide +kernel)) (piT K (pv 0)) (fun u1 u2 u3 u4 u5=>(AG (i:=0) (show List.Nodup (["_law_number_here"] : List Str) from by decide +kernel) rfl (Or.inl rfl))) (AD (by decide)) (fun u1 u2 u3 u4 u5=>Bb) (fun u1 u2 u3 u4 u5=>(Ap Rg hr rfl (A7 (pv 0) A8)))) A8)))),?_⟩
 obtain ⟨r,xs,qs,rfl,hS,hn,hf,h100,q⟩:=h
 have hs:=sizeLine_eq
 have hl:=hn.length
 refine ⟨rfl,?_⟩
 refine BN ⟨_,rfl,r,rfl,⟨_,hS⟩,DI (xs:=xs) (fun i zs H'=>H' = H ∧ zs = ((qs.take i).map tx).map V.str) ⟨rfl,rfl⟩ (fun i zs H' hi p=>⟨by rw [p.1]; exact hS,by rw [p.2,TC,TC,Tp]; lia⟩) (by lia) ?_ ?_⟩
 ·rintro i x zs H' hx ⟨rfl,rfl⟩
  obtain ⟨c,hc,hcn⟩:=(Paired.get hn hx)
  refine ⟨_,rfl,x,c,rfl,hcn,hf c (Tx hc),rfl,?_⟩
  rw [UQ,hc,UK,UK]; rfl
 rintro zs H' ⟨rfl,rfl⟩ p hp
 rw [hl,UR]
 exact ⟨_,p,qs.map tx,rfl,rfl,SqL.of A9,CN (by show AL.length ≤ 2; rw [Ce]; decide) (fun t ht=>SJ (Dz hf t ht) (by decide)) (by rw [TC]; exact h100),q _ (Ad.new hp)⟩
theorem Ei : Ax ["_law_points_here"] ["_law_points_here"] (Ac (top 54)):=⟨rfl,rfl,rfl,by decide +kernel,rfl,by decide +kernel,by decide +kernel⟩
theorem Ej {f : Addr} {fd : FuncData} (F : Fun K "_law_points_text" "_law_points_text" (top 54) f fd) (Rg : Fd P w K mg base 33 "_law_text" ["_law_number_here"] (DC K)) (hT : P.given.tree = none) :
 AF P w K mg base CX0 34 f fd ["_law_points_here"] (EG K):=by
 refine F.ok Ei (fun vs H Q E h=>?_) (fun cdv A outer s H vs Q E hr h=>?_)
 ·obtain ⟨_,_,_,rfl,_⟩:=h; rfl
 refine ⟨_,(Ae (Aj (AW K PySem.F.plainAttrs_str PySem.F.slot_str_join PySem.F.type_str_join (Df K) Ah (A7 (Cj rfl (N:=["_law_point"]) (nt:=1) (js:=[]) (AQ.look (NX:=["_law_points_here"]) (sc:=Ac (top 54)) rfl rfl (by decide +kernel)) (piT K (pv 0)) (fun u1 u2 u3 u4 u5=>(AG (i:=0) (show List.Nodup (["_law_point"] : List Str) from by decide +kernel) rfl (Or.inl rfl))) (AD (by decide)) (fun u1 u2 u3 u4 u5=>Bb) (fun u1 u2 u3 u4 u5=>(AW K PySem.F.plainAttrs_str PySem.F.slot_str_join PySem.F.type_str_join (Df K) Ah (A7 (Cj rfl (N:=["_law_number_here"]) (nt:=1) (js:=[]) (AQ.lookN (NX:=["_law_point"]) (sc:=Ac (top 54)) rfl (by decide +kernel)) (piT K (pv 0)) (fun u1 u2 u3 u4 u5=>(AG (i:=0) (show List.Nodup (["_law_number_here"] : List Str) from by decide +kernel) rfl (Or.inl rfl))) (AD (by decide)) (fun u1 u2 u3 u4 u5=>Bb) (fun u1 u2 u3 u4 u5=>(Ap Rg hr rfl (A7 (pv 0) A8)))) A8)))) A8)))),?_⟩
 obtain ⟨r,xs,pss,rfl,hS,hn,h23,hf,h100,q⟩:=h
 have hs:=sizeLine_eq
 have hl:=hn.length
 refine ⟨rfl,?_⟩
 refine BN ⟨_,rfl,r,rfl,⟨_,hS⟩,DI (xs:=xs) (fun i zs H'=>Ad H H' ∧ zs = ((pss.take i).map ptx).map V.str) ⟨Ad.refl _,rfl⟩ (fun i zs H' hi p=>⟨SqT.same hS p.1,by rw [p.2,TC,TC,Tp]; lia⟩) (by lia) ?_ ?_⟩
 ·rintro i x zs H' hx ⟨sm,rfl⟩
  obtain ⟨ps,hps,hpt⟩:=(Paired.get hn hx)
  have hm:=Tx hps
  have h3 : ps.length ≤ 3:=by rcases h23 ps hm with z | z <;> lia
  obtain ⟨a,rfl,us,hus,hun⟩:=(hpt.same sm)
  have hl2:=hun.length
  refine ⟨rfl,?_⟩
  refine BN ⟨_,rfl,a,rfl,⟨_,hus⟩,DI (xs:=us) (fun i zs H2=>H2 = H' ∧ zs = ((ps.take i).map tx).map V.str) ⟨rfl,rfl⟩ (fun i zs H2 hi p=>⟨by rw [p.1]; exact hus,by rw [p.2,TC,TC,Tp]; lia⟩) (by lia) ?_ ?_⟩
  ·rintro j y ys H2 hy ⟨rfl,rfl⟩
   obtain ⟨c,hc,hcn⟩:=(Paired.get hun hy)
   refine ⟨_,rfl,y,c,rfl,hcn,hf ps hm c (Tx hc),rfl,?_⟩
   rw [UQ,hc,UK,UK]; rfl
  rintro ys H2 ⟨rfl,rfl⟩ p hp
  rw [hl2,UR]
  refine ⟨_,p,ps.map tx,rfl,rfl,SqL.of A9,CN (by show CD.length ≤ 2; rw [Cd]; decide) (fun t ht=>SJ (Dz (hf ps hm) t ht) (by decide)) (by rw [TC]; lia),sm.trans (Ad.new hp),?_⟩
  rw [UQ,hps,UK,UK]; rfl
 rintro zs H' ⟨sm,rfl⟩ p hp
 rw [hl,UR]
 exact ⟨_,p,pss.map ptx,rfl,rfl,SqL.of A9,CN (by show AZ.length ≤ 2; rw [Bh]; decide) (fun t ht=>SJ (Ds hf h23 t ht) (by decide)) (by rw [TC]; exact h100),q _ (sm.trans (Ad.new hp))⟩
theorem CH : Ax ["_law_pen_here","_law_many","_law_drawn","_law_number_here"] ["_law_pen_here","_law_many"] (Ac (top 45)):=⟨rfl,rfl,rfl,by decide +kernel,rfl,by decide +kernel,by decide +kernel⟩
theorem II {f : Addr} {fd : FuncData} (F : Fun K "_law_draw" "_law_draw" (top 45) f fd) (hT : P.given.tree = none) :
 AF P w K mg base CX0 33 f fd ["_law_pen_here","_law_many"] (Ew):=by
 refine F.ok CH (fun vs H Q E h=>?_) (fun cdv A outer s H vs Q E hr h=>?_)
 ·obtain ⟨_,_,rfl,_⟩:=h; rfl
 refine ⟨_,(Aa (K:=K) (Iy (Al BA (Aw (ixL K) (pv 0) Ab (fun u v=>rfl)) Ab) (Gk (pv 0) Ab DS))
  (Aa (K:=K) (Av (K:=K) (Ag Cy (Aw (ixL K) (pv 0) Ab (fun u v=>rfl)) Ab (Ak _)) (Aa (K:=K) (Aq (i:=2) CH.nd rfl (Or.inl rfl) (Al C8 (Aw (ixL K) (pv 0) Ab (fun u v=>rfl)) (pv 1)))
  (Aa (K:=K) (Iy (Al (ES hr hT) (Aw (ixL K) (pv 0) Ab (fun u v=>rfl)) (pv 1)) (Gk (pv 0) Ab DS))
  (Ae (Aj (pv 2))) (by rfl)) (by rfl)) Am (by rfl) (by rfl))
  (Aa (K:=K) (Aq (i:=3) CH.nd rfl (Or.inl rfl) (Al C8 (Al C7 (Al BA (Al BA (Aw (ixL K) (pv 0) Ab (fun u v=>rfl)) (Al C7 Ab (Aw (ixL K) (pv 0) Ab (fun u v=>rfl)))) Ab) Ab) Ab))
  (Aa (K:=K) (Aq (i:=3) CH.nd rfl (Or.inl rfl) (Al C8 (Al C7 (pv 3) (Al BA (Al BA (Al C8 (pv 3) Ab) (Aw (ixL K) (pv 0) Ab (fun u v=>rfl))) Ab)) Ab))
  (Ae (Aj (Al C8 (Al (ES hr hT) (Al C8 (Al C7 (pv 3) (Al BA (Al C8 (pv 3) Ab) Ab)) Ab) Ab) (pv 1)))) (by rfl)) (by rfl)) (by rfl)) (by rfl)),?_⟩
 obtain ⟨a,m,rfl,⟨c0,c1,c2,hp⟩,h1,h2,q0⟩:=h
 have q : ∀ d c0' c2' : Int,0 ≤ d → d < m → Q (.int d) (upd H a (.lst [.int c0',.int c1,.int c2'])):=fun d _ _ h3 h4=>q0 d _ h3 h4 .put .put
 have hm : m ≠ 0:=by lia
 have q' : ∀ (o : HO) (d c0' c2' : Int),0 ≤ d → d < m → Q (.int d) (upd (upd H a o) a (.lst [.int c0',.int c1,.int c2'])):=fun o d c0' c2' h3 h4=>by rw [Ng]; exact q d c0' c2' h3 h4
 refine ⟨_,rfl,a,_,_,_,rfl,rfl,SqL.of hp,rfl,_,_,rfl,rfl,_,rfl,a,_,_,_,rfl,rfl,hp,rfl,?_⟩
 refine ⟨_,rfl,a,_,_,_,rfl,rfl,SqL.of A9,rfl,_,_,rfl,rfl,_,rfl,?_⟩
 refine Hv (fun c=>?_) (fun c=>?_)
 ·refine ⟨_,rfl,a,_,_,_,rfl,rfl,SqL.of A9,rfl,_,rfl,_,_,rfl,rfl,(by lia : 0 < m),?_⟩
  refine ⟨_,rfl,a,_,_,_,rfl,rfl,SqL.of A9,rfl,_,rfl,_,_,rfl,rfl,hm,_,rfl,a,_,_,_,rfl,rfl,A9,rfl,?_⟩
  refine ⟨_,rfl,?_⟩
  exact q' _ _ _ _ (Uy _ (by lia)) (Uz _ (by lia))
 ·have cl : ∀ z : Int,0 < z → (0 : Int) < z:=fun _ h=>h
  refine ⟨_,rfl,a,_,_,_,rfl,rfl,SqL.of A9,rfl,_,rfl,a,_,_,_,rfl,rfl,SqL.of A9,rfl,_,_,rfl,rfl,.inl ⟨by decide,by decide⟩,_,_,rfl,rfl,_,_,rfl,rfl,_,_,rfl,rfl,.inr (.inl ⟨by decide,by decide⟩),_,_,rfl,rfl,(by first | decide | (dsimp only; decide)),?_⟩
  have n1:=Uy ((c1 + 40503 * (c2 + 1) + 1) * 48271) (show (2147483647 : Int) ≠ 0 by decide)
  have n2:=Uz ((c1 + 40503 * (c2 + 1) + 1) * 48271) (show (0 : Int) < 2147483647 by decide)
  generalize hN : (c1 + 40503 * (c2 + 1) + 1) * 48271 % 2147483647 = N at n1 n2
  refine ⟨_,rfl,_,rfl,_,_,rfl,rfl,(by first | decide | (dsimp only; decide)),_,rfl,a,_,_,_,rfl,rfl,SqL.of A9,rfl,_,_,rfl,rfl,_,_,rfl,rfl,_,_,rfl,rfl,.inl ?_,_,_,rfl,rfl,(by first | decide | (dsimp only; decide)),?_⟩
  ·(try rw [hN]); lia
  try rw [hN]
  have n3:=Uy (N * (N % 65521 + (c2 + 1) + 3)) (show (2147483629 : Int) ≠ 0 by decide)
  have n4:=Uz (N * (N % 65521 + (c2 + 1) + 3)) (show (0 : Int) < 2147483629 by decide)
  generalize N * (N % 65521 + (c2 + 1) + 3) % 2147483629 = M at n3 n4
  refine ⟨_,rfl,_,rfl,_,_,rfl,rfl,(by first | decide | (dsimp only; decide)),_,_,rfl,rfl,_,_,rfl,rfl,.inl ⟨by lia,by lia⟩,_,_,rfl,rfl,(by first | decide | (dsimp only; decide)),_,_,rfl,rfl,(by first | decide | (dsimp only; decide)),_,rfl,_,_,rfl,rfl,(by lia : 0 < m),?_⟩
  exact q _ _ _ (Uy _ (by lia)) (Uz _ (by lia))
theorem Bk : Ax ["_law_pen_here","_law_text_here","_law_between","_law_way","_law_at","_law_sign","_law_parts","_law_other","_law_menu"] ["_law_pen_here","_law_text_here","_law_between"] (Ac (top 60)):=⟨rfl,rfl,rfl,by decide +kernel,rfl,by decide +kernel,by decide +kernel⟩
theorem IJ {f : Addr} {fd : FuncData} (F : Fun K "_law_bent" "_law_bent" (top 60) f fd) (QY : Fd P w K mg base 33 "_law_draw" ["_law_pen_here","_law_many"] (Ew)) (QV : mg "len" = none) (b_min : mg "min" = none) (hT : P.given.tree = none) :
 AF P w K mg base CX0 34 f fd ["_law_pen_here","_law_text_here","_law_between"] (K9):=by
 refine F.ok Bk (fun vs H Q E h=>?_) (fun cdv A outer s H vs Q E hr h=>?_)
 ·obtain ⟨_,_,_,rfl,_⟩:=h; rfl
 refine ⟨_,(@Aa _ _ _ _ _ K _ (@Aq _ _ 3 _ _ _ _ Bk.nd rfl (Or.inl rfl) (@Ap _ _ _ _ _ _ _ _ _ _ _ QY hr rfl (@A7 _ _ _ _ _ (pv 0) (@A7 _ _ _ _ _ Ab A8 (by rfl)) (by rfl)) (by decide) (by decide) (by rfl) (by rfl)) (by rfl) (by first   | exact .inl rfl   | exact .inr rfl   | assumption)) (@Aa _ _ _ _ _ K _ (@Av _ _ _ _ _ _ _ _ K _ _ (@Ag _ _ _ _ _ _ _ _ FJ (pv 3) Ab (Ak _)) (@Aa _ _ _ _ _ K _ (@Aq _ _ 4 _ _ _ _ Bk.nd rfl (Or.inl rfl) (@Ap _ _ _ _ _ _ _ _ _ _ _ QY hr rfl (@A7 _ _ _ _ _ (pv 0) (@A7 _ _ _ _ _ (@Al _ _ _ _ _ _ _ _ BA (@Af _ _ _ _ _ _ _ _ _ Dw rfl QV AJ (@A7 _ _ _ _ _ (pv 1) A8 (by rfl)) (by decide) (by decide) (by rfl) (by rfl)) Ab) A8 (by rfl)) (by rfl)) (by decide) (by decide) (by rfl) (by rfl)) (by rfl) (by first   | exact .inl rfl   | exact .inr rfl   | assumption)) (@Aa _ _ _ _ _ K _ (@Aq _ _ 5 _ _ _ _ Bk.nd rfl (Or.inl rfl) (@Aw _ _ _ _ _ _ _ Km Ah (@Ap _ _ _ _ _ _ _ _ _ _ _ QY hr rfl (@A7 _ _ _ _ _ (pv 0) (@A7 _ _ _ _ _ Ab A8 (by rfl)) (by rfl)) (by decide) (by decide) (by rfl) (by rfl)) (fun u v=>rfl)) (by rfl) (by first   | exact .inl rfl   | exact .inr rfl   | assumption)) (@Ae _ _ _ (@Aj _ _ _ _ (@Aw _ _ _ _ _ _ _ (ixL K) (@AY _ _ _ _ (@A7 _ _ _ _ _ (@Al _ _ _ _ _ _ _ _ Bp (@Cw _ _ _ _ _ _ _ _ _ _ Ee (pv 1) De (@Dd _ _ _ (pv 4))) (@Cw _ _ _ _ _ _ _ _ _ _ Ee (pv 1) (@Dd _ _ _ (@Al _ _ _ _ _ _ _ _ BA (pv 4) Ab)) De)) (@A7 _ _ _ _ _ (@Al _ _ _ _ _ _ _ _ Bp (@Al _ _ _ _ _ _ _ _ Bp (@Cw _ _ _ _ _ _ _ _ _ _ Ee (pv 1) De (@Dd _ _ _ (pv 4))) (pv 5)) (@Cw _ _ _ _ _ _ _ _ _ _ Ee (pv 1) (@Dd _ _ _ (@Al _ _ _ _ _ _ _ _ BA (pv 4) (@Al _ _ _ _ _ _ _ _ C8 (pv 3) Ab))) De)) A8 (by rfl)) (by rfl))) (@Af _ _ _ _ _ _ _ _ _ (M5 rfl) rfl b_min Pu (@A7 _ _ _ _ _ (pv 3) (@A7 _ _ _ _ _ Ab A8 (by rfl)) (by rfl)) (by decide) (by decide) (by rfl) (by rfl)) (fun u v=>rfl)))) (by rfl)) (by rfl)) Am (by rfl) (by rfl)) (@Aa _ _ _ _ _ K _ (@Aq _ _ 6 _ _ _ _ Bk.nd rfl (Or.inl rfl) (@AW _ _ _ _ _ _ _ _ _ _ _ _ K PySem.F.plainAttrs_str PySem.F.slot_str_split PySem.F.type_str_split BE (pv 1) (@A7 _ _ _ _ _ (pv 2) A8 (by rfl)) (by rfl) (by rfl) (by rfl) (by rfl) (by rfl) (by rfl)) (by rfl) (by first   | exact .inl rfl   | exact .inr rfl   | assumption)) (@Aa _ _ _ _ _ K _ (@Aq _ _ 4 _ _ _ _ Bk.nd rfl (Or.inl rfl) (@Ap _ _ _ _ _ _ _ _ _ _ _ QY hr rfl (@A7 _ _ _ _ _ (pv 0) (@A7 _ _ _ _ _ (@Af _ _ _ _ _ _ _ _ _ (BY K) rfl QV AJ (@A7 _ _ _ _ _ (pv 6) A8 (by rfl)) (by decide) (by decide) (by rfl) (by rfl)) A8 (by rfl)) (by rfl)) (by decide) (by decide) (by rfl) (by rfl)) (by rfl) (by first   | exact .inl rfl   | exact .inr rfl   | assumption)) (@Aa _ _ _ _ _ K _ (@Aq _ _ 7 _ _ _ _ Bk.nd rfl (Or.inl rfl) (@Ap _ _ _ _ _ _ _ _ _ _ _ QY hr rfl (@A7 _ _ _ _ _ (pv 0) (@A7 _ _ _ _ _ (@Af _ _ _ _ _ _ _ _ _ (BY K) rfl QV AJ (@A7 _ _ _ _ _ (pv 6) A8 (by rfl)) (by decide) (by decide) (by rfl) (by rfl)) A8 (by rfl)) (by rfl)) (by decide) (by decide) (by rfl) (by rfl)) (by rfl) (by first   | exact .inl rfl   | exact .inr rfl   | assumption)) (@Aa _ _ _ _ _ K _ (@Iw _ _ _ _ 8 _ _ Bk.nd rfl (Or.inl rfl) (@G0 _ _ _ _ (@AB _ _ _ _ _ Bg (@AB _ _ _ _ _ Bg (@AB _ _ _ _ _ Bg (@AB _ _ _ _ _ Bg (@AB _ _ _ _ _ Bg (@AB _ _ _ _ _ Bg (@AB _ _ _ _ _ Bg (@AB _ _ _ _ _ Bg (@AB _ _ _ _ _ Bg (@AB _ _ _ _ _ Bg (@AB _ _ _ _ _ Bg (@AB _ _ _ _ _ Bg (@AB _ _ _ _ _ Bg (@AB _ _ _ _ _ Bg (@AB _ _ _ _ _ Bg Eg CA) CA) CA) CA) CA) CA) CA) CA) CA) CA) CA) CA) CA) CA) CA)) (by rfl) (by first   | exact .inl rfl   | exact .inr rfl   | assumption)) (@Aa _ _ _ _ _ K _ (@Bt _ _ _ _ (@AW _ _ _ _ _ _ _ _ _ _ _ _ K PySem.F.plainAttrs_list PySem.F.slot_list_append PySem.F.type_list_append Cc (pv 8) (@A7 _ _ _ _ _ Ah A8 (by rfl)) (by rfl) (by rfl) (by rfl) (by rfl) (by rfl) (by rfl)) (by rfl)) (@Aa _ _ _ _ _ K _ (@Iw _ _ _ _ 8 _ _ Bk.nd rfl (Or.inl rfl) (@OG _ _ _ _ _ _ _ _ Gq (@pek _ _ _ (pv 8)) (@G0 _ _ _ _ (@AB _ _ _ _ _ (@pek _ _ _ (@Al _ _ _ _ _ _ _ _ ER Ah Ab)) (@AB _ _ _ _ _ (@pek _ _ _ (@Al _ _ _ _ _ _ _ _ ER Ah Ab)) (@AB _ _ _ _ _ (@pek _ _ _ (@Al _ _ _ _ _ _ _ _ Bp Ah (@Al _ _ _ _ _ _ _ _ ER Ah Ab))) (@AB _ _ _ _ _ (@pek _ _ _ (@Al _ _ _ _ _ _ _ _ Bp Ah (@Al _ _ _ _ _ _ _ _ ER Ah Ab))) (@AB _ _ _ _ _ (@pek _ _ _ (@Al _ _ _ _ _ _ _ _ Bp Ah (@Al _ _ _ _ _ _ _ _ ER Ah Ab))) (@AB _ _ _ _ _ Bg (@AB _ _ _ _ _ Bg (@AB _ _ _ _ _ Bg (@AB _ _ _ _ _ Bg Eg CA) CA) CA) CA) Ms) Ms) Ms) Ms) Ms))) (by rfl) (by first   | exact .inl rfl   | exact .inr rfl   | assumption)) (@Aa _ _ _ _ _ K _ (@Av _ _ _ _ _ _ _ _ K _ _ (@Ag _ _ _ _ _ _ _ _ BR (pv 3) Ab (Ak _)) (@Ae _ _ _ (@Bt _ _ _ _ (@AW _ _ _ _ _ _ _ _ _ _ _ _ K PySem.F.plainAttrs_list PySem.F.slot_list_insert PySem.F.type_list_insert HM (pv 6) (@A7 _ _ _ _ _ (pv 4) (@A7 _ _ _ _ _ (@Aw _ _ _ _ _ _ _ (ixL K) (pv 8) (@Ap _ _ _ _ _ _ _ _ _ _ _ QY hr rfl (@A7 _ _ _ _ _ (pv 0) (@A7 _ _ _ _ _ (@Af _ _ _ _ _ _ _ _ _ (BY K) rfl QV AJ (@A7 _ _ _ _ _ (pv 8) A8 (by rfl)) (by decide) (by decide) (by rfl) (by rfl)) A8 (by rfl)) (by rfl)) (by decide) (by decide) (by rfl) (by rfl)) (fun u v=>rfl)) A8 (by rfl)) (by rfl)) (by rfl) (by rfl) (by rfl) (by rfl) (by rfl) (by rfl)) (by rfl))) (@Ae _ _ _ (@Av _ _ _ _ _ _ _ _ K _ _ (@Ag _ _ _ _ _ _ _ _ BR (pv 3) Ab (Ak _)) (@Ae _ _ _ (@Iy _ _ _ _ _ _ (@Aw _ _ _ _ _ _ _ (ixL K) (pv 8) (@Ap _ _ _ _ _ _ _ _ _ _ _ QY hr rfl (@A7 _ _ _ _ _ (pv 0) (@A7 _ _ _ _ _ (@Af _ _ _ _ _ _ _ _ _ (BY K) rfl QV AJ (@A7 _ _ _ _ _ (pv 8) A8 (by rfl)) (by decide) (by decide) (by rfl) (by rfl)) A8 (by rfl)) (by rfl)) (by decide) (by decide) (by rfl) (by rfl)) (fun u v=>rfl)) (@Gk _ _ _ _ _ _ _ (pv 6) (pv 4) DS (by intro _; rfl)) (by rfl) (by rfl) (by rfl))) (@Ae _ _ _ (@Av _ _ _ _ _ _ _ _ K _ _ (@Ag _ _ _ _ _ _ _ _ BR (pv 3) Ab (Ak _)) (@Ae _ _ _ (@Bt _ _ _ _ (@AW _ _ _ _ _ _ _ _ _ _ _ _ K PySem.F.plainAttrs_list PySem.F.slot_list_insert PySem.F.type_list_insert HM (pv 6) (@A7 _ _ _ _ _ (pv 4) (@A7 _ _ _ _ _ (@Aw _ _ _ _ _ _ _ (ixL K) (pv 6) (pv 7) (fun u v=>rfl)) A8 (by rfl)) (by rfl)) (by rfl) (by rfl) (by rfl) (by rfl) (by rfl) (by rfl)) (by rfl))) (@Ae _ _ _ (@Iy _ _ _ _ _ _ (@AV _ _ _ _ _ (@A7 _ _ _ _ _ (@Aw _ _ _ _ _ _ _ (ixL K) (pv 6) (pv 7) (fun u v=>rfl)) (@A7 _ _ _ _ _ (@Aw _ _ _ _ _ _ _ (ixL K) (pv 6) (pv 4) (fun u v=>rfl)) A8 (by rfl)) (by rfl))) (@pgT _ K _ _ _ 2 _ rfl (EO (@Gk _ _ _ _ _ _ _ (pv 6) (pv 4) DS (by intro _; rfl)) (EO (@Gk _ _ _ _ _ _ _ (pv 6) (pv 7) DS (by intro _; rfl)) KW)) (by rfl) (by rfl) (by rfl)) (by with_unfolding_all rfl) (by with_unfolding_all rfl) (by with_unfolding_all rfl))) (by rfl) (by rfl))) (by rfl) (by rfl))) (by rfl) (by rfl)) (@Ae _ _ _ (@Aj _ _ _ _ (@AW _ _ _ _ _ _ _ _ _ _ _ _ K PySem.F.plainAttrs_str PySem.F.slot_str_join PySem.F.type_str_join (Df K) (pv 2) (@A7 _ _ _ _ _ (pv 6) A8 (by rfl)) (by rfl) (by rfl) (by rfl) (by rfl) (by rfl) (by rfl)))) (by rfl)) (by rfl)) (by rfl)) (by rfl)) (by rfl)) (by rfl)) (by rfl)) (by rfl)) (by rfl)),?_⟩
 obtain ⟨a,t,sep,rfl,pn,hA,hL,hsep,q⟩:=h
 have hs:=sizeLine_eq
 have hz : t.length ≤ sizeLine:=by lia
 have P1 : 1 ≤ sizeLine:=by decide
 have P2 : 2 ≤ sizeLine:=by decide
 refine ⟨_,rfl,a,8,rfl,pn,by decide,by decide,fun w H1 w0 w1 o1 p1=>?_⟩
 refine ⟨_,rfl,_,_,rfl,rfl,_,rfl,?_⟩
 obtain ⟨W,hW⟩ : ∃ W : Nat,w = (W : Int):=⟨w.toNat,by lia⟩
 subst hW
 by_cases hw4 : (W : Int) < 4
 ·refine AX (by rw [decide_eq_true hw4] <;> rfl) ?_
  refine ⟨_,rfl,_,rfl,t,rfl,hz,_,_,rfl,rfl,a,_,rfl,p1,by lia,by lia,fun at_ H2 a0 a1 o2 p2=>?_⟩
  obtain ⟨n,hn⟩ : ∃ n : Nat,at_ = (n : Int):=⟨at_.toNat,by lia⟩
  subst hn
  refine ⟨_,rfl,a,18,rfl,p2,by decide,by decide,fun d H3 d0 d1 o3 p3=>?_⟩
  obtain ⟨c,hc,hc1⟩ : ∃ c,atI (Str.ofString "0123456789-/ :,.+a").cps.toList d = some c ∧ c < 128:=by
   obtain ⟨D,rfl⟩ : ∃ D : Nat,d = (D : Int):=⟨d.toNat,by lia⟩
   have key : ∀ D,D < 18 → ∃ c,(Str.ofString "0123456789-/ :,.+a").cps.toList[D]? = some c ∧ c < 128:=by decide +kernel
   obtain ⟨c,h1,h2⟩:=(key D (by lia))
   exact ⟨c,As h1,h2⟩
  refine ⟨Str.ofString "0123456789-/ :,.+a",_,c,rfl,rfl,by decide +kernel,hc,?_⟩
  refine ⟨_,rfl,_,rfl,(n : Int),rfl,.to t n rfl rfl rfl hz ⟨_,rfl,_,rfl,_,_,rfl,rfl,((n + 1 : Nat) : Int),rfl,.frm t (n + 1) rfl rfl rfl hz ⟨_,_,rfl,rfl,OT hL,?_⟩⟩⟩
  have em : (n : Int) + (W : Int) % 2 = ((n + W % 2 : Nat) : Int):=by lia
  refine ⟨_,rfl,_,rfl,(n : Int),rfl,.to t n rfl rfl rfl hz ⟨_,rfl,_,_,rfl,rfl,OR hL,_,rfl,_,rfl,_,rfl,_,_,rfl,rfl,by decide,_,_,rfl,rfl,_,rfl,.frm t (n + W % 2) rfl (by rw [em]; rfl) rfl hz ⟨_,_,rfl,rfl,Nw hL,P2,fun l hl=>⟨_,rfl,_,_,rfl,?_⟩⟩⟩⟩
  have s4:=Ad.new (o:=.lst [.str (⟨((sg t).take n).toArray⟩ ++ ⟨((sg t).drop (n + 1)).toArray⟩),.str (⟨((sg t).take n).toArray⟩ ++ ⟨#[c]⟩ ++ ⟨((sg t).drop (n + W % 2)).toArray⟩)]) hl
  have mv:=((o1.mv.trans o2.mv).trans o3.mv).trans s4.mv
  have eT : sg (⟨((sg t).take n).toArray⟩ : Str) = (sg t).take n:=by simp [sg]
  have eD : ∀ m,sg (⟨((sg t).drop m).toArray⟩ : Str) = (sg t).drop m:=fun m=>by simp [sg]
  by_cases hW0 : W = 0
  ·subst hW0
   refine ⟨l,_,_,_,rfl,rfl,SqL.of A9,As (j:=0) rfl,q _ _ mv (p3.sm s4) (Ib (a:=n) (m:=n + 1) (l:=[]) hA (by decide) nofun (by lia) ?_)⟩
   rw [AE,eT,eD,Te]
  ·have hi : (if (1 : Int) < (W : Int) then (1 : Int) else (W : Int)) = ((1 : Nat) : Int):=by
    by_cases h : (1 : Int) < (W : Int)
    ·rw [if_pos h]; rfl
    ·rw [if_neg h]; lia
   rw [hi]
   refine ⟨l,_,_,_,rfl,rfl,SqL.of A9,As (j:=1) rfl,q _ _ mv (p3.sm s4) (Ib (a:=n) (m:=n + W % 2) (l:=[c]) hA (T2 1) (fun x hx=>by rw [Ul.mp hx]; exact hc1) (by lia) ?_)⟩
   rw [AE,AE,eT,eD]; rfl
 ·refine AN (by rw [decide_eq_false hw4] <;> rfl) ?_
  have hs0 : (sep.length == 0) = false:=by rcases hsep with rfl | rfl; rw [Ce]; rfl; rw [Bh]; rfl
  refine ⟨_,rfl,rfl,_,rfl,_,_,rfl,rfl,hs0,by lia,fun pl hpl=>?_⟩
  have hsl : sep.length ≤ 2:=by rcases hsep with rfl | rfl; rw [Ce]; decide; rw [Bh]; decide
  have hsA : Sok sep:=by rcases hsep with rfl | rfl; (unfold Sok; rw [CV]; decide); (unfold Sok; rw [BK]; decide)
  have hbp:=@Kr sep t
  have hne:=Ct t sep
  have hsle:=PyProof.Rows.split_le t sep
  have hpm : ∀ p ∈ Txt.split t sep,Sok p ∧ p.length ≤ t.length:=fun p hp=>by
   have h1:=Fb (sep:=sep) hp
   rw [StrLaws.join_split] at h1
   exact ⟨fun c hc=>hA c (h1.1 c hc),h1.2⟩
  generalize Txt.split t sep = ts at hbp hne hsle hpm ⊢
  have hpa : pl ≠ a:=p1.ne' hpl
  have sp:=Ad.new (o:=.lst (ts.map V.str)) hpl
  have ep:=A9 (H:=H1) (a:=pl) (o:=.lst (ts.map V.str))
  have m1:=o1.mv.trans sp.mv
  have hplH : H pl = none:=Mv.free o1.mv hpa hpl
  have p1:=p1.sm sp
  generalize upd H1 pl (.lst (ts.map V.str)) = G1 at sp ep m1 p1 ⊢
  have htp:=U8.mpr hne
  have hml : (ts.map V.str).length = ts.length:=TC ..
  refine ⟨_,rfl,_,rfl,pl,_,rfl,.inl (SqL.of ep),a,_,rfl,p1,by lia,by lia,fun at_ G2 a0 a1 o2 p2=>?_⟩
  obtain ⟨n,hn⟩ : ∃ n : Nat,at_ = (n : Int):=⟨at_.toNat,by lia⟩
  subst hn
  have ep2:=o2.mv _ _ hpa ep
  refine ⟨_,rfl,_,rfl,pl,_,rfl,.inl (SqL.of ep2),a,_,rfl,p2,by lia,by lia,fun ot_ G3 b0 b1 o3 p3=>?_⟩
  obtain ⟨o,ho⟩ : ∃ o : Nat,ot_ = (o : Int):=⟨ot_.toNat,by lia⟩
  subst ho
  have ep3:=o3.mv _ _ hpa ep2
  have m3:=(m1.trans o2.mv).trans o3.mv
  refine ⟨(by decide : 15 ≤ sizeLine),fun ml hml'=>?_⟩
  have mla : ml ≠ a:=p3.ne' hml'
  have mlp : pl ≠ ml:=(Az ep3 hml')
  have s4:=Ad.new (o:=.lst [V.str (Str.ofString "0"),V.str (Str.ofString "00"),V.str (Str.ofString "-0"),V.str (Str.ofString "01"),V.str (Str.ofString "2/4"),V.str (Str.ofString "3/1"),V.str (Str.ofString "1/0"),V.str (Str.ofString "-1/-2"),V.str (Str.ofString "1/-2"),V.str (Str.ofString ""),V.str (Str.ofString "-"),V.str (Str.ofString "1/2/3"),V.str (Str.ofString "1:1"),V.str (Str.ofString "5:1:2"),V.str (Str.ofString "1:1:1:1")]) hml'
  have e4:=A9 (H:=G3) (a:=ml) (o:=.lst [V.str (Str.ofString "0"),V.str (Str.ofString "00"),V.str (Str.ofString "-0"),V.str (Str.ofString "01"),V.str (Str.ofString "2/4"),V.str (Str.ofString "3/1"),V.str (Str.ofString "1/0"),V.str (Str.ofString "-1/-2"),V.str (Str.ofString "1/-2"),V.str (Str.ofString ""),V.str (Str.ofString "-"),V.str (Str.ofString "1/2/3"),V.str (Str.ofString "1:1"),V.str (Str.ofString "5:1:2"),V.str (Str.ofString "1:1:1:1")])
  have ep4:=s4 _ _ ep3
  have m4:=m3.trans s4.mv
  have p4:=p3.sm s4
  have hmlH : H ml = none:=Mv.free m3 mla hml'
  generalize upd G3 ml (.lst [V.str (Str.ofString "0"),V.str (Str.ofString "00"),V.str (Str.ofString "-0"),V.str (Str.ofString "01"),V.str (Str.ofString "2/4"),V.str (Str.ofString "3/1"),V.str (Str.ofString "1/0"),V.str (Str.ofString "-1/-2"),V.str (Str.ofString "1/-2"),V.str (Str.ofString ""),V.str (Str.ofString "-"),V.str (Str.ofString "1/2/3"),V.str (Str.ofString "1:1"),V.str (Str.ofString "5:1:2"),V.str (Str.ofString "1:1:1:1")]) = G4 at s4 e4 ep4 m4 p4 ⊢
  refine ⟨_,rfl,.inl ⟨rfl,_,SqL.of e4⟩,ml,_,_,rfl,rfl,e4,(show 15 < sizeLine by decide),?_⟩
  have e5:=A9 (H:=G4) (a:=ml) (o:=.lst ([V.str (Str.ofString "0"),V.str (Str.ofString "00"),V.str (Str.ofString "-0"),V.str (Str.ofString "01"),V.str (Str.ofString "2/4"),V.str (Str.ofString "3/1"),V.str (Str.ofString "1/0"),V.str (Str.ofString "-1/-2"),V.str (Str.ofString "1/-2"),V.str (Str.ofString ""),V.str (Str.ofString "-"),V.str (Str.ofString "1/2/3"),V.str (Str.ofString "1:1"),V.str (Str.ofString "5:1:2"),V.str (Str.ofString "1:1:1:1")] ++ [V.str (Str.ofString "+1")]))
  have ep5 : upd G4 ml (.lst ([V.str (Str.ofString "0"),V.str (Str.ofString "00"),V.str (Str.ofString "-0"),V.str (Str.ofString "01"),V.str (Str.ofString "2/4"),V.str (Str.ofString "3/1"),V.str (Str.ofString "1/0"),V.str (Str.ofString "-1/-2"),V.str (Str.ofString "1/-2"),V.str (Str.ofString ""),V.str (Str.ofString "-"),V.str (Str.ofString "1/2/3"),V.str (Str.ofString "1:1"),V.str (Str.ofString "5:1:2"),V.str (Str.ofString "1:1:1:1")] ++ [V.str (Str.ofString "+1")])) pl = some (.lst (ts.map V.str)):=by rw [AA mlp]; exact ep4
  have m5:=Mv.put' (o:=.lst ([V.str (Str.ofString "0"),V.str (Str.ofString "00"),V.str (Str.ofString "-0"),V.str (Str.ofString "01"),V.str (Str.ofString "2/4"),V.str (Str.ofString "3/1"),V.str (Str.ofString "1/0"),V.str (Str.ofString "-1/-2"),V.str (Str.ofString "1/-2"),V.str (Str.ofString ""),V.str (Str.ofString "-"),V.str (Str.ofString "1/2/3"),V.str (Str.ofString "1:1"),V.str (Str.ofString "5:1:2"),V.str (Str.ofString "1:1:1:1")] ++ [V.str (Str.ofString "+1")])) m4 hmlH
  have p5:=p4.put' (o:=.lst ([V.str (Str.ofString "0"),V.str (Str.ofString "00"),V.str (Str.ofString "-0"),V.str (Str.ofString "01"),V.str (Str.ofString "2/4"),V.str (Str.ofString "3/1"),V.str (Str.ofString "1/0"),V.str (Str.ofString "-1/-2"),V.str (Str.ofString "1/-2"),V.str (Str.ofString ""),V.str (Str.ofString "-"),V.str (Str.ofString "1/2/3"),V.str (Str.ofString "1:1"),V.str (Str.ofString "5:1:2"),V.str (Str.ofString "1:1:1:1")] ++ [V.str (Str.ofString "+1")])) mla
  generalize upd G4 ml (.lst ([V.str (Str.ofString "0"),V.str (Str.ofString "00"),V.str (Str.ofString "-0"),V.str (Str.ofString "01"),V.str (Str.ofString "2/4"),V.str (Str.ofString "3/1"),V.str (Str.ofString "1/0"),V.str (Str.ofString "-1/-2"),V.str (Str.ofString "1/-2"),V.str (Str.ofString ""),V.str (Str.ofString "-"),V.str (Str.ofString "1/2/3"),V.str (Str.ofString "1:1"),V.str (Str.ofString "5:1:2"),V.str (Str.ofString "1:1:1:1")] ++ [V.str (Str.ofString "+1")])) = G5 at e5 ep5 m5 p5 ⊢
  refine ⟨_,rfl,_,60,rfl,rfl,by decide,by decide,by decide,by decide +kernel,_,61,rfl,rfl,by decide,by decide,by decide,by decide +kernel,_,60,rfl,rfl,by decide,by decide,by decide,by decide +kernel,_,_,rfl,rfl,by decide +kernel,_,60,rfl,rfl,by decide,by decide,by decide,by decide +kernel,_,_,rfl,rfl,by decide +kernel,_,61,rfl,rfl,by decide,by decide,by decide,by decide +kernel,_,_,rfl,rfl,by decide +kernel,(by decide : 9 ≤ sizeLine),fun m9 hm9=>?_⟩
  refine ⟨ml,m9,_,_,rfl,rfl,(Ad.new hm9) _ _ e5,A9,(show 16 + 9 ≤ sizeLine by decide),fun mm hmm=>?_⟩
  have mma : mm ≠ a:=(p5.same hm9).ne' hmm
  have s6:=(Ad.new (o:=.lst [V.str (BD (Str.ofString "1") 60),V.str (BD (Str.ofString "1") 61),V.str ((Str.ofString "-" ++ BD (Str.ofString "7") 60)),V.str ((Str.ofString "1/" ++ BD (Str.ofString "3") 60)),V.str ((Str.ofString "1/" ++ BD (Str.ofString "1") 61)),V.str ((Str.ofString " 1")),V.str ((Str.ofString "1 ")),V.str ((Str.ofString "0/5")),V.str ((Str.ofString "7:-1/9"))]) hm9).trans (Ad.new (o:=.lst ([V.str (Str.ofString "0"),V.str (Str.ofString "00"),V.str (Str.ofString "-0"),V.str (Str.ofString "01"),V.str (Str.ofString "2/4"),V.str (Str.ofString "3/1"),V.str (Str.ofString "1/0"),V.str (Str.ofString "-1/-2"),V.str (Str.ofString "1/-2"),V.str (Str.ofString ""),V.str (Str.ofString "-"),V.str (Str.ofString "1/2/3"),V.str (Str.ofString "1:1"),V.str (Str.ofString "5:1:2"),V.str (Str.ofString "1:1:1:1")] ++ [V.str (Str.ofString "+1")] ++ [V.str (BD (Str.ofString "1") 60),V.str (BD (Str.ofString "1") 61),V.str ((Str.ofString "-" ++ BD (Str.ofString "7") 60)),V.str ((Str.ofString "1/" ++ BD (Str.ofString "3") 60)),V.str ((Str.ofString "1/" ++ BD (Str.ofString "1") 61)),V.str ((Str.ofString " 1")),V.str ((Str.ofString "1 ")),V.str ((Str.ofString "0/5")),V.str ((Str.ofString "7:-1/9"))])) hmm)
  have e6 : upd (upd G5 m9 (.lst [V.str (BD (Str.ofString "1") 60),V.str (BD (Str.ofString "1") 61),V.str ((Str.ofString "-" ++ BD (Str.ofString "7") 60)),V.str ((Str.ofString "1/" ++ BD (Str.ofString "3") 60)),V.str ((Str.ofString "1/" ++ BD (Str.ofString "1") 61)),V.str ((Str.ofString " 1")),V.str ((Str.ofString "1 ")),V.str ((Str.ofString "0/5")),V.str ((Str.ofString "7:-1/9"))])) mm (.lst ([V.str (Str.ofString "0"),V.str (Str.ofString "00"),V.str (Str.ofString "-0"),V.str (Str.ofString "01"),V.str (Str.ofString "2/4"),V.str (Str.ofString "3/1"),V.str (Str.ofString "1/0"),V.str (Str.ofString "-1/-2"),V.str (Str.ofString "1/-2"),V.str (Str.ofString ""),V.str (Str.ofString "-"),V.str (Str.ofString "1/2/3"),V.str (Str.ofString "1:1"),V.str (Str.ofString "5:1:2"),V.str (Str.ofString "1:1:1:1")] ++ [V.str (Str.ofString "+1")] ++ [V.str (BD (Str.ofString "1") 60),V.str (BD (Str.ofString "1") 61),V.str ((Str.ofString "-" ++ BD (Str.ofString "7") 60)),V.str ((Str.ofString "1/" ++ BD (Str.ofString "3") 60)),V.str ((Str.ofString "1/" ++ BD (Str.ofString "1") 61)),V.str ((Str.ofString " 1")),V.str ((Str.ofString "1 ")),V.str ((Str.ofString "0/5")),V.str ((Str.ofString "7:-1/9"))])) mm = some (.lst (Jz.map V.str)):=A9
  have ep6:=s6 _ _ ep5
  have m6:=m5.trans s6.mv
  have p6:=p5.sm s6
  generalize upd (upd G5 m9 (.lst [V.str (BD (Str.ofString "1") 60),V.str (BD (Str.ofString "1") 61),V.str ((Str.ofString "-" ++ BD (Str.ofString "7") 60)),V.str ((Str.ofString "1/" ++ BD (Str.ofString "3") 60)),V.str ((Str.ofString "1/" ++ BD (Str.ofString "1") 61)),V.str ((Str.ofString " 1")),V.str ((Str.ofString "1 ")),V.str ((Str.ofString "0/5")),V.str ((Str.ofString "7:-1/9"))])) mm (.lst ([V.str (Str.ofString "0"),V.str (Str.ofString "00"),V.str (Str.ofString "-0"),V.str (Str.ofString "01"),V.str (Str.ofString "2/4"),V.str (Str.ofString "3/1"),V.str (Str.ofString "1/0"),V.str (Str.ofString "-1/-2"),V.str (Str.ofString "1/-2"),V.str (Str.ofString ""),V.str (Str.ofString "-"),V.str (Str.ofString "1/2/3"),V.str (Str.ofString "1:1"),V.str (Str.ofString "5:1:2"),V.str (Str.ofString "1:1:1:1")] ++ [V.str (Str.ofString "+1")] ++ [V.str (BD (Str.ofString "1") 60),V.str (BD (Str.ofString "1") 61),V.str ((Str.ofString "-" ++ BD (Str.ofString "7") 60)),V.str ((Str.ofString "1/" ++ BD (Str.ofString "3") 60)),V.str ((Str.ofString "1/" ++ BD (Str.ofString "1") 61)),V.str ((Str.ofString " 1")),V.str ((Str.ofString "1 ")),V.str ((Str.ofString "0/5")),V.str ((Str.ofString "7:-1/9"))])) = G6 at e6 ep6 m6 p6 ⊢
  have hmB : (Jz.map V.str).length = 25:=rfl
  clear s6 m5 p5 e5 ep5 m4 p4 e4 ep4 s4 m3 m1 ep3 ep2 sp p2 p3
  try dsimp only
  refine Ji (s:=Lw _ _ _) (L9 a H pl sep t W n o mm fun a H pl sep t W n o mm σ' G=>Mv a H G ∧ Pen G a ∧ ∃ ts' : List Str,ts' ≠ [] ∧ G pl = some (.lst (ts'.map V.str)) ∧ Nd sep t (Str.join sep ts') ∧ σ' = [some (.ref a),some (.str t),some (.str sep),some (.int (W : Int)),some (.int (n : Int)),none,some (.ref pl),some (.int (o : Int)),some (.ref mm)]) (fun nx hnx=>?_) ?_
  ·have hnt : n < ts.length:=by lia
   have hot : o < ts.length:=by lia
   have hins : ∀ {x : Str},Sok x → x.length ≤ max 70 t.length → (x ∈ ts ∨ 44 ∉ sg x) → Nd sep t (Str.join sep (ts.take n ++ x :: ts.drop n)):=fun {x} h1 h2 h3=>hbp hA h1 hsA hsl h2 h3 (by simp) (fun p hp=>by
    rcases SR.mp hp with y | y
    ·exact .inr (V6 y)
    ·rcases SQ.mp y with y | y
     ·exact .inl y
     ·exact .inr (List.mem_of_mem_drop y)) (by rw [Tz,U9,Tp,TN]; lia) (by rw [Oj]; exact T2 _)
   have hmap : ∀ x : Str,(ts.map V.str).take n ++ V.str x :: (ts.map V.str).drop n = (ts.take n ++ x :: ts.drop n).map V.str:=fun x=>by rw [UK,U1,List.map_take,List.map_drop]
   obtain ⟨xo,hxo⟩ : ∃ xo,ts[o]? = some xo:=⟨_,Uo hot⟩
   obtain ⟨xn,hxn⟩ : ∃ xn,ts[n]? = some xn:=⟨_,Uo hnt⟩
   have hmo:=Tx hxo
   have hmn:=Tx hxn
   have hvo : (ts.map V.str)[o]? = some (.str xo):=by rw [Tu,hxo]; rfl
   have hvn : (ts.map V.str)[n]? = some (.str xn):=by rw [Tu,hxn]; rfl
   have ixn : ∀ {k : Nat},k < ts.length → ∀ {l : List V},l.length = ts.length → ixN l.length ((k : Nat) : Int) = some k:=fun h _ e=>NF (by rw [e]; exact h)
   refine ⟨_,rfl,rfl,_,rfl,?_⟩
   by_cases hw : W = 4
   ·refine AX (by rw [decide_eq_true (show V.int (W : Int) = V.int 4 by rw [hw]; rfl)] <;> rfl) ⟨_,rfl,.inl ⟨rfl,_,SqL.of ep6⟩,_,rfl,_,rfl,_,rfl,_,rfl,mm,_,rfl,.inl (SqL.of e6),a,_,rfl,p6,by rw [hmB]; decide,by rw [hmB]; decide,fun d G7 d0 d1 o7 p7=>?_⟩
    obtain ⟨x,hx,hm⟩:=(KG (ts:=Jz) d0 d1)
    obtain ⟨x1,x2⟩:=(Jy x hm)
    have ep7:=o7.mv _ _ hpa ep6
    refine ⟨mm,_,_,_,rfl,rfl,SqL.of (o7.mv _ _ mma e6),hx,pl,_,n,_,rfl,rfl,ep7,by rw [hml]; lia,by rw [hml]; lia,hnx _ _ ⟨Mv.put' (m6.trans o7.mv) hplH,p7.put' hpa,_,?_,?_,hins (fun c hc=>(x2 c hc).1) (by lia) (.inr fun hc=>(x2 44 hc).2 rfl),rfl⟩⟩
    ·simp
    ·rw [A9,hmap]
   refine AN (by rw [decide_eq_false (show ¬ V.int (W : Int) = V.int 4 from fun z=>hw (by have:=V.int.inj z; lia))] <;> rfl) ⟨_,rfl,rfl,_,rfl,?_⟩
   by_cases hw5 : W = 5
   ·refine AX (by rw [decide_eq_true (show V.int (W : Int) = V.int 5 by rw [hw5]; rfl)] <;> rfl) ⟨_,rfl,_,rfl,_,rfl,mm,_,rfl,.inl (SqL.of e6),a,_,rfl,p6,by rw [hmB]; decide,by rw [hmB]; decide,fun d G7 d0 d1 o7 p7=>?_⟩
    obtain ⟨x,hx,hm⟩:=(KG (ts:=Jz) d0 d1)
    obtain ⟨x1,x2⟩:=(Jy x hm)
    have ep7:=o7.mv _ _ hpa ep6
    refine ⟨mm,_,_,_,rfl,rfl,SqL.of (o7.mv _ _ mma e6),hx,_,rfl,_,rfl,pl,_,_,n,rfl,rfl,ep7,ixn hnt hml,hnx _ _ ⟨Mv.put' (m6.trans o7.mv) hplH,p7.put' hpa,ts.set n x,?_,?_,?_,rfl⟩⟩
    ·intro z; have:=congrArg To z; rw [TQ] at this; simp at this; lia
    ·rw [A9,List.map_set]
    ·refine hbp hA (fun c hc=>(x2 c hc).1) hsA hsl (by lia) (.inr fun hc=>(x2 44 hc).2 rfl) (fun z=>?_) (fun p hp=>?_) (by rw [TQ]; lia) ?_
     ·have:=congrArg To z; rw [TQ] at this; simp at this; lia
     ·rcases Vd hp with y | y
      ·exact .inr y
      ·exact .inl y
     ·have:=Ie (f:=fun t=>t.length) (v:=x) hxn; lia
   refine AN (by rw [decide_eq_false (show ¬ V.int (W : Int) = V.int 5 from fun z=>hw5 (by have:=V.int.inj z; lia))] <;> rfl) ⟨_,rfl,rfl,_,rfl,?_⟩
   by_cases hw6 : W = 6
   ·refine AX (by rw [decide_eq_true (show V.int (W : Int) = V.int 6 by rw [hw6]; rfl)] <;> rfl) ⟨_,rfl,.inl ⟨rfl,_,SqL.of ep6⟩,_,rfl,_,rfl,_,rfl,pl,_,_,_,rfl,rfl,SqL.of ep6,As hvo,pl,_,n,_,rfl,rfl,ep6,by rw [hml]; lia,by rw [hml]; lia,hnx _ _ ⟨Mv.put' m6 hplH,p6.put' hpa,_,?_,?_,hins (hpm xo hmo).1 (by have:=(hpm xo hmo).2; lia) (.inl hmo),rfl⟩⟩
    ·simp
    ·rw [A9,hmap]
   refine AN (by rw [decide_eq_false (show ¬ V.int (W : Int) = V.int 6 from fun z=>hw6 (by have:=V.int.inj z; lia))] <;> rfl) ?_
   refine ⟨_,rfl,_,rfl,pl,_,_,_,rfl,rfl,SqL.of ep6,As hvo,_,rfl,_,rfl,pl,_,_,_,rfl,rfl,SqL.of ep6,As hvn,P2,fun tt htt=>?_⟩
   have s7:=Ad.new (o:=.tup [.str xo,.str xn]) htt
   have ep7:=s7 _ _ ep6
   have m7:=m6.trans s7.mv
   have p7:=p6.sm s7
   refine ⟨tt,_,rfl,SqT.of A9,rfl,_,_,rfl,_,rfl,_,rfl,pl,_,_,n,rfl,rfl,ep7,ixn hnt hml,_,_,rfl,_,rfl,_,rfl,pl,_,_,o,rfl,rfl,A9,ixn hot (by rw [TQ]; exact hml),rfl,hnx _ _ ⟨Mv.put' (Mv.put' m7 hplH) hplH,(p7.put' hpa).put' hpa,(ts.set n xo).set o xn,?_,?_,?_,rfl⟩⟩
   ·intro z; have:=congrArg To z; rw [TQ,TQ] at this; simp at this; lia
   ·rw [A9,List.map_set,List.map_set]
   ·refine hbp (x:=xo) hA (hpm xo hmo).1 hsA hsl (by have:=(hpm xo hmo).2; lia) (.inl hmo) (fun z=>?_) (fun p hp=>?_) (by rw [TQ,TQ]; lia) ?_
    ·have:=congrArg To z; rw [TQ,TQ] at this; simp at this; lia
    ·rcases Vd hp with y | y
     ·rcases Vd y with y | y
      ·exact .inr y
      ·exact .inl y
     ·rw [y]; exact .inr hmn
    ·have w1:=Ie (f:=fun t=>t.length) (v:=xo) hxn
     obtain ⟨xk,hxk⟩ : ∃ xk,(ts.set n xo)[o]? = some xk:=⟨_,Uo (by rw [TQ]; exact hot)⟩
     have w2:=Ie (f:=fun t=>t.length) (v:=xn) hxk
     lia
  rintro σ' G hR1
  refine DK hR1 fun mv pG hz4=>?_
  refine GX hz4 fun ts' hz4'=>?_
  clear hz4
  refine E6 hz4' fun hne' eG hB hq3=>?_
  clear hz4'
  obtain rfl:=hq3
  try clear hR1
  have hBl:=hB.len
  have hwt:=F0 (sep:=sep) hne'
  exact ⟨_,rfl,rfl,_,rfl,sep,pl,ts',rfl,rfl,SqL.of eG,GU (by lia),q _ _ mv pG hB⟩
theorem FP : Ax ["_law_word"] ["_law_word"] (Ac (top 55)):=⟨rfl,rfl,rfl,by decide +kernel,rfl,by decide +kernel,by decide +kernel⟩
theorem FV {f : Addr} {fd : FuncData} (F : Fun K "_law_figures" "_law_figures" (top 55) f fd) (QV : mg "len" = none) (hT : P.given.tree = none) :
 AF P w K mg base CX0 33 f fd ["_law_word"] (K8):=by
 refine F.ok FP (fun vs H Q E h=>?_) (fun cdv A outer s H vs Q E hr h=>?_)
 ·obtain ⟨_,rfl,_⟩:=h; rfl
 refine ⟨_,(Aa (K:=K) (Av (K:=K) (PW.pt (CY (Bx (Jm Jq Jq Ab (Af Dw rfl QV AJ (A7 (pv 0) A8)) Ab)) (Co (Ag (neD K hr.units) (Cj rfl (N:=["_law_sign"]) (nt:=1) (js:=[]) (AQ.look (NX:=["_law_word"]) (sc:=Ac (top 55)) rfl rfl (by decide +kernel)) (O6 (pv 0)) (fun u1 u2 u3 u4 u5=>(AG (i:=0) (show List.Nodup (["_law_sign"] : List Str) from by decide +kernel) rfl (Or.inl rfl))) (AD (by decide)) (fun u1 u2 u3 u4 u5=>KR (Ag IB (pv 0) Ah (by with_unfolding_all rfl))) (fun u1 u2 u3 u4 u5=>(pv 0))) (AY A8) (Ak _))))) (Ae (Aj E1)) Am (by rfl) (by rfl))
  (Ae (Aj (Qi (BO Gp (Aw Km (pv 0) Ab (fun u v=>rfl)) Ah (Ak _)) (Gm (BO BR (pv 0) Ah (Ak _)))))) (by rfl)),?_⟩
 obtain ⟨t,rfl,⟨hA,hL⟩,q⟩:=h
 have hs:=sizeLine_eq
 have P0 : 0 ≤ sizeLine:=by decide
 have hl:=Ai t
 have hz : t.length ≤ sizeLine:=by lia
 have q0:=q _ (Ad.refl _)
 refine ⟨_,rfl,t,rfl,hz,_,_,rfl,rfl,_,rfl,?_⟩
 by_cases h0 : (1 : Int) ≤ ((t.length : Nat) : Int)
 ·refine AX (by rw [decide_eq_true h0] <;> rfl) ⟨_,_,rfl,rfl,_,rfl,?_⟩
  by_cases h60 : ((t.length : Nat) : Int) ≤ 60
  ·refine AN (by rw [decide_eq_true h60] <;> rfl) ?_
   refine BN ⟨⟨_,rfl,t,rfl,hA,LO (fun i zs H'=>H' = H ∧ zs = ((((sg t).take i).filter fun c=>!fgB c).map fun c=>(⟨#[c]⟩ : Str)).map V.str) ⟨rfl,rfl⟩ (fun i zs H' hi h=>by rw [h.2,TC,TC]; exact SJ (List.length_filter_le ..) (by rw [Tp]; lia)) (by lia) ?_ ?_⟩⟩
   ·rintro i d zs H' hd ⟨rfl,rfl⟩
    refine ⟨_,rfl,_,_,rfl,rfl,_,rfl,?_⟩
    rw [Ko]
    cases hf : fgB d with
    | true=>exact AR ⟨rfl,by rw [UQ,hd,Option.toList_some,UP,List.filter_cons_of_neg (by rw [hf]; exact Bool.false_ne_true),List.filter_nil,Te]⟩
    | false=>exact Bv ⟨_,rfl,rfl,by rw [UQ,hd,Option.toList_some,UP,List.filter_cons_of_pos (by rw [hf]; rfl),List.filter_nil,UK,UK]; rfl⟩
   rintro zs H' ⟨rfl,rfl⟩ p hp
   rw [UR]
   refine ⟨P0,fun e he=>?_⟩
   refine Pq (us:=[]) (SqL.of ((Ad.new he) _ _ A9)) (SqL.of A9) (fun u hu=>?_) nofun ⟨_,rfl,?_⟩
   ·obtain ⟨c,hc,rfl⟩:=(UY.mp hu)
    intro d hd
    rw [Ul.mp (show d ∈ [c] from hd)]
    exact hA c (SE.mp hc).1
   have sE:=(Ad.new (o:=.lst (((((sg t).filter fun c=>!fgB c).map fun c=>(⟨#[c]⟩ : Str)).map V.str))) hp).trans (Ad.new (o:=.lst []) he)
   have q1:=q _ sE
   by_cases hb : ((sg t).filter fun c=>!fgB c).map (fun c=>(⟨#[c]⟩ : Str)) = []
   ·refine AN (by rw [decide_eq_true hb] <;> rfl) ?_
    have hd : ∀ c ∈ sg t,48 ≤ c ∧ c ≤ 57:=fun c hc=>by
     have:=List.filter_eq_nil_iff.mp (UZ.mp hb) c hc
     simpa [fgB] using this
    obtain ⟨c,r,e1⟩ : ∃ c r,sg t = c :: r:=by
     cases hc : sg t with
     | nil=>rw [hc] at hl; simp at hl; lia
     | cons c r=>exact ⟨c,r,rfl⟩
    refine ⟨_,rfl,t,_,c,rfl,rfl,hz,(by rw [show t.cps.toList = c :: r from e1]; exact As (j:=0) rfl),rfl,?_⟩
    have ef : (c = 48 → r = []) → BF (sg t) = true:=fun h=>BZ.mpr ⟨by rw [e1]; exact V8 _ _,by lia,hd,fun r' hr'=>by
     rw [e1] at hr'
     have:=Us.inj hr'
     rw [← this.2]; exact h this.1⟩
    by_cases hc : c = 48
    ·rw [decide_eq_true (show V.str ⟨#[c]⟩ = V.str (Str.ofString "0") by rw [MK.mpr hc])]
     refine ⟨false,rfl,AR ⟨_,rfl,rfl,?_⟩⟩
     by_cases ht : t = Str.ofString "0"
     ·rw [decide_eq_true (show V.str t = V.str (Str.ofString "0") by rw [ht])]
      rw [ef fun _=>by
       have e2:=e1
       rw [ht,BC] at e2
       exact (Us.inj e2).2.symm] at q1
      exact q1
     ·rw [decide_eq_false (show ¬ V.str t = V.str (Str.ofString "0") from fun z=>ht (V.str.inj z))]
      have e' : BF (sg t) = false:=Bool.eq_false_iff.mpr fun z=>ht (by
       have hr:=(BZ.mp z).2.2.2 r (by rw [e1,hc])
       refine BU ?_
       rw [e1,hc,hr,BC]; rfl)
      rw [e'] at q1
      exact q1
    ·rw [decide_eq_false (show ¬ V.str ⟨#[c]⟩ = V.str (Str.ofString "0") from fun z=>hc (MK.mp (V.str.inj z)))]
     refine ⟨true,rfl,Bv ?_⟩
     rw [ef fun z=>absurd z hc] at q1
     exact q1
   ·rw [decide_eq_false hb]
    have e' : BF (sg t) = false:=Bool.eq_false_iff.mpr fun z=>hb (by
     rw [UZ,List.filter_eq_nil_iff]
     intro c hc
     have:=(BZ.mp z).2.2.1 c hc
     simp [fgB,this.1,this.2])
    rw [e'] at q1
    exact Bv q1
  ·rw [decide_eq_false h60]
   have e' : BF (sg t) = false:=Bool.eq_false_iff.mpr fun z=>h60 (by have:=(BZ.mp z).2.1; lia)
   rw [e'] at q0
   exact Bv q0
 ·rw [decide_eq_false h0]
  have e' : BF (sg t) = false:=by rw [UM.mp (show (sg t).length = 0 by lia)]; rfl
  rw [e'] at q0
  exact AR ⟨_,rfl,Bv q0⟩
theorem BM : Ax ["_law_top","_law_bottom","_law_one","_law_other"] ["_law_top","_law_bottom"] (Ac (top 46)):=⟨rfl,rfl,rfl,by decide +kernel,rfl,by decide +kernel,by decide +kernel⟩
theorem GB {f : Addr} {fd : FuncData} (F : Fun K "_law_lowest" "_law_lowest" (top 46) f fd) (R5 : mg "abs" = none) (hT : P.given.tree = none) :
 AF P w K mg base CX0 33 f fd ["_law_top","_law_bottom"] (Jg):=by
 refine F.ok BM (fun vs H Q E h=>?_) (fun cdv A outer s H vs Q E hr h=>?_)
 ·obtain ⟨_,_,rfl,_⟩:=h; rfl
 refine ⟨_,(Aa (K:=K) (Aq (i:=2) BM.nd rfl (Or.inl rfl) (Af Fe rfl R5 IX (A7 (pv 0) A8)))
  (Aa (K:=K) (Aq (i:=3) BM.nd rfl (Or.inl rfl) (Af Fe rfl R5 IX (A7 (pv 1) A8)))
  (Aa (K:=K) (DY PassesOwn.never (Ag Cy (pv 3) Ab (Ak _)) (Ae (OC (i:=2) (j:=3) rfl BM.nd rfl rfl (by decide) rfl rfl (A7 (pv 3) (A7 (Al C8 (pv 2) (pv 3)) A8)) (by with_unfolding_all rfl))))
  (Aa (K:=K) (Av (K:=K) (Ag FJ (pv 1) Ab (Ak _)) (Ae (Aq (i:=2) BM.nd rfl (Or.inl rfl) (Al D6 Ab (pv 2)))) Am (by rfl) (by rfl))
  (Ae (Aj (AV (A7 (Al (ES hr hT) (pv 0) (pv 2)) (A7 (Al (ES hr hT) (pv 1) (pv 2)) A8))))) (by rfl)) (by rfl)) (by rfl)) (by rfl)),?_⟩
 obtain ⟨a,b,rfl,hb,q⟩:=h
 refine ⟨_,rfl,a,rfl,?_⟩
 refine ⟨_,rfl,b,rfl,?_⟩
 refine J3 (L3 H a b fun H a b σ H'=>H' = H ∧ ∃ (x y : Int),σ = [some (.int a),some (.int b),some (.int x),some (.int y)] ∧ 0 ≤ x ∧ 0 ≤ y ∧ U4 x y = U4 a b) (fun σ _=>mu 3 σ)
  ⟨rfl,_,_,rfl,?_,?_,?_⟩ ?_ ?_
 ·rw [Nm.abs_if]; exact Ve _
 ·rw [Nm.abs_if]; exact Ve _
 ·rw [Nm.abs_if,Nm.abs_if]; rfl
 ·rintro σ H' hR1
  refine HD hR1 fun hq5 hz7=>?_
  refine FW hz7 fun x y hz7'=>?_
  clear hz7
  refine E6 hz7' fun hq6 hx hy hg=>?_
  clear hz7'
  obtain rfl:=hq5
  obtain rfl:=hq6
  try clear hR1
  refine ⟨_,rfl,_,_,rfl,rfl,_,rfl,?_⟩
  by_cases hy0 : y = 0
  ·subst hy0
   refine AR ?_
   have e : (U4 a b : Int) = x:=by rw [← hg,Int.gcd_zero]; lia
   subst e
   refine ⟨_,rfl,_,_,rfl,rfl,_,rfl,?_⟩
   have hd : Nm.msr a b ≠ 0:=Nm.msr_ne hb
   have fin : ∀ p,H' p = none → Q (.ref p) (upd H' p (.tup [.int (a.fdiv (Nm.msr a b)),.int (b.fdiv (Nm.msr a b))])):=fun p hp=>by
    rw [Nm.top_msr hb,Nm.bottom_msr hb]; exact q p hp
   by_cases hb0 : b < 0
   ·have hd' : Nm.msr a b = 0 - (U4 a b : Int):=by unfold Nm.msr; rw [if_pos hb0]; lia
    rw [hd'] at hd fin
    refine AX (by rw [decide_eq_true hb0] <;> rfl) ⟨_,rfl,_,_,rfl,rfl,?_⟩
    exact ⟨_,rfl,_,rfl,_,_,rfl,rfl,hd,_,rfl,_,rfl,_,_,rfl,rfl,hd,(by decide : 2 ≤ sizeLine),fin⟩
   ·have hd' : Nm.msr a b = (U4 a b : Int):=by unfold Nm.msr; rw [if_neg hb0]
    rw [hd'] at hd fin
    refine AN (by rw [decide_eq_false hb0] <;> rfl) ?_
    exact ⟨_,rfl,_,rfl,_,_,rfl,rfl,hd,_,rfl,_,rfl,_,_,rfl,rfl,hd,(by decide : 2 ≤ sizeLine),fin⟩
  ·have hyp : 0 < y:=by lia
   refine AX (by rw [decide_eq_true hyp] <;> rfl) ?_
   refine ⟨_,rfl,_,rfl,_,rfl,_,_,rfl,rfl,hyp,_,_,rfl,⟨rfl,y,x % y,rfl,hy,Uy _ hy0,?_⟩,?_⟩
   ·rw [Nm.gcd_turn]; exact hg
   ·show (x % y).toNat < y.toNat
    have:=Uz x hyp
    lia
 ·rintro σ H' Q1 Q2 hm hR2
  obtain ⟨v,e,i,j,e1,e2,k,ek,q1⟩:=hR2
  try clear hR2
  exact ⟨v,e,i,j,e1,e2,k,ek,hm _ _ q1⟩
theorem CG : Ax ["_law_word","_law_parts","_law_top"] ["_law_word"] (Ac (top 56)):=⟨rfl,rfl,rfl,by decide +kernel,rfl,by decide +kernel,by decide +kernel⟩
theorem IG {f : Addr} {fd : FuncData} (F : Fun K "_law_read" "_law_read" (top 56) f fd) (RG : Fd P w K mg base 33 "_law_figures" ["_law_word"] (K8)) (Ra : Fd P w K mg base 33 "_law_lowest" ["_law_top","_law_bottom"] (Jg)) (QV : mg "len" = none) (R0 : mg "int" = none) (hT : P.given.tree = none) :
 AF P w K mg base CX0 34 f fd ["_law_word"] (Il):=by
 refine F.ok CG (fun vs H Q E h=>?_) (fun cdv A outer s H vs Q E hr h=>?_)
 ·obtain ⟨_,rfl,_⟩:=h; rfl
 refine ⟨_,(Aa (K:=K) (Aq (i:=1) CG.nd rfl (Or.inl rfl) (AW K PySem.F.plainAttrs_str PySem.F.slot_str_split PySem.F.type_str_split BE (pv 0) (A7 Ah A8)))
  (Aa (K:=K) (Aq (i:=2) CG.nd rfl (Or.inl rfl) (Aw (ixL K) (pv 1) Ab (fun u v=>rfl)))
  (Aa (K:=K) (Av (K:=K) (Ag BR (Cw Ee (pv 2) De (Dd Ab)) Ah (Ak _)) (Ae (Aq (i:=2) CG.nd rfl (Or.inl rfl) (Cw Ee (pv 2) (Dd Ab) De))) Am (by rfl) (by rfl))
  (Aa (K:=K) (Av (K:=K) (PW.pt (CY (Bx (Bq (Ap RG hr rfl (A7 (pv 2) A8)))) (CY (Ag BR (Aw (ixL K) (pv 1) Ab (fun u v=>rfl)) Ah (Ak _)) (Co (Ag Cy (Af (BY K) rfl QV AJ (A7 (pv 1) A8)) Ab (Ak _)))))) (Ae (Aj D0)) Am (by rfl) (by rfl))
  (Aa (K:=K) (Av (K:=K) (Ag BR (Af (BY K) rfl QV AJ (A7 (pv 1) A8)) Ab (Ak _)) (Ae (Aj (AV (A7 (Ay BH rfl R0 Cm (A7 (Aw (ixL K) (pv 1) Ab (fun u v=>rfl)) A8)) (A7 Ab A8))))) Am (by rfl) (by rfl))
  (Aa (K:=K) (Av (K:=K) (PW.pt (CY (Bx (Bq (Ap RG hr rfl (A7 (Aw (ixL K) (pv 1) Ab (fun u v=>rfl)) A8)))) (CY (Ag FJ (Ay BH rfl R0 Cm (A7 (Aw (ixL K) (pv 1) Ab (fun u v=>rfl)) A8)) Ab (Ak _)) (Co (Ag Gp (Aw (ixT K) (Ap Ra hr rfl (A7 (Ay BH rfl R0 Cm (A7 (pv 2) A8)) (A7 (Ay BH rfl R0 Cm (A7 (Aw (ixL K) (pv 1) Ab (fun u v=>rfl)) A8)) A8))) Ab (fun u v=>rfl)) (Ay BH rfl R0 Cm (A7 (Aw (ixL K) (pv 1) Ab (fun u v=>rfl)) A8)) (Ak _)))))) (Ae (Aj D0)) Am (by rfl) (by rfl))
  (Ae (Aj (AV (A7 (Ay BH rfl R0 Cm (A7 (Aw (ixL K) (pv 1) Ab (fun u v=>rfl)) A8)) (A7 (Ay BH rfl R0 Cm (A7 (Aw (ixL K) (pv 1) Ab (fun u v=>rfl)) A8)) A8))))) (by rfl)) (by rfl)) (by rfl)) (by rfl)) (by rfl)) (by rfl)),?_⟩
 obtain ⟨t,rfl,hT,qS,qN⟩:=h
 have hs:=sizeLine_eq
 have P2 : 2 ≤ sizeLine:=by decide
 have hL:=hT.2
 refine ⟨_,rfl,rfl,_,_,rfl,rfl,by rw [Ai,BC]; rfl,by lia,fun p hp=>?_⟩
 have hg:=Cs (sep:=Str.ofString "/") hT
 have hne:=Ct t (Str.ofString "/")
 have hj:=StrLaws.join_split t (Str.ofString "/")
 have nI : ni t = match Txt.split t (Str.ofString "/") with
  | [p]=>if BS (sg p) = true then some (Bl (sg p),1) else none
  | [p,q]=>if (BS (sg p) && !(sg q == [49]) && BF (sg q) && decide (0 < vl (sg q) 0) && decide (V7 (Bl (sg p)).natAbs (vl (sg q) 0) = 1)) = true then some (Bl (sg p),vl (sg q) 0) else none
  | _=>none:=rfl
 generalize Txt.split t (Str.ofString "/") = ps at hg hne hj nI ⊢
 obtain ⟨x,Bj,rfl⟩ : ∃ x Bj,ps = x :: Bj:=by
  cases ps with
  | nil=>exact absurd rfl hne
  | cons x Bj=>exact ⟨x,Bj,rfl⟩
 have s1:=Ad.new (o:=.lst ((x :: Bj).map V.str)) hp
 have ep:=A9 (H:=H) (a:=p) (o:=.lst ((x :: Bj).map V.str))
 generalize upd H p (.lst ((x :: Bj).map V.str)) = H1 at s1 ep ⊢
 have fr : ∀ {G : Hp} {a : Addr},Ad H G → G a = none → H a = none:=fun sm ha=>by
  cases hn : H _ with
  | none=>rfl
  | some o=>exact absurd (sm _ _ hn) (by rw [ha]; exact fun z=>nomatch z)
 refine ⟨_,rfl,p,_,_,_,rfl,rfl,SqL.of ep,As (j:=0) rfl,?_⟩
 have hxT:=hg x (SN ..)
 have hxL:=hxT.2
 try dsimp only
 refine Ji (s:=Lw _ _ _) (L4 H1 t p x fun H1 t p x σ' H'=>H' = H1 ∧ ∃ u : Str,σ' = [some (.str t),some (.ref p),some (.str u)] ∧ Tg u ∧ JV x u) (fun nx hnx=>?_) ?_
 ·refine ⟨_,rfl,1,rfl,.to x 1 rfl rfl rfl (by lia) ⟨rfl,_,rfl,?_⟩⟩
  by_cases h45 : ∃ r,sg x = 45 :: r
  ·obtain ⟨r,hr⟩:=h45
   refine AX (by rw [decide_eq_true (show V.str ⟨((sg x).take 1).toArray⟩ = V.str (Str.ofString "-") from congrArg V.str (BU (by rw [CS,hr]; simp [sg])))] <;> rfl) ⟨_,rfl,1,rfl,.frm x 1 rfl rfl rfl (by lia) (hnx _ _ ⟨rfl,⟨((sg x).drop 1).toArray⟩,rfl,?_,.inl ⟨r,hr,by rw [hr]; simp [sg]⟩⟩)⟩
   rw [hr]
   exact KA hxT hr
  ·rw [decide_eq_false (show ¬ V.str ⟨((sg x).take 1).toArray⟩ = V.str (Str.ofString "-") from fun z=>h45 (by
    have z1:=congrArg sg (V.str.inj z)
    rw [CS] at z1
    have z2 : (sg x).take 1 = [45]:=by simpa [sg] using z1
    cases hx : sg x with
    | nil=>rw [hx] at z2; cases z2
    | cons c r=>rw [hx] at z2; exact ⟨r,by rw [(Us.inj z2).1]⟩))]
   exact AR (hnx _ _ ⟨rfl,x,rfl,hxT,.inr ⟨fun r hr=>h45 ⟨r,hr⟩,rfl⟩⟩)
 rintro σ' H' hR1
 refine HD hR1 fun hq9 hz11=>?_
 refine GX hz11 fun u hz11'=>?_
 clear hz11
 refine DK hz11' fun hq10 huT hto=>?_
 clear hz11'
 obtain rfl:=hq9
 obtain rfl:=hq10
 try clear hR1
 have hti:=hto.is
 have nN : BS (sg x) = false → ni t = none:=fun h=>by
  rw [nI]
  rcases Bj with _ | ⟨y,_ | ⟨z,r⟩⟩
  ·show (if BS (sg x) = true then _ else _) = _
   rw [h]; rfl
  ·show (if (BS (sg x) && !(sg y == [49]) && BF (sg y) && decide (0 < vl (sg y) 0) && decide (V7 (Bl (sg x)).natAbs (vl (sg y) 0) = 1)) = true then _ else _) = _
   rw [h]; rfl
  ·rfl
 refine ⟨_,rfl,u,rfl,huT,fun H2 s2=>?_⟩
 have s12:=s1.trans s2
 have ep2:=s2 _ _ ep
 cases hf : BF (sg u) with
 | false =>
   rw [hf,Bool.false_and] at hti
   exact ⟨_,rfl,Bv (qN (nN hti) _ s12)⟩
 | true =>
   refine ⟨_,rfl,AR ?_⟩
   refine ⟨_,rfl,p,_,_,_,rfl,rfl,SqL.of ep2,As (j:=0) rfl,rfl,_,rfl,?_⟩
   by_cases h0 : x = Str.ofString "-0"
   ·rw [decide_eq_true h0,Bool.not_true,Bool.and_false] at hti
    exact AX (by rw [decide_eq_true (show V.str x = V.str (Str.ofString "-0") by rw [h0])] <;> rfl) (qN (nN hti) _ s12)
   rw [hf,decide_eq_false h0] at hti
   have hti : BS (sg x) = true:=hti
   refine AN (by rw [decide_eq_false (show ¬ V.str x = V.str (Str.ofString "-0") from fun z=>h0 (V.str.inj z))] <;> rfl) ?_
   obtain ⟨e1,e2⟩:=(DQ hti)
   have hva:=hto.val hf
   rcases Bj with _ | ⟨y,_ | ⟨z,r⟩⟩
   ·rw [PyProof.Rows.join_one] at hj
    have nI : ni t = if BS (sg x) = true then some (Bl (sg x),1) else none:=nI
    rw [hti,if_pos rfl] at nI
    refine GX (DG nI) fun q hz12'=>?_
    refine E6 hz12' fun hq e en ed=>?_
    clear hz12'
    refine ⟨_,rfl,p,_,rfl,.inl (SqL.of ep2),_,_,rfl,rfl,_,rfl,AR ?_⟩
    refine ⟨_,rfl,p,_,rfl,.inl (SqL.of ep2),rfl,_,rfl,Bv ?_⟩
    refine ⟨_,rfl,p,_,_,_,rfl,rfl,SqL.of ep2,As (j:=0) rfl,Bl (sg x),by rw [← e1],e2,P2,fun v hv=>?_⟩
    exact qS q v _ hq e (s12.trans (Ad.new hv)) (fr s12 hv) (by rw [show nT q = .tup [.int (Bl (sg x)),.int 1] from by unfold nT; rw [ed,en]; rfl]; exact A9)
   ·rw [PyProof.Rows.join_cons_cons,PyProof.Rows.join_one] at hj
    have nI : ni t = if (BS (sg x) && !(sg y == [49]) && BF (sg y) && decide (0 < vl (sg y) 0) && decide (V7 (Bl (sg x)).natAbs (vl (sg y) 0) = 1)) = true then some (Bl (sg x),vl (sg y) 0) else none:=nI
    rw [hti,Bool.true_and,hva] at nI
    have hyT:=hg y (by simp)
    refine ⟨_,rfl,p,_,rfl,.inl (SqL.of ep2),_,_,rfl,rfl,_,rfl,AR ?_⟩
    refine ⟨_,rfl,p,_,rfl,.inl (SqL.of ep2),rfl,_,rfl,AR ?_⟩
    refine ⟨_,rfl,p,_,_,_,rfl,rfl,SqL.of ep2,As (j:=1) rfl,y,rfl,hyT,fun H3 s3=>?_⟩
    have s13:=s12.trans s3
    have ep3:=s3 _ _ ep2
    cases hfy : BF (sg y) with
    | false =>
      rw [hfy,Bool.and_false,Bool.false_and,Bool.false_and] at nI
      exact ⟨_,rfl,Bv (qN nI _ s13)⟩
    | true =>
      refine ⟨_,rfl,AR ?_⟩
      obtain ⟨e3,e4⟩:=(Eh hfy)
      have ey : y = txI ((vl (sg y) 0 : Nat) : Int):=BU (by rw [Ex]; exact e3)
      have hb : ((vl (sg y) 0 : Nat) : Int).natAbs < 10 ^ 60:=by lia
      refine ⟨_,rfl,p,_,_,_,rfl,rfl,SqL.of ep3,As (j:=1) rfl,((vl (sg y) 0 : Nat) : Int),by rw [← ey],hb,_,_,rfl,rfl,_,rfl,?_⟩
      by_cases h2 : ((vl (sg y) 0 : Nat) : Int) < 2
      ·rw [decide_eq_true h2]
       have nI : ni t = none:=by
        rw [nI]
        have h01 : vl (sg y) 0 = 0 ∨ vl (sg y) 0 = 1:=by lia
        rcases h01 with z | z
        ·rw [z]; simp
        ·rw [z] at e3
         rw [e3,show (dg 1 == [49]) = true by decide +kernel]; rfl
       exact Bv (qN nI _ s13)
      refine AN (by rw [decide_eq_false h2] <;> rfl) ?_
      obtain ⟨d3,d4⟩:=(Eh hf)
      have eu : u = txI ((vl (sg u) 0 : Nat) : Int):=BU (by rw [Ex]; exact d3)
      have hbu : ((vl (sg u) 0 : Nat) : Int).natAbs < 10 ^ 60:=by lia
      refine ⟨_,rfl,((vl (sg u) 0 : Nat) : Int),by rw [← eu],hbu,_,rfl,p,_,_,_,rfl,rfl,SqL.of ep3,As (j:=1) rfl,((vl (sg y) 0 : Nat) : Int),by rw [← ey],hb,_,_,rfl,by lia,fun lr hlr=>?_⟩
      have sL:=Ad.new (o:=nT (U6 ((vl (sg u) 0 : Nat) : Int) ((vl (sg y) 0 : Nat) : Int))) hlr
      have ep4:=sL _ _ ep3
      have s14:=s13.trans sL
      have eL : SqT K (upd H3 lr (nT (U6 ((vl (sg u) 0 : Nat) : Int) ((vl (sg y) 0 : Nat) : Int)))) lr [.int (U6 ((vl (sg u) 0 : Nat) : Int) ((vl (sg y) 0 : Nat) : Int)).num,.int ((U6 ((vl (sg u) 0 : Nat) : Int) ((vl (sg y) 0 : Nat) : Int)).den : Int)]:=SqT.of A9
      refine ⟨lr,_,_,_,rfl,rfl,eL,rfl,_,rfl,p,_,_,_,rfl,rfl,SqL.of ep4,As (j:=1) rfl,((vl (sg y) 0 : Nat) : Int),by rw [← ey],hb,rfl,_,rfl,?_⟩
      have hdg:=NK (m:=vl (sg u) 0) (n:=vl (sg y) 0) (by lia)
      have hy1 : (sg y == [49]) = false:=beq_eq_false_iff_ne.mpr fun z=>h2 (by rw [z]; decide)
      rw [hfy,hy1,decide_eq_true (show 0 < vl (sg y) 0 by lia)] at nI
      by_cases hgc : V7 (vl (sg u) 0) (vl (sg y) 0) = 1
      ·refine AN (by rw [decide_eq_true (show V.int ((U6 ((vl (sg u) 0 : Nat) : Int) ((vl (sg y) 0 : Nat) : Int)).den : Int) = V.int ((vl (sg y) 0 : Nat) : Int) by rw [hdg.mpr hgc])] <;> rfl) ?_
       rw [decide_eq_true hgc] at nI
       refine GX (DG (show ni t = some (Bl (sg x),vl (sg y) 0) from nI)) fun q hz13'=>?_
       refine E6 hz13' fun hq e en ed=>?_
       clear hz13'
       refine ⟨_,rfl,p,_,_,_,rfl,rfl,SqL.of ep4,As (j:=0) rfl,Bl (sg x),by rw [← e1],e2,_,rfl,p,_,_,_,rfl,rfl,SqL.of ep4,As (j:=1) rfl,((vl (sg y) 0 : Nat) : Int),by rw [← ey],hb,P2,fun v hv=>?_⟩
       exact qS q v _ hq e (s14.trans (Ad.new hv)) (fr s14 hv) (by rw [show nT q = .tup [.int (Bl (sg x)),.int ((vl (sg y) 0 : Nat) : Int)] from by unfold nT; rw [ed,en]]; exact A9)
      ·rw [decide_eq_false (show ¬ V.int ((U6 ((vl (sg u) 0 : Nat) : Int) ((vl (sg y) 0 : Nat) : Int)).den : Int) = V.int ((vl (sg y) 0 : Nat) : Int) from fun z=>hgc (hdg.mp (by have:=V.int.inj z; lia)))]
       rw [decide_eq_false hgc] at nI
       exact Bv (qN nI _ s14)
   ·refine ⟨_,rfl,p,_,rfl,.inl (SqL.of ep2),_,_,rfl,rfl,_,rfl,?_⟩
    exact AX (by rw [decide_eq_true (show (((x :: y :: z :: r).map V.str).length : Int) > 2 by rw [TC]; simp; lia)] <;> rfl) (qN nI _ s12)
theorem Cu : Ax ["_law_way","_law_text_here","_law_number_here","_law_some","_law_points_here","_law_point"] ["_law_way","_law_text_here"] (Ac (top 58)):=⟨rfl,rfl,rfl,by decide +kernel,rfl,by decide +kernel,by decide +kernel⟩
theorem Jv {f : Addr} {fd : FuncData} (F : Fun K "_law_due" "_law_due" (top 58) f fd) (Rm : Fd P w K mg base 34 "_law_read" ["_law_word"] (Il)) (QX : mg "tuple" = none) (QW : mg "isinstance" = none) (QZ : mg "str" = none) (QV : mg "len" = none) (R0 : mg "int" = none) (Rc : mg "set" = none) (b_sum : mg "sum" = none) (hT : P.given.tree = none) :
 AF P w K mg base CX0 35 f fd ["_law_way","_law_text_here"] (Io K):=by
 refine F.ok Cu (fun vs H Q E h=>?_) (fun cdv A outer s H vs Q E hr h=>?_)
 ·obtain ⟨_,_,_,rfl,_⟩:=h; rfl
 refine ⟨_,(Aa (K:=K) (Av (K:=K) (Bx (Bq (Af (JD K) rfl QW Au (A7 (pv 1) (A7 (BP (v:=.ty "str") rfl QZ Dk rfl) A8))))) (Ae (Aj Ah)) Am (by rfl) (by rfl))
  (Aa (K:=K) (Av (K:=K) (Ag BR (pv 0) Ab (Ak _)) (Aa (K:=K) (Aq (i:=2) Cu.nd rfl (Or.inl rfl) (Ap Rm hr rfl (A7 (pv 1) A8)))
  (Ae (Aj (Aw (ixL K) (AY (A7 Ah (A7 (pv 2) A8))) (Ay FC rfl R0 Cm (A7 (BO Nt (pv 2) D0 (Ak _)) A8)) (fun u v=>rfl)))) (by rfl)) Am (by rfl) (by rfl))
  (Aa (K:=K) (Av (K:=K) (Ag BR (pv 0) Ab (Ak _)) (Aa (K:=K) (KS (i:=3) rfl Cu.nd rfl rfl (N:=["_law_word"]) (nt:=1) (js:=[]) (AQ.look (NX:=["_law_way","_law_text_here","_law_number_here","_law_some","_law_points_here","_law_point"]) (sc:=Ac (top 58)) rfl rfl (by decide +kernel)) (piL K (AW K PySem.F.plainAttrs_str PySem.F.slot_str_split PySem.F.type_str_split BE (pv 1) (A7 Ah A8))) (fun u1 u2 u3 u4 u5=>(AG (i:=0) (show List.Nodup (["_law_word"] : List Str) from by decide +kernel) rfl (Or.inl rfl))) (AD (by decide)) (fun u1 u2 u3 u4 u5=>Bb) (fun u1 u2 u3 u4 u5=>(Ap Rm hr rfl (A7 (pv 0) A8))) rfl)
  (Aa (K:=K) (Av (K:=K) (Ag BR (pv 1) Ah (Ak _)) (Ae (Aj (AV A8))) Am (by rfl) (by rfl))
  (Ae (Aj (Aw (ixL K) (AY (A7 Ah (A7 (Ay (Dh K) rfl QX Bw (A7 (pv 3) A8)) A8))) (Ay FC rfl R0 Cm (A7 (Gn (BO (OU K hr) D0 (pv 3) (by with_unfolding_all rfl)) (Gn (BO (neD K hr.units) (Aw (ixL K) (pv 3) (KZ Ig Ab) (fun u v=>rfl)) (AV (A7 Ab (A7 Ab A8))) (Ak _)) (Gm (BO Jq (Af (BY K) rfl QV AJ (A7 (pv 3) A8)) Ab (Ak _))))) A8)) (fun u v=>rfl)))) (by rfl)) (by rfl)) Am (by rfl) (by rfl))
  (Aa (K:=K) (Aq (i:=4) Cu.nd rfl (Or.inl rfl) (Ay (Dh K) rfl QX Bw (A7 (Cj rfl (N:=["_law_part"]) (nt:=1) (js:=[]) (AQ.look (NX:=["_law_way","_law_text_here","_law_number_here","_law_some","_law_points_here","_law_point"]) (sc:=Ac (top 58)) rfl rfl (by decide +kernel)) (piL K (AW K PySem.F.plainAttrs_str PySem.F.slot_str_split PySem.F.type_str_split BE (pv 1) (A7 Ah A8))) (fun u1 u2 u3 u4 u5=>(AG (i:=0) (show List.Nodup (["_law_part"] : List Str) from by decide +kernel) rfl (Or.inl rfl))) (AD (by decide)) (fun u1 u2 u3 u4 u5=>Bb) (fun u1 u2 u3 u4 u5=>(Ay (Dh K) rfl QX Bw (A7 (Cj rfl (N:=["_law_word"]) (nt:=1) (js:=[]) (AQ.lookN (NX:=["_law_part"]) (sc:=Ac (top 58)) rfl (by decide +kernel)) (piL K (AW K PySem.F.plainAttrs_str PySem.F.slot_str_split PySem.F.type_str_split BE (pv 0) (A7 Ah A8))) (fun u1 u2 u3 u4 u5=>(AG (i:=0) (show List.Nodup (["_law_word"] : List Str) from by decide +kernel) rfl (Or.inl rfl))) (AD (by decide)) (fun u1 u2 u3 u4 u5=>Bb) (fun u1 u2 u3 u4 u5=>(Ap Rm hr rfl (A7 (pv 0) A8)))) A8)))) A8)))
  (Aa (K:=K) (Dc (K:=K) PassesOwn.never rfl (piT K (pv 4)) (AG (i:=5) Cu.nd rfl (Or.inl rfl)) (Ae (Av (K:=K) (PW.pt (CY (Ag (QN K hr) D0 (pv 5) (by with_unfolding_all rfl)) (Co (Bx (Jm Jq Jq Ab (Af (BY K) rfl QV AJ (A7 (pv 5) A8)) Ab))))) (Ae (Aj Ah)) Am (by rfl) (by rfl))) (by rfl))
  (Aa (K:=K) (Av (K:=K) (Ag FJ (Af HW rfl QV AJ (A7 (Ay (Q7 K rfl hr.units) rfl Rc N5 (A7 (Cj rfl (N:=["_law_point"]) (nt:=1) (js:=[]) (AQ.look (NX:=["_law_way","_law_text_here","_law_number_here","_law_some","_law_points_here","_law_point"]) (sc:=Ac (top 58)) rfl rfl (by decide +kernel)) (piT K (pv 4)) (fun u1 u2 u3 u4 u5=>(AG (i:=0) (show List.Nodup (["_law_point"] : List Str) from by decide +kernel) rfl (Or.inl rfl))) (AD (by decide)) (fun u1 u2 u3 u4 u5=>Bb) (fun u1 u2 u3 u4 u5=>(Aw (ixT K) (pv 0) Ab (fun u v=>rfl)))) A8)) A8)) (Af (BY K) rfl QV AJ (A7 (pv 4) A8)) (Ak _)) (Ae (Aj Ah)) Am (by rfl) (by rfl))
  (Ae (Aj (Aw (ixL K) (AY (A7 Ah (A7 (pv 4) A8))) (Ay FC rfl R0 Cm (A7 (BO FJ (Af (M0 rfl) rfl b_sum Pt (A7 (Cj rfl (N:=["_law_point"]) (nt:=1) (js:=[]) (AQ.look (NX:=["_law_way","_law_text_here","_law_number_here","_law_some","_law_points_here","_law_point"]) (sc:=Ac (top 58)) rfl rfl (by decide +kernel)) (piT K (pv 4)) (fun u1 u2 u3 u4 u5=>(AG (i:=0) (show List.Nodup (["_law_point"] : List Str) from by decide +kernel) rfl (Or.inl rfl))) (AD (by decide)) (fun u1 u2 u3 u4 u5=>Bb) (fun u1 u2 u3 u4 u5=>(Al D6 (Af (BY K) rfl QV AJ (A7 (pv 0) A8)) Ab))) A8)) Ab (Ak _)) A8)) (fun u v=>rfl)))) (by rfl)) (by rfl)) (by rfl)) (by rfl)) (by rfl)) (by rfl)),?_⟩
 obtain ⟨way,t,res,rfl,hT,hr',q⟩:=h
 have hs:=sizeLine_eq
 have hTl:=hT.2
 have P0 : 0 ≤ sizeLine:=by decide
 have P2 : 2 ≤ sizeLine:=by decide
 refine ⟨_,rfl,_,_,_,_,rfl,.of (.str _),ED K,true,rfl,AR ?_⟩
 refine ⟨_,rfl,rfl,_,rfl,?_⟩
 have w0 : way = 0 ∨ way = 1 ∨ way = 2:=by cases hr' <;> simp
 rcases w0 with rfl | rfl | rfl
 ·refine AX (by rw [decide_eq_true (show V.int ((0 : Nat) : Int) = V.int 0 from rfl)] <;> rfl) ⟨_,rfl,t,rfl,hT,fun q' p H1 hq e s1 hp e1=>?_,fun hn0 H1 s1=>?_⟩
  ·refine ⟨_,rfl,P2,fun l hl=>⟨_,rfl,rfl,.inr ⟨_,rfl,?_⟩⟩⟩
   have s2:=s1.trans (Ad.new (o:=.lst [.str "text",.ref p]) hl)
   refine ⟨l,_,_,_,rfl,rfl,SqL.of A9,As (j:=1) rfl,?_⟩
   cases hr' with
   | num h =>
     obtain rfl:=Ii h hq e
     exact q _ _ s2 (Be.of ((Ad.new hl) _ _ e1))
   | num0 h=>rw [e,FK hq] at h; cases h
  ·refine ⟨_,rfl,P2,fun l hl=>⟨_,rfl,rfl,.inr ⟨_,rfl,?_⟩⟩⟩
   have s2:=s1.trans (Ad.new (o:=.lst [.str "text",.non]) hl)
   refine ⟨l,_,_,_,rfl,rfl,SqL.of A9,As (j:=0) rfl,?_⟩
   cases hr' with
   | num h=>rw [FK h] at hn0; cases hn0
   | num0 h=>exact q _ _ s2 rfl
 ·refine AN (by rw [decide_eq_false (show ¬ V.int ((1 : Nat) : Int) = V.int 0 by decide)] <;> rfl) ⟨_,rfl,rfl,_,rfl,?_⟩
  refine AX (by rw [decide_eq_true (show V.int ((1 : Nat) : Int) = V.int 1 from rfl)] <;> rfl) ?_
  refine BN ⟨_,rfl,rfl,_,_,rfl,rfl,rfl,by lia,fun c hc=>?_⟩
  have hwT:=Cs (sep:=Str.ofString " ") hT
  have hwl:=PyProof.Rows.split_le t (Str.ofString " ")
  have hwn:=Ct t (Str.ofString " ")
  have hwj:=StrLaws.join_split t (Str.ofString " ")
  have hbad : (∃ w ∈ Txt.split t (Str.ofString " "),ni w = none) → NU t:=.inl
  have hgd : ∀ qs : List Rat,t = Str.join AL (qs.map tx) → qs ≠ [] → Txt.split t (Str.ofString " ") = qs.map tx:=fun qs e hq=>by rw [e]; exact Ca hq
  generalize Txt.split t (Str.ofString " ") = ws at hwT hwl hwn hwj hbad hgd ⊢
  have s1 : Ad H (upd H c (.lst (ws.map V.str))):=Ad.new hc
  have e1 : upd H c (.lst (ws.map V.str)) c = some (.lst (ws.map V.str)):=A9
  generalize upd H c (.lst (ws.map V.str)) = H1 at s1 e1 ⊢
  refine ⟨c,rfl,⟨_,SqL.of e1⟩,GI (xs:=ws.map V.str) (L2 H1 ws fun H1 ws i zs H'=>Ad H1 H' ∧ zs.length = i ∧ Paired (Mx H') zs ((ws.take i).map rn)) ⟨Ad.refl _,rfl,.nil⟩ (fun i zs H' _ h=>⟨SqL.of (h.1 _ _ e1),h.2.1⟩) (by rw [TC]; lia) ?_ ?_⟩
  ·rintro i v zs H' hv ⟨sm,hl,hn⟩
   rw [Tu] at hv
   obtain ⟨t,ht,rfl⟩:=(Va.mp hv)
   refine ⟨_,rfl,t,rfl,hwT t (Tx ht),fun q p H2 hq e m2 hp e2=>⟨sm.trans m2,by simp [hl],?_⟩,fun hn0 H2 m2=>⟨sm.trans m2,by simp [hl],?_⟩⟩
   ·rw [UQ,ht,UK]
    exact Paired.snoc (Mxs.same hn m2) (by show Mx H2 _ (rn t); rw [e,HK hq]; exact ⟨p,rfl,e2⟩)
   ·rw [UQ,ht,UK]
    exact Paired.snoc (Mxs.same hn m2) (by show Mx H2 _ (rn t); rw [FY hn0]; rfl)
  rintro zs H' ⟨sm,hl,hn⟩ p hp
  rw [TC,UR] at hn
  rw [TC] at hl
  have s2 : Ad H (upd H' p (.lst zs)):=(s1.trans sm).trans (Ad.new hp)
  have ep : upd H' p (.lst zs) p = some (.lst zs):=A9
  have hn2:=Mxs.same hn (Ad.new (o:=.lst zs) hp)
  generalize upd H' p (.lst zs) = H2 at s2 ep hn2 ⊢
  clear hn hp sm s1 e1
  have fin : ∀ {res' : Res} (v : V) (G : Hp),RdW 1 t res' → Ad H2 G → J0 K G v res' → Q v G:=fun v G hd sG hv=>by
   obtain rfl:=RdW.det hd hr' rfl rfl
   exact q v G (s2.trans sG) hv
  refine ⟨_,rfl,rfl,_,rfl,?_⟩
  by_cases ht0 : t = Str.ofString "0"
  ·refine AX (by rw [decide_eq_true (show V.str t = V.str (Str.ofString "0") by rw [ht0])] <;> rfl) ⟨P0,fun e he=>fin (res':=.crv []) _ _ (by rw [ht0]; exact .crv0) (Ad.new he) ⟨e,rfl,[],SqT.of A9,.nil⟩⟩
  refine AN (by rw [decide_eq_false (show ¬ V.str t = V.str (Str.ofString "0") from fun z=>ht0 (V.str.inj z))] <;> rfl) ?_
  refine ⟨_,rfl,p,zs,rfl,.inl ⟨SqL.of ep,fun tp htp=>⟨P2,fun l hll=>?_⟩⟩⟩
  have s3:=(Ad.new (o:=.tup zs) htp).trans (Ad.new (o:=.lst [.str "text",.ref tp]) hll)
  have ep3:=s3 _ _ ep
  have etp : upd (upd H2 tp (.tup zs)) l (.lst [.str "text",.ref tp]) tp = some (.tup zs):=(Ad.new hll) _ _ A9
  have el3:=A9 (H:=upd H2 tp (.tup zs)) (a:=l) (o:=.lst [.str "text",.ref tp])
  have hn3:=Mxs.same hn2 s3
  generalize upd (upd H2 tp (.tup zs)) l (.lst [.str "text",.ref tp]) = H3 at s3 ep3 etp el3 hn3 ⊢
  refine ⟨_,rfl,IP ⟨p,(ws.map rn).map mO,.none,rfl,Mxs.rds hn3 (SqL.of ep3),.non,Kh _,rfl,?_⟩⟩
  rw [G9]
  have sp1 : ∀ ys : List Rat,ws = ys.map tx → (∀ q ∈ ys,Fg q) → t = Str.join AL (ys.map tx):=fun ys e _=>by rw [← e]; exact hwj.symm
  by_cases hall : ∀ w ∈ ws,ni w ≠ none
  ·obtain ⟨qs,rfl,hf⟩:=(CO hall)
   have et:=sp1 qs rfl hf
   have hqn : qs ≠ []:=fun z=>hwn (by rw [z]; rfl)
   rw [Kf hf] at hn3 ⊢
   rw [JU]
   refine ⟨true,rfl,Bv ?_⟩
   have hnum:=IL hn3
   have hzl:=hnum.length
   have hqp:=U8.mpr hqn
   obtain ⟨q0,hq0⟩ : ∃ q0,qs[qs.length - 1]? = some q0:=⟨_,Uo (by lia)⟩
   obtain ⟨v,hv,hvn⟩:=(Paired.get' hnum hq0)
   rw [← hzl] at hv
   refine ⟨_,rfl,_,rfl,p,zs,_,v,rfl,rfl,SqL.of ep3,Ff hv,P2,fun o ho=>?_⟩
   have s4:=Ad.new (o:=.tup [.int 0,.int 1]) ho
   refine eqN (q:=0) (Be.same (hvn.num) s4) (Be.of A9) ?_
   have el4:=s4 _ _ el3
   by_cases hq : q0 = 0
   ·refine ⟨false,by rw [decide_eq_true hq]; rfl,AR (.inr ⟨_,rfl,l,_,_,_,rfl,rfl,SqL.of el4,As (j:=0) rfl,?_⟩)⟩
    refine fin (res':=.word 2) _ _ (.crvX (.inr ⟨qs,et,hf,hqn,?_⟩)) (s3.trans s4) rfl
    by_cases h1 : 1 < qs.length
    ·exact .inr ⟨h1,by rw [hq0,hq]⟩
    ·exfalso
     obtain ⟨x,rfl⟩ : ∃ x,qs = [x]:=by
      match qs,hqp,h1 with
      | [x],_,_=>exact ⟨x,rfl⟩
      | _ :: _ :: _,_,h=>exact absurd (by simp) h
     cases hq0
     exact ht0 (by rw [et,hq,← Dy])
   ·refine ⟨true,by rw [decide_eq_false hq]; rfl,Bv ⟨_,rfl,p,zs,rfl,.inl (SqL.of (s4 _ _ ep3)),_,_,rfl,rfl,.inr ⟨_,rfl,?_⟩⟩⟩
    by_cases h16 : ((zs.length : Nat) : Int) ≤ 16
    ·rw [decide_eq_true h16]
     refine ⟨l,_,_,_,rfl,rfl,SqL.of el4,As (j:=1) rfl,?_⟩
     exact fin (res':=.crv qs) _ _ (by rw [et]; exact .crv hf hqn (by lia) hq0 hq) (s3.trans s4) ⟨tp,rfl,zs,SqT.of (s4 _ _ etp),By.same hnum.nums s4⟩
    ·rw [decide_eq_false h16]
     refine ⟨l,_,_,_,rfl,rfl,SqL.of el4,As (j:=0) rfl,?_⟩
     exact fin (res':=.word 2) _ _ (.crvX (.inr ⟨qs,et,hf,hqn,.inl (by lia)⟩)) (s3.trans s4) rfl
  ·have hex : ∃ w ∈ ws,ni w = none:=Classical.byContradiction fun z=>hall fun w hw e=>z ⟨w,hw,e⟩
   rw [Kt hex]
   refine ⟨false,rfl,AR (.inr ⟨_,rfl,l,_,_,_,rfl,rfl,SqL.of el3,As (j:=0) rfl,?_⟩)⟩
   exact fin (res':=.word 2) _ _ (.crvX (hbad hex)) s3 rfl
 ·refine AN (by rw [decide_eq_false (show ¬ V.int ((2 : Nat) : Int) = V.int 0 by decide)] <;> rfl) ⟨_,rfl,rfl,_,rfl,?_⟩
  refine AN (by rw [decide_eq_false (show ¬ V.int ((2 : Nat) : Int) = V.int 1 by decide)] <;> rfl) ?_
  refine BN ⟨_,rfl,rfl,_,_,rfl,rfl,(by show (AZ.length == 0) = false; rw [Bh]; rfl),by lia,fun c hc=>?_⟩
  have hpT:=Cs (sep:=Str.ofString ", ") hT
  have hpl:=PyProof.Rows.split_le t (Str.ofString ", ")
  have hpj:=StrLaws.join_split t (Str.ofString ", ")
  have hpn:=Ct t (Str.ofString ", ")
  have hbd : (∃ p ∈ Txt.split t (Str.ofString ", "),¬ E7 p) → JX t:=fun ⟨p,hp,hg⟩=>Ks hp hg
  generalize Txt.split t (Str.ofString ", ") = ps at hpT hpl hpj hpn hbd ⊢
  have s1 : Ad H (upd H c (.lst (ps.map V.str))):=Ad.new hc
  have e1 : upd H c (.lst (ps.map V.str)) c = some (.lst (ps.map V.str)):=A9
  generalize upd H c (.lst (ps.map V.str)) = H1 at s1 e1 ⊢
  refine ⟨c,rfl,⟨_,SqL.of e1⟩,GI (xs:=ps.map V.str) (L3 H1 K ps fun H1 K ps i zs H'=>Ad H1 H' ∧ zs.length = i ∧ Paired (PtM K H') zs ((ps.take i).map wsO)) ⟨Ad.refl _,rfl,.nil⟩ (fun i zs H' _ h=>⟨SqL.of (h.1 _ _ e1),h.2.1⟩) (by rw [TC]; lia) ?_ ?_⟩
  ·rintro i v zs H' hv ⟨sm,hl,hn⟩
   rw [Tu] at hv
   obtain ⟨p,hp,rfl⟩:=(Va.mp hv)
   have hpT':=hpT p (Tx hp)
   have hpTl:=hpT'.2
   refine BN ⟨_,rfl,rfl,_,_,rfl,rfl,(by show (CD.length == 0) = false; rw [Cd]; rfl),by lia,fun d hd=>?_⟩
   have hwT:=Cs (sep:=Str.ofString ":") hpT'
   have hwl:=PyProof.Rows.split_le p (Str.ofString ":")
   have ew : wsO p = (Txt.split p (Str.ofString ":")).map rn:=rfl
   generalize Txt.split p (Str.ofString ":") = ws at hwT hwl ew ⊢
   have s3 : Ad H' (upd H' d (.lst (ws.map V.str))):=Ad.new hd
   have e3 : upd H' d (.lst (ws.map V.str)) d = some (.lst (ws.map V.str)):=A9
   generalize upd H' d (.lst (ws.map V.str)) = H3 at s3 e3 ⊢
   have hn0:=hn
   have hl0:=hl
   refine ⟨d,rfl,⟨_,SqL.of e3⟩,GI (xs:=ws.map V.str) (L2 H3 ws fun H3 ws j ys G=>Ad H3 G ∧ ys.length = j ∧ Paired (Mx G) ys ((ws.take j).map rn)) ⟨Ad.refl _,rfl,.nil⟩ (fun j ys G _ h=>⟨SqL.of (h.1 _ _ e3),h.2.1⟩) (by rw [TC]; lia) ?_ ?_⟩
   ·rintro i v zs H' hv ⟨sm,hl,hn⟩
    rw [Tu] at hv
    obtain ⟨t,ht,rfl⟩:=(Va.mp hv)
    refine ⟨_,rfl,t,rfl,hwT t (Tx ht),fun q p H2 hq e m2 hp e2=>⟨sm.trans m2,by simp [hl],?_⟩,fun hn0 H2 m2=>⟨sm.trans m2,by simp [hl],?_⟩⟩
    ·rw [UQ,ht,UK]
     exact Paired.snoc (Mxs.same hn m2) (by show Mx H2 _ (rn t); rw [e,HK hq]; exact ⟨p,rfl,e2⟩)
    ·rw [UQ,ht,UK]
     exact Paired.snoc (Mxs.same hn m2) (by show Mx H2 _ (rn t); rw [FY hn0]; rfl)
   rintro ys G ⟨sm2,hl2,hn2⟩ e he
   rw [TC,UR] at hn2
   refine ⟨e,ys,rfl,.inl ⟨SqL.of A9,fun f hf=>?_⟩⟩
   have s4:=(Ad.new (o:=.lst ys) he).trans (Ad.new (o:=.tup ys) hf)
   have s5:=(s3.trans sm2).trans s4
   refine ⟨sm.trans s5,by simp [hl0],?_⟩
   rw [UQ,hp,UK]
   exact Paired.snoc (PtMs.same hn0 s5) ⟨f,ys,rfl,SqT.of A9,by show Paired _ ys (wsO p); rw [ew]; exact Mxs.same hn2 s4⟩
  rintro zs H' ⟨sm,hl,hn⟩ pl hpl'
  rw [TC,UR] at hn
  rw [TC] at hl
  refine ⟨pl,zs,rfl,.inl ⟨SqL.of A9,fun tp htp=>?_⟩⟩
  have s2:=(Ad.new (o:=.lst zs) hpl').trans (Ad.new (o:=.tup zs) htp)
  have et:=A9 (H:=upd H' pl (.lst zs)) (a:=tp) (o:=.tup zs)
  have hn2:=PtMs.same hn s2
  have sH:=(s1.trans sm).trans s2
  generalize upd (upd H' pl (.lst zs)) tp (.tup zs) = H2 at et hn2 sH ⊢
  clear hn sm s1 e1 s2
  have hzl : zs.length = ps.length:=hl
  have fin : ∀ {res' : Res} (v : V) (G : Hp),RdW 2 t res' → Ad H2 G → J0 K G v res' → Q v G:=fun v G hd sG hv=>by
   obtain rfl:=RdW.det hd hr' rfl rfl
   exact q v G (sH.trans sG) hv
  refine ⟨_,rfl,tp,rfl,⟨_,SqT.of et⟩,Lh (xs:=zs) (L4 H2 ps t tp fun H2 ps t tp i σ G=>G = H2 ∧ (∀ j p,j < i → ps[j]? = some p → E7 p) ∧ ∃ z,σ = [some (.int ((2 : Nat) : Int)),some (.str t),none,none,some (.ref tp),z]) ⟨rfl,(fun j p hj=>absurd hj (UT _)),_,rfl⟩ (fun i σ G _ h=>by rw [h.1]; exact SqT.of et) ?_ ?_⟩
  ·rintro i v σ G hv hR1
   refine DK hR1 fun hq14 hg hz16=>?_
   refine GX hz16 fun z hq15=>?_
   clear hz16
   obtain rfl:=hq14
   obtain rfl:=hq15
   try clear hR1
   obtain ⟨os,hos,a,us,rfl,hS,hm⟩:=(Paired.get hn2 hv)
   rw [Tu] at hos
   obtain ⟨p,hp,rfl⟩:=(Va.mp hos)
   have hul:=hm.length
   rw [show (wsO p).length = (Txt.split p (Str.ofString ":")).length from TC ..] at hul
   have hbp : ¬ E7 p → JX t:=fun h=>hbd ⟨p,Tx hp,h⟩
   refine ⟨_,rfl,NH ⟨a,(wsO p).map mO,.none,rfl,Mxs.rdsT hm hS,.non,Kh _,rfl,_,rfl,?_⟩⟩
   rw [G9]
   by_cases hall : ∀ w ∈ Txt.split p (Str.ofString ":"),ni w ≠ none
   ·rw [show (wsO p).any V9 = false from Pz hall]
    refine AR ?_
    refine ⟨_,rfl,a,us,rfl,.inr hS,_,_,rfl,rfl,_,rfl,?_⟩
    by_cases h2 : (2 : Int) ≤ ((us.length : Nat) : Int)
    ·refine AX (by rw [decide_eq_true h2] <;> rfl) ⟨_,_,rfl,rfl,_,rfl,?_⟩
     by_cases h3 : ((us.length : Nat) : Int) ≤ 3
     ·refine AN (by rw [decide_eq_true h3] <;> rfl) ⟨rfl,fun j p' hj hp'=>?_,_,rfl⟩
      rcases US j i with y | y
      ·exact hg j p' y hp'
      ·obtain rfl : j = i:=by lia
       rw [hp] at hp'
       cases hp'
       exact ⟨hall,by lia⟩
     ·exact AX (by rw [decide_eq_false h3] <;> rfl) (fin (res':=.word 2) _ _ (.bad (hbp fun h=>by have:=h.2; lia)) (Ad.refl _) rfl)
    ·exact AN (by rw [decide_eq_false h2] <;> rfl) ⟨_,rfl,Bv (fin (res':=.word 2) _ _ (.bad (hbp fun h=>by have:=h.2; lia)) (Ad.refl _) rfl)⟩
   ·have hex : ∃ w ∈ Txt.split p (Str.ofString ":"),ni w = none:=Classical.byContradiction fun z=>hall fun w hw e=>z ⟨w,hw,e⟩
    rw [show (wsO p).any V9 = true from Kt hex]
    exact Bv (fin (res':=.word 2) _ _ (.bad (hbp fun h=>hall h.1)) (Ad.refl _) rfl)
  rintro σ G hR2
  refine DK hR2 fun hq19 hg hz21=>?_
  refine GX hz21 fun z hq20=>?_
  clear hz21
  obtain rfl:=hq19
  obtain rfl:=hq20
  try clear hR2
  obtain ⟨pss,epss,h23,hfg,hpp⟩:=JH hn2 fun p hp=>by
   obtain ⟨j,hj,e⟩:=(List.mem_iff_getElem.mp hp)
   exact hg j p (by lia) (by rw [Uo hj,e])
  have etx : t = Bc pss:=by rw [← hpj,epss]; rfl
  have h1 : 1 ≤ pss.length:=U8.mpr fun y=>hpn (by rw [epss,y]; rfl)
  have h17:=RdW.len17 hr' etx h1 h23 hfg
  have hzp:=hpp.length
  refine BN ⟨_,rfl,tp,rfl,⟨_,SqT.of et⟩,DI (xs:=zs) (L2 G pss fun G pss i ys G'=>G' = G ∧ ys.length = i ∧ AM G ys ((pss.map fun ps=>ps.getD 0 0).take i)) ⟨rfl,rfl,.nil⟩ (fun i ys G' _ h=>⟨by rw [h.1]; exact SqT.of et,h.2.1⟩) (SK (Br (by lia))) ?_ ?_⟩
  ·rintro i v ys G' hv ⟨rfl,hyl,hyn⟩
   obtain ⟨qs,hqs,a,us,rfl,hS,hm⟩:=(Paired.get hpp hv)
   obtain ⟨rr,h0,hr⟩:=LW hm (by rcases h23 qs (Tx hqs) with y | y <;> lia)
   refine ⟨_,rfl,a,us,_,.ref rr,rfl,rfl,hS,As (j:=0) h0,rfl,by simp [hyl],?_⟩
   rw [UQ,Tu,hqs]
   exact Paired.snoc hyn ⟨rr,rfl,hr⟩
  rintro ys G' ⟨rfl,hyl,hyn⟩ sl hsl
  rw [Uw (by rw [TC]; lia)] at hyn
  have sA:=Ad.new (o:=.lst ys) hsl
  refine ⟨sl,ys,_,rfl,SqL.of A9,AM.same hyn sA,by rw [TC]; exact h17,fun sp n hle hnd hsp=>⟨sp,n,rfl,A9,by rw [TC] at hle; lia,?_⟩⟩
  have sB:=sA.trans (Ad.new (o:=Kw sp n) hsp)
  have etB:=sB _ _ et
  rw [TC] at hle hnd
  have hppB:=PtNs.same hpp sB
  generalize upd (upd G' sl (.lst ys)) sp (Kw sp n) = G2 at sB etB hppB ⊢
  refine ⟨_,rfl,tp,zs,rfl,.inr (SqT.of etB),_,_,rfl,rfl,_,rfl,?_⟩
  by_cases hN : (pss.map fun ps=>ps.getD 0 0).Nodup
  ·refine AN (by rw [decide_eq_false (show ¬ ((n : Nat) : Int) < ((zs.length : Nat) : Int) by have:=hnd.mpr hN; lia)] <;> rfl) ?_
   refine ⟨_,rfl,P2,fun l hll=>?_⟩
   have sC:=Ad.new (o:=.lst [.str "many",.ref tp]) hll
   have etC:=sC _ _ etB
   have elC:=A9 (H:=G2) (a:=l) (o:=.lst [.str "many",.ref tp])
   have hppC:=PtNs.same hppB sC
   have sBC:=sB.trans sC
   generalize upd G2 l (.lst [.str "many",.ref tp]) = G3 at sC etC elC hppC sBC ⊢
   refine BN ⟨_,rfl,tp,rfl,⟨_,SqT.of etC⟩,DI (xs:=zs) (L2 G3 pss fun G3 pss j us W=>W = G3 ∧ us = (pss.take j).map fun ps=>V.int ((ps.length : Int) - 1)) ⟨rfl,rfl⟩ (fun j us W _ p=>⟨by rw [p.1]; exact SqT.of etC,by rw [p.2,TC,Tp]; lia⟩) (SK (Br (by lia))) ?_ ?_⟩
   ·rintro j v us W hv ⟨rfl,rfl⟩
    obtain ⟨qs,hqs,a,vs',rfl,hS,hm⟩:=(Paired.get hppC hv)
    have hvl:=hm.length
    refine ⟨_,rfl,a,vs',rfl,.inr hS,_,_,rfl,rfl,rfl,?_⟩
    rw [UQ,hqs,UK,hvl]; rfl
   rintro us W ⟨rfl,rfl⟩ sl2 hsl2
   rw [hzp,UR]
   have sD:=Ad.new (o:=.lst (pss.map fun ps=>V.int ((ps.length : Int) - 1))) hsl2
   refine ⟨sl2,pss.map fun ps=>(ps.length : Int) - 1,rfl,by rw [A9,V1]; rfl,?_⟩
   rw [Mg fun ps hp=>by rcases h23 ps hp with y | y <;> lia]
   refine ⟨_,_,rfl,rfl,.inr ⟨_,rfl,?_⟩⟩
   have elD:=sD _ _ elC
   have etD:=sD _ _ etC
   by_cases hb : ((BI pss).length : Int) < 13
   ·rw [decide_eq_true hb]
    refine ⟨l,_,_,_,rfl,rfl,SqL.of elD,As (j:=1) rfl,?_⟩
    refine fin (res':=.pts pss) _ _ (by rw [etx]; exact .pts h1 h23 hfg hN (by lia)) (sBC.trans sD) ⟨tp,zs,rfl,SqT.of etD,Paired.mapP hppC fun _ _ ⟨a,us,y1,y2,y3⟩=>⟨a,y1,us,y2.same sD,(AM.same y3 sD).nums⟩⟩
   ·rw [decide_eq_false hb]
    refine ⟨l,_,_,_,rfl,rfl,SqL.of elD,As (j:=0) rfl,?_⟩
    exact fin (res':=.word 0) _ _ (by rw [etx]; exact .many h1 h17 h23 hfg hN (by lia)) (sBC.trans sD) rfl
  ·rw [decide_eq_true (show ((n : Nat) : Int) < ((zs.length : Nat) : Int) by
    have : n ≠ pss.length:=fun y=>hN (hnd.mp y)
    lia)]
   exact Bv (fin (res':=.word 1) _ _ (by rw [etx]; exact .twice h1 h17 h23 hfg hN) sB rfl)
theorem Bi : Ax ["_law_caught","_law_some","_law_found"] ["_law_caught"] (Ac (top 57)):=⟨rfl,rfl,rfl,by decide +kernel,rfl,by decide +kernel,by decide +kernel⟩
theorem Fo {f : Addr} {fd : FuncData} (F : Fun K "_law_refusal" "_law_refusal" (top 57) f fd) {a_TooMany a_NoPoints a_NoPoint a_NoNumber a_NoCurve a_NoStretch a_TooDeep a_TooFew a_NoText a_NoRow : Addr} (c_TooMany : mg "TooMany" = some (.ref a_TooMany)) (c_NoPoints : mg "NoPoints" = some (.ref a_NoPoints)) (c_NoPoint : mg "NoPoint" = some (.ref a_NoPoint)) (c_NoNumber : mg "NoNumber" = some (.ref a_NoNumber)) (c_NoCurve : mg "NoCurve" = some (.ref a_NoCurve)) (c_NoStretch : mg "NoStretch" = some (.ref a_NoStretch)) (c_TooDeep : mg "TooDeep" = some (.ref a_TooDeep)) (c_TooFew : mg "TooFew" = some (.ref a_TooFew)) (c_NoText : mg "NoText" = some (.ref a_NoText)) (c_NoRow : mg "NoRow" = some (.ref a_NoRow)) (QW : mg "isinstance" = none) (QV : mg "len" = none) (Rn : mg "ValueError" = none) (hT : P.given.tree = none) :
 FnH P w K mg base 33 f fd "_law_caught" (K7 K [a_TooMany,a_NoPoints,a_NoPoint,a_NoNumber,a_NoCurve,a_NoStretch,a_TooDeep,a_TooFew,a_NoText,a_NoRow]):=by
 refine F.okH Bi (fun cdv A outer s H ea oe Q hr hx h=>?_)
 refine ⟨_,(Aa (K:=K) (Aq (i:=1) Bi.nd rfl (Or.inl rfl) (AY (A7 (AV (A7 Ah (A7 (Af (GV K hx) rfl QW Au (A7 (pv 0) (A7 (AK (v:=.ref a_TooMany) rfl c_TooMany rfl) A8))) A8))) (A7 (AV (A7 Ah (A7 (Af (GV K hx) rfl QW Au (A7 (pv 0) (A7 (AK (v:=.ref a_NoPoints) rfl c_NoPoints rfl) A8))) A8))) A8))))
  (Aa (K:=K) (Aq (i:=1) Bi.nd rfl (Or.inl rfl) (Al Gq (pv 1) (AY (A7 (AV (A7 Ah (A7 (Af (GV K hx) rfl QW Au (A7 (pv 0) (A7 (AK (v:=.ref a_NoPoint) rfl c_NoPoint rfl) A8))) A8))) (A7 (AV (A7 Ah (A7 (Af (GV K hx) rfl QW Au (A7 (pv 0) (A7 (AK (v:=.ref a_NoNumber) rfl c_NoNumber rfl) A8))) A8))) A8)))))
  (Aa (K:=K) (Aq (i:=1) Bi.nd rfl (Or.inl rfl) (Al Gq (pv 1) (AY (A7 (AV (A7 Ah (A7 (Af (GV K hx) rfl QW Au (A7 (pv 0) (A7 (AK (v:=.ref a_NoCurve) rfl c_NoCurve rfl) A8))) A8))) (A7 (AV (A7 Ah (A7 (Af (GV K hx) rfl QW Au (A7 (pv 0) (A7 (AK (v:=.ref a_NoStretch) rfl c_NoStretch rfl) A8))) A8))) A8)))))
  (Aa (K:=K) (Aq (i:=1) Bi.nd rfl (Or.inl rfl) (Al Gq (pv 1) (AY (A7 (AV (A7 Ah (A7 (Af (GV K hx) rfl QW Au (A7 (pv 0) (A7 (AK (v:=.ref a_TooDeep) rfl c_TooDeep rfl) A8))) A8))) (A7 (AV (A7 Ah (A7 (Af (GV K hx) rfl QW Au (A7 (pv 0) (A7 (AK (v:=.ref a_TooFew) rfl c_TooFew rfl) A8))) A8))) A8)))))
  (Aa (K:=K) (Aq (i:=1) Bi.nd rfl (Or.inl rfl) (Al Gq (pv 1) (AY (A7 (AV (A7 Ah (A7 (Af (GV K hx) rfl QW Au (A7 (pv 0) (A7 (AK (v:=.ref a_NoText) rfl c_NoText rfl) A8))) A8))) (A7 (AV (A7 Ah (A7 (Af (GV K hx) rfl QW Au (A7 (pv 0) (A7 (AK (v:=.ref a_NoRow) rfl c_NoRow rfl) A8))) A8))) A8)))))
  (Aa (K:=K) (OD (K:=K) hx (i:=2) Bi.nd rfl rfl (N:=["_law_word","_law_one"]) (nt:=2) (js:=[]) (AQ.look (NX:=["_law_caught","_law_some","_law_found"]) (sc:=Ac (top 57)) rfl rfl (by decide +kernel)) (pv 1) (fun u1 u2 u3 u4 u5 hxx=>(QL (K:=K) (n:=2) hxx (EO (AG (i:=0) (show List.Nodup (["_law_word","_law_one"] : List Str) from by decide +kernel) rfl (Or.inl rfl)) (EO (AG (i:=1) (show List.Nodup (["_law_word","_law_one"] : List Str) from by decide +kernel) rfl (Or.inl rfl)) KW)))) (LA (FG (by decide) (FG (by decide) K3))) (fun u1 u2 u3 u4 u5=>KR (Bq (pv 1))) (fun u1 u2 u3 u4 u5=>(pv 0)) rfl)
  (Aa (K:=K) (Av (K:=K) (PW.pt (CY (Ag Gp (Af (BY K) rfl QV AJ (A7 (pv 2) A8)) Ab (Ak _)) (Co (Bx (Bq (Af (GV K hx) rfl QW Au (A7 (pv 0) (A7 (BP (v:=.ty "ValueError") rfl Rn HC rfl) A8)))))))) (Ae (Aj Ah)) Am (by rfl) (by rfl))
  (Ae (Aj (Aw (ixL K) (pv 2) Ab (fun u v=>rfl)))) (by rfl)) (by rfl)) (by rfl)) (by rfl)) (by rfl)) (by rfl)) (by rfl)),?_⟩
 obtain ⟨D,n,w,hD,R,hw,q⟩:=h
 have P2 : 2 ≤ sizeLine:=by decide
 have P10 : 10 ≤ sizeLine:=by decide
 refine ⟨_,rfl,D,_,_,_,hD,R.ty,rfl,rfl,R.of 0 _ rfl,P2,fun p0 h1=>?_⟩
 have s1 : Ad H (upd H p0 (.tup [.str "many",.bl (0 == n)])):=Ad.new h1
 have w1 : WB K (upd H p0 (.tup [.str "many",.bl (0 == n)])) (.ref p0) ("many",(0 == n)):=⟨p0,rfl,SqT.of A9⟩
 generalize upd H p0 (.tup [.str "many",.bl (0 == n)]) = A0 at s1 w1 ⊢
 refine ⟨_,rfl,D,_,_,_,hD,R.ty,rfl,rfl,R.of 1 _ rfl,P2,fun u0 h2=>?_⟩
 have s2 : Ad A0 (upd A0 u0 (.tup [.str "points",.bl (1 == n)])):=Ad.new h2
 have w2 : WB K (upd A0 u0 (.tup [.str "points",.bl (1 == n)])) (.ref u0) ("points",(1 == n)):=⟨u0,rfl,SqT.of A9⟩
 have w1:=w1.same s2
 have s2:=s1.trans s2
 generalize upd A0 u0 (.tup [.str "points",.bl (1 == n)]) = B0 at s2 w1 w2 ⊢
 refine ⟨P2,fun b0 hl=>?_⟩
 have s3 : Ad B0 (upd B0 b0 (.lst [.ref p0,.ref u0])):=Ad.new hl
 have eb : upd B0 b0 (.lst [.ref p0,.ref u0]) b0 = some (.lst [.ref p0,.ref u0]):=A9
 have w1:=w1.same s3
 have w2:=w2.same s3
 have sT:=s2.trans s3
 generalize upd B0 b0 (.lst [.ref p0,.ref u0]) = C0 at sT eb w1 w2 ⊢
 clear s1 s2 s3 h1 h2 hl
 have l0:=b0
 have S0:=sT
 have el0:=eb
 have hn0 : [V.ref p0,V.ref u0].length = 2:=rfl
 have wS0 : Paired (WB K C0) [.ref p0,.ref u0] [("many",(0 == n)),("points",(1 == n))]:=.cons w1 (.cons w2 .nil)
 generalize [V.ref p0,V.ref u0] = xs0 at el0 wS0 hn0
 clear sT eb w1 w2
 refine ⟨_,rfl,_,rfl,D,_,_,_,hD,R.ty,rfl,rfl,R.of 2 _ rfl,P2,fun p1 h1=>?_⟩
 have s1 : Ad C0 (upd C0 p1 (.tup [.str "point",.bl (2 == n)])):=Ad.new h1
 have w1 : WB K (upd C0 p1 (.tup [.str "point",.bl (2 == n)])) (.ref p1) ("point",(2 == n)):=⟨p1,rfl,SqT.of A9⟩
 generalize upd C0 p1 (.tup [.str "point",.bl (2 == n)]) = A1 at s1 w1 ⊢
 refine ⟨_,rfl,D,_,_,_,hD,R.ty,rfl,rfl,R.of 3 _ rfl,P2,fun u1 h2=>?_⟩
 have s2 : Ad A1 (upd A1 u1 (.tup [.str "number",.bl (3 == n)])):=Ad.new h2
 have w2 : WB K (upd A1 u1 (.tup [.str "number",.bl (3 == n)])) (.ref u1) ("number",(3 == n)):=⟨u1,rfl,SqT.of A9⟩
 have w1:=w1.same s2
 have s2:=s1.trans s2
 generalize upd A1 u1 (.tup [.str "number",.bl (3 == n)]) = B1 at s2 w1 w2 ⊢
 refine ⟨P2,fun b1 hl=>?_⟩
 have s3 : Ad B1 (upd B1 b1 (.lst [.ref p1,.ref u1])):=Ad.new hl
 have eb : upd B1 b1 (.lst [.ref p1,.ref u1]) b1 = some (.lst [.ref p1,.ref u1]):=A9
 have w1:=w1.same s3
 have w2:=w2.same s3
 have sT:=s2.trans s3
 generalize upd B1 b1 (.lst [.ref p1,.ref u1]) = C1 at sT eb w1 w2 ⊢
 clear s1 s2 s3 h1 h2 hl
 have wS:=WBs.snoc (WBs.same wS0 sT) w1 w2
 have ST:=S0.trans sT
 refine ⟨b0,b1,xs0,_,rfl,rfl,sT _ _ el0,eb,by rw [hn0]; exact (show 2 + 2 ≤ sizeLine by decide),fun l1 hl=>?_⟩
 have s4 : Ad C1 (upd C1 l1 (.lst (xs0 ++ [.ref p1,.ref u1]))):=Ad.new hl
 have el1 : upd C1 l1 (.lst (xs0 ++ [.ref p1,.ref u1])) l1 = some (.lst (xs0 ++ [.ref p1,.ref u1])):=A9
 have wS1 : Paired (WB K (upd C1 l1 (.lst (xs0 ++ [.ref p1,.ref u1])))) _ [("many",(0 == n)),("points",(1 == n)),("point",(2 == n)),("number",(3 == n))]:=WBs.same wS s4
 have S1:=ST.trans s4
 have hn1 : (xs0 ++ [V.ref p1,V.ref u1]).length = 2 + 2:=by rw [Tz,hn0]; rfl
 generalize upd C1 l1 (.lst (xs0 ++ [.ref p1,.ref u1])) = D1 at S1 el1 wS1 ⊢
 generalize xs0 ++ [V.ref p1,V.ref u1] = xs1 at el1 wS1 hn1
 clear wS sT ST S0 eb w1 w2 s4 hl wS0 el0 hn0
 refine ⟨_,rfl,_,rfl,D,_,_,_,hD,R.ty,rfl,rfl,R.of 4 _ rfl,P2,fun p2 h1=>?_⟩
 have s1 : Ad D1 (upd D1 p2 (.tup [.str "curve",.bl (4 == n)])):=Ad.new h1
 have w1 : WB K (upd D1 p2 (.tup [.str "curve",.bl (4 == n)])) (.ref p2) ("curve",(4 == n)):=⟨p2,rfl,SqT.of A9⟩
 generalize upd D1 p2 (.tup [.str "curve",.bl (4 == n)]) = A2 at s1 w1 ⊢
 refine ⟨_,rfl,D,_,_,_,hD,R.ty,rfl,rfl,R.of 5 _ rfl,P2,fun u2 h2=>?_⟩
 have s2 : Ad A2 (upd A2 u2 (.tup [.str "stretch",.bl (5 == n)])):=Ad.new h2
 have w2 : WB K (upd A2 u2 (.tup [.str "stretch",.bl (5 == n)])) (.ref u2) ("stretch",(5 == n)):=⟨u2,rfl,SqT.of A9⟩
 have w1:=w1.same s2
 have s2:=s1.trans s2
 generalize upd A2 u2 (.tup [.str "stretch",.bl (5 == n)]) = B2 at s2 w1 w2 ⊢
 refine ⟨P2,fun b2 hl=>?_⟩
 have s3 : Ad B2 (upd B2 b2 (.lst [.ref p2,.ref u2])):=Ad.new hl
 have eb : upd B2 b2 (.lst [.ref p2,.ref u2]) b2 = some (.lst [.ref p2,.ref u2]):=A9
 have w1:=w1.same s3
 have w2:=w2.same s3
 have sT:=s2.trans s3
 generalize upd B2 b2 (.lst [.ref p2,.ref u2]) = C2 at sT eb w1 w2 ⊢
 clear s1 s2 s3 h1 h2 hl
 have wS:=WBs.snoc (WBs.same wS1 sT) w1 w2
 have ST:=S1.trans sT
 refine ⟨l1,b2,xs1,_,rfl,rfl,sT _ _ el1,eb,by rw [hn1]; exact (show 4 + 2 ≤ sizeLine by decide),fun l2 hl=>?_⟩
 have s4 : Ad C2 (upd C2 l2 (.lst (xs1 ++ [.ref p2,.ref u2]))):=Ad.new hl
 have el2 : upd C2 l2 (.lst (xs1 ++ [.ref p2,.ref u2])) l2 = some (.lst (xs1 ++ [.ref p2,.ref u2])):=A9
 have wS2 : Paired (WB K (upd C2 l2 (.lst (xs1 ++ [.ref p2,.ref u2])))) _ [("many",(0 == n)),("points",(1 == n)),("point",(2 == n)),("number",(3 == n)),("curve",(4 == n)),("stretch",(5 == n))]:=WBs.same wS s4
 have S2:=ST.trans s4
 have hn2 : (xs1 ++ [V.ref p2,V.ref u2]).length = 4 + 2:=by rw [Tz,hn1]; rfl
 generalize upd C2 l2 (.lst (xs1 ++ [.ref p2,.ref u2])) = D2 at S2 el2 wS2 ⊢
 generalize xs1 ++ [V.ref p2,V.ref u2] = xs2 at el2 wS2 hn2
 clear wS sT ST S1 eb w1 w2 s4 hl wS1 el1 hn1
 refine ⟨_,rfl,_,rfl,D,_,_,_,hD,R.ty,rfl,rfl,R.of 6 _ rfl,P2,fun p3 h1=>?_⟩
 have s1 : Ad D2 (upd D2 p3 (.tup [.str "deep",.bl (6 == n)])):=Ad.new h1
 have w1 : WB K (upd D2 p3 (.tup [.str "deep",.bl (6 == n)])) (.ref p3) ("deep",(6 == n)):=⟨p3,rfl,SqT.of A9⟩
 generalize upd D2 p3 (.tup [.str "deep",.bl (6 == n)]) = A3 at s1 w1 ⊢
 refine ⟨_,rfl,D,_,_,_,hD,R.ty,rfl,rfl,R.of 7 _ rfl,P2,fun u3 h2=>?_⟩
 have s2 : Ad A3 (upd A3 u3 (.tup [.str "few",.bl (7 == n)])):=Ad.new h2
 have w2 : WB K (upd A3 u3 (.tup [.str "few",.bl (7 == n)])) (.ref u3) ("few",(7 == n)):=⟨u3,rfl,SqT.of A9⟩
 have w1:=w1.same s2
 have s2:=s1.trans s2
 generalize upd A3 u3 (.tup [.str "few",.bl (7 == n)]) = B3 at s2 w1 w2 ⊢
 refine ⟨P2,fun b3 hl=>?_⟩
 have s3 : Ad B3 (upd B3 b3 (.lst [.ref p3,.ref u3])):=Ad.new hl
 have eb : upd B3 b3 (.lst [.ref p3,.ref u3]) b3 = some (.lst [.ref p3,.ref u3]):=A9
 have w1:=w1.same s3
 have w2:=w2.same s3
 have sT:=s2.trans s3
 generalize upd B3 b3 (.lst [.ref p3,.ref u3]) = C3 at sT eb w1 w2 ⊢
 clear s1 s2 s3 h1 h2 hl
 have wS:=WBs.snoc (WBs.same wS2 sT) w1 w2
 have ST:=S2.trans sT
 refine ⟨l2,b3,xs2,_,rfl,rfl,sT _ _ el2,eb,by rw [hn2]; exact (show 6 + 2 ≤ sizeLine by decide),fun l3 hl=>?_⟩
 have s4 : Ad C3 (upd C3 l3 (.lst (xs2 ++ [.ref p3,.ref u3]))):=Ad.new hl
 have el3 : upd C3 l3 (.lst (xs2 ++ [.ref p3,.ref u3])) l3 = some (.lst (xs2 ++ [.ref p3,.ref u3])):=A9
 have wS3 : Paired (WB K (upd C3 l3 (.lst (xs2 ++ [.ref p3,.ref u3])))) _ [("many",(0 == n)),("points",(1 == n)),("point",(2 == n)),("number",(3 == n)),("curve",(4 == n)),("stretch",(5 == n)),("deep",(6 == n)),("few",(7 == n))]:=WBs.same wS s4
 have S3:=ST.trans s4
 have hn3 : (xs2 ++ [V.ref p3,V.ref u3]).length = 6 + 2:=by rw [Tz,hn2]; rfl
 generalize upd C3 l3 (.lst (xs2 ++ [.ref p3,.ref u3])) = D3 at S3 el3 wS3 ⊢
 generalize xs2 ++ [V.ref p3,V.ref u3] = xs3 at el3 wS3 hn3
 clear wS sT ST S2 eb w1 w2 s4 hl wS2 el2 hn2
 refine ⟨_,rfl,_,rfl,D,_,_,_,hD,R.ty,rfl,rfl,R.of 8 _ rfl,P2,fun p4 h1=>?_⟩
 have s1 : Ad D3 (upd D3 p4 (.tup [.str "text",.bl (8 == n)])):=Ad.new h1
 have w1 : WB K (upd D3 p4 (.tup [.str "text",.bl (8 == n)])) (.ref p4) ("text",(8 == n)):=⟨p4,rfl,SqT.of A9⟩
 generalize upd D3 p4 (.tup [.str "text",.bl (8 == n)]) = A4 at s1 w1 ⊢
 refine ⟨_,rfl,D,_,_,_,hD,R.ty,rfl,rfl,R.of 9 _ rfl,P2,fun u4 h2=>?_⟩
 have s2 : Ad A4 (upd A4 u4 (.tup [.str "row",.bl (9 == n)])):=Ad.new h2
 have w2 : WB K (upd A4 u4 (.tup [.str "row",.bl (9 == n)])) (.ref u4) ("row",(9 == n)):=⟨u4,rfl,SqT.of A9⟩
 have w1:=w1.same s2
 have s2:=s1.trans s2
 generalize upd A4 u4 (.tup [.str "row",.bl (9 == n)]) = B4 at s2 w1 w2 ⊢
 refine ⟨P2,fun b4 hl=>?_⟩
 have s3 : Ad B4 (upd B4 b4 (.lst [.ref p4,.ref u4])):=Ad.new hl
 have eb : upd B4 b4 (.lst [.ref p4,.ref u4]) b4 = some (.lst [.ref p4,.ref u4]):=A9
 have w1:=w1.same s3
 have w2:=w2.same s3
 have sT:=s2.trans s3
 generalize upd B4 b4 (.lst [.ref p4,.ref u4]) = C4 at sT eb w1 w2 ⊢
 clear s1 s2 s3 h1 h2 hl
 have wS:=WBs.snoc (WBs.same wS3 sT) w1 w2
 have ST:=S3.trans sT
 refine ⟨l3,b4,xs3,_,rfl,rfl,sT _ _ el3,eb,by rw [hn3]; exact (show 8 + 2 ≤ sizeLine by decide),fun l4 hl=>?_⟩
 have s4 : Ad C4 (upd C4 l4 (.lst (xs3 ++ [.ref p4,.ref u4]))):=Ad.new hl
 have el4 : upd C4 l4 (.lst (xs3 ++ [.ref p4,.ref u4])) l4 = some (.lst (xs3 ++ [.ref p4,.ref u4])):=A9
 have wS4 : Paired (WB K (upd C4 l4 (.lst (xs3 ++ [.ref p4,.ref u4])))) _ [("many",(0 == n)),("points",(1 == n)),("point",(2 == n)),("number",(3 == n)),("curve",(4 == n)),("stretch",(5 == n)),("deep",(6 == n)),("few",(7 == n)),("text",(8 == n)),("row",(9 == n))]:=WBs.same wS s4
 have S4:=ST.trans s4
 have hn4 : (xs3 ++ [V.ref p4,V.ref u4]).length = 8 + 2:=by rw [Tz,hn3]; rfl
 generalize upd C4 l4 (.lst (xs3 ++ [.ref p4,.ref u4])) = D4 at S4 el4 wS4 ⊢
 generalize xs3 ++ [V.ref p4,V.ref u4] = xs4 at el4 wS4 hn4
 clear wS sT ST S3 eb w1 w2 s4 hl wS3 el3 hn3
 refine BN ⟨_,rfl,l4,rfl,⟨xs4,SqL.of el4⟩,?_⟩
 have e : CZ [("many",(0 == n)),("points",(1 == n)),("point",(2 == n)),("number",(3 == n)),("curve",(4 == n)),("stretch",(5 == n)),("deep",(6 == n)),("few",(7 == n)),("text",(8 == n)),("row",(9 == n))] = [.str w]:=MJ hw
 generalize [("many",(0 == n)),("points",(1 == n)),("point",(2 == n)),("number",(3 == n)),("curve",(4 == n)),("stretch",(5 == n)),("deep",(6 == n)),("few",(7 == n)),("text",(8 == n)),("row",(9 == n))] = ps at wS4 e
 refine NA (SqL.of el4) wS4 (by rw [hn4]; exact P10) (fun f hf=>?_)
 rw [e]
 have sf : Ad D4 (upd D4 f (.lst [.str w])):=Ad.new hf
 have ef : upd D4 f (.lst [.str w]) f = some (.lst [.str w]):=A9
 have SF:=S4.trans sf
 generalize upd D4 f (.lst [.str w]) = D5 at ef SF ⊢
 refine ⟨_,rfl,f,_,rfl,.inl (SqL.of ef),rfl,_,rfl,AN (by first | rfl | decide) ?_⟩
 refine ⟨_,rfl,D,_,_,_,hD,R.ty,rfl,rfl,R.ve,_,rfl,AN rfl ?_⟩
 exact ⟨_,rfl,f,_,_,_,rfl,rfl,SqL.of ef,rfl,q _ SF⟩
theorem En : Ax ["text"] ["text"] (Ac (top 37)):=⟨rfl,rfl,rfl,by decide +kernel,rfl,by decide +kernel,by decide +kernel⟩
theorem Es {f : Addr} {fd : FuncData} (F : Fun K "check_text" "check_text" (top 37) f fd) (QW : mg "isinstance" = none) (QZ : mg "str" = none) (hT : P.given.tree = none) :
 AF P w K mg base CX0 33 f fd ["text"] (DO):=by
 refine F.ok En (fun vs H Q E h=>?_) (fun cdv A outer s H vs Q E hr h=>?_)
 ·obtain ⟨_,rfl,_⟩:=h; rfl
 refine ⟨_,(Ae (Av (K:=K) (Bx (Bq (Af (JD K) rfl QW Au (A7 (pv 0) (A7 (BP (v:=.ty "str") rfl QZ Dk rfl) A8))))) (Ae Ci) Am (by rfl) (by rfl))),?_⟩
 obtain ⟨t,rfl,q⟩:=h
 exact ⟨_,rfl,_,_,_,_,rfl,.of (.str _),ED K,true,rfl,AR q⟩
theorem Gu {f : Addr} {fd : FuncData} (F : Fun K "check_text" "check_text" (top 37) f fd) {a_NoText : Addr} (k_NoText : Hb K "NoText" a_NoText) (QW : mg "isinstance" = none) (QZ : mg "str" = none) (hT : P.given.tree = none) :
 AF P w K mg base (CX2 P w) 33 f fd ["text"] (DR K a_NoText):=by
 refine F.okY En (fun vs H Q E h=>?_) (fun cdv A outer s H vs Q E hr h=>?_)
 ·obtain ⟨_,rfl,_⟩:=h; rfl
 refine ⟨_,(BX (Av (K:=K) (Bx (Bq (Af (JD K) rfl QW Au (A7 (pv 0) (A7 (BP (v:=.ty "str") rfl QZ Dk rfl) A8))))) (Ae (Cg k_NoText rfl DH rfl (A7 Ah A8))) Am (by rfl) (by rfl))
  Ef),?_⟩
 obtain ⟨x,rfl,⟨t,ty,hk⟩,q⟩:=h
 have P1 : 1 ≤ sizeLine:=by decide
 exact ⟨_,rfl,_,_,_,_,rfl,ty,hk,false,rfl,Bv ⟨P1,q _ (Ad.refl _)⟩⟩
theorem Jj : Ax ["thing"] ["thing"] (Ac (top 13)):=⟨rfl,rfl,rfl,by decide +kernel,rfl,by decide +kernel,by decide +kernel⟩
theorem Jr {f : Addr} {fd : FuncData} (F : Fun K "is_whole" "is_whole" (top 13) f fd) (QW : mg "isinstance" = none) (R0 : mg "int" = none) (Ro : mg "bool" = none) (hT : P.given.tree = none) :
 AF P w K mg base CX0 33 f fd ["thing"] (Mn K):=by
 refine F.ok Jj (fun vs H Q E h=>?_) (fun cdv A outer s H vs Q E hr h=>?_)
 ·obtain ⟨_,_,rfl,_⟩:=h; rfl
 refine ⟨_,(Ae (Aj (Gn (Af (JD K) rfl QW Au (A7 (pv 0) (A7 (BP (v:=.ty "int") rfl R0 Cm rfl) A8))) (Gm (OK (Af (JD K) rfl QW Au (A7 (pv 0) (A7 (BP (v:=.ty "bool") rfl Ro NN rfl) A8)))))))),?_⟩
 obtain ⟨x,b,rfl,wx,q⟩:=h
 cases wx with
 | int i=>exact ⟨_,rfl,_,_,_,_,rfl,.of (.int i),P5 K,true,rfl,Bv ⟨_,rfl,_,_,_,_,rfl,.of (.int i),P6 K,false,rfl,q⟩⟩
 | bl y=>exact ⟨_,rfl,_,_,_,_,rfl,.of (.bl y),P9 K,true,rfl,Bv ⟨_,rfl,_,_,_,_,rfl,.of (.bl y),Pa K,true,rfl,q⟩⟩
 | oth ty hk=>exact ⟨_,rfl,_,_,_,_,rfl,ty,hk,false,rfl,AR q⟩
theorem Bf : Ax ["one","other","great","small","rest"] ["one","other"] (Ac (top 14)):=⟨rfl,rfl,rfl,by decide +kernel,rfl,by decide +kernel,by decide +kernel⟩
theorem EV {f : Addr} {fd : FuncData} (F : Fun K "common_measure" "common_measure" (top 14) f fd) (R5 : mg "abs" = none) (hT : P.given.tree = none) :
 AF P w K mg base CX0 33 f fd ["one","other"] (Mp):=by
 refine F.ok Bf (fun vs H Q E h=>?_) (fun cdv A outer s H vs Q E hr h=>?_)
 ·obtain ⟨_,_,rfl,_⟩:=h; rfl
 refine ⟨_,(Aa (K:=K) (Aq (i:=2) Bf.nd rfl (Or.inl rfl) (Af Fe rfl R5 IX (A7 (pv 0) A8)))
  (Aa (K:=K) (Aq (i:=3) Bf.nd rfl (Or.inl rfl) (Af Fe rfl R5 IX (A7 (pv 1) A8)))
  (Aa (K:=K) (DY PassesOwn.never (Ag Gp (pv 3) Ab (Ak _)) (Aa (K:=K) (Aq (i:=4) Bf.nd rfl (Or.inl rfl) (Al C8 (pv 2) (pv 3)))
  (Aa (K:=K) (Aq (i:=2) Bf.nd rfl (Or.inl rfl) (pv 3))
  (Ae (Aq (i:=3) Bf.nd rfl (Or.inl rfl) (pv 4))) (by rfl)) (by rfl)))
  (Ae (Aj (pv 2))) (by rfl)) (by rfl)) (by rfl)),?_⟩
 obtain ⟨a,b,rfl,q⟩:=h
 refine ⟨_,rfl,a,rfl,?_⟩
 refine ⟨_,rfl,b,rfl,?_⟩
 refine J3 (L3 H a b fun H a b σ H'=>H' = H ∧ ∃ (x y : Int) (r : Option V),σ = [some (.int a),some (.int b),some (.int x),some (.int y),r] ∧ 0 ≤ x ∧ 0 ≤ y ∧ U4 x y = U4 a b) (fun σ _=>mu 3 σ)
  ⟨rfl,_,_,none,rfl,?_,?_,?_⟩ ?_ ?_
 ·rw [Nm.abs_if]; exact Ve _
 ·rw [Nm.abs_if]; exact Ve _
 ·rw [Nm.abs_if,Nm.abs_if]; rfl
 ·rintro σ H' hR1
  refine HD hR1 fun hq26 hz28=>?_
  refine IS hz28 fun x y r hz28'=>?_
  clear hz28
  refine E6 hz28' fun hq27 hx hy hg=>?_
  clear hz28'
  obtain rfl:=hq26
  obtain rfl:=hq27
  try clear hR1
  refine ⟨_,rfl,rfl,_,rfl,?_⟩
  by_cases hy0 : y = 0
  ·subst hy0
   refine AN (by rw [decide_eq_true rfl] <;> rfl) ⟨_,rfl,?_⟩
   have e : (U4 a b : Int) = x:=by rw [← hg,Int.gcd_zero]; lia
   rw [e] at q
   exact q
  ·refine AX (by rw [decide_eq_false (fun z=>hy0 (V.int.inj z))] <;> rfl) ?_
   have hyp : 0 < y:=by lia
   refine ⟨_,rfl,_,rfl,_,_,rfl,rfl,hyp,?_⟩
   refine ⟨_,rfl,_,rfl,⟨rfl,y,x % y,_,rfl,hy,Uy _ hy0,?_⟩,?_⟩
   ·rw [Nm.gcd_turn]; exact hg
   ·show (x % y).toNat < y.toNat
    have:=Uz x hyp
    lia
 ·rintro σ H' Q1 Q2 hm hR2
  obtain ⟨v,e,s1,k,ek,q1⟩:=hR2
  try clear hR2
  exact ⟨v,e,s1,k,ek,hm _ _ q1⟩
theorem Ir : Ax ["thing"] ["thing"] (Ac (top 15)):=⟨rfl,rfl,rfl,by decide +kernel,rfl,by decide +kernel,by decide +kernel⟩
theorem IE {f : Addr} {fd : FuncData} (F : Fun K "is_number" "is_number" (top 15) f fd) (RH : Fd P w K mg base 33 "is_whole" ["thing"] (Mn K)) (RP : Fd P w K mg base 33 "common_measure" ["one","other"] (Mp)) (QW : mg "isinstance" = none) (QX : mg "tuple" = none) (QV : mg "len" = none) (hT : P.given.tree = none) :
 AF P w K mg base CX0 34 f fd ["thing"] (KL K):=by
 refine F.ok Ir (fun vs H Q E h=>?_) (fun cdv A outer s H vs Q E hr h=>?_)
 ·obtain ⟨_,_,rfl,_⟩:=h; rfl
 refine ⟨_,(Aa (K:=K) (Av (K:=K) (PW.pt (CY (Bx (Bq (Af (JD K) rfl QW Au (A7 (pv 0) (A7 (BP (v:=.ty "tuple") rfl QX Bw rfl) A8))))) (Co (Ag Gp (Af (BY K) rfl QV AJ (A7 (pv 0) A8)) Ab (Ak _))))) (Ae (Aj E1)) Am (by rfl) (by rfl))
  (Aa (K:=K) (Av (K:=K) (PW.pt (CY (Bx (Bq (Ap RH hr rfl (A7 (Aw (ixT K) (pv 0) Ab (fun u v=>rfl)) A8)))) (Co (Bx (Bq (Ap RH hr rfl (A7 (Aw (ixT K) (pv 0) Ab (fun u v=>rfl)) A8))))))) (Ae (Aj E1)) Am (by rfl) (by rfl))
  (Ae (Aj (Gn (BO O8 (Aw (ixT K) (pv 0) Ab (fun u v=>rfl)) Ab (Ak _)) (Gm (BO BR (Ap RP hr rfl (A7 (Aw (ixT K) (pv 0) Ab (fun u v=>rfl)) (A7 (Aw (ixT K) (pv 0) Ab (fun u v=>rfl)) A8))) Ab (Ak _)))))) (by rfl)) (by rfl)),?_⟩
 obtain ⟨x,b,rfl,nx,q⟩:=h
 cases nx with
 | no ty hk=>exact ⟨_,rfl,_,_,_,_,rfl,ty,hk,false,rfl,Bv (Bv q)⟩
 | @len a xs ha hl =>
   refine ⟨_,rfl,_,_,_,_,rfl,.tup ha,Fv K,true,rfl,AR ?_⟩
   refine ⟨_,rfl,a,xs,rfl,.inr ha,rfl,_,rfl,?_⟩
   have hn : ¬ (V.int (xs.length : Int) = V.int 2):=fun z=>hl (by have:=V.int.inj z; lia)
   exact AX (by rw [decide_eq_false hn] <;> rfl) q
 | @one a p q' ha wp =>
   refine ⟨_,rfl,_,_,_,_,rfl,.tup ha,Fv K,true,rfl,AR ?_⟩
   refine ⟨_,rfl,a,_,rfl,.inr ha,rfl,_,rfl,AR ?_⟩
   refine ⟨_,rfl,a,_,_,_,rfl,rfl,ha,rfl,_,_,rfl,wp,_,rfl,Bv (Bv q)⟩
 | @two a i q' ha wq =>
   refine ⟨_,rfl,_,_,_,_,rfl,.tup ha,Fv K,true,rfl,AR ?_⟩
   refine ⟨_,rfl,a,_,rfl,.inr ha,rfl,_,rfl,AR ?_⟩
   refine ⟨_,rfl,a,_,_,_,rfl,rfl,ha,rfl,_,_,rfl,.int i,_,rfl,AR ?_⟩
   refine ⟨_,rfl,a,_,_,_,rfl,rfl,ha,rfl,_,_,rfl,wq,_,rfl,Bv q⟩
 | @nums a i j _ ha e =>
   refine ⟨_,rfl,_,_,_,_,rfl,.tup ha,Fv K,true,rfl,AR ?_⟩
   refine ⟨_,rfl,a,_,rfl,.inr ha,rfl,_,rfl,AR ?_⟩
   refine ⟨_,rfl,a,_,_,_,rfl,rfl,ha,rfl,_,_,rfl,.int i,_,rfl,AR ?_⟩
   refine ⟨_,rfl,a,_,_,_,rfl,rfl,ha,rfl,_,_,rfl,.int j,_,rfl,AR ?_⟩
   refine ⟨_,rfl,a,_,_,_,rfl,rfl,ha,rfl,_,_,rfl,rfl,_,rfl,?_⟩
   subst e
   by_cases hj : 1 ≤ j
   ·rw [decide_eq_true hj] at q ⊢
    refine Bv ⟨_,rfl,a,_,_,_,rfl,rfl,ha,rfl,_,rfl,a,_,_,_,rfl,rfl,ha,rfl,_,_,rfl,rfl,?_⟩
    have ev : decide (V.int (U4 i j : Int) = V.int 1) = decide ((U4 i j : Int) = 1):=by
     by_cases z : (U4 i j : Int) = 1
     ·rw [z]; rfl
     ·rw [decide_eq_false z,decide_eq_false fun y=>z (V.int.inj y)]
    rw [Bool.true_and] at q
    rw [ev]
    exact q
   ·rw [decide_eq_false hj] at q ⊢
    exact AR q
theorem Gj : Ax ["text","most"] ["text","most"] (Ac (top 34)):=⟨rfl,rfl,rfl,by decide +kernel,rfl,by decide +kernel,by decide +kernel⟩
theorem Gx {f : Addr} {fd : FuncData} (F : Fun K "are_figures" "are_figures" (top 34) f fd) (R3 : mg "all" = none) (QV : mg "len" = none) {t_FIGURES : Tok} (c_FIGURES : mg "FIGURES" = some (.str "0123456789" t_FIGURES)) (hT : P.given.tree = none) :
 AF P w K mg base CX0 33 f fd ["text","most"] (Im):=by
 refine F.ok Gj (fun vs H Q E h=>?_) (fun cdv A outer s H vs Q E hr h=>?_)
 ·obtain ⟨_,rfl,_⟩:=h; rfl
 refine ⟨_,(Aa (K:=K) (Av (K:=K) (PW.pt (CY (Ag BR (Af Dw rfl QV AJ (A7 (pv 0) A8)) Ab (Ak _)) (Co (Ag Cy (Af Dw rfl QV AJ (A7 (pv 0) A8)) (pv 1) (Ak _))))) (Ae (Aj E1)) Am (by rfl) (by rfl))
  (Aa (K:=K) (Av (K:=K) (PW.pt (Ey (Ag BR (Aw Km (pv 0) Ab (fun u v=>rfl)) Ah (Ak _)) (DF (Ag Cy (Af Dw rfl QV AJ (A7 (pv 0) A8)) Ab (Ak _))))) (Ae (Aj E1)) Am (by rfl) (by rfl))
  (Ae (Aj (Af (NS K rfl) rfl R3 IW (A7 (Cj rfl (N:=["sign"]) (nt:=1) (js:=[]) (AQ.look (NX:=["text","most"]) (sc:=Ac (top 34)) rfl rfl (by decide +kernel)) (O6 (pv 0)) (fun u1 u2 u3 u4 u5=>(AG (i:=0) (show List.Nodup (["sign"] : List Str) from by decide +kernel) rfl (Or.inl rfl))) (AD (by decide)) (fun u1 u2 u3 u4 u5=>Bb) (fun u1 u2 u3 u4 u5=>(BO LI (pv 0) (AK (v:=.str "0123456789") rfl c_FIGURES ⟨_,rfl⟩) (by with_unfolding_all rfl)))) A8)))) (by rfl)) (by rfl)),?_⟩
 obtain ⟨t,rfl,⟨hA,hL⟩,q⟩:=h
 have hs:=sizeLine_eq
 have hl:=Ai t
 have hz : t.length ≤ sizeLine:=by lia
 have q0:=q _ (Ad.refl _)
 refine ⟨_,rfl,t,rfl,hz,rfl,_,rfl,?_⟩
 by_cases h0 : t.length = 0
 ·have e : BF (sg t) = false:=by rw [UM.mp (hl.symm.trans h0)]; rfl
  rw [e] at q0
  exact AX (by rw [decide_eq_true (show V.int ((t.length : Nat) : Int) = V.int 0 by rw [h0]; rfl)] <;> rfl) q0
 refine AN (by rw [decide_eq_false (show ¬ V.int ((t.length : Nat) : Int) = V.int 0 from fun z=>by have:=V.int.inj z; lia)] <;> rfl) ⟨_,rfl,t,rfl,hz,_,rfl,_,_,rfl,rfl,_,rfl,?_⟩
 by_cases h60 : ((t.length : Nat) : Int) > 60
 ·have e : BF (sg t) = false:=Bool.eq_false_iff.mpr fun z=>by have:=(BZ.mp z).2.1; lia
  rw [e] at q0
  exact AX (by rw [decide_eq_true h60] <;> rfl) q0
 rw [decide_eq_false h60]
 obtain ⟨c,r,e⟩ : ∃ c r,sg t = c :: r:=by
  cases hc : sg t with
  | nil=>rw [hc] at hl; exact absurd hl h0
  | cons c r=>exact ⟨c,r,rfl⟩
 have eFig : ∀ b,b = (sg t).all fgB → (c = 48 → r = []) → BF (sg t) = b:=fun b hb h48=>by
  rw [hb]
  cases hx : (sg t).all fgB with
  | true =>
    refine BZ.mpr ⟨by rw [e]; exact V8 _ _,by lia,fun d hd=>?_,fun r' hr'=>?_⟩
    ·have:=Ud.mp hx d hd
     simpa [fgB] using this
    ·rw [e] at hr'
     have:=Us.inj hr'
     rw [← this.2]; exact h48 this.1
  | false =>
    refine Bool.eq_false_iff.mpr fun z=>?_
    have:=(BZ.mp z).2.2.1
    rw [Ud.mpr fun d hd=>by have:=this d hd; simpa [fgB] using this] at hx
    exact Bool.noConfusion hx
 refine AR ⟨_,rfl,t,_,c,rfl,rfl,hz,(by rw [show t.cps.toList = c :: r from e]; exact As (j:=0) rfl),rfl,_,rfl,?_⟩
 by_cases hc : c = 48
 ·have hc':=hc
  refine AX (by rw [decide_eq_true (show V.str ⟨#[c]⟩ = V.str (Str.ofString "0") from by rw [hc]; decide +kernel)] <;> rfl) ⟨_,rfl,t,rfl,hz,_,_,rfl,rfl,_,rfl,?_⟩
  by_cases h1 : ((t.length : Nat) : Int) > 1
  ·have e' : BF (sg t) = false:=Bool.eq_false_iff.mpr fun z=>by
    have:=(BZ.mp z).2.2.2 r (by rw [e,hc])
    rw [hl,e,this] at h1
    simp at h1
   rw [e'] at q0
   exact AX (by rw [decide_eq_true h1] <;> rfl) q0
  rw [decide_eq_false h1]
  have hr0 : r = []:=by
   rw [hl,e] at h1
   simp at h1
   exact UM.mp (by lia)
  have eFig:=fun b hb=>eFig b hb fun _=>hr0
  refine AR ?_
  refine BN ⟨⟨_,rfl,t,rfl,hA,JB (fun i zs H'=>H' = H ∧ zs = ((sg t).take i).map fun c=>V.bl (fgB c)) ⟨rfl,rfl⟩ (fun i zs H' hi h=>by rw [h.2,TC,Tp]; lia) (by lia) ?_ ?_⟩⟩
  ·rintro i d zs H' hd ⟨rfl,rfl⟩
   refine ⟨_,rfl,_,_,rfl,rfl,?_⟩
   rw [Ko]
   exact ⟨rfl,by rw [UQ,hd,UK]; rfl⟩
  rintro zs H' ⟨rfl,rfl⟩ p hp
  rw [UR]
  refine ⟨p,(sg t).map fgB,rfl,SqL.of (by rw [V1]; exact A9),?_⟩
  rw [List.all_map]
  exact (eFig _ rfl) ▸ q _ (Ad.new hp)
 ·rw [decide_eq_false (show ¬ V.str ⟨#[c]⟩ = V.str (Str.ofString "0") from fun z=>hc (by
   have z1:=congrArg sg (V.str.inj z)
   rw [BC] at z1
   exact (Us.inj z1).1))]
  have eFig:=fun b hb=>eFig b hb fun z=>absurd z hc
  refine AR ?_
  refine BN ⟨⟨_,rfl,t,rfl,hA,JB (fun i zs H'=>H' = H ∧ zs = ((sg t).take i).map fun c=>V.bl (fgB c)) ⟨rfl,rfl⟩ (fun i zs H' hi h=>by rw [h.2,TC,Tp]; lia) (by lia) ?_ ?_⟩⟩
  ·rintro i d zs H' hd ⟨rfl,rfl⟩
   refine ⟨_,rfl,_,_,rfl,rfl,?_⟩
   rw [Ko]
   exact ⟨rfl,by rw [UQ,hd,UK]; rfl⟩
  rintro zs H' ⟨rfl,rfl⟩ p hp
  rw [UR]
  refine ⟨p,(sg t).map fgB,rfl,SqL.of (by rw [V1]; exact A9),?_⟩
  rw [List.all_map]
  exact (eFig _ rfl) ▸ q _ (Ad.new hp)
theorem LG : Ax ["text","most"] ["text","most"] (Ac (top 35)):=⟨rfl,rfl,rfl,by decide +kernel,rfl,by decide +kernel,by decide +kernel⟩
theorem LJ {f : Addr} {fd : FuncData} (F : Fun K "is_top" "is_top" (top 35) f fd) (Ri : Fd P w K mg base 33 "are_figures" ["text","most"] (Im)) (hT : P.given.tree = none) :
 AF P w K mg base CX0 34 f fd ["text","most"] (K5):=by
 refine F.ok LG (fun vs H Q E h=>?_) (fun cdv A outer s H vs Q E hr h=>?_)
 ·obtain ⟨_,rfl,_⟩:=h; rfl
 refine ⟨_,(Aa (K:=K) (Av (K:=K) (Bq (AW K PySem.F.plainAttrs_str PySem.F.slot_str_startswith PySem.F.type_str_startswith Hu (pv 0) (A7 Ah A8))) (Ae (Aj (Gn (BO Gp (pv 0) Ah (Ak _)) (Gm (Ap Ri hr rfl (A7 (Cw Ot (pv 0) (Dd Ab) De) (A7 (pv 1) A8))))))) Am (by rfl) (by rfl))
  (Ae (Aj (Ap Ri hr rfl (A7 (pv 0) (A7 (pv 1) A8))))) (by rfl)),?_⟩
 obtain ⟨t,rfl,hT,q⟩:=h
 have hs':=sizeLine_eq
 have hL:=hT.2
 refine ⟨_,rfl,rfl,_,_,rfl,rfl,_,rfl,?_⟩
 rw [LC]
 by_cases h45 : ∃ r,sg t = 45 :: r
 ·obtain ⟨r,hr⟩:=h45
  rw [show ((sg t).head? == some 45) = true by rw [hr]; rfl]
  refine Bv ⟨_,rfl,rfl,_,rfl,?_⟩
  have et : BS (sg t) = (!(r == [48]) && BF r):=by rw [hr]; rfl
  by_cases h0 : t = Str.ofString "-0"
  ·rw [decide_eq_true (show V.str t = V.str (Str.ofString "-0") by rw [h0])]
   have e : BS (sg t) = false:=by rw [h0]; decide +kernel
   have q0:=q _ (Ad.refl _)
   rw [e] at q0
   exact AR q0
  ·rw [decide_eq_false (show ¬ V.str t = V.str (Str.ofString "-0") from fun z=>h0 (V.str.inj z))]
   have er : sg ⟨r.toArray⟩ = r:=by simp [sg]
   refine Bv ⟨_,rfl,_,rfl,t,45,r,rfl,rfl,rfl,hr,by lia,_,rfl,⟨r.toArray⟩,rfl,KA hT hr,fun H' s=>?_⟩
   have e : BS (sg t) = BF (sg ⟨r.toArray⟩):=by
    rw [et,er]
    have : (r == [48]) = false:=beq_eq_false_iff_ne.mpr fun z=>h0 (BU (by rw [hr,z,BC]; rfl))
    rw [this]; rfl
   rw [← e]
   exact q H' s
 ·have e0 : ((sg t).head? == some 45) = false:=by
   cases hx : sg t with
   | nil=>rfl
   | cons c r =>
     have : c ≠ 45:=fun z=>h45 ⟨r,by rw [hx,z]⟩
     simp [this]
  rw [e0]
  have et : BS (sg t) = BF (sg t):=by unfold BS; split; exact absurd ⟨_,‹_›⟩ h45; rfl
  exact AR ⟨_,rfl,_,rfl,t,rfl,hT,fun H' s=>by rw [← et]; exact q H' s⟩
theorem DE : Ax ["text","most","parts","number"] ["text","most"] (Ac (top 36)):=⟨rfl,rfl,rfl,by decide +kernel,rfl,by decide +kernel,by decide +kernel⟩
theorem ID {f : Addr} {fd : FuncData} (F : Fun K "number_in" "number_in" (top 36) f fd) (Rp : Fd P w K mg base 34 "is_number" ["thing"] (KL K)) (F_is_top : Fd P w K mg base 34 "is_top" ["text","most"] (K5)) (Ri : Fd P w K mg base 33 "are_figures" ["text","most"] (Im)) (QV : mg "len" = none) (R0 : mg "int" = none) (hT : P.given.tree = none) :
 AF P w K mg base CX0 35 f fd ["text","most"] (EK):=by
 refine F.ok DE (fun vs H Q E h=>?_) (fun cdv A outer s H vs Q E hr h=>?_)
 ·obtain ⟨_,rfl,_⟩:=h; rfl
 refine ⟨_,(Aa (K:=K) (Aq (i:=2) DE.nd rfl (Or.inl rfl) (AW K PySem.F.plainAttrs_str PySem.F.slot_str_split PySem.F.type_str_split BE (pv 0) (A7 Ah A8)))
  (Aa (K:=K) (Av (K:=K) (PW.pt (CY (Ag Cy (Af (BY K) rfl QV AJ (A7 (pv 2) A8)) Ab (Ak _)) (Co (Bx (Bq (Ap F_is_top hr rfl (A7 (Aw (ixL K) (pv 2) Ab (fun u v=>rfl)) (A7 (pv 1) A8)))))))) (Ae (Aj D0)) Am (by rfl) (by rfl))
  (Aa (K:=K) (Av (K:=K) (Ag BR (Af (BY K) rfl QV AJ (A7 (pv 2) A8)) Ab (Ak _)) (Ae (Aj (AV (A7 (Ay BH rfl R0 Cm (A7 (pv 0) A8)) (A7 Ab A8))))) Am (by rfl) (by rfl))
  (Aa (K:=K) (Av (K:=K) (PW.pt (CY (Ag BR (Aw (ixL K) (pv 2) Ab (fun u v=>rfl)) Ah (Ak _)) (Co (Bx (Bq (Ap Ri hr rfl (A7 (Aw (ixL K) (pv 2) Ab (fun u v=>rfl)) (A7 (pv 1) A8)))))))) (Ae (Aj D0)) Am (by rfl) (by rfl))
  (Aa (K:=K) (Aq (i:=3) DE.nd rfl (Or.inl rfl) (AV (A7 (Ay BH rfl R0 Cm (A7 (Aw (ixL K) (pv 2) Ab (fun u v=>rfl)) A8)) (A7 (Ay BH rfl R0 Cm (A7 (Aw (ixL K) (pv 2) Ab (fun u v=>rfl)) A8)) A8))))
  (Ae (Aj (Jo (Bq (Ap Rp hr rfl (A7 (pv 3) A8))) (pv 3) D0))) (by rfl)) (by rfl)) (by rfl)) (by rfl)) (by rfl)),?_⟩
 obtain ⟨t,rfl,hT,qS,qN⟩:=h
 have hs:=sizeLine_eq
 have P2 : 2 ≤ sizeLine:=by decide
 have hL:=hT.2
 refine ⟨_,rfl,rfl,_,_,rfl,rfl,by rw [Ai,BC]; rfl,by lia,fun p hp=>?_⟩
 have s1 : ∀ o,Ad H (upd H p o):=fun o=>Ad.new hp
 have hg:=Cs (sep:=Str.ofString "/") hT
 have hne:=Ct t (Str.ofString "/")
 have hj:=StrLaws.join_split t (Str.ofString "/")
 have fr : ∀ {G : Hp} {a : Addr},Ad H G → G a = none → H a = none:=fun sm ha=>by
  cases hn : H _ with
  | none=>rfl
  | some o=>exact absurd (sm _ _ hn) (by rw [ha]; exact fun z=>nomatch z)
 have nI : ni t = match Txt.split t (Str.ofString "/") with
  | [p]=>if BS (sg p) = true then some (Bl (sg p),1) else none
  | [p,q]=>if (BS (sg p) && !(sg q == [49]) && BF (sg q) && decide (0 < vl (sg q) 0) && decide (V7 (Bl (sg p)).natAbs (vl (sg q) 0) = 1)) = true then some (Bl (sg p),vl (sg q) 0) else none
  | _=>none:=rfl
 generalize Txt.split t (Str.ofString "/") = ps at hg hne hj nI ⊢
 rcases ps with _ | ⟨x,_ | ⟨y,_ | ⟨z,r⟩⟩⟩
 ·exact absurd rfl hne
 ·rw [PyProof.Rows.join_one] at hj
  subst hj
  have nI : ni x = if BS (sg x) = true then some (Bl (sg x),1) else none:=nI
  refine ⟨_,rfl,p,_,rfl,.inl (SqL.of A9),_,_,rfl,rfl,_,rfl,AR ?_⟩
  refine ⟨_,rfl,p,_,_,_,rfl,rfl,SqL.of A9,rfl,_,rfl,x,rfl,hT,fun H1 m1=>?_⟩
  cases hb : BS (sg x) with
  | false =>
    rw [hb,if_neg Bool.false_ne_true] at nI
    exact ⟨_,rfl,Bv (qN nI _ ((s1 _).trans m1))⟩
  | true =>
    rw [hb,if_pos rfl] at nI
    refine GX (DG nI) fun q hz30'=>?_
    refine E6 hz30' fun hq e en ed=>?_
    clear hz30'
    obtain ⟨e1,e2⟩:=(DQ hb)
    refine ⟨_,rfl,AR ?_⟩
    have e1' : H1 p = some (.lst [.str x]):=m1 _ _ A9
    refine ⟨_,rfl,p,_,rfl,.inl (SqL.of e1'),rfl,_,rfl,Bv ?_⟩
    refine ⟨_,rfl,Bl (sg x),by rw [← e1],Sx e2 (by decide),P2,fun u hu=>?_⟩
    have m2:=(s1 _).trans (m1.trans (Ad.new (o:=.tup [.int (Bl (sg x)),.int 1]) hu))
    exact qS q u _ hq e m2 (fr ((s1 _).trans m1) hu) (by rw [show nT q = .tup [.int (Bl (sg x)),.int 1] from by unfold nT; rw [ed,en]; rfl]; exact A9)
 ·rw [PyProof.Rows.join_cons_cons,PyProof.Rows.join_one] at hj
  have nI : ni t = if (BS (sg x) && !(sg y == [49]) && BF (sg y) && decide (0 < vl (sg y) 0) && decide (V7 (Bl (sg x)).natAbs (vl (sg y) 0) = 1)) = true then some (Bl (sg x),vl (sg y) 0) else none:=nI
  refine ⟨_,rfl,p,_,rfl,.inl (SqL.of A9),_,_,rfl,rfl,_,rfl,AR ?_⟩
  refine ⟨_,rfl,p,_,_,_,rfl,rfl,SqL.of A9,rfl,_,rfl,x,rfl,hg x (by simp),fun H1 m1=>?_⟩
  have sH1:=(s1 _).trans m1
  cases hb : BS (sg x) with
  | false =>
    have nI : ni t = none:=by rw [nI,hb]; rfl
    exact ⟨_,rfl,Bv (qN nI _ sH1)⟩
  | true =>
    obtain ⟨e1,e2⟩:=(DQ hb)
    refine ⟨_,rfl,AR ?_⟩
    have e1' : H1 p = some (.lst [.str x,.str y]):=m1 _ _ A9
    refine ⟨_,rfl,p,_,rfl,.inl (SqL.of e1'),rfl,_,rfl,AR ?_⟩
    refine ⟨_,rfl,p,_,_,_,rfl,rfl,SqL.of e1',rfl,rfl,_,rfl,?_⟩
    by_cases h1 : y = Str.ofString "1"
    ·have nI : ni t = none:=by
      rw [nI,h1]
      rw [show (sg (Str.ofString "1") == [49]) = true by rw [BC]; rfl,Bool.not_true,Bool.and_false,Bool.false_and,Bool.false_and,Bool.false_and]; rfl
     exact AX (by rw [decide_eq_true (show V.str y = V.str (Str.ofString "1") by rw [h1])] <;> rfl) (qN nI _ sH1)
    rw [decide_eq_false (show ¬ V.str y = V.str (Str.ofString "1") from fun z=>h1 (V.str.inj z))]
    have hy1 : (sg y == [49]) = false:=beq_eq_false_iff_ne.mpr fun z=>h1 (BU (by rw [z,BC]; rfl))
    refine AR ⟨_,rfl,p,_,_,_,rfl,rfl,SqL.of e1',rfl,_,rfl,y,rfl,hg y (by simp),fun H2 m2=>?_⟩
    have sH2:=sH1.trans m2
    cases hf : BF (sg y) with
    | false =>
      have nI : ni t = none:=by rw [nI,hf,Bool.and_false,Bool.false_and,Bool.false_and]; rfl
      exact ⟨_,rfl,Bv (qN nI _ sH2)⟩
    | true =>
      refine ⟨_,rfl,AR ?_⟩
      obtain ⟨e3,e4⟩:=(Eh hf)
      have ey : y = txI ((vl (sg y) 0 : Nat) : Int):=BU (by rw [Ex]; exact e3)
      have e2' : H2 p = some (.lst [.str x,.str y]):=m2 _ _ e1'
      refine ⟨_,rfl,p,_,_,_,rfl,rfl,SqL.of e2',rfl,Bl (sg x),by rw [← e1],Sx e2 (by decide),_,rfl,p,_,_,_,rfl,rfl,SqL.of e2',rfl,((vl (sg y) 0 : Nat) : Int),by rw [← ey],Sx (show ((vl (sg y) 0 : Nat) : Int).natAbs < 10 ^ 60 by lia) (by decide),P2,fun u hu=>?_⟩
      have sH3:=sH2.trans (Ad.new (o:=.tup [.int (Bl (sg x)),.int ((vl (sg y) 0 : Nat) : Int)]) hu)
      refine ⟨_,rfl,_,_,rfl,Nb.nums (SqT.of A9) rfl,?_⟩
      have eb : (decide (1 ≤ ((vl (sg y) 0 : Nat) : Int)) && decide ((U4 (Bl (sg x)) ((vl (sg y) 0 : Nat) : Int) : Int) = 1)) = (decide (0 < vl (sg y) 0) && decide (V7 (Bl (sg x)).natAbs (vl (sg y) 0) = 1)):=by
       congr 1
       ·exact decide_eq_decide.mpr (by lia)
       ·refine decide_eq_decide.mpr ?_
        rw [show U4 (Bl (sg x)) ((vl (sg y) 0 : Nat) : Int) = V7 (Bl (sg x)).natAbs (vl (sg y) 0) from rfl]
        lia
      rw [hb,hf,hy1,Bool.not_false,Bool.true_and,Bool.true_and,Bool.true_and,← eb] at nI
      refine ⟨_,rfl,?_⟩
      generalize (decide (1 ≤ ((vl (sg y) 0 : Nat) : Int)) && decide ((U4 (Bl (sg x)) ((vl (sg y) 0 : Nat) : Int) : Int) = 1)) = bb at nI ⊢
      cases bb with
      | false=>exact AR (qN nI _ sH3)
      | true =>
        refine GX (DG nI) fun q hz31'=>?_
        refine E6 hz31' fun hq e en ed=>?_
        clear hz31'
        exact Bv ⟨_,rfl,qS q u _ hq e sH3 (fr sH2 hu) (by rw [show nT q = .tup [.int (Bl (sg x)),.int ((vl (sg y) 0 : Nat) : Int)] from by unfold nT; rw [ed,en]]; exact A9)⟩
 ·refine ⟨_,rfl,p,_,rfl,.inl (SqL.of A9),_,_,rfl,rfl,_,rfl,?_⟩
  exact AX (by rw [decide_eq_true (show (((x :: y :: z :: r).map V.str).length : Int) > 2 by rw [TC]; simp; lia)] <;> rfl) (qN nI _ (s1 _))
theorem Cr : Ax ["parts","most","numbers"] ["parts","most"] (Ac (top 38)):=⟨rfl,rfl,rfl,by decide +kernel,rfl,by decide +kernel,by decide +kernel⟩
theorem Er {f : Addr} {fd : FuncData} (F : Fun K "numbers_in" "numbers_in" (top 38) f fd) (Rq : Fd P w K mg base 35 "number_in" ["text","most"] (EK)) (hT : P.given.tree = none) :
 AF P w K mg base CX0 36 f fd ["parts","most"] (BB K):=by
 refine F.ok Cr (fun vs H Q E h=>?_) (fun cdv A outer s H vs Q E hr h=>?_)
 ·obtain ⟨_,_,rfl,_⟩:=h; rfl
 refine ⟨_,(Aa (K:=K) (KS (i:=2) rfl Cr.nd rfl rfl (N:=["part","most"]) (nt:=1) (js:=[1]) (AQ.look (NX:=["parts","most","numbers"]) (sc:=Ac (top 38)) rfl rfl (by decide +kernel)) (piL K (pv 0)) (fun u1 u2 u3 u4 u5=>(AG (i:=0) (show List.Nodup (["part","most"] : List Str) from by decide +kernel) rfl (Or.inl rfl))) (AD (by decide)) (fun u1 u2 u3 u4 u5=>Bb) (fun u1 u2 u3 u4 u5=>(Ap Rq hr rfl (A7 (pv 0) (A7 (pv 1) A8)))) rfl)
  (Aa (K:=K) (Av (K:=K) (Ag (inD K hr) D0 (pv 2) (by with_unfolding_all rfl)) (Ae Ci) Am (by rfl) (by rfl))
  (Ae (Aj (pv 2))) (by rfl)) (by rfl)),?_⟩
 obtain ⟨l,xs,rfl,hS,hf,hz,q⟩:=h
 have hs:=sizeLine_eq
 refine BN ⟨_,rfl,l,rfl,⟨_,hS⟩,GI (xs:=xs.map fun x=>V.str (tx x)) (fun i zs H'=>Ad H H' ∧ zs.length = i ∧ AM H' zs (xs.take i)) ⟨Ad.refl _,rfl,.nil⟩ (fun i zs H' _ h=>⟨Ad.seq h.1 hS,h.2.1⟩) (by rw [TC]; lia) ?_ ?_⟩
 ·rintro i v zs H' hv ⟨sm,hl,hn⟩
  rw [Tu] at hv
  obtain ⟨x,hx,rfl⟩:=(Va.mp hv)
  have hfx:=hf x (Tx hx)
  refine ⟨_,rfl,_,rfl,tx x,rfl,Kz hfx,fun q p H2 hq e m2 hp e2=>⟨sm.trans m2,by simp [hl],?_⟩,fun z=>absurd z (by rw [FK hfx]; exact fun z=>nomatch z)⟩
  obtain rfl:=Ii hfx hq e
  have hi : i < xs.length:=(SU.mp hx).1
  rw [UQ,hx]
  exact Paired.snoc (AM.same hn m2) ⟨p,rfl,e2⟩
 rintro zs H' ⟨sm,hl,hn⟩ p hp
 rw [TC,UR] at *
 have sn : Ad H' (upd H' p (.lst zs)):=Ad.new hp
 have hn1:=AM.same hn sn
 have e1 : upd H' p (.lst zs) p = some (.lst zs):=A9
 refine ⟨_,rfl,IP ⟨p,xs.map nD,.none,rfl,By.rdsL hn1.nums (SqL.of e1),.non,?_,rfl,_,rfl,?_⟩⟩
 ·exact EY xs
 rw [show ((xs.map nD).any fun y=>PyData.eqv y .none) = false from MM xs]
 refine AR ⟨_,rfl,?_⟩
 refine q p zs _ (sm.trans sn) ?_ e1 hn1
 cases hn : H p with
 | none=>rfl
 | some o=>exact absurd (sm _ _ hn) (by rw [hp]; exact fun z=>nomatch z)
theorem Gs {f : Addr} {fd : FuncData} (F : Fun K "numbers_in" "numbers_in" (top 38) f fd) {a_NoText : Addr} (k_NoText : Hb K "NoText" a_NoText) (Rq : Fd P w K mg base 35 "number_in" ["text","most"] (EK)) (hT : P.given.tree = none) :
 AF P w K mg base (CX2 P w) 36 f fd ["parts","most"] (Cb K a_NoText):=by
 refine F.okY Cr (fun vs H Q E h=>?_) (fun cdv A outer s H vs Q E hr h=>?_)
 ·obtain ⟨_,_,rfl,_⟩:=h; rfl
 refine ⟨_,(BX (KS (i:=2) rfl Cr.nd rfl rfl (N:=["part","most"]) (nt:=1) (js:=[1]) (AQ.look (NX:=["parts","most","numbers"]) (sc:=Ac (top 38)) rfl rfl (by decide +kernel)) (piL K (pv 0)) (fun u1 u2 u3 u4 u5=>(AG (i:=0) (show List.Nodup (["part","most"] : List Str) from by decide +kernel) rfl (Or.inl rfl))) (AD (by decide)) (fun u1 u2 u3 u4 u5=>Bb) (fun u1 u2 u3 u4 u5=>(Ap Rq hr rfl (A7 (pv 0) (A7 (pv 1) A8)))) rfl)
  (BX (Av (K:=K) (Ag (inD K hr) D0 (pv 2) (by with_unfolding_all rfl)) (Ae (Cg k_NoText rfl DH rfl (A7 Ah A8))) Am (by rfl) (by rfl))
  Ef)),?_⟩
 obtain ⟨l,ts,rfl,hS,hT,hz,hb,q⟩:=h
 have hs:=sizeLine_eq
 have P1 : 1 ≤ sizeLine:=by decide
 refine BN ⟨_,rfl,l,rfl,⟨_,hS⟩,GI (xs:=ts.map V.str) (fun i zs H'=>Ad H H' ∧ zs.length = i ∧ Paired (Mx H') zs ((ts.take i).map rn)) ⟨Ad.refl _,rfl,.nil⟩ (fun i zs H' _ h=>⟨Ad.seq h.1 hS,h.2.1⟩) (by rw [TC]; lia) ?_ ?_⟩
 ·rintro i v zs H' hv ⟨sm,hl,hn⟩
  rw [Tu] at hv
  obtain ⟨t,ht,rfl⟩:=Va.mp hv
  refine ⟨_,rfl,_,rfl,t,rfl,hT t (Tx ht),fun q p H2 hq e m2 hp e2=>⟨sm.trans m2,by simp [hl],?_⟩,fun hn0 H2 m2=>⟨sm.trans m2,by simp [hl],?_⟩⟩
  ·rw [UQ,ht,UK]
   exact Paired.snoc (Mxs.same hn m2) (by show Mx H2 _ (rn t); rw [e,HK hq]; exact ⟨p,rfl,e2⟩)
  ·rw [UQ,ht,UK]
   exact Paired.snoc (Mxs.same hn m2) (by show Mx H2 _ (rn t); rw [FY hn0]; rfl)
 rintro zs H' ⟨sm,hl,hn⟩ p hp
 rw [TC,UR] at hn
 have sn : Ad H' (upd H' p (.lst zs)):=Ad.new hp
 refine ⟨_,rfl,IP ⟨p,(ts.map rn).map mO,.none,rfl,Mxs.rds (Mxs.same hn sn) (SqL.of A9),.non,Kh _,rfl,_,rfl,?_⟩⟩
 rw [show (((ts.map rn).map mO).any fun y=>PyData.eqv y .none) = true by rw [G9,Kt hb]]
 exact Bv ⟨P1,q _ (sm.trans sn)⟩
theorem DU : Ax ["text"] ["text"] (Ac (top 39)):=⟨rfl,rfl,rfl,by decide +kernel,rfl,by decide +kernel,by decide +kernel⟩
theorem E3 {f : Addr} {fd : FuncData} (F : Fun K "read_number" "read_number" (top 39) f fd) (R6 : Fd P w K mg base 33 "check_text" ["text"] (DO)) (R7 : Fd P w K mg base 36 "numbers_in" ["parts","most"] (BB K)) {t_MOST_FIGURES : Tok} (c_MOST_FIGURES : mg "MOST_FIGURES" = some (.int 60 t_MOST_FIGURES)) (hT : P.given.tree = none) :
 AF P w K mg base CX0 37 f fd ["text"] (Gg K):=by
 refine F.ok DU (fun vs H Q E h=>?_) (fun cdv A outer s H vs Q E hr h=>?_)
 ·obtain ⟨_,rfl,_⟩:=h; rfl
 refine ⟨_,(Aa (K:=K) (Bt (Ap R6 hr rfl (A7 (pv 0) A8)))
  (Ae (Aj (Aw (ixL K) (Ap R7 hr rfl (A7 (AY (A7 (pv 0) A8)) (A7 (AK (v:=.int 60) rfl c_MOST_FIGURES ⟨_,rfl⟩) A8))) Ab (fun u v=>rfl)))) (by rfl)),?_⟩
 obtain ⟨x,rfl,hf,q⟩:=h
 refine ⟨_,rfl,_,rfl,?_⟩
 refine ⟨_,rfl,(by decide : 1 ≤ sizeLine),fun l hl=>?_⟩
 have s1 : Ad H (upd H l (.lst [.str (tx x)])):=Ad.new hl
 refine ⟨l,[x],rfl,SqL.of A9,fun y hy=>by rw [Ul.mp hy]; exact hf,by show 1 ≤ 60000; decide,fun p ys H1 m1 hp e1 hn=>?_⟩
 obtain ⟨v,rfl,hv⟩ : ∃ v,ys = [v] ∧ Be K H1 v x:=by
  cases hn with
  | cons a b=>cases b; exact ⟨_,rfl,a.num⟩
 exact ⟨p,_,_,_,rfl,rfl,SqL.of e1,rfl,q _ _ (s1.trans m1) hv⟩
theorem FR {f : Addr} {fd : FuncData} (F : Fun K "read_number" "read_number" (top 39) f fd) {a_NoText : Addr} (Y_check_text : FdY P w K mg base 33 "check_text" ["text"] (fun vs H Q E=>(DO : Sp) vs H Q E ∨ (DR K a_NoText : Sp) vs H Q E)) (Y_numbers_in : FdY P w K mg base 36 "numbers_in" ["parts","most"] (fun vs H Q E=>(BB K : Sp) vs H Q E ∨ (Cb K a_NoText : Sp) vs H Q E)) (R6 : Fd P w K mg base 33 "check_text" ["text"] (DO)) (R7 : Fd P w K mg base 36 "numbers_in" ["parts","most"] (BB K)) {t_MOST_FIGURES : Tok} (c_MOST_FIGURES : mg "MOST_FIGURES" = some (.int 60 t_MOST_FIGURES)) (hT : P.given.tree = none) :
 AF P w K mg base (CX2 P w) 37 f fd ["text"] (Eb K a_NoText):=by
 refine F.okY DU (fun vs H Q E h=>?_) (fun cdv A outer s H vs Q E hr h=>?_)
 ·obtain ⟨_,rfl,_⟩:=h; rfl
 refine ⟨_,(Aa (K:=K) (Bt (DZ Y_check_text hr rfl FH (A7 (pv 0) A8)))
  (Ae (Aj (Aw (ixL K) (DZ Y_numbers_in hr rfl FH (A7 (AY (A7 (pv 0) A8)) (A7 (AK (v:=.int 60) rfl c_MOST_FIGURES ⟨_,rfl⟩) A8))) Ab (fun u v=>rfl)))) (by rfl)),?_⟩
 obtain ⟨x,rfl,hx,q⟩:=h
 have P1 : 1 ≤ sizeLine:=by decide
 rcases hx with hn | ⟨t,rfl,hT,hn⟩
 ·exact ⟨_,rfl,.inr ⟨x,rfl,hn,q⟩⟩
 ·refine ⟨_,rfl,.inl ⟨_,rfl,?_⟩⟩
  refine ⟨_,rfl,P1,fun l hl=>?_⟩
  exact .inr ⟨l,[t],rfl,SqL.of A9,fun u hu=>by rw [Ul.mp hu]; exact hT,by show 1 ≤ 60000; decide,⟨t,Ul.mpr rfl,hn⟩,fun H' s=>q H' ((Ad.new hl).trans s)⟩
theorem DV : Ax ["numbers","width"] ["numbers"] (Ac (top 18)):=⟨rfl,rfl,rfl,by decide +kernel,rfl,by decide +kernel,by decide +kernel⟩
theorem Jt {f : Addr} {fd : FuncData} (F : Fun K "curve_of" "curve_of" (top 18) f fd) (QV : mg "len" = none) (QX : mg "tuple" = none) {a_NOUGHT : Addr} (c_NOUGHT : mg "NOUGHT" = some (.ref a_NOUGHT)) (n_NOUGHT : ∀ H : Hp,Be K H (.ref a_NOUGHT) (0)) (hT : P.given.tree = none) :
 AF P w K mg base CX0 33 f fd ["numbers"] (Ed K):=by
 refine F.ok DV (fun vs H Q E h=>?_) (fun cdv A outer s H vs Q E hr h=>?_)
 ·obtain ⟨_,_,_,rfl,_⟩:=h; rfl
 refine ⟨_,(Aa (K:=K) (Aq (i:=1) DV.nd rfl (Or.inl rfl) (Af (BY K) rfl QV AJ (A7 (pv 0) A8)))
  (Aa (K:=K) (DY PassesOwn.never (PW.pt (Ey (Ag Cy (pv 1) Ab (Ak _)) (DF (Ag (eqD K hr.units) (Aw (ixL K) (pv 0) (Al D6 (pv 1) Ab) (fun u v=>rfl)) (AK (v:=.ref a_NOUGHT) rfl c_NOUGHT rfl) (Ak _))))) (Ae (Aq (i:=1) DV.nd rfl (Or.inl rfl) (Al D6 (pv 1) Ab))))
  (Ae (Aj (Ay (Dh K) rfl QX Bw (A7 (Cw (slL K) (pv 0) De (Dd (pv 1))) A8)))) (by rfl)) (by rfl)),?_⟩
 obtain ⟨r,xs,qs,rfl,hS,hn,hz,q⟩:=h
 have hl:=hn.length
 refine ⟨_,rfl,r,xs,rfl,.inl hS,?_⟩
 refine NW (L3 H r qs fun H r qs σ H'=>H' = H ∧ ∃ (v : Nat),σ = [some (.ref r),some (.int (v : Int))] ∧ v ≤ qs.length ∧ ∀ j q,v ≤ j → qs[j]? = some q → q = 0) (fun σ _=>mu 1 σ) ⟨rfl,qs.length,by rw [← hl]; rfl,T2 _,fun j q hj e=>absurd (SU.mp e).1 (by lia)⟩ ?_
 rintro σ H' hR1
 refine HD hR1 fun hq32 hz34=>?_
 refine GX hz34 fun v hz34'=>?_
 clear hz34
 refine DK hz34' fun hq33 hv hall=>?_
 clear hz34'
 obtain rfl:=hq32
 obtain rfl:=hq33
 try clear hR1
 have fin : (v = 0 ∨ ∃ q,qs[v - 1]? = some q ∧ q ≠ 0) → ∀ p,H' p = none → ∀ p',upd H' p (.lst (GZ xs none (some (v : Int)))) p' = none → Q (.ref p') (upd (upd H' p (.lst (GZ xs none (some (v : Int))))) p' (.tup (GZ xs none (some (v : Int))))):=fun hc p hp p' hp'=>by
  have e : GZ xs none (some (v : Int)) = xs.take v:=by
   unfold GZ
   have e1 : HT.sIx xs.length 0 none = 0:=rfl
   have e2 : HT.sIx xs.length xs.length (some (v : Int)) = min v xs.length:=HT.sIx_nat _ _ v
   rw [e1,e2,List.drop_zero,Nat.sub_zero]
   apply Uh
   intro i
   rw [Vf,Vf]
   split <;> split <;> first | rfl | lia | (rename_i h1 h2; exact (List.getElem?_eq_none (by lia)).symm) | (rename_i h1 h2; exact List.getElem?_eq_none (by lia))
  have sm : Ad H' (upd (upd H' p (.lst (GZ xs none (some (v : Int))))) p' (.tup (GZ xs none (some (v : Int))))):=(Ad.new hp).trans (Ad.new hp')
  refine q p' _ sm ⟨xs.take v,SqT.of (by rw [e]; exact A9),?_⟩
  rw [← Cv.take_strip qs v hall hc]
  exact Paired.take v (By.same hn sm)
 refine ⟨_,rfl,_,_,rfl,rfl,_,rfl,?_⟩
 by_cases hv0 : v = 0
 ·subst hv0
  refine AR (AR ?_)
  exact ⟨_,rfl,_,rfl,_,rfl,r,xs,rfl,hS,fun p hp=>⟨p,_,rfl,.inl ⟨SqL.of A9,fun p' hp'=>fin (.inl rfl) p hp p' hp'⟩⟩⟩
 ·refine AX (by rw [decide_eq_true (show (0 : Int) < (v : Int) by lia)] <;> rfl) ?_
  have hvi : v - 1 < qs.length:=by lia
  have hq : qs[v - 1]? = some qs[v - 1]:=Uo hvi
  obtain ⟨x,hx,hxn⟩:=(Paired.get' hn hq)
  have hat : atI xs ((v : Int) - 1) = some x:=by
   rw [show (v : Int) - 1 = ((v - 1 : Nat) : Int) by lia]
   exact As hx
  refine ⟨_,rfl,_,rfl,_,_,rfl,rfl,r,xs,_,x,rfl,rfl,hS,hat,?_⟩
  refine eqN hxn (n_NOUGHT _) ?_
  refine ⟨_,rfl,?_⟩
  by_cases hq0 : qs[v - 1] = 0
  ·refine AX (by rw [decide_eq_true hq0] <;> rfl) (NV ?_)
   refine ⟨_,rfl,_,_,rfl,rfl,⟨rfl,v - 1,?_,by lia,fun j q' hj e=>?_⟩,?_⟩
   ·show [some (V.ref r),some (V.int ((v : Int) - 1))] = [some (V.ref r),some (V.int ((v - 1 : Nat) : Int))]
    rw [show (v : Int) - 1 = ((v - 1 : Nat) : Int) by lia]
   ·by_cases hjv : v ≤ j
    ·exact hall j q' hjv e
    ·have : j = v - 1:=by lia
     subst this
     rw [hq] at e
     cases e
     exact hq0
   ·show ((v : Int) - 1).toNat < (v : Int).toNat
    lia
  ·refine AN (by rw [decide_eq_false hq0] <;> rfl) ?_
   exact ⟨_,rfl,_,rfl,_,rfl,r,xs,rfl,hS,fun p hp=>⟨p,_,rfl,.inl ⟨SqL.of A9,fun p' hp'=>fin (.inr ⟨_,hq,hq0⟩) p hp p' hp'⟩⟩⟩
theorem Cq : Ax ["text","numbers"] ["text"] (Ac (top 40)):=⟨rfl,rfl,rfl,by decide +kernel,rfl,by decide +kernel,by decide +kernel⟩
theorem Ep {f : Addr} {fd : FuncData} (F : Fun K "read_curve" "read_curve" (top 40) f fd) (R6 : Fd P w K mg base 33 "check_text" ["text"] (DO)) (R7 : Fd P w K mg base 36 "numbers_in" ["parts","most"] (BB K)) (Rr : Fd P w K mg base 33 "curve_of" ["numbers"] (Ed K)) (QV : mg "len" = none) {t_MOST_FIGURES : Tok} (c_MOST_FIGURES : mg "MOST_FIGURES" = some (.int 60 t_MOST_FIGURES)) {t_MOST_NUMBERS : Tok} (c_MOST_NUMBERS : mg "MOST_NUMBERS" = some (.int 16 t_MOST_NUMBERS)) {a_NOUGHT : Addr} (c_NOUGHT : mg "NOUGHT" = some (.ref a_NOUGHT)) (n_NOUGHT : ∀ H : Hp,Be K H (.ref a_NOUGHT) (0)) (hT : P.given.tree = none) :
 AF P w K mg base CX0 37 f fd ["text"] (EJ K):=by
 refine F.ok Cq (fun vs H Q E h=>?_) (fun cdv A outer s H vs Q E hr h=>?_)
 ·obtain ⟨_,rfl,_⟩:=h; rfl
 refine ⟨_,(Aa (K:=K) (Bt (Ap R6 hr rfl (A7 (pv 0) A8)))
  (Aa (K:=K) (Aq (i:=1) Cq.nd rfl (Or.inl rfl) (Ap R7 hr rfl (A7 (AW K PySem.F.plainAttrs_str PySem.F.slot_str_split PySem.F.type_str_split BE (pv 0) (A7 Ah A8)) (A7 (AK (v:=.int 60) rfl c_MOST_FIGURES ⟨_,rfl⟩) A8))))
  (Aa (K:=K) (Av (K:=K) (Ag Cy (Af (BY K) rfl QV AJ (A7 (pv 1) A8)) (AK (v:=.int 16) rfl c_MOST_NUMBERS ⟨_,rfl⟩) (Ak _)) (Ae Ci) Am (by rfl) (by rfl))
  (Aa (K:=K) (Av (K:=K) (PW.pt (Ey (Ag Cy (Af (BY K) rfl QV AJ (A7 (pv 1) A8)) Ab (Ak _)) (DF (Ag (eqD K hr.units) (Aw (ixL K) (pv 1) (KZ Ig Ab) (fun u v=>rfl)) (AK (v:=.ref a_NOUGHT) rfl c_NOUGHT rfl) (Ak _))))) (Ae Ci) Am (by rfl) (by rfl))
  (Ae (Aj (Ap Rr hr rfl (A7 (pv 1) A8)))) (by rfl)) (by rfl)) (by rfl)) (by rfl)),?_⟩
 obtain ⟨qs,rfl,hne,h16,hf,hlast,q⟩:=h
 have hs:=sizeLine_eq
 have jl:=D8 (sep:=AL) (by rw [Ce]; decide) (Dz hf)
 rw [TC] at jl
 have hpos:=U8.mpr hne
 refine ⟨_,rfl,_,rfl,?_⟩
 refine ⟨_,rfl,rfl,_,_,rfl,rfl,(by show (AL.length == 0) = false; rw [Ce]; rfl),by lia,fun l hl=>?_⟩
 have es : Txt.split (Str.join AL (qs.map tx)) (Str.ofString " ") = qs.map tx:=Ca hne
 rw [es]
 have s1 : Ad H (upd H l (.lst ((qs.map tx).map V.str))):=Ad.new hl
 refine ⟨l,qs,rfl,SqL.of (by rw [show (qs.map fun x=>V.str (tx x)) = (qs.map tx).map V.str by rw [V1]; rfl]; exact A9),hf,by lia,fun p ys H1 m1 hp e1 hn=>?_⟩
 have hyl:=hn.length
 refine ⟨_,rfl,p,ys,rfl,.inl (SqL.of e1),_,_,rfl,rfl,_,rfl,?_⟩
 refine AN (by rw [decide_eq_false (show ¬ ((ys.length : Nat) : Int) > 16 by lia)] <;> rfl) ?_
 refine ⟨_,rfl,p,ys,rfl,.inl (SqL.of e1),_,_,rfl,rfl,_,rfl,?_⟩
 by_cases h1 : 1 < qs.length
 ·obtain ⟨c,hc,hc0⟩:=(hlast h1)
  obtain ⟨v,hv,hvn⟩:=(Paired.get' hn hc)
  rw [← hyl] at hv
  refine AX (by rw [decide_eq_true (show ((ys.length : Nat) : Int) > 1 by lia)] <;> rfl) ⟨_,rfl,_,rfl,p,ys,_,v,rfl,rfl,SqL.of e1,Ff hv,?_⟩
  refine eqN (hvn.num) (n_NOUGHT _) ⟨_,rfl,?_⟩
  exact AN (by rw [decide_eq_false hc0] <;> rfl) ⟨_,rfl,p,ys,qs,rfl,SqL.of e1,hn.nums,by lia,fun r H2 m2 hc=>q _ _ (s1.trans (m1.trans m2)) hc⟩
 ·exact AN (by rw [decide_eq_false (show ¬ ((ys.length : Nat) : Int) > 1 by lia)] <;> rfl) ⟨_,rfl,p,ys,qs,rfl,SqL.of e1,hn.nums,by lia,fun r H2 m2 hc=>q _ _ (s1.trans (m1.trans m2)) hc⟩
theorem Gr {f : Addr} {fd : FuncData} (F : Fun K "read_curve" "read_curve" (top 40) f fd) {a_NoText : Addr} (k_NoText : Hb K "NoText" a_NoText) (Y_check_text : FdY P w K mg base 33 "check_text" ["text"] (fun vs H Q E=>(DO : Sp) vs H Q E ∨ (DR K a_NoText : Sp) vs H Q E)) (Y_numbers_in : FdY P w K mg base 36 "numbers_in" ["parts","most"] (fun vs H Q E=>(BB K : Sp) vs H Q E ∨ (Cb K a_NoText : Sp) vs H Q E)) (R6 : Fd P w K mg base 33 "check_text" ["text"] (DO)) (R7 : Fd P w K mg base 36 "numbers_in" ["parts","most"] (BB K)) (Rr : Fd P w K mg base 33 "curve_of" ["numbers"] (Ed K)) (QV : mg "len" = none) {t_MOST_FIGURES : Tok} (c_MOST_FIGURES : mg "MOST_FIGURES" = some (.int 60 t_MOST_FIGURES)) {t_MOST_NUMBERS : Tok} (c_MOST_NUMBERS : mg "MOST_NUMBERS" = some (.int 16 t_MOST_NUMBERS)) {a_NOUGHT : Addr} (c_NOUGHT : mg "NOUGHT" = some (.ref a_NOUGHT)) (n_NOUGHT : ∀ H : Hp,Be K H (.ref a_NOUGHT) (0)) (hT : P.given.tree = none) :
 AF P w K mg base (CX2 P w) 37 f fd ["text"] (Dr K a_NoText):=by
 refine F.okY Cq (fun vs H Q E h=>?_) (fun cdv A outer s H vs Q E hr h=>?_)
 ·obtain ⟨_,rfl,_⟩:=h; rfl
 refine ⟨_,(Aa (K:=K) (Bt (DZ Y_check_text hr rfl FH (A7 (pv 0) A8)))
  (Aa (K:=K) (Aq (i:=1) Cq.nd rfl (Or.inl rfl) (DZ Y_numbers_in hr rfl FH (A7 (AW K PySem.F.plainAttrs_str PySem.F.slot_str_split PySem.F.type_str_split BE (pv 0) (A7 Ah A8)) (A7 (AK (v:=.int 60) rfl c_MOST_FIGURES ⟨_,rfl⟩) A8))))
  (Aa (K:=K) (Av (K:=K) (Ag Cy (Af (BY K) rfl QV AJ (A7 (pv 1) A8)) (AK (v:=.int 16) rfl c_MOST_NUMBERS ⟨_,rfl⟩) (Ak _)) (Ae (Cg k_NoText rfl DH rfl (A7 Ah A8))) Am (by rfl) (by rfl))
  (Aa (K:=K) (Av (K:=K) (PW.pt (Ey (Ag Cy (Af (BY K) rfl QV AJ (A7 (pv 1) A8)) Ab (Ak _)) (DF (Ag (eqD K hr.units) (Aw (ixL K) (pv 1) (KZ Ig Ab) (fun u v=>rfl)) (AK (v:=.ref a_NOUGHT) rfl c_NOUGHT rfl) (Ak _))))) (Ae (Cg k_NoText rfl DH rfl (A7 Ah A8))) Am (by rfl) (by rfl))
  (Ae (Aj (Ap Rr hr rfl (A7 (pv 1) A8)))) (by rfl)) (by rfl)) (by rfl)) (by rfl)),?_⟩
 obtain ⟨x,rfl,hx,q⟩:=h
 have hs:=sizeLine_eq
 have P1 : 1 ≤ sizeLine:=by decide
 rcases hx with hn | ⟨t,rfl,hT,hb⟩
 ·exact ⟨_,rfl,.inr ⟨x,rfl,hn,q⟩⟩
 ·have hTl:=hT.2
  refine ⟨_,rfl,.inl ⟨_,rfl,?_⟩⟩
  refine ⟨_,rfl,rfl,_,_,rfl,rfl,(by show (AL.length == 0) = false; rw [Ce]; rfl),by lia,fun l hl=>?_⟩
  have s1 : ∀ o,Ad H (upd H l o):=fun o=>Ad.new hl
  have hwl:=PyProof.Rows.split_le t (Str.ofString " ")
  rcases hb with hw | ⟨qs,rfl,hf,hne,hb⟩
  ·exact .inr ⟨l,Txt.split t (Str.ofString " "),rfl,SqL.of A9,Cs hT,by lia,hw,fun H' s=>q H' ((s1 _).trans s)⟩
  have es : Txt.split (Str.join AL (qs.map tx)) (Str.ofString " ") = qs.map tx:=Ca hne
  rw [es] at hwl ⊢
  rw [TC] at hwl
  refine .inl ⟨l,qs,rfl,SqL.of (by rw [show (qs.map fun x=>V.str (tx x)) = (qs.map tx).map V.str by rw [V1]; rfl]; exact A9),hf,by lia,fun p ys H1 m1 hp e1 hn=>?_⟩
  have hyl:=hn.length
  have sH:=(s1 _).trans m1
  refine ⟨_,rfl,p,ys,rfl,.inl (SqL.of e1),_,_,rfl,rfl,_,rfl,?_⟩
  by_cases h16 : ((ys.length : Nat) : Int) > 16
  ·rw [decide_eq_true h16]
   exact Bv ⟨P1,q _ sH⟩
  rw [decide_eq_false h16]
  have hb:=hb.resolve_left (by lia)
  refine AR ?_
  refine ⟨_,rfl,p,ys,rfl,.inl (SqL.of e1),_,_,rfl,rfl,_,rfl,?_⟩
  obtain ⟨v,hv,hvn⟩:=Paired.get' hn hb.2
  rw [← hyl] at hv
  rw [decide_eq_true (show ((ys.length : Nat) : Int) > 1 by lia)]
  refine Bv ⟨_,rfl,_,rfl,p,ys,_,v,rfl,rfl,SqL.of e1,Ff hv,?_⟩
  refine eqN (hvn.num) (n_NOUGHT _) ⟨_,rfl,?_⟩
  rw [decide_eq_true (rfl : (0 : Rat) = 0)]
  exact Bv ⟨P1,q _ sH⟩
theorem Hk : Ax ["places"] ["places"] (Ac (top 22)):=⟨rfl,rfl,rfl,by decide +kernel,rfl,by decide +kernel,by decide +kernel⟩
theorem Hr {f : Addr} {fd : FuncData} (F : Fun K "are_unlike" "are_unlike" (top 22) f fd) (QV : mg "len" = none) (Rc : mg "set" = none) (hT : P.given.tree = none) :
 AF P w K mg base CX0 33 f fd ["places"] (Ea K):=by
 refine F.ok Hk (fun vs H Q E h=>?_) (fun cdv A outer s H vs Q E hr h=>?_)
 ·obtain ⟨_,_,_,rfl,_⟩:=h; rfl
 refine ⟨_,(Ae (Aj (BO BR (Af HW rfl QV AJ (A7 (Ay (Q7 K rfl hr.units) rfl Rc N5 (A7 (pv 0) A8)) A8)) (Af (BY K) rfl QV AJ (A7 (pv 0) A8)) (Ak _)))),?_⟩
 obtain ⟨l,ys,qs,rfl,hS,hn,h17,q⟩:=h
 have hl:=hn.length
 refine ⟨_,rfl,l,ys,qs,rfl,hS,hn,h17,fun p n hle hnd hp=>⟨p,n,rfl,A9,by lia,?_⟩⟩
 have s1 : Ad H (upd H p (Kw p n)):=Ad.new hp
 refine ⟨_,rfl,l,ys,rfl,.inl (Ad.seq s1 hS),rfl,?_⟩
 have e : decide (V.int ((n : Nat) : Int) = V.int ((ys.length : Nat) : Int)) = decide qs.Nodup:=by
  by_cases h : qs.Nodup
  ·rw [decide_eq_true h,decide_eq_true (by rw [hl,hnd.mpr h])]
  ·rw [decide_eq_false h,decide_eq_false (fun z=>h (hnd.mp (by injection z with z; rw [hl] at z; exact Int.ofNat.inj z)))]
 rw [e]
 exact q _ s1
theorem DD : Ax ["points","told","point","k"] ["points"] (Ac (top 24)):=⟨rfl,rfl,rfl,by decide +kernel,rfl,by decide +kernel,by decide +kernel⟩
theorem Kc {f : Addr} {fd : FuncData} (F : Fun K "told_in" "told_in" (top 24) f fd) (R1 : mg "range" = none) (QV : mg "len" = none) (hT : P.given.tree = none) :
 AF P w K mg base CX0 33 f fd ["points"] (FX K):=by
 refine F.ok DD (fun vs H Q E h=>?_) (fun cdv A outer s H vs Q E hr h=>?_)
 ·obtain ⟨_,_,_,rfl,_⟩:=h; rfl
 refine ⟨_,(Aa (K:=K) (Aq (i:=1) DD.nd rfl (Or.inl rfl) (AY A8))
  (Aa (K:=K) (Dc (K:=K) PassesOwn.never rfl (piT K (pv 0)) (AG (i:=2) DD.nd rfl (Or.inl rfl)) (Ae (Dc (K:=K) PassesOwn.never rfl (CJ rfl R1 (A7 (Al D6 (Af (BY K) rfl QV AJ (A7 (pv 2) A8)) Ab) A8)) (AG (i:=3) DD.nd rfl (Or.inl rfl)) (Ae (Bt (AW K PySem.F.plainAttrs_list PySem.F.slot_list_append PySem.F.type_list_append Cc (pv 1) (A7 (AV (A7 (Aw (ixT K) (pv 2) Ab (fun u v=>rfl)) (A7 (pv 3) (A7 (Aw (ixT K) (pv 2) (Al BA (pv 3) Ab) (fun u v=>rfl)) A8)))) A8)))) (by rfl))) (by rfl))
  (Ae (Aj (pv 1))) (by rfl)) (by rfl)),?_⟩
 obtain ⟨r,xs,pss,rfl,hS,hp,h23,h100,q⟩:=h
 have P0 : 0 ≤ sizeLine:=by decide
 have P3 : 3 ≤ sizeLine:=by decide
 have hxl:=hp.length
 refine ⟨P0,fun p hp0=>?_⟩
 refine ⟨_,rfl,r,rfl,⟨_,SqT.same hS (Ad.new hp0)⟩,Lh (xs:=xs) (L5 H r p K pss fun H r p K pss i σ H'=>Ad H H' ∧ ∃ ys z2 z3,σ = [some (.ref r),some (.ref p),z2,z3] ∧ H' p = some (.lst ys) ∧ Hd K H' ys (BI (pss.take i))) ⟨Ad.new hp0,[],none,none,rfl,A9,.nil⟩ (fun i σ H' _ h=>hS.same h.1) ?_ ?_⟩
 ·rintro i v σ H' hv hR1
  refine HD hR1 fun sm hz36=>?_
  refine IS hz36 fun ys z2 z3 hz36'=>?_
  clear hz36
  refine DK hz36' fun hq35 ep hys=>?_
  clear hz36'
  obtain rfl:=hq35
  try clear hR1
  obtain ⟨ps,hps,a,zs,pp,rfl,hzs,hzn,hz0,hpp⟩:=(Paired.get hp hv)
  have hpl:=h23 ps (Tx hps)
  have hzl:=hzn.length
  have hyl : ys.length ≤ 200:=by
   have h1:=CQ (pss.take i) (h23.take i)
   rw [Tp] at h1
   rw [hys.length]; lia
  refine ⟨_,rfl,a,zs,rfl,.inr (hzs.same sm),_,_,rfl,rfl,_,rfl,by lia,by lia,?_⟩
  rw [show (((zs.length : Nat) : Int) - 1).toNat = ps.length - 1 from MP hzl]
  refine Fy (n:=ps.length - 1) (L8 H r p a K pss i ps fun H r p a K pss i ps k σ H2=>Ad H H2 ∧ ∃ ys2 z3,σ = [some (.ref r),some (.ref p),some (.ref a),z3] ∧ H2 p = some (.lst ys2) ∧ Hd K H2 ys2 (BI (pss.take i) ++ (DM ps).take k)) ⟨sm,ys,z3,rfl,ep,by rw [List.take_zero,Te]; exact hys⟩ ?_ ?_
  ·rintro k σ H2 hk hR2
   refine HD hR2 fun sm2 hz40=>?_
   refine FW hz40 fun ys2 z3' hz40'=>?_
   clear hz40
   refine DK hz40' fun hq39 ep2 hys2=>?_
   clear hz40'
   obtain rfl:=hq39
   try clear hR2
   have g0:=getD_some (l:=ps) (i:=0) (by lia)
   have gk:=getD_some (l:=ps) (i:=k + 1) (by lia)
   obtain ⟨xk,hxk,hnk⟩:=(Paired.get' hzn gk)
   have ak : atI zs (0 + (k : Int) + 1) = some xk:=by rw [show 0 + (k : Int) + 1 = ((k + 1 : Nat) : Int) by lia]; exact As hxk
   have hyl2 : ys2.length ≤ 204:=by
    have h1:=hys.length
    have h2:=Bs ps
    rw [hys2.length,Tz,Tp]; exact Ny hyl hk hpl h1
   refine ⟨_,rfl,.inl ⟨rfl,_,SqL.of ep2⟩,_,rfl,a,zs,_,.ref pp,rfl,rfl,hzs.same sm2,As (j:=0) hz0,_,rfl,_,rfl,_,rfl,_,_,rfl,rfl,a,zs,_,xk,rfl,rfl,hzs.same sm2,ak,P3,fun t ht=>?_⟩
   have s3 : Ad H2 (upd H2 t (.tup [.ref pp,.int (0 + (k : Int)),xk])):=Ad.new ht
   have tp : t ≠ p:=(Az ep2 ht).symm
   have hp3 : (upd (upd H2 t (.tup [.ref pp,.int (0 + (k : Int)),xk])) p (.lst (ys2 ++ [.ref t]))) pp = some (nT (ps.getD 0 0)):=by
    have z:=s3 _ _ (sm2 _ _ hpp)
    rw [AA (EX z (s3 _ _ ep2) (fun z=>by cases z))]; exact z
   refine ⟨p,ys2,.ref t,rfl,rfl,s3 _ _ ep2,Sx (show ys2.length < 300 by lia) (by decide),(sm2.trans s3).put hp0,ys2 ++ [.ref t],_,rfl,A9,?_⟩
   have gt : (DM ps)[k]? = some ⟨ps.getD 0 0,(k : Int),ps.getD (k + 1) 0⟩:=by
    unfold DM
    rw [Tu,List.getElem?_range hk]; rfl
   rw [UQ,gt,← TX]
   refine Paired.snoc (Hd.put (Hd.same hys2 s3) (s3 _ _ ep2)) ⟨t,pp,xk,rfl,SqT.of ?_,hp3,((hnk.same sm2).same s3).put (s3 _ _ ep2)⟩
   rw [AA tp,A9,Int.zero_add]
  ·rintro σ H2 hR3
   refine HD hR3 fun sm2 hz42=>?_
   refine FW hz42 fun ys2 z3' hz42'=>?_
   clear hz42
   refine DK hz42' fun hq41 ep2 hys2=>?_
   clear hz42'
   obtain rfl:=hq41
   try clear hR3
   refine ⟨sm2,ys2,_,_,rfl,ep2,?_⟩
   have e : pss.take (i + 1) = pss.take i ++ [ps]:=by rw [UQ,hps]; rfl
   rw [e,E8]
   have et : (DM ps).take (ps.length - 1) = DM ps:=Uw (by rw [Bs]; exact T2 _)
   rw [et] at hys2
   exact hys2
 ·rintro σ H' hR4
  refine HD hR4 fun sm hz44=>?_
  refine IS hz44 fun ys z2 z3 hz44'=>?_
  clear hz44
  refine DK hz44' fun hq43 ep hys=>?_
  clear hz44'
  obtain rfl:=hq43
  try clear hR4
  rw [hxl,UR] at hys
  exact ⟨_,rfl,q p H' ys sm hp0 ep hys⟩
theorem Jk : Ax ["thing"] ["thing"] (Ac (top 21)):=⟨rfl,rfl,rfl,by decide +kernel,rfl,by decide +kernel,by decide +kernel⟩
theorem Js {f : Addr} {fd : FuncData} (F : Fun K "is_point" "is_point" (top 21) f fd) (Rp : Fd P w K mg base 34 "is_number" ["thing"] (KL K)) (R3 : mg "all" = none) (QW : mg "isinstance" = none) (QX : mg "tuple" = none) (QV : mg "len" = none) (hT : P.given.tree = none) :
 AF P w K mg base CX0 35 f fd ["thing"] (KJ K):=by
 refine F.ok Jk (fun vs H Q E h=>?_) (fun cdv A outer s H vs Q E hr h=>?_)
 ·obtain ⟨_,_,rfl,_⟩:=h; rfl
 refine ⟨_,(Aa (K:=K) (Av (K:=K) (PW.pt (CY (Bx (Bq (Af (JD K) rfl QW Au (A7 (pv 0) (A7 (BP (v:=.ty "tuple") rfl QX Bw rfl) A8))))) (Co (Ag (Kd K) (Af (BY K) rfl QV AJ (A7 (pv 0) A8)) (AV (A7 Ab (A7 Ab A8))) (by with_unfolding_all rfl))))) (Ae (Aj E1)) Am (by rfl) (by rfl))
  (Ae (Aj (Af (NS K rfl) rfl R3 IW (A7 (Cj rfl (N:=["each"]) (nt:=1) (js:=[]) (AQ.look (NX:=["thing"]) (sc:=Ac (top 21)) rfl rfl (by decide +kernel)) (piT K (pv 0)) (fun u1 u2 u3 u4 u5=>(AG (i:=0) (show List.Nodup (["each"] : List Str) from by decide +kernel) rfl (Or.inl rfl))) (AD (by decide)) (fun u1 u2 u3 u4 u5=>Bb) (fun u1 u2 u3 u4 u5=>(Ap Rp hr rfl (A7 (pv 0) A8)))) A8)))) (by rfl)),?_⟩
 obtain ⟨x,b,rfl,px,q⟩:=h
 have P2 : 2 ≤ sizeLine:=by decide
 cases px with
 | no ty hk=>exact ⟨_,rfl,_,_,_,_,rfl,ty,hk,false,rfl,Bv (Bv (q _ (Ad.refl _)))⟩
 | @len a xs ha l2 l3 =>
   refine ⟨_,rfl,_,_,_,_,rfl,.tup ha,Fv K,true,rfl,AR ?_⟩
   refine ⟨_,rfl,a,xs,rfl,.inr ha,P2,fun t ht=>?_⟩
   have s1 : Ad H (upd H t (.tup [.int 2,.int 3])):=Ad.new ht
   refine ⟨t,_,rfl,.inr (SqT.of A9),rfl,rfl,_,rfl,?_⟩
   have hin : inV (V.int ((xs.length : Nat) : Int)) [.int 2,.int 3] = false:=by
    show (((2 : Int) == ((xs.length : Nat) : Int)) || (((3 : Int) == ((xs.length : Nat) : Int)) || false)) = false
    have e2 : ((2 : Int) == ((xs.length : Nat) : Int)) = false:=beq_eq_false_iff_ne.mpr (by lia)
    have e3 : ((3 : Int) == ((xs.length : Nat) : Int)) = false:=beq_eq_false_iff_ne.mpr (by lia)
    rw [e2,e3]
    rfl
   rw [hin]
   exact Bv (q _ s1)
 | @all a xs bs ha h23 hb =>
   have hl:=hb.length
   refine ⟨_,rfl,_,_,_,_,rfl,.tup ha,Fv K,true,rfl,AR ?_⟩
   refine ⟨_,rfl,a,xs,rfl,.inr ha,P2,fun t ht=>?_⟩
   have s1 : Ad H (upd H t (.tup [.int 2,.int 3])):=Ad.new ht
   refine ⟨t,_,rfl,.inr (SqT.of A9),rfl,rfl,_,rfl,?_⟩
   have hin : inV (V.int ((xs.length : Nat) : Int)) [.int 2,.int 3] = true:=by
    rcases h23 with z | z
    ·rw [z]; rfl
    ·rw [z]; rfl
   rw [hin]
   refine AR ?_
   generalize upd H t (.tup [.int 2,.int 3]) = H1 at s1 ⊢
   refine BN ⟨_,rfl,a,rfl,⟨_,SqT.same ha s1⟩,?_⟩
   refine DI (xs:=xs) (fun i zs H'=>Ad H1 H' ∧ zs = (bs.take i).map V.bl) ⟨Ad.refl _,rfl⟩ (fun i zs H' hi p=>⟨SqT.same ha (s1.trans p.1),by rw [p.2,TC,Tp]; lia⟩) (SK (Br (by lia))) ?_ ?_
   ·rintro i x zs H' hx ⟨sm,rfl⟩
    obtain ⟨c,hc,hcn⟩:=(Paired.get hb hx)
    refine ⟨_,rfl,x,c,rfl,hcn.same (s1.trans sm),sm,?_⟩
    rw [UQ,hc,UK]
    rfl
   rintro zs H' ⟨sm,rfl⟩ p hp
   rw [hl,UR]
   exact ⟨p,bs,rfl,SqL.of A9,q _ ((s1.trans sm).trans (Ad.new hp))⟩
theorem CF : Ax ["thing","points"] ["thing"] (Ac (top 23)):=⟨rfl,rfl,rfl,by decide +kernel,rfl,by decide +kernel,by decide +kernel⟩
theorem EU {f : Addr} {fd : FuncData} (F : Fun K "points_of" "points_of" (top 23) f fd) (Rt : Fd P w K mg base 33 "are_unlike" ["places"] (Ea K)) (Ru : Fd P w K mg base 33 "told_in" ["points"] (FX K)) (Rv : Fd P w K mg base 35 "is_point" ["thing"] (KJ K)) (QX : mg "tuple" = none) (R3 : mg "all" = none) (QV : mg "len" = none) (QW : mg "isinstance" = none) (Rb : mg "list" = none) {t_MOST_TOLD : Tok} (c_MOST_TOLD : mg "MOST_TOLD" = some (.int 12 t_MOST_TOLD)) (hT : P.given.tree = none) :
 AF P w K mg base CX0 36 f fd ["thing"] (Ec K):=by
 refine F.ok CF (fun vs H Q E h=>?_) (fun cdv A outer s H vs Q E hr h=>?_)
 ·obtain ⟨_,_,_,_,rfl,_⟩:=h; rfl
 refine ⟨_,(Aa (K:=K) (Av (K:=K) (PW.pt (CY (Bx (Bq (Af (Oa K) rfl QW Au (A7 (pv 0) (A7 (AV (A7 (BP (v:=.ty "list") rfl Rb Lp rfl) (A7 (BP (v:=.ty "tuple") rfl QX Bw rfl) A8))) A8))))) (Co (Ag BR (Af (BY K) rfl QV AJ (A7 (pv 0) A8)) Ab (Ak _))))) (Ae Ci) Am (by rfl) (by rfl))
  (Aa (K:=K) (Av (K:=K) (Bx (Bq (Af (NS K rfl) rfl R3 IW (A7 (Cj rfl (N:=["each"]) (nt:=1) (js:=[]) (AQ.look (NX:=["thing","points"]) (sc:=Ac (top 23)) rfl rfl (by decide +kernel)) (piS K (pv 0)) (fun u1 u2 u3 u4 u5=>(AG (i:=0) (show List.Nodup (["each"] : List Str) from by decide +kernel) rfl (Or.inl rfl))) (AD (by decide)) (fun u1 u2 u3 u4 u5=>Bb) (fun u1 u2 u3 u4 u5=>(Ap Rv hr rfl (A7 (pv 0) A8)))) A8)))) (Ae Ci) Am (by rfl) (by rfl))
  (Aa (K:=K) (Av (K:=K) (Bx (Bq (Ap Rt hr rfl (A7 (Cj rfl (N:=["point"]) (nt:=1) (js:=[]) (AQ.look (NX:=["thing","points"]) (sc:=Ac (top 23)) rfl rfl (by decide +kernel)) (piS K (pv 0)) (fun u1 u2 u3 u4 u5=>(AG (i:=0) (show List.Nodup (["point"] : List Str) from by decide +kernel) rfl (Or.inl rfl))) (AD (by decide)) (fun u1 u2 u3 u4 u5=>Bb) (fun u1 u2 u3 u4 u5=>(Aw (ixT K) (pv 0) Ab (fun u v=>rfl)))) A8)))) (Ae Ci) Am (by rfl) (by rfl))
  (Aa (K:=K) (Aq (i:=1) CF.nd rfl (Or.inl rfl) (Ay (Dh K) rfl QX Bw (A7 (pv 0) A8)))
  (Aa (K:=K) (Av (K:=K) (Ag Cy (Af (BY K) rfl QV AJ (A7 (Ap Ru hr rfl (A7 (pv 1) A8)) A8)) (AK (v:=.int 12) rfl c_MOST_TOLD ⟨_,rfl⟩) (Ak _)) (Ae Ci) Am (by rfl) (by rfl))
  (Ae (Aj (pv 1))) (by rfl)) (by rfl)) (by rfl)) (by rfl)) (by rfl)),?_⟩
 obtain ⟨b,r,xs,pss,rfl,hS,hp,h23,h1,hnd,h12,q⟩:=h
 have P2 : 2 ≤ sizeLine:=by decide
 have hl:=hp.length
 have hge:=E9 h23
 refine ⟨_,rfl,P2,fun tp htp=>?_⟩
 have s1 : Ad H (upd H tp (.tup [.ty "list",.ty "tuple"])):=Ad.new htp
 have hS1:=Sq.same hS s1
 refine ⟨_,if b then .type "list" else .type "tuple",tp,[.ty "list",.ty "tuple"],[.type "list",.type "tuple"],true,rfl,?_,A9,rfl,?_,_,rfl,AR ?_⟩
 ·cases b
  ·exact .tup hS1
  ·exact .lst hS1
 ·cases b
  ·exact GJ K
  ·exact GK K
 generalize upd H tp (.tup [.ty "list",.ty "tuple"]) = H1 at s1 hS1 ⊢
 refine ⟨_,rfl,r,xs,rfl,Sq.len hS1,rfl,_,rfl,?_⟩
 refine AN (by rw [decide_eq_false (show ¬ V.int ((xs.length : Nat) : Int) = V.int 0 from fun z=>by have:=V.int.inj z; lia)] <;> rfl) ?_
 have hp1:=Bo.same hp s1
 refine EC (b:=b) (a:=r) (xs:=xs) rfl (fun i zs H'=>Ad H1 H' ∧ zs = Tj i (.bl true)) ⟨Ad.refl _,rfl⟩ (fun i zs H' _ p=>⟨Sq.same hS1 p.1,by rw [p.2,TF]⟩) (SK (Br (by lia))) ?_ ?_
 ·rintro i x zs H' hx ⟨sm,rfl⟩
  obtain ⟨ps,hps,hpt⟩:=(Paired.get hp1 hx)
  refine ⟨_,rfl,x,true,rfl,Pb.of ((hpt.pt).same sm) (h23 ps (Tx hps)),fun H2 s2=>⟨sm.trans s2,?_⟩⟩
  rw [← Vg]
 rintro zs H2 ⟨s2,rfl⟩ al hal
 have s3:=s2.trans (Ad.new (o:=.lst (Tj xs.length (.bl true))) hal)
 refine ⟨al,Tj xs.length true,rfl,SqL.of (by rw [List.map_replicate]; exact A9),_,rfl,?_⟩
 refine AN (by rw [NQ] <;> rfl) ?_
 generalize upd H2 al (.lst (Tj xs.length (.bl true))) = H3 at s3 ⊢
 have hS3:=Sq.same hS1 s3
 have hp3:=Bo.same hp1 s3
 refine EC (b:=b) (a:=r) (xs:=xs) rfl (L2 H3 pss fun H3 pss i zs H'=>H' = H3 ∧ zs.length = i ∧ AM H3 zs ((pss.take i).map fun ps=>ps.getD 0 0)) ⟨rfl,rfl,.nil⟩ (fun i zs H' _ p=>⟨by rw [p.1]; exact hS3,p.2.1⟩) (SK (Br (by lia))) ?_ ?_
 ·rintro i x zs H' hx ⟨rfl,hzl,hzs⟩
  obtain ⟨ps,hps,a,us,pp,rfl,hus,hun,hu0,hpp⟩:=(Paired.get hp3 hx)
  refine ⟨_,rfl,a,us,_,_,rfl,rfl,hus,As (j:=0) hu0,rfl,by simp [hzl],?_⟩
  rw [UQ,hps,UK]
  exact Paired.snoc hzs ⟨pp,rfl,hpp⟩
 rintro zs Hq ⟨hq,hzl,hzs⟩ pl hpl
 obtain rfl : H3 = Hq:=hq.symm
 rw [hl,UR] at hzs
 have s4 : Ad H3 (upd H3 pl (.lst zs)):=Ad.new hpl
 refine ⟨pl,zs,_,rfl,SqL.of A9,AM.same hzs s4,by rw [TC]; lia,fun H5 s5=>⟨_,rfl,AN (by rw [decide_eq_true hnd]; rfl) ?_⟩⟩
 have s35:=s4.trans s5
 have hS5:=Sq.same hS3 s35
 have hp5:=Bo.same hp3 s35
 have s15:=(s1.trans s3).trans s35
 have fin : ∀ (t : Addr) (H6 : Hp),Ad H5 H6 → SqT K H6 t xs → (b = false → t = r) → (KC (Ij 1) Nk) [some (.ref r),some (.ref t)] H6 fun vs H7=>True:=fun t H6 _ _ _=>⟨_,rfl,trivial⟩
 clear fin
 refine ⟨_,rfl,r,xs,rfl,?_⟩
 cases b
 ·refine .inr ⟨hS5,?_⟩
  have sR:=Ad.refl H5
  refine ⟨_,rfl,r,xs,pss,rfl,(show SqT K H5 r xs from hS5),Bo.same hp5 sR,h23,by lia,fun tl H7 tys s7 htl etl htls=>?_⟩
  refine ⟨tl,tys,rfl,.inl (SqL.of etl),_,_,rfl,rfl,_,rfl,?_⟩
  have htyl:=htls.length
  refine AN (by rw [decide_eq_false (show ¬ ((12 : Int) < ((tys.length : Nat) : Int)) by lia)] <;> rfl) ⟨_,rfl,q r H7 ((s15.trans sR).trans s7) ((show SqT K H5 r xs from hS5).same s7) (fun _=>rfl)⟩
 ·refine .inl ⟨hS5,fun t ht=>?_⟩
  have sT : Ad H5 (upd H5 t (.tup xs)):=Ad.new ht
  have eT : SqT K (upd H5 t (.tup xs)) t xs:=SqT.of A9
  refine ⟨_,rfl,t,xs,pss,rfl,eT,Bo.same hp5 sT,h23,by lia,fun tl H7 tys s7 htl etl htls=>?_⟩
  refine ⟨tl,tys,rfl,.inl (SqL.of etl),_,_,rfl,rfl,_,rfl,?_⟩
  have htyl:=htls.length
  refine AN (by rw [decide_eq_false (show ¬ ((12 : Int) < ((tys.length : Nat) : Int)) by lia)] <;> rfl) ⟨_,rfl,q t H7 ((s15.trans sT).trans s7) (eT.same s7) (fun z=>by cases z)⟩
theorem Hm {f : Addr} {fd : FuncData} (F : Fun K "points_of" "points_of" (top 23) f fd) {a_NoPoints a_TooMany : Addr} (k_NoPoints : Hb K "NoPoints" a_NoPoints) (k_TooMany : Hb K "TooMany" a_TooMany) (Rt : Fd P w K mg base 33 "are_unlike" ["places"] (Ea K)) (Ru : Fd P w K mg base 33 "told_in" ["points"] (FX K)) (Rv : Fd P w K mg base 35 "is_point" ["thing"] (KJ K)) (QX : mg "tuple" = none) (R3 : mg "all" = none) (QV : mg "len" = none) (QW : mg "isinstance" = none) (Rb : mg "list" = none) {t_MOST_TOLD : Tok} (c_MOST_TOLD : mg "MOST_TOLD" = some (.int 12 t_MOST_TOLD)) (hT : P.given.tree = none) :
 AF P w K mg base (CX2 P w) 36 f fd ["thing"] (Fj K a_NoPoints a_TooMany):=by
 refine F.okY CF (fun vs H Q E h=>?_) (fun cdv A outer s H vs Q E hr h=>?_)
 ·obtain ⟨_,rfl,_⟩:=h; rfl
 refine ⟨_,(BX (Av (K:=K) (PW.pt (CY (Bx (Bq (Af (Oa K) rfl QW Au (A7 (pv 0) (A7 (AV (A7 (BP (v:=.ty "list") rfl Rb Lp rfl) (A7 (BP (v:=.ty "tuple") rfl QX Bw rfl) A8))) A8))))) (Co (Ag BR (Af (BY K) rfl QV AJ (A7 (pv 0) A8)) Ab (Ak _))))) (Ae (Cg k_NoPoints rfl DH rfl (A7 Ah A8))) Am (by rfl) (by rfl))
  (BX (Av (K:=K) (Bx (Bq (Af (NS K rfl) rfl R3 IW (A7 (Cj rfl (N:=["each"]) (nt:=1) (js:=[]) (AQ.look (NX:=["thing","points"]) (sc:=Ac (top 23)) rfl rfl (by decide +kernel)) (piS K (pv 0)) (fun u1 u2 u3 u4 u5=>(AG (i:=0) (show List.Nodup (["each"] : List Str) from by decide +kernel) rfl (Or.inl rfl))) (AD (by decide)) (fun u1 u2 u3 u4 u5=>Bb) (fun u1 u2 u3 u4 u5=>(Ap Rv hr rfl (A7 (pv 0) A8)))) A8)))) (Ae (Cg k_NoPoints rfl DH rfl (A7 Ah A8))) Am (by rfl) (by rfl))
  (BX (Av (K:=K) (Bx (Bq (Ap Rt hr rfl (A7 (Cj rfl (N:=["point"]) (nt:=1) (js:=[]) (AQ.look (NX:=["thing","points"]) (sc:=Ac (top 23)) rfl rfl (by decide +kernel)) (piS K (pv 0)) (fun u1 u2 u3 u4 u5=>(AG (i:=0) (show List.Nodup (["point"] : List Str) from by decide +kernel) rfl (Or.inl rfl))) (AD (by decide)) (fun u1 u2 u3 u4 u5=>Bb) (fun u1 u2 u3 u4 u5=>(Aw (ixT K) (pv 0) Ab (fun u v=>rfl)))) A8)))) (Ae (Cg k_NoPoints rfl DH rfl (A7 Ah A8))) Am (by rfl) (by rfl))
  (BX (Aq (i:=1) CF.nd rfl (Or.inl rfl) (Ay (Dh K) rfl QX Bw (A7 (pv 0) A8)))
  (BX (Av (K:=K) (Ag Cy (Af (BY K) rfl QV AJ (A7 (Ap Ru hr rfl (A7 (pv 1) A8)) A8)) (AK (v:=.int 12) rfl c_MOST_TOLD ⟨_,rfl⟩) (Ak _)) (Ae (Cg k_TooMany rfl DH rfl (A7 Ah A8))) Am (by rfl) (by rfl))
  Ef))))),?_⟩
 obtain ⟨x,rfl,hx⟩:=h
 have P1 : 1 ≤ sizeLine:=by decide
 have P2 : 2 ≤ sizeLine:=by decide
 rcases hx with ⟨bad,qE⟩ | ⟨many,qE⟩
 ·cases bad with
  | no ty hk =>
    exact ⟨_,rfl,P2,fun tp htp=>⟨_,_,tp,[.ty "list",.ty "tuple"],[.type "list",.type "tuple"],false,rfl,TyP.same ty (Ad.new htp),A9,rfl,hk,_,rfl,AX rfl (Bv ⟨P1,qE _ (Ad.new htp)⟩)⟩⟩
  | @nil b r hS =>
    refine ⟨_,rfl,P2,fun tp htp=>?_⟩
    have s1 : Ad H (upd H tp (.tup [.ty "list",.ty "tuple"])):=Ad.new htp
    have hS1:=Sq.same hS s1
    refine ⟨_,if b then .type "list" else .type "tuple",tp,[.ty "list",.ty "tuple"],[.type "list",.type "tuple"],true,rfl,?_,A9,rfl,?_,_,rfl,AN rfl ?_⟩
    ·cases b
     ·exact .tup hS1
     ·exact .lst hS1
    ·cases b
     ·exact GJ K
     ·exact GK K
    generalize upd H tp (.tup [.ty "list",.ty "tuple"]) = H1 at s1 hS1 ⊢
    refine ⟨_,rfl,r,_,rfl,Sq.len hS1,rfl,_,rfl,?_⟩
    exact AX rfl ⟨P1,qE _ s1⟩
  | @pt b r xs bs hS hpb hb h17 =>
    have hne : xs.length ≠ 0:=fun z=>by
     have h0:=hpb.length
     rw [z] at h0
     have : bs = []:=Vh h0.symm
     rw [this] at hb
     cases hb
    refine ⟨_,rfl,P2,fun tp htp=>?_⟩
    have s1 : Ad H (upd H tp (.tup [.ty "list",.ty "tuple"])):=Ad.new htp
    have hS1:=Sq.same hS s1
    refine ⟨_,if b then .type "list" else .type "tuple",tp,[.ty "list",.ty "tuple"],[.type "list",.type "tuple"],true,rfl,?_,A9,rfl,?_,_,rfl,AN rfl ?_⟩
    ·cases b
     ·exact .tup hS1
     ·exact .lst hS1
    ·cases b
     ·exact GJ K
     ·exact GK K
    generalize upd H tp (.tup [.ty "list",.ty "tuple"]) = H1 at s1 hS1 ⊢
    refine ⟨_,rfl,r,_,rfl,Sq.len hS1,rfl,_,rfl,?_⟩
    refine AN (decide_eq_false (fun z=>by have:=V.int.inj z; lia)) ?_
    have hpb1:=Paired.mapP hpb fun _ _ z=>Pb.same z s1
    have hbl:=hpb.length
    refine EC (b:=b) (a:=r) (xs:=xs) rfl (fun i zs H'=>Ad H1 H' ∧ zs = (bs.take i).map V.bl) ⟨Ad.refl _,rfl⟩ (fun i zs H' hi p=>⟨Sq.same hS1 p.1,by rw [p.2,TC,Tp]; lia⟩) (SK (Br (by lia))) ?_ ?_
    ·rintro i x zs H' hx ⟨sm,rfl⟩
     obtain ⟨c,hc,hcn⟩:=Paired.get hpb1 hx
     refine ⟨_,rfl,x,c,rfl,Pb.same hcn sm,fun H2 s2=>⟨sm.trans s2,?_⟩⟩
     rw [UQ,hc,UK]
     rfl
    rintro zs H2 ⟨s2,rfl⟩ al hal
    have e2 : bs.take xs.length = bs:=by rw [hbl,UR]
    rw [e2]
    refine ⟨al,bs,rfl,SqL.of A9,_,rfl,?_⟩
    have s3:=s2.trans (Ad.new (o:=.lst (bs.map V.bl)) hal)
    generalize upd H2 al (.lst (bs.map V.bl)) = H3 at s3 ⊢
    exact AX (by rw [hb]; rfl) ⟨P1,qE _ (s1.trans s3)⟩
  | @twice b r xs pss hS hp h23 hnd h17 =>
    have hpb:=MH hp h23
    have hall:=Ha pss.length
    have hxl:=hp.length
    have hne : xs.length ≠ 0:=fun z=>hnd (by
     have : pss = []:=Vh (by lia)
     rw [this]
     exact List.Pairwise.nil)
    generalize Tj pss.length true = bs at hpb hall
    refine ⟨_,rfl,P2,fun tp htp=>?_⟩
    have s1 : Ad H (upd H tp (.tup [.ty "list",.ty "tuple"])):=Ad.new htp
    have hS1:=Sq.same hS s1
    refine ⟨_,if b then .type "list" else .type "tuple",tp,[.ty "list",.ty "tuple"],[.type "list",.type "tuple"],true,rfl,?_,A9,rfl,?_,_,rfl,AN rfl ?_⟩
    ·cases b
     ·exact .tup hS1
     ·exact .lst hS1
    ·cases b
     ·exact GJ K
     ·exact GK K
    generalize upd H tp (.tup [.ty "list",.ty "tuple"]) = H1 at s1 hS1 ⊢
    refine ⟨_,rfl,r,_,rfl,Sq.len hS1,rfl,_,rfl,?_⟩
    refine AN (decide_eq_false (fun z=>by have:=V.int.inj z; lia)) ?_
    have hpb1:=Paired.mapP hpb fun _ _ z=>Pb.same z s1
    have hbl:=hpb.length
    refine EC (b:=b) (a:=r) (xs:=xs) rfl (fun i zs H'=>Ad H1 H' ∧ zs = (bs.take i).map V.bl) ⟨Ad.refl _,rfl⟩ (fun i zs H' hi p=>⟨Sq.same hS1 p.1,by rw [p.2,TC,Tp]; lia⟩) (SK (Br (by lia))) ?_ ?_
    ·rintro i x zs H' hx ⟨sm,rfl⟩
     obtain ⟨c,hc,hcn⟩:=Paired.get hpb1 hx
     refine ⟨_,rfl,x,c,rfl,Pb.same hcn sm,fun H2 s2=>⟨sm.trans s2,?_⟩⟩
     rw [UQ,hc,UK]
     rfl
    rintro zs H2 ⟨s2,rfl⟩ al hal
    have e2 : bs.take xs.length = bs:=by rw [hbl,UR]
    rw [e2]
    refine ⟨al,bs,rfl,SqL.of A9,_,rfl,?_⟩
    have s3:=s2.trans (Ad.new (o:=.lst (bs.map V.bl)) hal)
    generalize upd H2 al (.lst (bs.map V.bl)) = H3 at s3 ⊢
    refine AN (by rw [hall]; rfl) ?_
    have hl:=hp.length
    have hS3:=Sq.same hS1 s3
    have hp3:=Bo.same hp (s1.trans s3)
    refine EC (b:=b) (a:=r) (xs:=xs) rfl (fun i zs H'=>H' = H3 ∧ zs.length = i ∧ AM H3 zs ((pss.take i).map fun ps=>ps.getD 0 0)) ⟨rfl,rfl,.nil⟩ (fun i zs H' _ p=>⟨by rw [p.1]; exact hS3,p.2.1⟩) (SK (Br (by lia))) ?_ ?_
    ·rintro i x zs H' hx ⟨rfl,hzl,hzs⟩
     obtain ⟨ps,hps,a,us,pp,rfl,hus,hun,hu0,hpp⟩:=Paired.get hp3 hx
     refine ⟨_,rfl,a,us,_,_,rfl,rfl,hus,As (j:=0) hu0,rfl,by simp [hzl],?_⟩
     rw [UQ,hps,UK]
     exact Paired.snoc hzs ⟨pp,rfl,hpp⟩
    rintro zs Hq ⟨hq,hzl,hzs⟩ pl hpl
    obtain rfl : H3 = Hq:=hq.symm
    rw [hl,UR] at hzs
    have s4 : Ad H3 (upd H3 pl (.lst zs)):=Ad.new hpl
    refine ⟨pl,zs,_,rfl,SqL.of A9,AM.same hzs s4,by rw [TC]; lia,fun H5 s5=>⟨_,rfl,?_⟩⟩
    have s15:=((s1.trans s3).trans s4).trans s5
    exact AX (by rw [decide_eq_false hnd]; rfl) ⟨P1,qE _ s15⟩
 ·obtain ⟨b,r,xs,pss,rfl,hS,hp,h23,h1,hnd,h12,h17⟩:=many
  have hpb:=MH hp h23
  have hall:=Ha pss.length
  have hxl:=hp.length
  have hne : xs.length ≠ 0:=by lia
  generalize Tj pss.length true = bs at hpb hall
  refine ⟨_,rfl,P2,fun tp htp=>?_⟩
  have s1 : Ad H (upd H tp (.tup [.ty "list",.ty "tuple"])):=Ad.new htp
  have hS1:=Sq.same hS s1
  refine ⟨_,if b then .type "list" else .type "tuple",tp,[.ty "list",.ty "tuple"],[.type "list",.type "tuple"],true,rfl,?_,A9,rfl,?_,_,rfl,AN rfl ?_⟩
  ·cases b
   ·exact .tup hS1
   ·exact .lst hS1
  ·cases b
   ·exact GJ K
   ·exact GK K
  generalize upd H tp (.tup [.ty "list",.ty "tuple"]) = H1 at s1 hS1 ⊢
  refine ⟨_,rfl,r,_,rfl,Sq.len hS1,rfl,_,rfl,?_⟩
  refine AN (decide_eq_false (fun z=>by have:=V.int.inj z; lia)) ?_
  have hpb1:=Paired.mapP hpb fun _ _ z=>Pb.same z s1
  have hbl:=hpb.length
  refine EC (b:=b) (a:=r) (xs:=xs) rfl (fun i zs H'=>Ad H1 H' ∧ zs = (bs.take i).map V.bl) ⟨Ad.refl _,rfl⟩ (fun i zs H' hi p=>⟨Sq.same hS1 p.1,by rw [p.2,TC,Tp]; lia⟩) (SK (Br (by lia))) ?_ ?_
  ·rintro i x zs H' hx ⟨sm,rfl⟩
   obtain ⟨c,hc,hcn⟩:=Paired.get hpb1 hx
   refine ⟨_,rfl,x,c,rfl,Pb.same hcn sm,fun H2 s2=>⟨sm.trans s2,?_⟩⟩
   rw [UQ,hc,UK]
   rfl
  rintro zs H2 ⟨s2,rfl⟩ al hal
  have e2 : bs.take xs.length = bs:=by rw [hbl,UR]
  rw [e2]
  refine ⟨al,bs,rfl,SqL.of A9,_,rfl,?_⟩
  have s3:=s2.trans (Ad.new (o:=.lst (bs.map V.bl)) hal)
  generalize upd H2 al (.lst (bs.map V.bl)) = H3 at s3 ⊢
  refine AN (by rw [hall]; rfl) ?_
  have hl:=hp.length
  have hS3:=Sq.same hS1 s3
  have hp3:=Bo.same hp (s1.trans s3)
  refine EC (b:=b) (a:=r) (xs:=xs) rfl (fun i zs H'=>H' = H3 ∧ zs.length = i ∧ AM H3 zs ((pss.take i).map fun ps=>ps.getD 0 0)) ⟨rfl,rfl,.nil⟩ (fun i zs H' _ p=>⟨by rw [p.1]; exact hS3,p.2.1⟩) (SK (Br (by lia))) ?_ ?_
  ·rintro i x zs H' hx ⟨rfl,hzl,hzs⟩
   obtain ⟨ps,hps,a,us,pp,rfl,hus,hun,hu0,hpp⟩:=Paired.get hp3 hx
   refine ⟨_,rfl,a,us,_,_,rfl,rfl,hus,As (j:=0) hu0,rfl,by simp [hzl],?_⟩
   rw [UQ,hps,UK]
   exact Paired.snoc hzs ⟨pp,rfl,hpp⟩
  rintro zs Hq ⟨hq,hzl,hzs⟩ pl hpl
  obtain rfl : H3 = Hq:=hq.symm
  rw [hl,UR] at hzs
  have s4 : Ad H3 (upd H3 pl (.lst zs)):=Ad.new hpl
  refine ⟨pl,zs,_,rfl,SqL.of A9,AM.same hzs s4,by rw [TC]; lia,fun H5 s5=>⟨_,rfl,?_⟩⟩
  have s15:=((s1.trans s3).trans s4).trans s5
  refine AN (by rw [decide_eq_true hnd]; rfl) ?_
  have hS5:=Sq.same hS s15
  have hp5:=Bo.same hp s15
  refine ⟨_,rfl,r,xs,rfl,?_⟩
  cases b
  ·refine .inr ⟨hS5,?_⟩
   refine ⟨_,rfl,r,xs,pss,rfl,hS5,hp5,h23,by lia,fun tl H7 tys s7 htl etl htls=>?_⟩
   have htyl:=htls.length
   exact ⟨tl,tys,rfl,.inl (SqL.of etl),_,_,rfl,rfl,_,rfl,AX (decide_eq_true (by lia)) ⟨P1,qE _ (s15.trans s7)⟩⟩
  ·refine .inl ⟨hS5,fun t ht=>?_⟩
   have sT : Ad H5 (upd H5 t (.tup xs)):=Ad.new ht
   refine ⟨_,rfl,t,xs,pss,rfl,SqT.of A9,Bo.same hp5 sT,h23,by lia,fun tl H7 tys s7 htl etl htls=>?_⟩
   have htyl:=htls.length
   exact ⟨tl,tys,rfl,.inl (SqL.of etl),_,_,rfl,rfl,_,rfl,AX (decide_eq_true (by lia)) ⟨P1,qE _ ((s15.trans sT).trans s7)⟩⟩
theorem AU : Ax ["text","most","points","part","point"] ["text","most"] (Ac (top 41)):=⟨rfl,rfl,rfl,by decide +kernel,rfl,by decide +kernel,by decide +kernel⟩
theorem ET {f : Addr} {fd : FuncData} (F : Fun K "read_points_of" "read_points_of" (top 41) f fd) (R6 : Fd P w K mg base 33 "check_text" ["text"] (DO)) (RI : Fd P w K mg base 36 "points_of" ["thing"] (Ec K)) (R7 : Fd P w K mg base 36 "numbers_in" ["parts","most"] (BB K)) (QX : mg "tuple" = none) (QV : mg "len" = none) (hT : P.given.tree = none) :
 AF P w K mg base CX0 37 f fd ["text","most"] (EH K):=by
 refine F.ok AU (fun vs H Q E h=>?_) (fun cdv A outer s H vs Q E hr h=>?_)
 ·obtain ⟨_,rfl,_⟩:=h; rfl
 refine ⟨_,(Aa (K:=K) (Bt (Ap R6 hr rfl (A7 (pv 0) A8)))
  (Aa (K:=K) (Aq (i:=2) AU.nd rfl (Or.inl rfl) (AY A8))
  (Aa (K:=K) (Dc (K:=K) PassesOwn.never rfl (piL K (AW K PySem.F.plainAttrs_str PySem.F.slot_str_split PySem.F.type_str_split BE (pv 0) (A7 Ah A8))) (AG (i:=3) AU.nd rfl (Or.inl rfl)) (Aa (K:=K) (Aq (i:=4) AU.nd rfl (Or.inl rfl) (Ay (Dh K) rfl QX Bw (A7 (Ap R7 hr rfl (A7 (AW K PySem.F.plainAttrs_str PySem.F.slot_str_split PySem.F.type_str_split BE (pv 3) (A7 Ah A8)) (A7 (pv 1) A8))) A8)))
  (Aa (K:=K) (Av (K:=K) (Ag (Kd K) (Af (BY K) rfl QV AJ (A7 (pv 4) A8)) (AV (A7 Ab (A7 Ab A8))) (by with_unfolding_all rfl)) (Ae Ci) Am (by rfl) (by rfl))
  (Ae (Bt (AW K PySem.F.plainAttrs_list PySem.F.slot_list_append PySem.F.type_list_append Cc (pv 2) (A7 (pv 4) A8)))) (by rfl)) (by rfl)) (by rfl))
  (Ae (Aj (Ap RI hr rfl (A7 (pv 2) A8)))) (by rfl)) (by rfl)) (by rfl)),?_⟩
 obtain ⟨pss,rfl,hne,h23,hf,hnd,h12,q⟩:=h
 have hs:=sizeLine_eq
 have P0 : 0 ≤ sizeLine:=by decide
 have P2 : 2 ≤ sizeLine:=by decide
 have hne' : pss ≠ []:=U8.mp hne
 have hge:=E9 h23
 have jl:=D8 (sep:=AZ) (by rw [Bh]; decide) (Ds hf h23)
 rw [TC] at jl
 refine ⟨_,rfl,_,rfl,?_⟩
 refine ⟨P0,fun pl hpl=>?_⟩
 have s0 : ∀ o,Ad H (upd H pl o):=fun o=>Ad.new hpl
 refine ⟨_,rfl,rfl,_,_,rfl,rfl,(by show (AZ.length == 0) = false; rw [Bh]; rfl),by show (Bc pss).length + 2 ≤ sizeLine; unfold Bc; lia,fun l hl=>?_⟩
 have es : Txt.split (Bc pss) (Str.ofString ", ") = pss.map ptx:=BJ hne'
 rw [es]
 have lp : l ≠ pl:=(Az A9 hl).symm
 have ep : upd (upd H pl (.lst [])) l (.lst ((pss.map ptx).map V.str)) pl = some (.lst []):=by rw [AA lp.symm]; exact A9
 have el : upd (upd H pl (.lst [])) l (.lst ((pss.map ptx).map V.str)) l = some (.lst ((pss.map ptx).map V.str)):=A9
 have s1 : Ad H (upd (upd H pl (.lst [])) l (.lst ((pss.map ptx).map V.str))):=(s0 _).trans (Ad.new hl)
 generalize upd (upd H pl (.lst [])) l (.lst ((pss.map ptx).map V.str)) = H1 at ep el s1 ⊢
 refine ⟨l,rfl,⟨_,SqL.of el⟩,E5 (xs:=(pss.map ptx).map V.str) (L5 H l pss pl K fun H l pss pl K i σ H'=>Ad H H' ∧ H' l = some (.lst ((pss.map ptx).map V.str)) ∧ ∃ (zs : List V) (z3 z4 : Option V),σ = [some (.str (Bc pss)),some (.int 60),some (.ref pl),z3,z4] ∧ H' pl = some (.lst zs) ∧ zs.length = i ∧ Bo K H' zs (pss.take i)) ⟨s1,el,[],none,none,rfl,ep,rfl,.nil⟩ (fun i σ H' _ h=>SqL.of h.2.1) ?_ ?_⟩
 ·rintro i v σ H2 hv hR1
  refine DK hR1 fun sm el2 hz48=>?_
  refine IS hz48 fun zs z3 z4 hz48'=>?_
  clear hz48
  refine E6 hz48' fun hq47 ez hzl hpt=>?_
  clear hz48'
  obtain rfl:=hq47
  try clear hR1
  rw [Tu,Tu] at hv
  obtain ⟨t,ht,rfl⟩:=(Va.mp hv)
  obtain ⟨ps,hps,rfl⟩:=(Va.mp ht)
  have hm:=Tx hps
  have hp23:=h23 ps hm
  have hpn : ps ≠ []:=fun z=>by rw [z] at hp23; simp at hp23
  have hpl3:=FZ (hf ps hm) (by rcases hp23 with z | z <;> lia)
  refine ⟨_,rfl,rfl,_,_,rfl,rfl,(by show (CD.length == 0) = false; rw [Cd]; rfl),by lia,fun lc hlc=>?_⟩
  have esc : Txt.split (ptx ps) (Str.ofString ":") = ps.map tx:=C9 hpn
  rw [esc]
  have s3 : Ad H2 (upd H2 lc (.lst ((ps.map tx).map V.str))):=Ad.new hlc
  refine ⟨_,rfl,lc,ps,rfl,SqL.of (by rw [show (ps.map fun x=>V.str (tx x)) = (ps.map tx).map V.str by rw [V1]; rfl]; exact A9),hf ps hm,by rcases hp23 with z | z <;> lia,fun pn us H4 m4 hpn' e4 hn=>?_⟩
  have hul:=hn.length
  refine ⟨pn,us,rfl,.inl ⟨SqL.of e4,fun tp htp=>?_⟩⟩
  have s5 : Ad H4 (upd H4 tp (.tup us)):=Ad.new htp
  have s25 : Ad H2 (upd H4 tp (.tup us)):=s3.trans (m4.trans s5)
  refine ⟨_,rfl,tp,us,rfl,.inr (SqT.of A9),P2,fun tt htt=>?_⟩
  have s6 : Ad (upd H4 tp (.tup us)) (upd (upd H4 tp (.tup us)) tt (.tup [.int 2,.int 3])):=Ad.new htt
  refine ⟨tt,_,rfl,.inr (SqT.of A9),rfl,rfl,_,rfl,?_⟩
  have hin : inV (V.int ((us.length : Nat) : Int)) [.int 2,.int 3] = true:=by
   rcases hp23 with z | z
   ·rw [hul,z]; rfl
   ·rw [hul,z]; rfl
  rw [hin]
  refine AR ?_
  have s26:=s25.trans s6
  have et : SqT K (upd (upd H4 tp (.tup us)) tt (.tup [.int 2,.int 3])) tp us:=SqT.of (s6 _ _ A9)
  have hn6:=AM.same hn (s5.trans s6)
  have ez6:=s26 _ _ ez
  have el6:=s26 _ _ el2
  have hpt6:=Bo.same hpt s26
  generalize upd (upd H4 tp (.tup us)) tt (.tup [.int 2,.int 3]) = H6 at s26 et hn6 ez6 el6 hpt6 ⊢
  refine ⟨_,rfl,.inl ⟨rfl,_,SqL.of ez6⟩,_,rfl,pl,zs,_,rfl,rfl,ez6,by rw [hzl]; have:=(SU.mp hps).1; lia,?_⟩
  have hpT : PtT K H6 (.ref tp) ps:=by
   cases hn6 with
   | nil=>exact absurd rfl hpn
   | cons a b =>
     obtain ⟨r,rfl,hr⟩:=a
     exact ⟨tp,_,r,rfl,et,Paired.cons (Be.of hr) (AM.nums b),rfl,hr⟩
  have hHp : H pl = none:=hpl
  refine ⟨?_,?_,zs ++ [.ref tp],_,_,rfl,A9,by simp [hzl],?_⟩
  ·exact Ad.put (sm.trans s26) hHp
  ·rw [AA lp]; exact el6
  ·rw [UQ,hps]
   exact Paired.snoc (Bo.put hpt6 ez6) (PtT.put hpT ez6)
 rintro σ H2 hR2
 refine DK hR2 fun sm el2 hz50=>?_
 refine IS hz50 fun zs z3 z4 hz50'=>?_
 clear hz50
 refine E6 hz50' fun hq49 ez hzl hpt=>?_
 clear hz50'
 obtain rfl:=hq49
 try clear hR2
 rw [TC,TC,UR] at *
 refine ⟨_,rfl,true,pl,zs,pss,rfl,SqL.of ez,hpt,h23,hne,hnd,h12,fun p H3 m3 hS3 _=>?_⟩
 exact q p zs H3 (sm.trans m3) hS3 (Bo.same hpt m3).pts
theorem EB {f : Addr} {fd : FuncData} (F : Fun K "read_points_of" "read_points_of" (top 41) f fd) {a_TooMany a_NoPoints a_NoText : Addr} (k_NoText : Hb K "NoText" a_NoText) (Y_check_text : FdY P w K mg base 33 "check_text" ["text"] (fun vs H Q E=>(DO : Sp) vs H Q E ∨ (DR K a_NoText : Sp) vs H Q E)) (Y_numbers_in : FdY P w K mg base 36 "numbers_in" ["parts","most"] (fun vs H Q E=>(BB K : Sp) vs H Q E ∨ (Cb K a_NoText : Sp) vs H Q E)) (Y_points_of : FdY P w K mg base 36 "points_of" ["thing"] (fun vs H Q E=>(Ec K : Sp) vs H Q E ∨ (Fj K a_NoPoints a_TooMany : Sp) vs H Q E)) (R6 : Fd P w K mg base 33 "check_text" ["text"] (DO)) (RI : Fd P w K mg base 36 "points_of" ["thing"] (Ec K)) (R7 : Fd P w K mg base 36 "numbers_in" ["parts","most"] (BB K)) (QX : mg "tuple" = none) (QV : mg "len" = none) (hT : P.given.tree = none) :
 AF P w K mg base (CX2 P w) 37 f fd ["text","most"] (Jf K (IU a_TooMany a_NoPoints a_NoText)):=by
 refine F.okY AU (fun vs H Q E h=>?_) (fun cdv A outer s H vs Q E hr h=>?_)
 ·obtain ⟨_,_,rfl,_⟩:=h; rfl
 refine ⟨_,(Aa (K:=K) (Bt (DZ Y_check_text hr rfl FH (A7 (pv 0) A8)))
  (Aa (K:=K) (Aq (i:=2) AU.nd rfl (Or.inl rfl) (AY A8))
  (Aa (K:=K) (Dc (K:=K) PassesOwn.leaving rfl (piL K (AW K PySem.F.plainAttrs_str PySem.F.slot_str_split PySem.F.type_str_split BE (pv 0) (A7 Ah A8))) (AG (i:=3) AU.nd rfl (Or.inl rfl)) (Aa (K:=K) (Aq (i:=4) AU.nd rfl (Or.inl rfl) (Ay (Dh K) rfl QX Bw (A7 (DZ Y_numbers_in hr rfl FH (A7 (AW K PySem.F.plainAttrs_str PySem.F.slot_str_split PySem.F.type_str_split BE (pv 3) (A7 Ah A8)) (A7 (pv 1) A8))) A8)))
  (Aa (K:=K) (Av (K:=K) (Ag (Kd K) (Af (BY K) rfl QV AJ (A7 (pv 4) A8)) (AV (A7 Ab (A7 Ab A8))) (by with_unfolding_all rfl)) (Ae (Cg k_NoText rfl DH rfl (A7 Ah A8))) Am (by rfl) (by rfl))
  (Ae (Bt (AW K PySem.F.plainAttrs_list PySem.F.slot_list_append PySem.F.type_list_append Cc (pv 2) (A7 (pv 4) A8)))) (by rfl)) (by rfl)) (by rfl))
  (Ae (Aj (DZ Y_points_of hr rfl FH (A7 (pv 2) A8)))) (by rfl)) (by rfl)) (by rfl)),?_⟩
 obtain ⟨x,n,rfl,hx,q⟩:=h
 have hs:=sizeLine_eq
 cases hx with
 | no hn=>exact ⟨_,rfl,.inr ⟨x,rfl,hn,q⟩⟩
 | @bad t hT hb =>
   have P0 : 0 ≤ sizeLine:=by decide
   have P1 : 1 ≤ sizeLine:=by decide
   have P2 : 2 ≤ sizeLine:=by decide
   have hTl:=hT.2
   refine ⟨_,rfl,.inl ⟨_,rfl,?_⟩⟩
   refine ⟨P0,fun pl hpl=>?_⟩
   have s0 : ∀ o,Ad H (upd H pl o):=fun o=>Ad.new hpl
   refine ⟨_,rfl,rfl,_,_,rfl,rfl,(by show (AZ.length == 0) = false; rw [Bh]; rfl),by lia,fun l hl=>?_⟩
   have hgT:=Cs (sep:=Str.ofString ", ") hT
   have hpl':=PyProof.Rows.split_le t (Str.ofString ", ")
   have hgb:=JI hb
   generalize Txt.split t (Str.ofString ", ") = ps at hgT hpl' hgb ⊢
   have lp : l ≠ pl:=(Az A9 hl).symm
   have ep : upd (upd H pl (.lst [])) l (.lst (ps.map V.str)) pl = some (.lst []):=by rw [AA lp.symm]; exact A9
   have el : upd (upd H pl (.lst [])) l (.lst (ps.map V.str)) l = some (.lst (ps.map V.str)):=A9
   have s1 : Ad H (upd (upd H pl (.lst [])) l (.lst (ps.map V.str))):=(s0 _).trans (Ad.new hl)
   generalize upd (upd H pl (.lst [])) l (.lst (ps.map V.str)) = H1 at ep el s1 ⊢
   refine ⟨l,rfl,⟨_,SqL.of el⟩,E5 (xs:=ps.map V.str) (fun i σ H'=>Ad H H' ∧ H' l = some (.lst (ps.map V.str)) ∧ (∀ j p,j < i → ps[j]? = some p → E7 p) ∧ ∃ (zs : List V) (z3 z4 : Option V),σ = [some (.str t),some (.int 60),some (.ref pl),z3,z4] ∧ H' pl = some (.lst zs) ∧ zs.length = i) ⟨s1,el,(fun j p hj=>absurd hj (UT _)),[],none,none,rfl,ep,rfl⟩ (fun i σ H' _ h=>SqL.of h.2.1) ?_ ?_⟩
   ·rintro i v σ H2 hv ⟨sm,el2,hg,zs,z3,z4,rfl,ez,hzl⟩
    rw [Tu] at hv
    obtain ⟨p,hp,rfl⟩:=Va.mp hv
    have hpT:=hgT p (Tx hp)
    have hpTl:=hpT.2
    refine ⟨_,rfl,rfl,_,_,rfl,rfl,(by show (CD.length == 0) = false; rw [Cd]; rfl),by lia,fun lc hlc=>?_⟩
    have hwT:=Cs (sep:=Str.ofString ":") hpT
    have hwl:=PyProof.Rows.split_le p (Str.ofString ":")
    have hgp : (∀ w ∈ Txt.split p (Str.ofString ":"),ni w ≠ none) ∧ ((Txt.split p (Str.ofString ":")).length = 2 ∨ (Txt.split p (Str.ofString ":")).length = 3) → E7 p:=id
    generalize Txt.split p (Str.ofString ":") = ws at hwT hwl hgp ⊢
    have s3 : Ad H2 (upd H2 lc (.lst (ws.map V.str))):=Ad.new hlc
    by_cases hall : ∀ w ∈ ws,ni w ≠ none
    ·obtain ⟨qs,rfl,hf⟩:=CO hall
     rw [TC] at hwl hgp
     refine ⟨_,rfl,.inl ⟨lc,qs,rfl,SqL.of (by rw [show (qs.map fun x=>V.str (tx x)) = (qs.map tx).map V.str by rw [V1]; rfl]; exact A9),hf,by lia,fun pn us H4 m4 hpn' e4 hn=>?_⟩⟩
     have hul:=hn.length
     refine ⟨pn,us,rfl,.inl ⟨SqL.of e4,fun tp htp=>?_⟩⟩
     have s5 : Ad H4 (upd H4 tp (.tup us)):=Ad.new htp
     have s25 : Ad H2 (upd H4 tp (.tup us)):=s3.trans (m4.trans s5)
     refine ⟨_,rfl,tp,us,rfl,.inr (SqT.of A9),P2,fun tt htt=>?_⟩
     have s26:=s25.trans (Ad.new (o:=.tup [.int 2,.int 3]) htt)
     refine ⟨tt,_,rfl,.inr (SqT.of A9),rfl,rfl,_,rfl,?_⟩
     by_cases h23 : us.length = 2 ∨ us.length = 3
     ·rw [show inV (V.int ((us.length : Nat) : Int)) [.int 2,.int 3] = true by rcases h23 with z | z <;> rw [z] <;> rfl]
      refine AR ?_
      have ez6:=s26 _ _ ez
      refine ⟨_,rfl,.inl ⟨rfl,_,SqL.of ez6⟩,_,rfl,pl,zs,_,rfl,rfl,ez6,by rw [hzl]; have:=(SU.mp hp).1; lia,?_⟩
      refine ⟨Ad.put (sm.trans s26) hpl,by rw [AA lp]; exact s26 _ _ el2,fun j p' hj hp'=>?_,zs ++ [.ref tp],_,_,rfl,A9,by simp [hzl]⟩
      rcases US j i with z | z
      ·exact hg j p' z hp'
      ·obtain rfl : j = i:=by lia
       rw [hp] at hp'
       cases hp'
       exact hgp ⟨hall,by rw [← hul]; exact h23⟩
     ·rw [QO h23]
      exact Bv ⟨P1,q _ (sm.trans s26)⟩
    ·have hex : ∃ w ∈ ws,ni w = none:=Classical.byContradiction fun z=>hall fun w hw e=>z ⟨w,hw,e⟩
     exact ⟨_,rfl,.inr ⟨lc,ws,rfl,SqL.of A9,hwT,by lia,hex,fun H' s=>q H' (sm.trans (s3.trans s))⟩⟩
   ·rintro σ H2 ⟨sm,el2,hg,zs,z3,z4,rfl,ez,hzl⟩
    rw [TC] at hg
    exact (hgb fun p hp=>by
     obtain ⟨j,hj,e⟩:=List.mem_iff_getElem.mp hp
     exact hg j p hj (by rw [Uo hj,e])).elim
 | @twice pss hne h17 h23 hf hnd =>
   have P0 : 0 ≤ sizeLine:=by decide
   have P2 : 2 ≤ sizeLine:=by decide
   have hne' : pss ≠ []:=U8.mp hne
   have jl:=D8 (sep:=AZ) (by rw [Bh]; decide) (Ds hf h23)
   rw [TC] at jl
   refine ⟨_,rfl,.inl ⟨_,rfl,?_⟩⟩
   refine ⟨P0,fun pl hpl=>?_⟩
   have s0 : ∀ o,Ad H (upd H pl o):=fun o=>Ad.new hpl
   refine ⟨_,rfl,rfl,_,_,rfl,rfl,(by show (AZ.length == 0) = false; rw [Bh]; rfl),by show (Bc pss).length + 2 ≤ sizeLine; unfold Bc; lia,fun l hl=>?_⟩
   have es : Txt.split (Bc pss) (Str.ofString ", ") = pss.map ptx:=BJ hne'
   rw [es]
   have lp : l ≠ pl:=(Az A9 hl).symm
   have ep : upd (upd H pl (.lst [])) l (.lst ((pss.map ptx).map V.str)) pl = some (.lst []):=by rw [AA lp.symm]; exact A9
   have el : upd (upd H pl (.lst [])) l (.lst ((pss.map ptx).map V.str)) l = some (.lst ((pss.map ptx).map V.str)):=A9
   have s1 : Ad H (upd (upd H pl (.lst [])) l (.lst ((pss.map ptx).map V.str))):=(s0 _).trans (Ad.new hl)
   generalize upd (upd H pl (.lst [])) l (.lst ((pss.map ptx).map V.str)) = H1 at ep el s1 ⊢
   refine ⟨l,rfl,⟨_,SqL.of el⟩,E5 (xs:=(pss.map ptx).map V.str) (fun i σ H'=>Ad H H' ∧ H' l = some (.lst ((pss.map ptx).map V.str)) ∧ ∃ (zs : List V) (z3 z4 : Option V),σ = [some (.str (Bc pss)),some (.int 60),some (.ref pl),z3,z4] ∧ H' pl = some (.lst zs) ∧ zs.length = i ∧ Bo K H' zs (pss.take i)) ⟨s1,el,[],none,none,rfl,ep,rfl,.nil⟩ (fun i σ H' _ h=>SqL.of h.2.1) ?_ ?_⟩
   ·rintro i v σ H2 hv ⟨sm,el2,zs,z3,z4,rfl,ez,hzl,hpt⟩
    rw [Tu,Tu] at hv
    obtain ⟨t,ht,rfl⟩:=Va.mp hv
    obtain ⟨ps,hps,rfl⟩:=Va.mp ht
    have hm:=Tx hps
    have hp23:=h23 ps hm
    have hpn : ps ≠ []:=fun z=>by rw [z] at hp23; simp at hp23
    have hpl3:=FZ (hf ps hm) (by rcases hp23 with z | z <;> lia)
    refine ⟨_,rfl,rfl,_,_,rfl,rfl,(by show (CD.length == 0) = false; rw [Cd]; rfl),by lia,fun lc hlc=>?_⟩
    have esc : Txt.split (ptx ps) (Str.ofString ":") = ps.map tx:=C9 hpn
    rw [esc]
    have s3 : Ad H2 (upd H2 lc (.lst ((ps.map tx).map V.str))):=Ad.new hlc
    refine ⟨_,rfl,.inl ⟨lc,ps,rfl,SqL.of (by rw [show (ps.map fun x=>V.str (tx x)) = (ps.map tx).map V.str by rw [V1]; rfl]; exact A9),hf ps hm,by rcases hp23 with z | z <;> lia,fun pn us H4 m4 hpn' e4 hn=>?_⟩⟩
    have hul:=hn.length
    refine ⟨pn,us,rfl,.inl ⟨SqL.of e4,fun tp htp=>?_⟩⟩
    have s5 : Ad H4 (upd H4 tp (.tup us)):=Ad.new htp
    have s25 : Ad H2 (upd H4 tp (.tup us)):=s3.trans (m4.trans s5)
    refine ⟨_,rfl,tp,us,rfl,.inr (SqT.of A9),P2,fun tt htt=>?_⟩
    have s6 : Ad (upd H4 tp (.tup us)) (upd (upd H4 tp (.tup us)) tt (.tup [.int 2,.int 3])):=Ad.new htt
    refine ⟨tt,_,rfl,.inr (SqT.of A9),rfl,rfl,_,rfl,?_⟩
    have hin : inV (V.int ((us.length : Nat) : Int)) [.int 2,.int 3] = true:=by
     rcases hp23 with z | z
     ·rw [hul,z]; rfl
     ·rw [hul,z]; rfl
    rw [hin]
    refine AR ?_
    have s26:=s25.trans s6
    have et : SqT K (upd (upd H4 tp (.tup us)) tt (.tup [.int 2,.int 3])) tp us:=SqT.of (s6 _ _ A9)
    have hn6:=AM.same hn (s5.trans s6)
    have ez6:=s26 _ _ ez
    have el6:=s26 _ _ el2
    have hpt6:=Bo.same hpt s26
    generalize upd (upd H4 tp (.tup us)) tt (.tup [.int 2,.int 3]) = H6 at s26 et hn6 ez6 el6 hpt6 ⊢
    refine ⟨_,rfl,.inl ⟨rfl,_,SqL.of ez6⟩,_,rfl,pl,zs,_,rfl,rfl,ez6,by rw [hzl]; have:=(SU.mp hps).1; lia,?_⟩
    have hpT : PtT K H6 (.ref tp) ps:=by
     cases hn6 with
     | nil=>exact absurd rfl hpn
     | cons a b =>
       obtain ⟨r,rfl,hr⟩:=a
       exact ⟨tp,_,r,rfl,et,Paired.cons (Be.of hr) (AM.nums b),rfl,hr⟩
    have hHp : H pl = none:=hpl
    refine ⟨?_,?_,zs ++ [.ref tp],_,_,rfl,A9,by simp [hzl],?_⟩
    ·exact Ad.put (sm.trans s26) hHp
    ·rw [AA lp]; exact el6
    ·rw [UQ,hps]
     exact Paired.snoc (Bo.put hpt6 ez6) (PtT.put hpT ez6)
   rintro σ H2 ⟨sm,el2,zs,z3,z4,rfl,ez,hzl,hpt⟩
   rw [TC,TC,UR] at *
   exact ⟨_,rfl,.inr ⟨_,rfl,.inl ⟨.twice (b:=true) (SqL.of ez) hpt h23 hnd h17,fun H' s=>q H' (sm.trans s)⟩⟩⟩
 | @many pss hne h17 h23 hf hnd ht =>
   have P0 : 0 ≤ sizeLine:=by decide
   have P2 : 2 ≤ sizeLine:=by decide
   have hne' : pss ≠ []:=U8.mp hne
   have jl:=D8 (sep:=AZ) (by rw [Bh]; decide) (Ds hf h23)
   rw [TC] at jl
   refine ⟨_,rfl,.inl ⟨_,rfl,?_⟩⟩
   refine ⟨P0,fun pl hpl=>?_⟩
   have s0 : ∀ o,Ad H (upd H pl o):=fun o=>Ad.new hpl
   refine ⟨_,rfl,rfl,_,_,rfl,rfl,(by show (AZ.length == 0) = false; rw [Bh]; rfl),by show (Bc pss).length + 2 ≤ sizeLine; unfold Bc; lia,fun l hl=>?_⟩
   have es : Txt.split (Bc pss) (Str.ofString ", ") = pss.map ptx:=BJ hne'
   rw [es]
   have lp : l ≠ pl:=(Az A9 hl).symm
   have ep : upd (upd H pl (.lst [])) l (.lst ((pss.map ptx).map V.str)) pl = some (.lst []):=by rw [AA lp.symm]; exact A9
   have el : upd (upd H pl (.lst [])) l (.lst ((pss.map ptx).map V.str)) l = some (.lst ((pss.map ptx).map V.str)):=A9
   have s1 : Ad H (upd (upd H pl (.lst [])) l (.lst ((pss.map ptx).map V.str))):=(s0 _).trans (Ad.new hl)
   generalize upd (upd H pl (.lst [])) l (.lst ((pss.map ptx).map V.str)) = H1 at ep el s1 ⊢
   refine ⟨l,rfl,⟨_,SqL.of el⟩,E5 (xs:=(pss.map ptx).map V.str) (fun i σ H'=>Ad H H' ∧ H' l = some (.lst ((pss.map ptx).map V.str)) ∧ ∃ (zs : List V) (z3 z4 : Option V),σ = [some (.str (Bc pss)),some (.int 60),some (.ref pl),z3,z4] ∧ H' pl = some (.lst zs) ∧ zs.length = i ∧ Bo K H' zs (pss.take i)) ⟨s1,el,[],none,none,rfl,ep,rfl,.nil⟩ (fun i σ H' _ h=>SqL.of h.2.1) ?_ ?_⟩
   ·rintro i v σ H2 hv ⟨sm,el2,zs,z3,z4,rfl,ez,hzl,hpt⟩
    rw [Tu,Tu] at hv
    obtain ⟨t,ht,rfl⟩:=Va.mp hv
    obtain ⟨ps,hps,rfl⟩:=Va.mp ht
    have hm:=Tx hps
    have hp23:=h23 ps hm
    have hpn : ps ≠ []:=fun z=>by rw [z] at hp23; simp at hp23
    have hpl3:=FZ (hf ps hm) (by rcases hp23 with z | z <;> lia)
    refine ⟨_,rfl,rfl,_,_,rfl,rfl,(by show (CD.length == 0) = false; rw [Cd]; rfl),by lia,fun lc hlc=>?_⟩
    have esc : Txt.split (ptx ps) (Str.ofString ":") = ps.map tx:=C9 hpn
    rw [esc]
    have s3 : Ad H2 (upd H2 lc (.lst ((ps.map tx).map V.str))):=Ad.new hlc
    refine ⟨_,rfl,.inl ⟨lc,ps,rfl,SqL.of (by rw [show (ps.map fun x=>V.str (tx x)) = (ps.map tx).map V.str by rw [V1]; rfl]; exact A9),hf ps hm,by rcases hp23 with z | z <;> lia,fun pn us H4 m4 hpn' e4 hn=>?_⟩⟩
    have hul:=hn.length
    refine ⟨pn,us,rfl,.inl ⟨SqL.of e4,fun tp htp=>?_⟩⟩
    have s5 : Ad H4 (upd H4 tp (.tup us)):=Ad.new htp
    have s25 : Ad H2 (upd H4 tp (.tup us)):=s3.trans (m4.trans s5)
    refine ⟨_,rfl,tp,us,rfl,.inr (SqT.of A9),P2,fun tt htt=>?_⟩
    have s6 : Ad (upd H4 tp (.tup us)) (upd (upd H4 tp (.tup us)) tt (.tup [.int 2,.int 3])):=Ad.new htt
    refine ⟨tt,_,rfl,.inr (SqT.of A9),rfl,rfl,_,rfl,?_⟩
    have hin : inV (V.int ((us.length : Nat) : Int)) [.int 2,.int 3] = true:=by
     rcases hp23 with z | z
     ·rw [hul,z]; rfl
     ·rw [hul,z]; rfl
    rw [hin]
    refine AR ?_
    have s26:=s25.trans s6
    have et : SqT K (upd (upd H4 tp (.tup us)) tt (.tup [.int 2,.int 3])) tp us:=SqT.of (s6 _ _ A9)
    have hn6:=AM.same hn (s5.trans s6)
    have ez6:=s26 _ _ ez
    have el6:=s26 _ _ el2
    have hpt6:=Bo.same hpt s26
    generalize upd (upd H4 tp (.tup us)) tt (.tup [.int 2,.int 3]) = H6 at s26 et hn6 ez6 el6 hpt6 ⊢
    refine ⟨_,rfl,.inl ⟨rfl,_,SqL.of ez6⟩,_,rfl,pl,zs,_,rfl,rfl,ez6,by rw [hzl]; have:=(SU.mp hps).1; lia,?_⟩
    have hpT : PtT K H6 (.ref tp) ps:=by
     cases hn6 with
     | nil=>exact absurd rfl hpn
     | cons a b =>
       obtain ⟨r,rfl,hr⟩:=a
       exact ⟨tp,_,r,rfl,et,Paired.cons (Be.of hr) (AM.nums b),rfl,hr⟩
    have hHp : H pl = none:=hpl
    refine ⟨?_,?_,zs ++ [.ref tp],_,_,rfl,A9,by simp [hzl],?_⟩
    ·exact Ad.put (sm.trans s26) hHp
    ·rw [AA lp]; exact el6
    ·rw [UQ,hps]
     exact Paired.snoc (Bo.put hpt6 ez6) (PtT.put hpT ez6)
   rintro σ H2 ⟨sm,el2,zs,z3,z4,rfl,ez,hzl,hpt⟩
   rw [TC,TC,UR] at *
   exact ⟨_,rfl,.inr ⟨_,rfl,.inr ⟨⟨true,pl,zs,pss,rfl,SqL.of ez,hpt,h23,hne,hnd,ht,h17⟩,fun H' s=>q H' (sm.trans s)⟩⟩⟩
theorem DT : Ax ["text"] ["text"] (Ac (top 42)):=⟨rfl,rfl,rfl,by decide +kernel,rfl,by decide +kernel,by decide +kernel⟩
theorem E2 {f : Addr} {fd : FuncData} (F : Fun K "read_points" "read_points" (top 42) f fd) (RJ : Fd P w K mg base 37 "read_points_of" ["text","most"] (EH K)) {t_MOST_FIGURES : Tok} (c_MOST_FIGURES : mg "MOST_FIGURES" = some (.int 60 t_MOST_FIGURES)) (hT : P.given.tree = none) :
 AF P w K mg base CX0 38 f fd ["text"] (EI K):=by
 refine F.ok DT (fun vs H Q E h=>?_) (fun cdv A outer s H vs Q E hr h=>?_)
 ·obtain ⟨_,rfl,_⟩:=h; rfl
 refine ⟨_,(Ae (Aj (Ap RJ hr rfl (A7 (pv 0) (A7 (AK (v:=.int 60) rfl c_MOST_FIGURES ⟨_,rfl⟩) A8))))),?_⟩
 obtain ⟨pss,rfl,h1,h2,h3,h4,h5,h6⟩:=h
 exact ⟨_,rfl,pss,rfl,h1,h2,h3,h4,h5,h6⟩
theorem FQ {f : Addr} {fd : FuncData} (F : Fun K "read_points" "read_points" (top 42) f fd) {a_TooMany a_NoPoints a_NoText : Addr} (X_read_points_of : FdY P w K mg base 37 "read_points_of" ["text","most"] (Jf K (IU a_TooMany a_NoPoints a_NoText))) (RJ : Fd P w K mg base 37 "read_points_of" ["text","most"] (EH K)) {t_MOST_FIGURES : Tok} (c_MOST_FIGURES : mg "MOST_FIGURES" = some (.int 60 t_MOST_FIGURES)) (hT : P.given.tree = none) :
 AF P w K mg base (CX2 P w) 38 f fd ["text"] (Dq K (IU a_TooMany a_NoPoints a_NoText)):=by
 refine F.okY DT (fun vs H Q E h=>?_) (fun cdv A outer s H vs Q E hr h=>?_)
 ·obtain ⟨_,_,rfl,_⟩:=h; rfl
 refine ⟨_,(BX (Aj (DZ X_read_points_of hr rfl FH (A7 (pv 0) (A7 (AK (v:=.int 60) rfl c_MOST_FIGURES ⟨_,rfl⟩) A8))))
  Ef),?_⟩
 obtain ⟨x,n,rfl,hx,q⟩:=h
 exact ⟨_,rfl,x,n,rfl,hx,q⟩
theorem CB : Ax ["_law_way","_law_text_here","_law_found","e"] ["_law_way","_law_text_here"] (Ac (top 59)):=⟨rfl,rfl,rfl,by decide +kernel,rfl,by decide +kernel,by decide +kernel⟩
theorem FU {f : Addr} {fd : FuncData} (F : Fun K "_law_told_of" "_law_told_of" (top 59) f fd) {a_CurveError a_TooMany a_NoPoints a_NoPoint a_NoNumber a_NoCurve a_NoStretch a_TooDeep a_TooFew a_NoText a_NoRow : Addr} (c_CurveError : mg "CurveError" = some (.ref a_CurveError)) (xm_TooMany : UO K (.ref a_TooMany) (.ref a_CurveError) = some true) (xr_TooMany : Kx K a_TooMany [a_TooMany,a_NoPoints,a_NoPoint,a_NoNumber,a_NoCurve,a_NoStretch,a_TooDeep,a_TooFew,a_NoText,a_NoRow] 0) (xm_NoPoints : UO K (.ref a_NoPoints) (.ref a_CurveError) = some true) (xr_NoPoints : Kx K a_NoPoints [a_TooMany,a_NoPoints,a_NoPoint,a_NoNumber,a_NoCurve,a_NoStretch,a_TooDeep,a_TooFew,a_NoText,a_NoRow] 1) (xm_NoText : UO K (.ref a_NoText) (.ref a_CurveError) = some true) (xr_NoText : Kx K a_NoText [a_TooMany,a_NoPoints,a_NoPoint,a_NoNumber,a_NoCurve,a_NoStretch,a_TooDeep,a_TooFew,a_NoText,a_NoRow] 8) (H__law_refusal : FdH P w K mg base 33 "_law_refusal" "_law_caught" (K7 K [a_TooMany,a_NoPoints,a_NoPoint,a_NoNumber,a_NoCurve,a_NoStretch,a_TooDeep,a_TooFew,a_NoText,a_NoRow])) (Y_read_number : FdY P w K mg base 37 "read_number" ["text"] (fun vs H Q E=>(Gg K : Sp) vs H Q E ∨ (Eb K a_NoText : Sp) vs H Q E)) (Y_read_curve : FdY P w K mg base 37 "read_curve" ["text"] (fun vs H Q E=>(EJ K : Sp) vs H Q E ∨ (Dr K a_NoText : Sp) vs H Q E)) (Y_read_points : FdY P w K mg base 38 "read_points" ["text"] (fun vs H Q E=>(EI K : Sp) vs H Q E ∨ (Dq K (IU a_TooMany a_NoPoints a_NoText) : Sp) vs H Q E)) (F_read_number : Fd P w K mg base 37 "read_number" ["text"] (Gg K)) (F_read_curve : Fd P w K mg base 37 "read_curve" ["text"] (EJ K)) (F_read_points : Fd P w K mg base 38 "read_points" ["text"] (EI K)) (hT : P.given.tree = none) {f_read_number : Addr} (m_read_number : mg "read_number" = some (.ref f_read_number)) {f_read_curve : Addr} (m_read_curve : mg "read_curve" = some (.ref f_read_curve)) {f_read_points : Addr} (m_read_points : mg "read_points" = some (.ref f_read_points)) :
 AF P w K mg base CX0 39 f fd ["_law_way","_law_text_here"] (K6 K):=by
 refine F.ok CB (fun vs H Q E h=>?_) (fun cdv A outer s H vs Q E hr h=>?_)
 ·obtain ⟨_,_,rfl,_⟩:=h; rfl
 refine ⟨_,(Aa (K:=K) (Nn (Nr P w K mg base (n:=38) (hr.mono (by decide)) (Aw (ixL K) (AY (A7 (AK (v:=.ref f_read_number) rfl m_read_number rfl) (A7 (AK (v:=.ref f_read_curve) rfl m_read_curve rfl) (A7 (AK (v:=.ref f_read_points) rfl m_read_points rfl) A8)))) (pv 0) (fun u v=>rfl)) (A7 (pv 1) A8) CB.nd (j:=2) rfl (Or.inl rfl)) H__law_refusal hr rfl rfl c_CurveError CB.nd (i:=3) rfl rfl (j:=2) rfl rfl rfl rfl)
  (Ae (Aj (pv 2))) (by rfl)),?_⟩
 obtain ⟨way,x,rfl,hw,hc⟩:=h
 have P3 : 3 ≤ sizeLine:=by decide
 have hw' : way = 0 ∨ way = 1 ∨ way = 2:=by lia
 rcases hw' with rfl | rfl | rfl
 ·refine FW Y_read_number.ex fun f fd hz51'=>?_
  refine E6 hz51' fun FO B kp m=>?_
  clear hz51'
  cases m_read_number.symm.trans m
  refine ⟨P3,fun l hl=>⟨_,rfl,l,_,_,_,rfl,rfl,SqL.of A9,As (j:=0) rfl,_,fd,rfl,kp,_,rfl,_,_,AF.up FO (by decide),B,?_⟩⟩
  have s0:=Ad.new (o:=.lst [.ref f_read_number,.ref f_read_curve,.ref f_read_points]) hl
  rcases hc with ⟨t,res,rfl,hT,hr',q⟩ | ⟨hn,q⟩
  ·cases hr' with
   | num h=>exact .inl ⟨_,rfl,h,fun z H1 s1 hz=>⟨_,rfl,q z H1 (s0.trans s1) hz⟩⟩
   | num0 h=>exact .inr ⟨_,rfl,.inr ⟨t,rfl,hT,h⟩,fun H1 s1=>⟨xm_NoText,fun ea he=>⟨a_NoText,8,"text",rfl,xr_NoText,rfl,fun H' s=>⟨_,rfl,q _ _ ((s0.trans s1).trans s) rfl⟩⟩⟩⟩
  ·exact .inr ⟨_,rfl,.inl (hn.same s0),fun H1 s1=>⟨xm_NoText,fun ea he=>⟨a_NoText,8,"text",rfl,xr_NoText,rfl,fun H' s=>⟨_,rfl,q _ ((s0.trans s1).trans s)⟩⟩⟩⟩
 ·refine FW Y_read_curve.ex fun f fd hz52'=>?_
  refine E6 hz52' fun FO B kp m=>?_
  clear hz52'
  cases m_read_curve.symm.trans m
  refine ⟨P3,fun l hl=>⟨_,rfl,l,_,_,_,rfl,rfl,SqL.of A9,As (j:=1) rfl,_,fd,rfl,kp,_,rfl,_,_,AF.up FO (by decide),B,?_⟩⟩
  have s0:=Ad.new (o:=.lst [.ref f_read_number,.ref f_read_curve,.ref f_read_points]) hl
  rcases hc with ⟨t,res,rfl,hT,hr',q⟩ | ⟨hn,q⟩
  ·cases hr' with
   | crv0=>exact .inl ⟨[0],(by rw [← Dy]),V8 _ _,by decide,fun q hq=>by rw [Ul.mp hq]; exact ⟨by decide,by decide⟩,fun z=>absurd z (by decide),fun p H1 s1 hp=>⟨_,rfl,q _ H1 (s0.trans s1) ⟨p,rfl,hp⟩⟩⟩
   | crv hf hn h16 hl h0=>exact .inl ⟨_,rfl,hn,h16,hf,fun _=>⟨_,hl,h0⟩,fun p H1 s1 hp=>⟨_,rfl,q _ H1 (s0.trans s1) ⟨p,rfl,by rw [K2 (.inr ⟨_,hl,h0⟩)] at hp; exact hp⟩⟩⟩
   | crvX h=>exact .inr ⟨_,rfl,.inr ⟨t,rfl,hT,h⟩,fun H1 s1=>⟨xm_NoText,fun ea he=>⟨a_NoText,8,"text",rfl,xr_NoText,rfl,fun H' s=>⟨_,rfl,q _ _ ((s0.trans s1).trans s) rfl⟩⟩⟩⟩
  ·exact .inr ⟨_,rfl,.inl (hn.same s0),fun H1 s1=>⟨xm_NoText,fun ea he=>⟨a_NoText,8,"text",rfl,xr_NoText,rfl,fun H' s=>⟨_,rfl,q _ ((s0.trans s1).trans s)⟩⟩⟩⟩
 ·refine FW Y_read_points.ex fun f fd hz53'=>?_
  refine E6 hz53' fun FO B kp m=>?_
  clear hz53'
  cases m_read_points.symm.trans m
  refine ⟨P3,fun l hl=>⟨_,rfl,l,_,_,_,rfl,rfl,SqL.of A9,As (j:=2) rfl,_,fd,rfl,kp,_,rfl,_,_,AF.up FO (by decide),B,?_⟩⟩
  have s0:=Ad.new (o:=.lst [.ref f_read_number,.ref f_read_curve,.ref f_read_points]) hl
  rcases hc with ⟨t,res,rfl,hT,hr',q⟩ | ⟨hn,q⟩
  ·cases hr' with
   | pts h1 h23 hf hnd ht=>exact .inl ⟨_,rfl,h1,h23,hf,hnd,ht,fun p xs H1 s1 hS hP=>⟨_,rfl,q _ H1 (s0.trans s1) ⟨p,xs,rfl,hS,hP⟩⟩⟩
   | bad h=>exact .inr ⟨_,2,rfl,.bad hT h,fun H1 s1=>⟨xm_NoText,fun ea he=>⟨a_NoText,8,"text",rfl,xr_NoText,rfl,fun H' s=>⟨_,rfl,q _ _ ((s0.trans s1).trans s) rfl⟩⟩⟩⟩
   | twice h1 h17 h23 hf hnd=>exact .inr ⟨_,1,rfl,.twice h1 h17 h23 hf hnd,fun H1 s1=>⟨xm_NoPoints,fun ea he=>⟨a_NoPoints,1,"points",rfl,xr_NoPoints,rfl,fun H' s=>⟨_,rfl,q _ _ ((s0.trans s1).trans s) rfl⟩⟩⟩⟩
   | many h1 h17 h23 hf hnd ht=>exact .inr ⟨_,0,rfl,.many h1 h17 h23 hf hnd ht,fun H1 s1=>⟨xm_TooMany,fun ea he=>⟨a_TooMany,0,"many",rfl,xr_TooMany,rfl,fun H' s=>⟨_,rfl,q _ _ ((s0.trans s1).trans s) rfl⟩⟩⟩⟩
  ·exact .inr ⟨_,2,rfl,.no (hn.same s0),fun H1 s1=>⟨xm_NoText,fun ea he=>⟨a_NoText,8,"text",rfl,xr_NoText,rfl,fun H' s=>⟨_,rfl,q _ ((s0.trans s1).trans s)⟩⟩⟩⟩
theorem CW : Ax ["_law_pen_here","_law_way","_law_top"] ["_law_pen_here"] (Ac (top 48)):=⟨rfl,rfl,rfl,by decide +kernel,rfl,by decide +kernel,by decide +kernel⟩
theorem GA {f : Addr} {fd : FuncData} (F : Fun K "_law_number" "_law_number" (top 48) f fd) (QY : Fd P w K mg base 33 "_law_draw" ["_law_pen_here","_law_many"] (Ew)) (Ra : Fd P w K mg base 33 "_law_lowest" ["_law_top","_law_bottom"] (Jg)) (hT : P.given.tree = none) :
 AF P w K mg base CX0 34 f fd ["_law_pen_here"] (HJ 64):=by
 refine F.ok CW (fun vs H Q E h=>?_) (fun cdv A outer s H vs Q E hr h=>?_)
 ·obtain ⟨_,rfl,_⟩:=h; rfl
 refine ⟨_,(Aa (K:=K) (Aq (i:=1) CW.nd rfl (Or.inl rfl) (Ap QY hr rfl (A7 (pv 0) (A7 Ab A8))))
  (Aa (K:=K) (Av (K:=K) (Ag FJ (pv 1) Ab (Ak _)) (Ae (Aj (Ap Ra hr rfl (A7 (Al D6 (Ap QY hr rfl (A7 (pv 0) (A7 Ab A8))) Ab) (A7 (Al BA Ab (Ap QY hr rfl (A7 (pv 0) (A7 (Aw (ixL K) (AY (A7 Ab (A7 Ab (A7 Ab A8)))) (Al C8 (pv 1) Ab) (fun u v=>rfl)) A8)))) A8))))) Am (by rfl) (by rfl))
  (Aa (K:=K) (Av (K:=K) (Ag FJ (pv 1) Ab (Ak _)) (Ae (Aj (Ap Ra hr rfl (A7 (Al D6 (Ap QY hr rfl (A7 (pv 0) (A7 Ab A8))) Ab) (A7 (Al BA Ab (Ap QY hr rfl (A7 (pv 0) (A7 Ab A8)))) A8))))) Am (by rfl) (by rfl))
  (Aa (K:=K) (Aq (i:=2) CW.nd rfl (Or.inl rfl) (Al D6 (Al BA (Al C7 (Ap QY hr rfl (A7 (pv 0) (A7 (Al EA Ab Ab) A8))) (Al EA Ab Ab)) (Ap QY hr rfl (A7 (pv 0) (A7 (Al EA Ab Ab) A8)))) (Al C7 Ab (Al EA Ab Ab))))
  (Ae (Aj (Ap Ra hr rfl (A7 (pv 2) (A7 (Al BA Ab (Ap QY hr rfl (A7 (pv 0) (A7 (Al EA Ab Ab) A8)))) A8))))) (by rfl)) (by rfl)) (by rfl)) (by rfl)),?_⟩
 obtain ⟨a,rfl,pn,q⟩:=h
 have C6 : Ky 10 6:=by unfold Ky; decide
 have C11 : Ky 10 11:=by unfold Ky; decide
 refine ⟨_,rfl,a,8,rfl,pn,by decide,by decide,fun w H1 w0 w1 o1 p1=>?_⟩
 have b64 : ∀ x : Int,-(10 ^ 18) < x → x < 10 ^ 18 → Bd 64 x:=fun x h1 h2=>by unfold Bd; lia
 refine ⟨_,rfl,_,_,rfl,rfl,_,rfl,?_⟩
 refine Hv (fun c=>?_) (fun c=>?_)
 ·refine ⟨_,rfl,a,19,rfl,p1,by decide,by decide,fun d H2 d0 d1 o2 p2=>⟨_,_,rfl,rfl,?_⟩⟩
  refine ⟨_,rfl,(by decide : 3 ≤ sizeLine),fun l hl=>?_⟩
  obtain ⟨v,hv,hm⟩:=NO (xs:=[1,1,4]) (i:=w % 3) (Uy _ (by first | decide | (dsimp only; decide))) (Uz _ (by first | decide | (dsimp only; decide)))
  have hv1 : 1 ≤ v ∧ v ≤ 4:=by
   simp at hm; lia
  refine ⟨_,rfl,_,_,rfl,rfl,(by first | decide | (dsimp only; decide)),l,_,_,_,rfl,rfl,SqL.of A9,hv,?_⟩
  refine ⟨a,v,rfl,p2.same hl,by lia,by lia,fun e H3 e0 e1 o3 p3=>⟨_,_,rfl,rfl,_,_,rfl,by lia,fun r hr=>?_⟩⟩
  exact q _ r _ (o1.mv.trans (o2.mv.trans ((Mv.new hl).trans (o3.mv.trans (Mv.new hr))))) (p3.same hr) A9 (Bd.num (b64 _ (by lia) (by lia))) (Bd.den (by lia) (b64 _ (by lia) (by lia)))
 refine ⟨_,rfl,_,_,rfl,rfl,_,rfl,?_⟩
 refine Hv (fun c=>?_) (fun c=>?_)
 ·refine ⟨_,rfl,a,199,rfl,p1,by decide,by decide,fun d H2 d0 d1 o2 p2=>⟨_,_,rfl,rfl,?_⟩⟩
  refine ⟨_,rfl,a,9,rfl,p2,by decide,by decide,fun e H3 e0 e1 o3 p3=>⟨_,_,rfl,rfl,_,_,rfl,by lia,fun r hr=>?_⟩⟩
  exact q _ r _ (o1.mv.trans (o2.mv.trans (o3.mv.trans (Mv.new hr)))) (p3.same hr) A9 (Bd.num (b64 _ (by lia) (by lia))) (Bd.den (by lia) (b64 _ (by lia) (by lia)))
 refine ⟨_,rfl,_,_,rfl,rfl,C6,a,_,rfl,p1,by decide,by decide,fun d H2 d0 d1 o2 p2=>⟨_,_,rfl,rfl,C6,_,_,rfl,rfl,.inl ?_,?_⟩⟩
 ·change d < 10 ^ 6 at d1; lia
 refine ⟨_,rfl,_,_,rfl,rfl,C6,a,_,rfl,p2,by decide,by decide,fun e H3 e0 e1 o3 p3=>⟨_,_,rfl,rfl,_,_,rfl,rfl,C11,_,_,rfl,rfl,.inl ⟨by decide,by decide⟩,_,_,rfl,rfl,?_⟩⟩
 refine ⟨_,rfl,_,rfl,_,_,rfl,rfl,C6,a,_,rfl,p3,by decide,by decide,fun g H4 g0 g1 o4 p4=>⟨_,_,rfl,rfl,_,_,rfl,by lia,fun r hr=>?_⟩⟩
 change d < 10 ^ 6 at d1
 change e < 10 ^ 6 at e1
 change g < 10 ^ 6 at g1
 exact q _ r _ (o1.mv.trans (o2.mv.trans (o3.mv.trans (o4.mv.trans (Mv.new hr))))) (p4.same hr) A9 (Bd.num (b64 _ (by show -(10 ^ 18) < d * 10 ^ 6 + e - 5 * 10 ^ 11; lia) (by show d * 10 ^ 6 + e - 5 * 10 ^ 11 < 10 ^ 18; lia))) (Bd.den (by lia) (b64 _ (by lia) (by lia)))
theorem Iv : Ax ["_law_a","_law_b"] ["_law_a","_law_b"] (Ac (top 47)):=⟨rfl,rfl,rfl,by decide +kernel,rfl,by decide +kernel,by decide +kernel⟩
theorem IH {f : Addr} {fd : FuncData} (F : Fun K "_law_plus" "_law_plus" (top 47) f fd) (Ra : Fd P w K mg base 33 "_law_lowest" ["_law_top","_law_bottom"] (Jg)) (hT : P.given.tree = none) :
 AF P w K mg base CX0 34 f fd ["_law_a","_law_b"] (Mq K (· + ·)):=by
 refine F.ok Iv (fun vs H Q E h=>?_) (fun cdv A outer s H vs Q E hr h=>?_)
 ·obtain ⟨_,_,_,_,_,_,rfl,_⟩:=h; rfl
 refine ⟨_,(Ae (Aj (Ap Ra hr rfl (A7 (Al BA (Al C7 (Aw (ixT K) (pv 0) Ab (fun u v=>rfl)) (Aw (ixT K) (pv 1) Ab (fun u v=>rfl))) (Al C7 (Aw (ixT K) (pv 1) Ab (fun u v=>rfl)) (Aw (ixT K) (pv 0) Ab (fun u v=>rfl)))) (A7 (Al C7 (Aw (ixT K) (pv 0) Ab (fun u v=>rfl)) (Aw (ixT K) (pv 1) Ab (fun u v=>rfl))) A8))))),?_⟩
 obtain ⟨x,y,p,q,m,n,rfl,⟨r,rfl,hr⟩,⟨u,rfl,hu⟩,hp,hq,hmn,k⟩:=h
 refine ⟨_,rfl,r,_,_,_,rfl,rfl,hr,rfl,_,rfl,u,_,_,_,rfl,rfl,hu,rfl,_,_,rfl,rfl,JW.bd hp.1 hq.2,_,rfl,u,_,_,_,rfl,rfl,hu,rfl,_,rfl,r,_,_,_,rfl,rfl,hr,rfl,_,_,rfl,rfl,JW.bd hq.1 hp.2,_,_,rfl,rfl,?_⟩
 refine ⟨_,rfl,r,_,_,_,rfl,rfl,hr,rfl,_,rfl,u,_,_,_,rfl,rfl,hu,rfl,_,_,rfl,rfl,JW.bd hp.2 hq.2,?_⟩
 refine ⟨_,_,rfl,Int.mul_ne_zero (Nm.den_ne p) (Nm.den_ne q),fun z hz=>?_⟩
 have e:=k z hz
 try dsimp only at e
 rw [← Nm.plus_eq] at e
 exact e
theorem BL : Ax ["_law_pen_here","_law_many","_law_found","_law_k","_law_x"] ["_law_pen_here","_law_many"] (Ac (top 50)):=⟨rfl,rfl,rfl,by decide +kernel,rfl,by decide +kernel,by decide +kernel⟩
theorem Gz {f : Addr} {fd : FuncData} (F : Fun K "_law_places" "_law_places" (top 50) f fd) (R4 : Fd P w K mg base 34 "_law_number" ["_law_pen_here"] (HJ 64)) (RQ : Fd P w K mg base 34 "_law_plus" ["_law_a","_law_b"] (Mq K (· + ·))) (R1 : mg "range" = none) (hT : P.given.tree = none) :
 AF P w K mg base CX0 35 f fd ["_law_pen_here","_law_many"] (Fm K 64):=by
 refine F.ok BL (fun vs H Q E h=>?_) (fun cdv A outer s H vs Q E hr h=>?_)
 ·obtain ⟨_,_,rfl,_⟩:=h; rfl
 refine ⟨_,(Aa (K:=K) (Aq (i:=2) BL.nd rfl (Or.inl rfl) (AY A8))
  (Aa (K:=K) (Dc (K:=K) PassesOwn.never rfl (CJ rfl R1 (A7 (pv 1) A8)) (AG (i:=3) BL.nd rfl (Or.inl rfl)) (Aa (K:=K) (Aq (i:=4) BL.nd rfl (Or.inl rfl) (Ap R4 hr rfl (A7 (pv 0) A8)))
  (Aa (K:=K) (DY PassesOwn.never (Ag (inD K hr) (pv 4) (pv 2) (by with_unfolding_all rfl)) (Ae (Aq (i:=4) BL.nd rfl (Or.inl rfl) (Ap RQ hr rfl (A7 (pv 4) (A7 (AV (A7 Ab (A7 Ab A8))) A8))))))
  (Ae (Bt (AW K PySem.F.plainAttrs_list PySem.F.slot_list_append PySem.F.type_list_append Cc (pv 2) (A7 (pv 4) A8)))) (by rfl)) (by rfl)) (by rfl))
  (Ae (Aj (pv 2))) (by rfl)) (by rfl)),?_⟩
 obtain ⟨a,m,rfl,pn,h0,h100,q⟩:=h
 have P0 : 0 ≤ sizeLine:=by decide
 have P2 : 2 ≤ sizeLine:=by decide
 refine ⟨P0,fun l hl=>?_⟩
 have la : l ≠ a:=pn.ne' hl
 obtain ⟨M,hM⟩ : ∃ M : Nat,(M : Int) = m:=⟨m.toNat,by lia⟩
 subst hM
 refine ⟨_,rfl,(M : Int),rfl,by lia,by lia,?_⟩
 rw [TL]
 refine Fy (n:=M) (L4 a H M l fun a H M l i σ H'=>Mv a H H' ∧ Pen H' a ∧ ∃ zs qs z3 z4,σ = [some (.ref a),some (.int (M : Int)),some (.ref l),z3,z4] ∧ H' l = some (.lst zs) ∧ AM H' zs qs ∧ qs.length = i ∧ qs.Nodup ∧ ∀ q ∈ qs,RB (64 + 8) q) ⟨Mv.new hl,pn.same hl,[],[],none,none,rfl,A9,.nil,rfl,List.nodup_nil,(fun _ h=>nomatch h)⟩ ?_ ?_
 ·rintro i σ H' hi hR1
  refine DK hR1 fun mv pn' hz55=>?_
  refine NJ hz55 fun zs qs z3 z4 hz55'=>?_
  clear hz55
  refine Qu hz55' fun hq54 el hz hql hnd hb=>?_
  clear hz55'
  obtain rfl:=hq54
  try clear hR1
  refine ⟨_,rfl,a,rfl,pn',fun x0 r H3 m3 p3 hr bn bd=>?_⟩
  have el3:=m3 _ _ la el
  have hz3:=AM.mv hz pn' m3
  have hzl:=hz.length
  refine ⟨fun μ σ H4=>Ad H3 H4 ∧ ∃ (r : Addr) (x : Rat) (j : Nat),σ = [some (.ref a),some (.int (M : Int)),some (.ref l),some (.int (0 + (i : Int))),some (.ref r)] ∧ H4 r = some (nT x) ∧ x = x0 + (j : Rat) ∧ μ = cnt x qs ∧ j + cnt x qs ≤ qs.length,
   ⟨_,Ad.refl _,r,x0,0,rfl,hr,(by have z : ((0 : Nat) : Rat) = 0:=rfl; rw [z]; grind),rfl,by have:=N2 x0 qs; lia⟩,?_⟩
  rintro μ σ H4 hR2
  refine HD hR2 fun s4 hz58=>?_
  refine IS hz58 fun r' x j hz58'=>?_
  clear hz58
  refine Qv hz58' fun hq56 hr' hx hq57 hj=>?_
  clear hz58'
  obtain rfl:=hq56
  obtain rfl:=hq57
  try clear hR2
  have hxb : RB (64 + 8) x:=by
   rw [hx]
   exact (RB.plus ⟨bn,bd⟩ (Ou (j:=j) (by lia))).mono (by lia)
  refine ⟨_,rfl,_,rfl,?_⟩
  refine inN (Be.of hr') (SqL.of (s4 _ _ el3)) (AM.same hz3 s4).nums ?_
  refine ⟨_,rfl,?_⟩
  by_cases hin : x ∈ qs
  ·refine AX (by rw [decide_eq_true hin] <;> rfl) ⟨_,fun _ _ h=>h,?_⟩
   refine ⟨_,rfl,P2,fun t ht=>⟨_,_,_,_,64 + 8,1,rfl,Be.of ((Ad.new ht) _ _ hr'),Be.of (A9 (o:=nT 1)),hxb,RB.one (by decide),by lia,fun u hu=>?_⟩⟩
   refine ⟨_,Kq hin,(s4.trans (Ad.new ht)).trans (Ad.new hu),u,x + 1,j + 1,rfl,A9,?_,rfl,by have:=Kq hin; lia⟩
   rw [hx,Rat.natCast_add]
   have z : ((1 : Nat) : Rat) = 1:=rfl
   rw [z]; grind
  ·refine AN (by rw [decide_eq_false hin] <;> rfl) ?_
   have el4:=s4 _ _ el3
   refine ⟨_,rfl,.inl ⟨rfl,_,SqL.of el4⟩,_,rfl,l,zs,.ref r',rfl,rfl,el4,Sx (show zs.length < 300 by lia) (by decide),?_⟩
   refine ⟨Mv.put' ((mv.trans m3).trans s4.mv) hl,(p3.sm s4).put' la,zs ++ [.ref r'],qs ++ [x],_,_,rfl,A9,Paired.snoc (AM.put (AM.same hz3 s4) el4) (Dx.put ⟨_,rfl,hr'⟩ el4),by simp [hql],?_,fun c hc=>?_⟩
   ·rw [List.nodup_append]
    exact ⟨hnd,by simp,fun b hb c hc=>by rw [Ul.mp hc]; exact fun z=>hin (z ▸ hb)⟩
   ·rcases SR.mp hc with z | z
    ·exact hb c z
    ·rw [Ul.mp z]; exact hxb
 ·rintro σ H' hR3
  refine DK hR3 fun mv pn' hz60=>?_
  refine NJ hz60 fun zs qs z3 z4 hz60'=>?_
  clear hz60
  refine Qu hz60' fun hq59 el hz hql hnd hb=>?_
  clear hz60'
  obtain rfl:=hq59
  try clear hR3
  exact ⟨_,rfl,q l H' zs qs mv pn' hl el hz (by rw [hql]) hnd hb⟩
theorem Bz : Ax ["_law_pen_here","_law_most","_law_room","_law_found","_law_x"] ["_law_pen_here","_law_most"] (Ac (top 51)):=⟨rfl,rfl,rfl,by decide +kernel,rfl,by decide +kernel,by decide +kernel⟩
theorem Gy {f : Addr} {fd : FuncData} (F : Fun K "_law_points" "_law_points" (top 51) f fd) (RS : Fd P w K mg base 35 "_law_places" ["_law_pen_here","_law_many"] (Fm K 64)) (QY : Fd P w K mg base 33 "_law_draw" ["_law_pen_here","_law_many"] (Ew)) (R4 : Fd P w K mg base 34 "_law_number" ["_law_pen_here"] (HJ 64)) (QX : mg "tuple" = none) (hT : P.given.tree = none) :
 AF P w K mg base CX0 36 f fd ["_law_pen_here","_law_most"] (Fl K 64):=by
 refine F.ok Bz (fun vs H Q E h=>?_) (fun cdv A outer s H vs Q E hr h=>?_)
 ·obtain ⟨_,_,rfl,_⟩:=h; rfl
 refine ⟨_,(Aa (K:=K) (Aq (i:=2) Bz.nd rfl (Or.inl rfl) (Al BA Ab (Ap QY hr rfl (A7 (pv 0) (A7 (pv 1) A8)))))
  (Aa (K:=K) (Aq (i:=3) Bz.nd rfl (Or.inl rfl) (AY A8))
  (Aa (K:=K) (Dc (K:=K) PassesOwn.never rfl (piL K (Ap RS hr rfl (A7 (pv 0) (A7 (pv 2) A8)))) (AG (i:=4) Bz.nd rfl (Or.inl rfl)) (Ae (Av (K:=K) (PW.pt (Ey (Ag Cy (pv 2) Ab (Ak _)) (DF (Ag BR (Ap QY hr rfl (A7 (pv 0) (A7 Ab A8))) Ab (Ak _))))) (Aa (K:=K) (Bt (AW K PySem.F.plainAttrs_list PySem.F.slot_list_append PySem.F.type_list_append Cc (pv 3) (A7 (AV (A7 (pv 4) (A7 (Ap R4 hr rfl (A7 (pv 0) A8)) (A7 (Ap R4 hr rfl (A7 (pv 0) A8)) A8)))) A8)))
  (Ae (Aq (i:=2) Bz.nd rfl (Or.inl rfl) (Al D6 (pv 2) Ab))) (by rfl)) (Ae (Av (K:=K) (Ag Cy (pv 2) Ab (Ak _)) (Aa (K:=K) (Bt (AW K PySem.F.plainAttrs_list PySem.F.slot_list_append PySem.F.type_list_append Cc (pv 3) (A7 (AV (A7 (pv 4) (A7 (Ap R4 hr rfl (A7 (pv 0) A8)) A8))) A8)))
  (Ae (Aq (i:=2) Bz.nd rfl (Or.inl rfl) (Al D6 (pv 2) Ab))) (by rfl)) Am (by rfl) (by rfl))) (by rfl) (by rfl))) (by rfl))
  (Ae (Aj (Ay (Dh K) rfl QX Bw (A7 (pv 3) A8)))) (by rfl)) (by rfl)) (by rfl)),?_⟩
 obtain ⟨a,most,rfl,pn,h1,h100,q⟩:=h
 have P0 : 0 ≤ sizeLine:=by decide
 have P2 : 2 ≤ sizeLine:=by decide
 have P3 : 3 ≤ sizeLine:=by decide
 refine ⟨_,rfl,_,rfl,a,most,rfl,pn,h1,by lia,fun d H1 d0 d1 o1 p1=>⟨_,_,rfl,rfl,?_⟩⟩
 refine ⟨P0,fun l hl1=>?_⟩
 have la : l ≠ a:=p1.ne' hl1
 have hl : H l = none:=Mv.free o1.mv la hl1
 obtain ⟨R,hR⟩ : ∃ R : Nat,(R : Int) = 1 + d:=⟨(1 + d).toNat,by lia⟩
 refine ⟨_,rfl,_,rfl,a,1 + d,rfl,p1.same hl1,by lia,by lia,fun w Hw ws qs mw pw hw ew hq hql hnd hb=>⟨w,rfl,⟨_,SqL.of ew⟩,?_⟩⟩
 have hwl:=hq.length
 have wa : w ≠ a:=(p1.same (o:=.lst []) hl1).ne' hw
 have wl : w ≠ l:=(Az (A9 (H:=H1) (a:=l) (o:=.lst [])) hw).symm
 refine E5 (xs:=ws) (L9 a H w ws qs most l K d fun a H w ws qs most l K d i σ H'=>Mv a H H' ∧ Pen H' a ∧ H' w = some (.lst ws) ∧ AM H' ws qs ∧ ∃ (room : Int) (ys : List V) (pss : List (List Rat)) (z4 : Option V),σ = [some (.ref a),some (.int most),some (.int room),some (.ref l),z4] ∧ H' l = some (.lst ys) ∧ Bo K H' ys pss ∧ P23 pss ∧ (∀ ps ∈ pss,∀ q ∈ ps,RB (64 + 8) q) ∧ (pss.map fun ps=>ps.getD 0 0) = qs.take pss.length ∧ pss.length ≤ i ∧ ((BI pss).length : Int) + room = 1 + d ∧ 0 ≤ room ∧ (room = 0 ∨ pss.length = i))
  ⟨Mv.put' o1.mv hl |>.trans mw,pw,ew,hq,1 + d,[],[],none,rfl,mw _ _ la A9,.nil,(fun _ h=>nomatch h),(fun _ h=>nomatch h),rfl,T2 _,by simp [BI],by lia,.inr rfl⟩ (fun i σ H' _ h=>SqL.of h.2.2.1) ?_ ?_
 ·rintro i v σ H' hv hR1
  obtain ⟨mv,pn',ew',hq',room,ys,pss,z4,rfl,el,hps,h23,hrb,hplc,hpi,hrm,hr0,hdone⟩:=hR1
  try clear hR1
  obtain ⟨x,hx,vx,rfl,hvx⟩:=(Paired.get hq' hv)
  have hxn : Dx H' (.ref vx) x:=⟨_,rfl,hvx⟩
  have hxb:=hb x (Tx hx)
  have hiq : i < qs.length:=(SU.mp hx).1
  have hyl:=hps.length
  have add : ∀ (ps : List Rat),ps.getD 0 0 = x → pss.length = i → ((pss ++ [ps]).map fun ps=>ps.getD 0 0) = qs.take (pss ++ [ps]).length:=fun ps h0 hlen=>by
   rw [UK,hplc,Tz,TY,hlen,UQ,hx]
   show qs.take i ++ [ps.getD 0 0] = qs.take i ++ [x]
   rw [h0]
  refine ⟨_,rfl,_,_,rfl,rfl,_,rfl,?_⟩
  by_cases h2 : (1 : Int) < room
  ·refine AX (by rw [decide_eq_true h2] <;> rfl) ?_
   have hlen : pss.length = i:=by lia
   refine ⟨_,rfl,a,4,rfl,pn',by decide,by decide,fun e H2 e0 e1 o2 p2=>⟨rfl,_,rfl,?_⟩⟩
   have el2:=o2.mv _ _ la el
   refine Hv (fun c=>?_) (fun c=>?_)
   ·refine ⟨_,rfl,.inl ⟨rfl,_,SqL.of el2⟩,_,rfl,_,rfl,a,rfl,p2,fun y1 r1 H3 m3 p3 hr1 bn1 bd1=>⟨_,rfl,a,rfl,p3,fun y2 r2 H4 m4 p4 hr2 bn2 bd2=>⟨P3,fun t ht=>?_⟩⟩⟩
    have M4:=(o2.mv.trans m3).trans m4
    have s5 : Ad H4 (upd H4 t (.tup [.ref vx,.ref r1,.ref r2])):=Ad.new ht
    have et : (upd H4 t (.tup [.ref vx,.ref r1,.ref r2])) t = some (.tup [.ref vx,.ref r1,.ref r2]):=A9
    have hr1' : H4 r1 = some (nT y1):=m4 r1 _ (p3.ne hr1 (HL y1)) hr1
    have el5:=s5 _ _ (M4 _ _ la el)
    have tn : By K (upd H4 t (.tup [.ref vx,.ref r1,.ref r2])) [.ref vx,.ref r1,.ref r2] [x,y1,y2]:=.cons (((hxn.mv pn' M4).same s5).num) (.cons (Be.of (s5 _ _ hr1')) (.cons (Be.of (s5 _ _ hr2)) .nil))
    have Mt:=M4.trans s5.mv
    have hv5:=Mt vx _ (pn'.ne hvx (HL x)) hvx
    have pt:=p4.sm s5
    generalize upd H4 t (.tup [.ref vx,.ref r1,.ref r2]) = H5 at s5 et el5 tn Mt pt hv5 ⊢
    have pt5 : Bo K H5 ys pss:=Bo.mv hps pn' Mt
    have nt5 : PtT K H5 (.ref t) [x,y1,y2]:=⟨t,_,vx,rfl,SqT.of et,tn,rfl,hv5⟩
    refine ⟨l,ys,.ref t,rfl,rfl,el5,Sx (show ys.length < 300 by lia) (by decide),?_⟩
    refine ⟨_,rfl,_,_,rfl,rfl,?_⟩
    refine ⟨Mv.put' (mv.trans Mt) hl,pt.put' la,by rw [AA wl]; exact Mt _ _ wa ew',AM.put (AM.mv hq' pn' Mt) el5,room - 2,ys ++ [.ref t],pss ++ [[x,y1,y2]],some (.ref vx),?_,A9,Paired.snoc (Bo.put pt5 el5) (nt5.put el5),?_,?_,add _ rfl hlen,by rw [Tz,TY]; lia,?_,by lia,.inr (by rw [Tz,TY]; lia)⟩
    ·rfl
    ·intro ps hp
     rcases SR.mp hp with z | z
     ·exact h23 ps z
     ·rw [Ul.mp z]; exact .inr rfl
    ·intro ps hp c hc
     rcases SR.mp hp with z | z
     ·exact hrb ps z c hc
     ·rw [Ul.mp z] at hc
      rcases SQ.mp hc with z | hc
      ·rw [z]; exact hxb
      ·rcases SQ.mp hc with z | hc
       ·rw [z]; exact RB.mono ⟨bn1,bd1⟩ (by lia)
       ·rw [Ul.mp hc]; exact RB.mono ⟨bn2,bd2⟩ (by lia)
    ·rw [E8,Tz,Bs]
     show (((BI pss).length + 2 : Nat) : Int) + (room - 2) = 1 + d
     lia
   ·refine ⟨_,rfl,_,_,rfl,rfl,_,rfl,?_⟩
    refine AX (by rw [decide_eq_true (show (0 : Int) < room by lia)] <;> rfl) ?_
    refine ⟨_,rfl,.inl ⟨rfl,_,SqL.of el2⟩,_,rfl,_,rfl,a,rfl,p2,fun y1 r1 H3 m3 p3 hr1 bn1 bd1=>⟨P2,fun t ht=>?_⟩⟩
    have M4 : Mv a H' H3:=o2.mv.trans m3
    have s5 : Ad H3 (upd H3 t (.tup [.ref vx,.ref r1])):=Ad.new ht
    have et : (upd H3 t (.tup [.ref vx,.ref r1])) t = some (.tup [.ref vx,.ref r1]):=A9
    have el5:=s5 _ _ (M4 _ _ la el)
    have tn : By K (upd H3 t (.tup [.ref vx,.ref r1])) [.ref vx,.ref r1] [x,y1]:=.cons (((hxn.mv pn' M4).same s5).num) (.cons (Be.of (s5 _ _ hr1)) .nil)
    have Mt:=M4.trans s5.mv
    have hv5:=Mt vx _ (pn'.ne hvx (HL x)) hvx
    have pt:=p3.sm s5
    generalize upd H3 t (.tup [.ref vx,.ref r1]) = H5 at s5 et el5 tn Mt pt hv5 ⊢
    have pt5 : Bo K H5 ys pss:=Bo.mv hps pn' Mt
    have nt5 : PtT K H5 (.ref t) [x,y1]:=⟨t,_,vx,rfl,SqT.of et,tn,rfl,hv5⟩
    refine ⟨l,ys,.ref t,rfl,rfl,el5,Sx (show ys.length < 300 by lia) (by decide),?_⟩
    refine ⟨_,rfl,_,_,rfl,rfl,?_⟩
    refine ⟨Mv.put' (mv.trans Mt) hl,pt.put' la,by rw [AA wl]; exact Mt _ _ wa ew',AM.put (AM.mv hq' pn' Mt) el5,room - 1,ys ++ [.ref t],pss ++ [[x,y1]],some (.ref vx),?_,A9,Paired.snoc (Bo.put pt5 el5) (nt5.put el5),?_,?_,add _ rfl hlen,by rw [Tz,TY]; lia,?_,by lia,.inr (by rw [Tz,TY]; lia)⟩
    ·rfl
    ·intro ps hp
     rcases SR.mp hp with z | z
     ·exact h23 ps z
     ·rw [Ul.mp z]; exact .inl rfl
    ·intro ps hp c hc
     rcases SR.mp hp with z | z
     ·exact hrb ps z c hc
     ·rw [Ul.mp z] at hc
      rcases SQ.mp hc with z | hc
      ·rw [z]; exact hxb
      ·rw [Ul.mp hc]; exact RB.mono ⟨bn1,bd1⟩ (by lia)
    ·rw [E8,Tz,Bs]
     show (((BI pss).length + 1 : Nat) : Int) + (room - 1) = 1 + d
     lia
  ·refine AN (by rw [decide_eq_false h2] <;> rfl) (AR ?_)
   refine ⟨_,rfl,_,_,rfl,rfl,_,rfl,?_⟩
   by_cases h0 : (0 : Int) < room
   ·refine AX (by rw [decide_eq_true h0] <;> rfl) ?_
    have hlen : pss.length = i:=by lia
    refine ⟨_,rfl,.inl ⟨rfl,_,SqL.of el⟩,_,rfl,_,rfl,a,rfl,pn',fun y1 r1 H3 m3 p3 hr1 bn1 bd1=>⟨P2,fun t ht=>?_⟩⟩
    have M4 : Mv a H' H3:=m3
    have s5 : Ad H3 (upd H3 t (.tup [.ref vx,.ref r1])):=Ad.new ht
    have et : (upd H3 t (.tup [.ref vx,.ref r1])) t = some (.tup [.ref vx,.ref r1]):=A9
    have el5:=s5 _ _ (M4 _ _ la el)
    have tn : By K (upd H3 t (.tup [.ref vx,.ref r1])) [.ref vx,.ref r1] [x,y1]:=.cons (((hxn.mv pn' M4).same s5).num) (.cons (Be.of (s5 _ _ hr1)) .nil)
    have Mt:=M4.trans s5.mv
    have hv5:=Mt vx _ (pn'.ne hvx (HL x)) hvx
    have pt:=p3.sm s5
    generalize upd H3 t (.tup [.ref vx,.ref r1]) = H5 at s5 et el5 tn Mt pt hv5 ⊢
    have pt5 : Bo K H5 ys pss:=Bo.mv hps pn' Mt
    have nt5 : PtT K H5 (.ref t) [x,y1]:=⟨t,_,vx,rfl,SqT.of et,tn,rfl,hv5⟩
    refine ⟨l,ys,.ref t,rfl,rfl,el5,Sx (show ys.length < 300 by lia) (by decide),?_⟩
    refine ⟨_,rfl,_,_,rfl,rfl,?_⟩
    refine ⟨Mv.put' (mv.trans Mt) hl,pt.put' la,by rw [AA wl]; exact Mt _ _ wa ew',AM.put (AM.mv hq' pn' Mt) el5,room - 1,ys ++ [.ref t],pss ++ [[x,y1]],some (.ref vx),?_,A9,Paired.snoc (Bo.put pt5 el5) (nt5.put el5),?_,?_,add _ rfl hlen,by rw [Tz,TY]; lia,?_,by lia,.inr (by rw [Tz,TY]; lia)⟩
    ·rfl
    ·intro ps hp
     rcases SR.mp hp with z | z
     ·exact h23 ps z
     ·rw [Ul.mp z]; exact .inl rfl
    ·intro ps hp c hc
     rcases SR.mp hp with z | z
     ·exact hrb ps z c hc
     ·rw [Ul.mp z] at hc
      rcases SQ.mp hc with z | hc
      ·rw [z]; exact hxb
      ·rw [Ul.mp hc]; exact RB.mono ⟨bn1,bd1⟩ (by lia)
    ·rw [E8,Tz,Bs]
     show (((BI pss).length + 1 : Nat) : Int) + (room - 1) = 1 + d
     lia
   ·exact AN (by rw [decide_eq_false h0] <;> rfl) ⟨mv,pn',ew',hq',room,ys,pss,_,rfl,el,hps,h23,hrb,hplc,by lia,hrm,hr0,.inl (by lia)⟩
 ·rintro σ H' hR2
  obtain ⟨mv,pn',ew',hq',room,ys,pss,z4,rfl,el,hps,h23,hrb,hplc,hpi,hrm,hr0,hdone⟩:=hR2
  try clear hR2
  have hpl : 1 ≤ pss.length:=by
   have h2:=CQ pss fun ps hp=>by have:=h23 ps hp; lia
   lia
  have la' : H' l = some (.lst ys):=el
  refine ⟨_,rfl,l,ys,rfl,.inl ⟨SqL.of el,fun r hr=>?_⟩⟩
  have sr : Ad H' (upd H' r (.tup ys)):=Ad.new hr
  refine q r _ ys pss (mv.trans sr.mv) (pn'.sm sr) (SqT.of A9) (Bo.same hps sr) h23 hrb hpl (by lia) (by lia) ?_
  rw [hplc]
  exact (Tw _ _).nodup hnd
theorem Eo : Ax ["_law_pen_here","_law_most","_law_some"] ["_law_pen_here","_law_most"] (Ac (top 49)):=⟨rfl,rfl,rfl,by decide +kernel,rfl,by decide +kernel,by decide +kernel⟩
theorem Ht {f : Addr} {fd : FuncData} (F : Fun K "_law_curve" "_law_curve" (top 49) f fd) (R4 : Fd P w K mg base 34 "_law_number" ["_law_pen_here"] (HJ 64)) (QY : Fd P w K mg base 33 "_law_draw" ["_law_pen_here","_law_many"] (Ew)) (QX : mg "tuple" = none) (R1 : mg "range" = none) (hT : P.given.tree = none) :
 AF P w K mg base CX0 35 f fd ["_law_pen_here","_law_most"] (Ip K 64):=by
 refine F.ok Eo (fun vs H Q E h=>?_) (fun cdv A outer s H vs Q E hr h=>?_)
 ·obtain ⟨_,_,rfl,_⟩:=h; rfl
 refine ⟨_,(Aa (K:=K) (KS (i:=2) rfl Eo.nd rfl rfl (N:=["_law_k","_law_pen_here"]) (nt:=1) (js:=[0]) (AQ.look (NX:=["_law_pen_here","_law_most","_law_some"]) (sc:=Ac (top 49)) rfl rfl (by decide +kernel)) (CJ rfl R1 (A7 (Ap QY hr rfl (A7 (pv 0) (A7 (Al BA (pv 1) Ab) A8))) A8)) (fun u1 u2 u3 u4 u5=>(AG (i:=0) (show List.Nodup (["_law_k","_law_pen_here"] : List Str) from by decide +kernel) rfl (Or.inl rfl))) (AD (by decide)) (fun u1 u2 u3 u4 u5=>Bb) (fun u1 u2 u3 u4 u5=>(Ap R4 hr rfl (A7 (pv 1) A8))) rfl)
  (Aa (K:=K) (DY PassesOwn.never (PW.pt (Ey (Ag (neD K hr.units) (pv 2) (AY A8) (Ak _)) (DF (Ag (eqD K hr.units) (Aw (ixL K) (pv 2) (KZ Ig Ab) (fun u v=>rfl)) (AV (A7 Ab (A7 Ab A8))) (Ak _))))) (Ae (Bt (Nq K PySem.F.plainAttrs_list PySem.F.slot_list_pop PySem.F.type_list_pop OW (pv 2)))))
  (Ae (Aj (Ay (Dh K) rfl QX Bw (A7 (pv 2) A8)))) (by rfl)) (by rfl)),?_⟩
 obtain ⟨a,most,rfl,pn,h0,h1,q⟩:=h
 have P0 : 0 ≤ sizeLine:=by decide
 have P2 : 2 ≤ sizeLine:=by decide
 refine BN ⟨_,rfl,_,rfl,_,_,rfl,rfl,a,most + 1,rfl,pn,by lia,by lia,fun n H1 n0 n1 o1 p1=>⟨n,rfl,by lia,by lia,?_⟩⟩
 have hN : (n.toNat : Int) ≤ most:=by lia
 generalize n.toNat = N at hN
 refine Kl (L3 a H K fun a H K i zs H'=>Mv a H H' ∧ Pen H' a ∧ zs.length = i ∧ ∃ qs,By K H' zs qs ∧ ∀ q ∈ qs,RB 64 q) ⟨o1.mv,p1,rfl,[],.nil,(fun _ h=>nomatch h)⟩ (fun i zs H' _ h=>h.2.2.1) (SK (Br (by lia))) ?_ ?_
 ·rintro i zs H' hi hR1
  obtain ⟨mv,pn',hz,qs,hq,hb⟩:=hR1
  try clear hR1
  refine ⟨_,rfl,a,rfl,pn',fun x r H3 m3 p3 hr bn bd=>⟨mv.trans m3,p3,by simp [hz],qs ++ [x],Paired.snoc (By.mv hq pn' m3) (Be.of hr),fun c hc=>?_⟩⟩
  rcases SR.mp hc with z | z
  ·exact hb c z
  ·have e : c = x:=by simpa using z
   subst e; exact ⟨bn,bd⟩
 rintro zs Hz hR2 l hl
 obtain ⟨mvz,pnz,hzl,qs,hqz,hb⟩:=hR2
 try clear hR2
 have hql : qs.length = N:=by rw [← hqz.length]; exact hzl
 have la : l ≠ a:=by
  refine IS pnz fun x0 x1 x2 ex=>?_
  exact (Az ex hl).symm
 have hHl : H l = none:=by
  cases z : H l with
  | none=>rfl
  | some u=>rw [mvz l u la z] at hl; cases hl
 refine NW (L8 a H K zs qs most l N fun a H K zs qs most l N σ H'=>Mv a H H' ∧ Pen H' a ∧ By K H' zs qs ∧ σ = [some (.ref a),some (.int most),some (.ref l)] ∧ ∃ v,v ≤ N ∧ H' l = some (.lst (zs.take v)) ∧ ∀ j q,v ≤ j → qs[j]? = some q → q = 0)
  (fun _ H'=>match H' l with | some (.lst xs)=>xs.length | _=>0) ⟨Mv.put' mvz hHl,pnz.same hl,By.same hqz (Ad.new hl),rfl,N,T2 _,by rw [Uw (by lia)]; exact A9,fun j c hj e=>absurd (SU.mp e).1 (by lia)⟩ ?_
 rintro σ Hc hR3
 obtain ⟨mv,pn',hq,rfl,v,hv,el,hall⟩:=hR3
 try clear hR3
 refine ⟨_,rfl,P0,fun e he=>?_⟩
 have sE : Ad Hc (upd Hc e (.lst [])):=Ad.new he
 refine eqL (ps:=qs.take v) (qs:=[]) (SqL.of (sE _ _ el)) (Paired.take v (By.same hq sE)) (SqL.of A9) .nil ?_
 refine ⟨_,rfl,?_⟩
 have fin : (v = 0 ∨ ∃ q,qs[v - 1]? = some q ∧ q ≠ 0) → qs.take v = Cv.strip qs:=fun hc=>Cv.take_strip qs v hall hc
 by_cases hv0 : v = 0
 ·have e0 : qs.take v = []:=by rw [hv0]; rfl
  refine AN (by rw [decide_eq_true e0] <;> rfl) (AR ?_)
  refine ⟨_,rfl,l,_,rfl,.inl ⟨SqL.of (sE _ _ el),fun r hr=>?_⟩⟩
  have sZ:=sE.trans (Ad.new (o:=.tup (zs.take v)) hr)
  refine q (qs.take v) r _ (mv.trans sZ.mv) (pn'.sm sZ) ⟨zs.take v,SqT.of A9,Paired.take v (By.same hq sZ)⟩ ?_ ?_ fun c hc=>hb c (V6 hc)
  ·rw [fin (.inl hv0)]; exact GW _
  ·rw [Tp]; lia

 have hvi : v - 1 < qs.length:=by lia
 have hqv : qs[v - 1]? = some qs[v - 1]:=Uo hvi
 have hne : qs.take v ≠ []:=fun z=>by
  have:=congrArg To z
  rw [Tp,TM (by lia)] at this
  exact hv0 this
 refine AX (by rw [decide_eq_false hne] <;> rfl) ?_
 obtain ⟨x,hx,hxn⟩:=(Paired.get' hq hqv)
 have hlast : (zs.take v)[(zs.take v).length - 1]? = some x:=by
  rw [Tp,TM (by lia),Vf,if_pos (by lia)]
  exact hx
 refine ⟨_,rfl,_,rfl,l,_,_,x,rfl,rfl,SqL.of (sE _ _ el),Ff hlast,P2,fun t0 ht0=>?_⟩
 have sF:=sE.trans (Ad.new (o:=.tup [.int 0,.int 1]) ht0)
 refine eqN (q:=0) (hxn.same sF) (Be.of (A9 (o:=nT 0))) ?_
 refine ⟨_,rfl,?_⟩
 by_cases hq0 : qs[v - 1] = 0
 ·refine AX (by rw [decide_eq_true hq0] <;> rfl) (NV ?_)
  have elF:=sF _ _ el
  refine ⟨_,rfl,.inl ⟨rfl,_,SqL.of elF⟩,l,_,x,rfl,rfl,elF,hlast,?_⟩
  refine ⟨⟨Mv.put' (mv.trans sF.mv) hHl,?_,By.put (By.same hq sF) elF,rfl,v - 1,by lia,?_,fun j c hj e=>?_⟩,?_⟩
  ·refine IS (pn'.sm sF) fun x0 x1 x2 ex=>?_
   exact ⟨x0,x1,x2,by rw [AA (Ne.symm la)]; exact ex⟩
  ·rw [A9,List.dropLast_eq_take,Tp,TM (by lia),List.take_take,TM (by lia)]
  ·by_cases hjv : v ≤ j
   ·exact hall j c hjv e
   ·have : j = v - 1:=by lia
    subst this
    rw [hqv] at e
    cases e
    exact hq0
  ·show (match upd _ l _ l with | some (.lst xs)=>xs.length | _=>0) < (match Hc l with | some (.lst xs)=>xs.length | _=>0)
   rw [A9,el]
   show (zs.take v).dropLast.length < (zs.take v).length
   have e1 : (zs.take v).length = v:=by rw [Tp,TM (by lia)]
   rw [List.length_dropLast,e1]
   exact Nat.sub_lt (U5 hv0) Nat.zero_lt_one
 ·refine AN (by rw [decide_eq_false hq0] <;> rfl) ?_
  refine ⟨_,rfl,l,_,rfl,.inl ⟨SqL.of (sF _ _ el),fun r hr=>?_⟩⟩
  have sZ:=sF.trans (Ad.new (o:=.tup (zs.take v)) hr)
  refine q (qs.take v) r _ (mv.trans sZ.mv) (pn'.sm sZ) ⟨zs.take v,SqT.of A9,Paired.take v (By.same hq sZ)⟩ ?_ ?_ fun c hc=>hb c (V6 hc)
  ·rw [fin (.inr ⟨_,hqv,hq0⟩)]; exact GW _
  ·rw [Tp]; lia
theorem Gi : Ax ["number"] ["number"] (Ac (top 29)):=⟨rfl,rfl,rfl,by decide +kernel,rfl,by decide +kernel,by decide +kernel⟩
theorem Gw {f : Addr} {fd : FuncData} (F : Fun K "show_number" "show_number" (top 29) f fd) (QZ : mg "str" = none) (hT : P.given.tree = none) :
 AF P w K mg base CX0 33 f fd ["number"] (DC K):=by
 refine F.ok Gi (fun vs H Q E h=>?_) (fun cdv A outer s H vs Q E hr h=>?_)
 ·obtain ⟨_,_,rfl,_⟩:=h; rfl
 refine ⟨_,(Aa (K:=K) (Av (K:=K) (Ag BR (Aw (ixT K) (pv 0) Ab (fun u v=>rfl)) Ab (Ak _)) (Ae (Aj (Ay BQ rfl QZ Dk (A7 (Aw (ixT K) (pv 0) Ab (fun u v=>rfl)) A8)))) Am (by rfl) (by rfl))
  (Ae (Aj (Al Bp (Al Bp (Ay BQ rfl QZ Dk (A7 (Aw (ixT K) (pv 0) Ab (fun u v=>rfl)) A8)) Ah) (Ay BQ rfl QZ Dk (A7 (Aw (ixT K) (pv 0) Ab (fun u v=>rfl)) A8))))) (by rfl)),?_⟩
 obtain ⟨x,q,rfl,⟨r,rfl,hr'⟩,hf,q0⟩:=h
 have hd:=hf.2
 have hs:=sizeLine_eq
 have l1:=Fu hf.1
 have l2:=Fu (i:=(q.den : Int)) (by lia)
 refine ⟨_,rfl,r,_,_,_,rfl,rfl,hr',rfl,rfl,_,rfl,?_⟩
 by_cases h1 : q.den = 1
 ·have e : tx q = txI q.num:=if_pos h1
  rw [e] at q0
  exact AX (by rw [decide_eq_true (show V.int (q.den : Int) = V.int 1 by rw [h1]; rfl)] <;> rfl) ⟨_,rfl,r,_,_,_,rfl,rfl,hr',rfl,_,rfl,Fs hf.1,q0⟩
 ·have e : tx q = txI q.num ++ Str.ofString "/" ++ txI q.den:=if_neg h1
  rw [e] at q0
  rw [decide_eq_false (fun z=>h1 (by have:=V.int.inj z; lia))]
  have l3 : (Str.ofString "/").length = 1:=by rw [Ai,BC]; rfl
  have l4 : (txI q.num ++ Str.ofString "/").length = (txI q.num).length + 1:=by rw [Ai,AE,Tz,← Ai,← Ai,l3]
  refine AR ⟨_,rfl,r,_,_,_,rfl,rfl,hr',rfl,_,rfl,Fs hf.1,_,_,rfl,rfl,?_,_,rfl,r,_,_,_,rfl,rfl,hr',rfl,_,rfl,Fs (by lia),_,_,rfl,rfl,?_,q0⟩
  ·show (txI q.num).length + (Str.ofString "/").length ≤ sizeLine
   lia
  ·show (txI q.num ++ Str.ofString "/").length + (txI q.den).length ≤ sizeLine
   lia
theorem FN : Ax ["numbers"] ["numbers"] (Ac (top 30)):=⟨rfl,rfl,rfl,by decide +kernel,rfl,by decide +kernel,by decide +kernel⟩
theorem FT {f : Addr} {fd : FuncData} (F : Fun K "show_numbers" "show_numbers" (top 30) f fd) (Rj : Fd P w K mg base 33 "show_number" ["number"] (DC K)) (hT : P.given.tree = none) :
 AF P w K mg base CX0 34 f fd ["numbers"] (DB K AL):=by
 refine F.ok FN (fun vs H Q E h=>?_) (fun cdv A outer s H vs Q E hr h=>?_)
 ·obtain ⟨_,_,_,rfl,_⟩:=h; rfl
 refine ⟨_,(Ae (Aj (AW K PySem.F.plainAttrs_str PySem.F.slot_str_join PySem.F.type_str_join (Df K) Ah (A7 (Cj rfl (N:=["number"]) (nt:=1) (js:=[]) (AQ.look (NX:=["numbers"]) (sc:=Ac (top 30)) rfl rfl (by decide +kernel)) (piT K (pv 0)) (fun u1 u2 u3 u4 u5=>(AG (i:=0) (show List.Nodup (["number"] : List Str) from by decide +kernel) rfl (Or.inl rfl))) (AD (by decide)) (fun u1 u2 u3 u4 u5=>Bb) (fun u1 u2 u3 u4 u5=>(Ap Rj hr rfl (A7 (pv 0) A8)))) A8)))),?_⟩
 obtain ⟨r,xs,qs,rfl,hS,hn,hf,h100,q⟩:=h
 have hs:=sizeLine_eq
 have hl:=hn.length
 refine ⟨rfl,?_⟩
 refine BN ⟨_,rfl,r,rfl,⟨_,hS⟩,DI (xs:=xs) (fun i zs H'=>H' = H ∧ zs = ((qs.take i).map tx).map V.str) ⟨rfl,rfl⟩ (fun i zs H' hi p=>⟨by rw [p.1]; exact hS,by rw [p.2,TC,TC,Tp]; lia⟩) (by lia) ?_ ?_⟩
 ·rintro i x zs H' hx ⟨rfl,rfl⟩
  obtain ⟨c,hc,hcn⟩:=(Paired.get hn hx)
  refine ⟨_,rfl,x,c,rfl,hcn,hf c (Tx hc),rfl,?_⟩
  rw [UQ,hc,UK,UK]; rfl
 rintro zs H' ⟨rfl,rfl⟩ p hp
 rw [hl,UR]
 exact ⟨_,p,qs.map tx,rfl,rfl,SqL.of A9,CN (by show AL.length ≤ 2; rw [Ce]; decide) (fun t ht=>SJ (Dz hf t ht) (by decide)) (by rw [TC]; exact h100),q _ (Ad.new hp)⟩
theorem Hj : Ax ["curve"] ["curve"] (Ac (top 31)):=⟨rfl,rfl,rfl,by decide +kernel,rfl,by decide +kernel,by decide +kernel⟩
theorem Ho {f : Addr} {fd : FuncData} (F : Fun K "show_curve" "show_curve" (top 31) f fd) (RT : Fd P w K mg base 34 "show_numbers" ["numbers"] (DB K AL)) (QV : mg "len" = none) (hT : P.given.tree = none) :
 AF P w K mg base CX0 35 f fd ["curve"] (Ik K):=by
 refine F.ok Hj (fun vs H Q E h=>?_) (fun cdv A outer s H vs Q E hr h=>?_)
 ·obtain ⟨_,_,rfl,_⟩:=h; rfl
 refine ⟨_,(Ae (Aj (Jo (Ag Cy (Af (BY K) rfl QV AJ (A7 (pv 0) A8)) Ab (Ak _)) (Ap RT hr rfl (A7 (pv 0) A8)) Ah))),?_⟩
 obtain ⟨r,qs,rfl,⟨xs,hS,hn⟩,hf,h100,q⟩:=h
 have hl:=hn.length
 refine ⟨_,rfl,r,xs,rfl,.inr hS,_,_,rfl,rfl,_,rfl,?_⟩
 by_cases hq : qs = []
 ·refine AN (by rw [decide_eq_false (show ¬ ((xs.length : Nat) : Int) > 0 by rw [hl,hq]; decide)] <;> rfl) ?_
  have e : ctx qs = Str.ofString "0":=if_pos hq
  have q':=q _ (Ad.refl _)
  rw [e] at q'
  exact q'
 ·refine AX (by rw [decide_eq_true (show ((xs.length : Nat) : Int) > 0 by have:=U8.mpr hq; lia)] <;> rfl) ⟨_,rfl,r,xs,qs,rfl,hS,hn,hf,h100,fun H1 m1=>?_⟩
  have q':=q _ m1
  rw [show ctx qs = _ from if_neg hq] at q'
  exact q'
theorem Hi : Ax ["point"] ["point"] (Ac (top 32)):=⟨rfl,rfl,rfl,by decide +kernel,rfl,by decide +kernel,by decide +kernel⟩
theorem Hn {f : Addr} {fd : FuncData} (F : Fun K "show_point" "show_point" (top 32) f fd) (Rj : Fd P w K mg base 33 "show_number" ["number"] (DC K)) (hT : P.given.tree = none) :
 AF P w K mg base CX0 34 f fd ["point"] (DB K CD):=by
 refine F.ok Hi (fun vs H Q E h=>?_) (fun cdv A outer s H vs Q E hr h=>?_)
 ·obtain ⟨_,_,_,rfl,_⟩:=h; rfl
 refine ⟨_,(Ae (Aj (AW K PySem.F.plainAttrs_str PySem.F.slot_str_join PySem.F.type_str_join (Df K) Ah (A7 (Cj rfl (N:=["number"]) (nt:=1) (js:=[]) (AQ.look (NX:=["point"]) (sc:=Ac (top 32)) rfl rfl (by decide +kernel)) (piT K (pv 0)) (fun u1 u2 u3 u4 u5=>(AG (i:=0) (show List.Nodup (["number"] : List Str) from by decide +kernel) rfl (Or.inl rfl))) (AD (by decide)) (fun u1 u2 u3 u4 u5=>Bb) (fun u1 u2 u3 u4 u5=>(Ap Rj hr rfl (A7 (pv 0) A8)))) A8)))),?_⟩
 obtain ⟨r,xs,qs,rfl,hS,hn,hf,h100,q⟩:=h
 have hs:=sizeLine_eq
 have hl:=hn.length
 refine ⟨rfl,?_⟩
 refine BN ⟨_,rfl,r,rfl,⟨_,hS⟩,DI (xs:=xs) (fun i zs H'=>H' = H ∧ zs = ((qs.take i).map tx).map V.str) ⟨rfl,rfl⟩ (fun i zs H' hi p=>⟨by rw [p.1]; exact hS,by rw [p.2,TC,TC,Tp]; lia⟩) (by lia) ?_ ?_⟩
 ·rintro i x zs H' hx ⟨rfl,rfl⟩
  obtain ⟨c,hc,hcn⟩:=(Paired.get hn hx)
  refine ⟨_,rfl,x,c,rfl,hcn,hf c (Tx hc),rfl,?_⟩
  rw [UQ,hc,UK,UK]; rfl
 rintro zs H' ⟨rfl,rfl⟩ p hp
 rw [hl,UR]
 exact ⟨_,p,qs.map tx,rfl,rfl,SqL.of A9,CN (by show CD.length ≤ 2; rw [Cd]; decide) (fun t ht=>SJ (Dz hf t ht) (by decide)) (by rw [TC]; exact h100),q _ (Ad.new hp)⟩
theorem Gh : Ax ["points"] ["points"] (Ac (top 33)):=⟨rfl,rfl,rfl,by decide +kernel,rfl,by decide +kernel,by decide +kernel⟩
theorem Gv {f : Addr} {fd : FuncData} (F : Fun K "show_points" "show_points" (top 33) f fd) (RU : Fd P w K mg base 34 "show_point" ["point"] (DB K CD)) (hT : P.given.tree = none) :
 AF P w K mg base CX0 35 f fd ["points"] (EG K):=by
 refine F.ok Gh (fun vs H Q E h=>?_) (fun cdv A outer s H vs Q E hr h=>?_)
 ·obtain ⟨_,_,_,rfl,_⟩:=h; rfl
 refine ⟨_,(Ae (Aj (AW K PySem.F.plainAttrs_str PySem.F.slot_str_join PySem.F.type_str_join (Df K) Ah (A7 (Cj rfl (N:=["point"]) (nt:=1) (js:=[]) (AQ.look (NX:=["points"]) (sc:=Ac (top 33)) rfl rfl (by decide +kernel)) (piT K (pv 0)) (fun u1 u2 u3 u4 u5=>(AG (i:=0) (show List.Nodup (["point"] : List Str) from by decide +kernel) rfl (Or.inl rfl))) (AD (by decide)) (fun u1 u2 u3 u4 u5=>Bb) (fun u1 u2 u3 u4 u5=>(Ap RU hr rfl (A7 (pv 0) A8)))) A8)))),?_⟩
 obtain ⟨r,xs,pss,rfl,hS,hn,h23,hf,h100,q⟩:=h
 have hs:=sizeLine_eq
 have hl:=hn.length
 refine ⟨rfl,?_⟩
 refine BN ⟨_,rfl,r,rfl,⟨_,hS⟩,DI (xs:=xs) (fun i zs H'=>Ad H H' ∧ zs = ((pss.take i).map ptx).map V.str) ⟨Ad.refl _,rfl⟩ (fun i zs H' hi p=>⟨SqT.same hS p.1,by rw [p.2,TC,TC,Tp]; lia⟩) (by lia) ?_ ?_⟩
 ·rintro i x zs H' hx ⟨sm,rfl⟩
  obtain ⟨ps,hps,hpt⟩:=(Paired.get hn hx)
  have hm:=Tx hps
  obtain ⟨a,rfl,us,hus,hun⟩:=(hpt.same sm)
  refine ⟨_,rfl,a,us,ps,rfl,hus,hun,hf ps hm,by rcases h23 ps hm with z | z <;> lia,fun H2 m2=>⟨sm.trans m2,?_⟩⟩
  rw [UQ,hps,UK,UK]; rfl
 rintro zs H' ⟨sm,rfl⟩ p hp
 rw [hl,UR]
 exact ⟨_,p,pss.map ptx,rfl,rfl,SqL.of A9,CN (by show AZ.length ≤ 2; rw [Bh]; decide) (fun t ht=>SJ (Ds hf h23 t ht) (by decide)) (by rw [TC]; exact h100),q _ (sm.trans (Ad.new hp))⟩
theorem Di : Ax ["_law_script","_law_pen_here","_law_texts_here","_law_k","_law_way","_law_text_here","_law_due_here","_law_long","_law_odd"] ["_law_script"] (Ac (top 61)):=⟨rfl,rfl,rfl,by decide +kernel,rfl,by decide +kernel,by decide +kernel⟩
theorem OS {f : Addr} {fd : FuncData} (F : Fun K "law" "law" (top 61) f fd) (RV : Fd P w K mg base 33 "_law_pen" ["_law_script","_law_k"] (Mo K)) (Rg : Fd P w K mg base 33 "_law_text" ["_law_number_here"] (DC K)) (RW : Fd P w K mg base 34 "_law_texts" ["_law_numbers"] (DB K AL)) (RX : Fd P w K mg base 34 "_law_points_text" ["_law_points_here"] (EG K)) (RK : Fd P w K mg base 34 "_law_bent" ["_law_pen_here","_law_text_here","_law_between"] (K9)) (RL : Fd P w K mg base 35 "_law_due" ["_law_way","_law_text_here"] (Io K)) (Rk : Fd P w K mg base 39 "_law_told_of" ["_law_way","_law_text_here"] (K6 K)) (QY : Fd P w K mg base 33 "_law_draw" ["_law_pen_here","_law_many"] (Ew)) (R4 : Fd P w K mg base 34 "_law_number" ["_law_pen_here"] (HJ 64)) (RY : Fd P w K mg base 36 "_law_points" ["_law_pen_here","_law_most"] (Fl K 64)) (RZ : Fd P w K mg base 35 "_law_curve" ["_law_pen_here","_law_most"] (Ip K 64)) (Rj : Fd P w K mg base 33 "show_number" ["number"] (DC K)) (F_show_curve : Fd P w K mg base 35 "show_curve" ["curve"] (Ik K)) (F_show_points : Fd P w K mg base 35 "show_points" ["points"] (EG K)) (R1 : mg "range" = none) (QW : mg "isinstance" = none) (QZ : mg "str" = none) (hT : P.given.tree = none) {f_show_number : Addr} (m_show_number : mg "show_number" = some (.ref f_show_number)) {f_show_curve : Addr} (m_show_curve : mg "show_curve" = some (.ref f_show_curve)) {f_show_points : Addr} (m_show_points : mg "show_points" = some (.ref f_show_points)) :
 AF P w K mg base CX0 40 f fd ["_law_script"] (Jh K):=by
 refine F.ok Di (fun vs H Q E h=>?_) (fun cdv A outer s H vs Q E hr h=>?_)
 ·obtain ⟨_,_,rfl,_⟩:=h; rfl
 refine ⟨_,(@Aa _ _ _ _ _ K _ (@Aq _ _ 1 _ _ _ _ Di.nd rfl (Or.inl rfl) (@Ap _ _ _ _ _ _ _ _ _ _ _ RV hr rfl (@A7 _ _ _ _ _ (pv 0) (@A7 _ _ _ _ _ Ab A8 (by rfl)) (by rfl)) (by decide) (by decide) (by rfl) (by rfl)) (by rfl) (by first   | exact .inl rfl   | exact .inr rfl   | assumption)) (@Aa _ _ _ _ _ K _ (@Aq _ _ 2 _ _ _ _ Di.nd rfl (Or.inr rfl) (@AY _ _ _ _ (@A7 _ _ _ _ _ (@Ap _ _ _ _ _ _ _ _ _ _ _ Rg hr rfl (@A7 _ _ _ _ _ (@Ap _ _ _ _ _ _ _ _ _ _ _ R4 hr rfl (@A7 _ _ _ _ _ (pv 1) A8 (by rfl)) (by decide) (by decide) (by rfl) (by rfl)) A8 (by rfl)) (by decide) (by decide) (by rfl) (by rfl)) (@A7 _ _ _ _ _ (@Ap _ _ _ _ _ _ _ _ _ _ _ RW hr rfl (@A7 _ _ _ _ _ (@Al _ _ _ _ _ _ _ _ (Qq K) (@Ap _ _ _ _ _ _ _ _ _ _ _ RZ hr rfl (@A7 _ _ _ _ _ (pv 1) (@A7 _ _ _ _ _ Ab A8 (by rfl)) (by rfl)) (by decide) (by decide) (by rfl) (by rfl)) (@AV _ _ _ _ _ (@A7 _ _ _ _ _ (@AV _ _ _ _ _ (@A7 _ _ _ _ _ Ab (@A7 _ _ _ _ _ Ab A8 (by rfl)) (by rfl))) A8 (by rfl)))) A8 (by rfl)) (by decide) (by decide) (by rfl) (by rfl)) A8 (by rfl)) (by rfl))) (by rfl) (by first   | exact .inl rfl   | exact .inr rfl   | assumption)) (@Aa _ _ _ _ _ K _ (@Bt _ _ _ _ (@AW _ _ _ _ _ _ _ _ _ _ _ _ K PySem.F.plainAttrs_list PySem.F.slot_list_append PySem.F.type_list_append Cc (pv 2) (@A7 _ _ _ _ _ (@Ap _ _ _ _ _ _ _ _ _ _ _ RX hr rfl (@A7 _ _ _ _ _ (@Ap _ _ _ _ _ _ _ _ _ _ _ RY hr rfl (@A7 _ _ _ _ _ (pv 1) (@A7 _ _ _ _ _ Ab A8 (by rfl)) (by rfl)) (by decide) (by decide) (by rfl) (by rfl)) A8 (by rfl)) (by decide) (by decide) (by rfl) (by rfl)) A8 (by rfl)) (by rfl) (by rfl) (by rfl) (by rfl) (by rfl) (by rfl)) (by rfl)) (@Aa _ _ _ _ _ K _ (@Dc _ _ _ _ _ _ _ _ K _ PassesOwn.never rfl (@CJ _ _ _ _ _ _ rfl R1 (@A7 _ _ _ _ _ Ab A8 (by rfl)) (by rfl)) (@AG _ _ 3 _ Di.nd rfl (Or.inl rfl) (by first   | exact .inl rfl   | exact .inr rfl   | assumption)) (@Aa _ _ _ _ _ K _ (@Aq _ _ 4 _ _ _ _ Di.nd rfl (Or.inl rfl) (@Al _ _ _ _ _ _ _ _ C8 (pv 3) Ab) (by rfl) (by first   | exact .inl rfl   | exact .inr rfl   | assumption)) (@Aa _ _ _ _ _ K _ (@Aq _ _ 5 _ _ _ _ Di.nd rfl (Or.inl rfl) (@Ap _ _ _ _ _ _ _ _ _ _ _ RK hr rfl (@A7 _ _ _ _ _ (pv 1) (@A7 _ _ _ _ _ (@Aw _ _ _ _ _ _ _ (ixL K) (pv 2) (pv 4) (fun u v=>rfl)) (@A7 _ _ _ _ _ (@Aw _ _ _ _ _ _ _ (ixL K) (@AY _ _ _ _ (@A7 _ _ _ _ _ Ah (@A7 _ _ _ _ _ Ah (@A7 _ _ _ _ _ Ah A8 (by rfl)) (by rfl)) (by rfl))) (pv 4) (fun u v=>rfl)) A8 (by rfl)) (by rfl)) (by rfl)) (by decide) (by decide) (by rfl) (by rfl)) (by rfl) (by first   | exact .inl rfl   | exact .inr rfl   | assumption)) (@Aa _ _ _ _ _ K _ (@Av _ _ _ _ _ _ _ _ K _ _ (@Ag _ _ _ _ _ _ _ _ BR (@Ap _ _ _ _ _ _ _ _ _ _ _ QY hr rfl (@A7 _ _ _ _ _ (pv 1) (@A7 _ _ _ _ _ Ab A8 (by rfl)) (by rfl)) (by decide) (by decide) (by rfl) (by rfl)) Ab (Ak _)) (@Ae _ _ _ (@Aq _ _ 5 _ _ _ _ Di.nd rfl (Or.inl rfl) (@Ap _ _ _ _ _ _ _ _ _ _ _ RK hr rfl (@A7 _ _ _ _ _ (pv 1) (@A7 _ _ _ _ _ (pv 5) (@A7 _ _ _ _ _ (@Aw _ _ _ _ _ _ _ (ixL K) (@AY _ _ _ _ (@A7 _ _ _ _ _ Ah (@A7 _ _ _ _ _ Ah (@A7 _ _ _ _ _ Ah A8 (by rfl)) (by rfl)) (by rfl))) (pv 4) (fun u v=>rfl)) A8 (by rfl)) (by rfl)) (by rfl)) (by decide) (by decide) (by rfl) (by rfl)) (by rfl) (by first   | exact .inl rfl   | exact .inr rfl   | assumption))) Am (by rfl) (by rfl)) (@Aa _ _ _ _ _ K _ (@Aq _ _ 6 _ _ _ _ Di.nd rfl (Or.inl rfl) (@Ap _ _ _ _ _ _ _ _ _ _ _ RL hr rfl (@A7 _ _ _ _ _ (pv 4) (@A7 _ _ _ _ _ (pv 5) A8 (by rfl)) (by rfl)) (by decide) (by decide) (by rfl) (by rfl)) (by rfl) (by first   | exact .inl rfl   | exact .inr rfl   | assumption)) (@Aa _ _ _ _ _ K _ (@Av _ _ _ _ _ _ _ _ K _ _ (@Ag _ _ _ _ _ _ _ _ (neD K hr.units) (@Ap _ _ _ _ _ _ _ _ _ _ _ Rk hr rfl (@A7 _ _ _ _ _ (pv 4) (@A7 _ _ _ _ _ (pv 5) A8 (by rfl)) (by rfl)) (by decide) (by decide) (by rfl) (by rfl)) (pv 6) (Ak _)) (@Ae _ _ _ (@Aj _ _ _ _ E1)) Am (by rfl) (by rfl)) (@Ae _ _ _ (@Av _ _ _ _ _ _ _ _ K _ _ (@PW.pt _ _ _ (@Ey _ _ _ _ _ _ _ (@Bx _ _ _ _ (@Bq _ _ _ (@Af _ _ _ _ _ _ _ _ _ (JD K) rfl QW Au (@A7 _ _ _ _ _ (pv 6) (@A7 _ _ _ _ _ (@BP _ _ (.ty "str") _ _ rfl QZ Dk rfl (by decide) (by decide)) A8 (by rfl)) (by rfl)) (by decide) (by decide) (by rfl) (by rfl)) (by intro _; rfl))) (@DF _ _ _ _ (@Ag _ _ _ _ _ _ _ _ Gp (MG P w K mg base (CX:=CX0) (n:=35) (hr.mono (by decide)) O7 (@Aw _ _ _ _ _ _ _ (ixL K) (@AY _ _ _ _ (@A7 _ _ _ _ _ (@AK _ _ (.ref f_show_number) _ _ rfl m_show_number rfl (by decide)) (@A7 _ _ _ _ _ (@AK _ _ (.ref f_show_curve) _ _ rfl m_show_curve rfl (by decide)) (@A7 _ _ _ _ _ (@AK _ _ (.ref f_show_points) _ _ rfl m_show_points rfl (by decide)) A8 (by rfl)) (by rfl)) (by rfl))) (pv 4) (fun u v=>rfl)) (@A7 _ _ _ _ _ (pv 6) A8 (by rfl))) (pv 5) (Ak _))))) (@Ae _ _ _ (@Aj _ _ _ _ E1)) Am (by rfl) (by rfl))) (by rfl)) (by rfl)) (by rfl)) (by rfl)) (by rfl)) (by rfl) (by intro _; rfl)) (@Aa _ _ _ _ _ K _ (@Aq _ _ 7 _ _ _ _ Di.nd rfl (Or.inl rfl) (@AW _ _ _ _ _ _ _ _ _ _ _ _ K PySem.F.plainAttrs_str PySem.F.slot_str_join PySem.F.type_str_join (Df K) Ah (@A7 _ _ _ _ _ (@Al _ _ _ _ _ _ _ _ OO (@AY _ _ _ _ (@A7 _ _ _ _ _ (@Aw _ _ _ _ _ _ _ (ixL K) (pv 2) Ab (fun u v=>rfl)) A8 (by rfl))) Ab) A8 (by rfl)) (by rfl) (by rfl) (by rfl) (by rfl) (by rfl) (by rfl)) (by rfl) (by first   | exact .inl rfl   | exact .inr rfl   | assumption)) (@Aa _ _ _ _ _ K _ (@Av _ _ _ _ _ _ _ _ K _ _ (@Ag _ _ _ _ _ _ _ _ (neD K hr.units) (@Ap _ _ _ _ _ _ _ _ _ _ _ Rk hr rfl (@A7 _ _ _ _ _ Ab (@A7 _ _ _ _ _ (pv 7) A8 (by rfl)) (by rfl)) (by decide) (by decide) (by rfl) (by rfl)) (@Ap _ _ _ _ _ _ _ _ _ _ _ RL hr rfl (@A7 _ _ _ _ _ Ab (@A7 _ _ _ _ _ (pv 7) A8 (by rfl)) (by rfl)) (by decide) (by decide) (by rfl) (by rfl)) (Ak _)) (@Ae _ _ _ (@Aj _ _ _ _ E1)) Am (by rfl) (by rfl)) (@Aa _ _ _ _ _ K _ (@Av _ _ _ _ _ _ _ _ K _ _ (@Ag _ _ _ _ _ _ _ _ (neD K hr.units) (@Cj _ (["_law_way","_law_texts_here"]) 1 ([2]) _ _ _ _ _ _ _ _ _ _ rfl (AQ.look (NX:=["_law_script","_law_pen_here","_law_texts_here","_law_k","_law_way","_law_text_here","_law_due_here","_law_long","_law_odd"]) (sc:=Ac (top 61)) rfl rfl (by decide +kernel)) (@CJ _ _ _ _ _ _ rfl R1 (@A7 _ _ _ _ _ Ab A8 (by rfl)) (by rfl)) (fun u1 u2 u3 u4 u5=>(@AG _ _ 0 _ (show List.Nodup (["_law_way","_law_texts_here"] : List Str) from by decide +kernel) rfl (Or.inl rfl) (by first   | exact .inl rfl   | exact .inr rfl   | assumption))) (AD (by decide)) (fun u1 u2 u3 u4 u5=>Bb) (fun u1 u2 u3 u4 u5=>(@Ap _ _ _ _ _ _ _ _ _ _ _ Rk hr rfl (@A7 _ _ _ _ _ (pv 0) (@A7 _ _ _ _ _ (@Al _ _ _ _ _ _ _ _ Bp (@Aw _ _ _ _ _ _ _ (ixL K) (pv 1) (pv 0) (fun u v=>rfl)) Ah) A8 (by rfl)) (by rfl)) (by decide) (by decide) (by rfl) (by rfl))) (by intro _; rfl)) (@AY _ _ _ _ (@A7 _ _ _ _ _ Ah (@A7 _ _ _ _ _ Ah (@A7 _ _ _ _ _ Ah A8 (by rfl)) (by rfl)) (by rfl))) (Ak _)) (@Ae _ _ _ (@Aj _ _ _ _ E1)) Am (by rfl) (by rfl)) (@Aa _ _ _ _ _ K _ (@Iw _ _ _ _ 8 _ _ Di.nd rfl (Or.inr rfl) (@OH _ _ _ _ _ _ _ (ixL K) (@G0 _ _ _ _ (@AB _ _ _ _ _ Np (@AB _ _ _ _ _ Iz (@AB _ _ _ _ _ OI (@AB _ _ _ _ _ (@G0 _ _ _ _ (@AB _ _ _ _ _ Bg Eg CA)) (@AB _ _ _ _ _ (@KY _ _ _ _ _ (@AB _ _ _ _ _ Iz (@AB _ _ _ _ _ Iz Eg CA) CA)) (@AB _ _ _ _ _ (@pek _ _ _ MF) (@AB _ _ _ _ _ (@KY _ _ _ _ _ Eg) Eg Q8) QI) Q8) QH) CA) CA) CA)) (@pek _ _ _ (@Ap _ _ _ _ _ _ _ _ _ _ _ QY hr rfl (@A7 _ _ _ _ _ (pv 1) (@A7 _ _ _ _ _ Ab A8 (by rfl)) (by rfl)) (by decide) (by decide) (by rfl) (by rfl))) (fun u v=>rfl)) (by rfl) (by first   | exact .inl rfl   | exact .inr rfl   | assumption)) (@Ae _ _ _ (@Aj _ _ _ _ (@BO _ _ _ _ _ _ _ _ (eqD K hr.units) (@Cj _ (["_law_way","_law_odd"]) 1 ([8]) _ _ _ _ _ _ _ _ _ _ rfl (AQ.look (NX:=["_law_script","_law_pen_here","_law_texts_here","_law_k","_law_way","_law_text_here","_law_due_here","_law_long","_law_odd"]) (sc:=Ac (top 61)) rfl rfl (by decide +kernel)) (@CJ _ _ _ _ _ _ rfl R1 (@A7 _ _ _ _ _ Ab A8 (by rfl)) (by rfl)) (fun u1 u2 u3 u4 u5=>(@AG _ _ 0 _ (show List.Nodup (["_law_way","_law_odd"] : List Str) from by decide +kernel) rfl (Or.inl rfl) (by first   | exact .inl rfl   | exact .inr rfl   | assumption))) (AD (by decide)) (fun u1 u2 u3 u4 u5=>Bb) (fun u1 u2 u3 u4 u5=>(@Ap _ _ _ _ _ _ _ _ _ _ _ Rk hr rfl (@A7 _ _ _ _ _ (pv 0) (@A7 _ _ _ _ _ (pv 1) A8 (by rfl)) (by rfl)) (by decide) (by decide) (by rfl) (by rfl))) (by intro _; rfl)) (@AY _ _ _ _ (@A7 _ _ _ _ _ Ah (@A7 _ _ _ _ _ Ah (@A7 _ _ _ _ _ Ah A8 (by rfl)) (by rfl)) (by rfl))) (Ak _)))) (by rfl)) (by rfl)) (by rfl)) (by rfl)) (by rfl)) (by rfl)) (by rfl)) (by rfl)),?_⟩
 obtain ⟨a,ns,rfl,hS,h63,q⟩:=h
 have hs:=sizeLine_eq
 have P0 : 0 ≤ sizeLine:=by decide
 have P1 : 1 ≤ sizeLine:=by decide
 have P2 : 2 ≤ sizeLine:=by decide
 have P3 : 3 ≤ sizeLine:=by decide
 refine ⟨_,rfl,a,ns,0,rfl,hS,h63,by decide,by decide,fun p c0 c1 hp=>?_⟩
 have pn : Pen (upd H p (.lst [.int c0,.int c1,.int 0])) p:=.put
 generalize upd H p (.lst [.int c0,.int c1,.int 0]) = H0 at pn ⊢
 refine ⟨_,rfl,p,rfl,pn,fun q0 r0 H1 m1 p1 e1 b1 b2=>?_⟩
 have hq0 : Fg q0:=MY (n:=64) (by decide) ⟨b1,b2⟩
 refine ⟨_,q0,rfl,Be.of e1,hq0,?_⟩
 refine ⟨_,rfl,p,5,rfl,p1,by decide,by decide,fun qs c H2 m2 p2 hc hg h5 hb=>?_⟩
 refine ⟨P2,fun t1 ht1=>⟨P1,fun t2 ht2=>?_⟩⟩
 have s3:=(Ad.new (o:=.tup [.int 1,.int 2]) ht1).trans (Ad.new (o:=.tup [.ref t1]) ht2)
 obtain ⟨xs,hxS,hxn⟩:=(id hc)
 have hql : (qs.length : Int) ≤ 5:=h5
 have hxl:=hxn.length
 refine NM (hxS.same s3) (SqT.of A9) (SK (Br (by rw [TY]; lia))) fun t3 H4 s4 ht3=>?_
 have s24:=s3.trans s4
 have p4:=p2.sm s24
 have hfh : Fg Ek:=⟨by decide,by decide⟩
 have hqf : ∀ q ∈ qs ++ [Ek],Fg q:=fun q hq=>by
  rcases SR.mp hq with z | z
  ·exact MY (by decide) (hb q z)
  ·rw [Ul.mp z]; exact hfh
 have hnn : By K H4 (xs ++ [.ref t1]) (qs ++ [Ek]):=Paired.snoc (By.same hxn s24) (Be.of (s4 _ _ ((Ad.new ht2) _ _ A9)))
 refine ⟨t3,_,qs ++ [Ek],rfl,ht3,hnn,hqf,by rw [Tz,TY]; lia,fun H5 s5=>⟨P2,fun l hl=>?_⟩⟩
 have lp : l ≠ p:=(p4.sm s5).ne' hl
 have s6:=Ad.new (o:=.lst [.str (tx q0),.str (Str.join AL ((qs ++ [Ek]).map tx))]) hl
 have el:=A9 (H:=H5) (a:=l) (o:=.lst [.str (tx q0),.str (Str.join AL ((qs ++ [Ek]).map tx))])
 have p6:=(p4.sm s5).sm s6
 generalize upd H5 l (.lst [.str (tx q0),.str (Str.join AL ((qs ++ [Ek]).map tx))]) = H6 at s6 el p6 ⊢
 clear s24 s3 s4 s5 s6 p4 p2 p1 pn m1 m2 e1 hxS hxn hc ht3 hnn
 refine ⟨_,rfl,.inl ⟨rfl,_,SqL.of el⟩,_,rfl,p,12,rfl,p6,by decide,by decide,fun r H7 xs7 pss m7 p7 hS7 hp7 h23 hrb h1 h12 ht hnd=>?_⟩
 have hpf : ∀ ps ∈ pss,∀ q ∈ ps,Fg q:=fun ps hps q hq=>MY (by decide) (hrb ps hps q hq)
 have hge:=E9 h23
 have hpl : pss.length ≤ 12:=by lia
 refine ⟨r,xs7,pss,rfl,hS7,hp7.pts,h23,hpf,by lia,fun H8 s8=>?_⟩
 have el8:=s8 _ _ (m7 _ _ lp el)
 refine ⟨l,_,_,rfl,rfl,el8,(show 2 < sizeLine by decide),?_⟩
 have p9:=(p7.sm s8).put' (o:=.lst ([.str (tx q0),.str (Str.join AL ((qs ++ [Ek]).map tx))] ++ [.str (Bc pss)])) lp
 have el9 : upd H8 l (.lst ([.str (tx q0),.str (Str.join AL ((qs ++ [Ek]).map tx))] ++ [.str (Bc pss)])) l = some (.lst ([tx q0,Str.join AL ((qs ++ [Ek]).map tx),Bc pss].map V.str)):=A9
 generalize upd H8 l (.lst ([.str (tx q0),.str (Str.join AL ((qs ++ [Ek]).map tx))] ++ [.str (Bc pss)])) = H9 at p9 el9 ⊢
 clear el8 s8 m7 p7 p6 el hS7 hp7
 have hT2:=MC hpf h23
 have hT1:=D8 (sep:=AL) (by rw [Ce]; decide) (Dz hqf)
 rw [TC,Tz,TY] at hT1
 have hT0:=Kk hq0
 have hTA : ∀ T ∈ [tx q0,Str.join AL ((qs ++ [Ek]).map tx),Bc pss],Tg T ∧ T.length ≤ 4524:=fun T hT=>by
  simp only [SQ,Vi,or_false] at hT
  rcases hT with rfl | rfl | rfl
  ·exact ⟨Kz hq0,by lia⟩
  ·refine ⟨⟨CL (by unfold Sok; rw [CV]; decide) fun u hu=>?_,by lia⟩,by lia⟩
   obtain ⟨x,hx,rfl⟩:=(UY.mp hu)
   exact (Kz (hqf x hx)).1
  ·exact ⟨⟨N6 hpf,by lia⟩,by lia⟩
 have hcm : cm (Bc pss) ≤ 11:=by have:=Lo h1; lia
 have hfr : ∀ u ∈ Txt.split (Bc pss) AZ,44 ∉ sg u:=fun u hu=>by
  rw [BJ (GH h1)] at hu
  obtain ⟨ps,_,rfl⟩:=(UY.mp hu)
  exact EN ps
 have hT3 : ∀ w T,w < 3 → [tx q0,Str.join AL ((qs ++ [Ek]).map tx),Bc pss][w]? = some T → T ∈ [tx q0,Str.join AL ((qs ++ [Ek]).map tx),Bc pss] ∧ (w = 2 → T = Bc pss):=fun w T hw h=>⟨Tx h,fun z=>by subst z; cases h; rfl⟩
 have hlen3 : ∀ w,w < 3 → ∃ T,[tx q0,Str.join AL ((qs ++ [Ek]).map tx),Bc pss][w]? = some T:=fun w hw=>⟨_,Uo hw⟩
 generalize [tx q0,Str.join AL ((qs ++ [Ek]).map tx),Bc pss] = Ts at el9 hTA hT3 hlen3 ⊢
 clear hT2 hT1 hT0 hqf hql h5 hb hg hq0 b1 b2 hxl
 refine ⟨9,rfl,by decide,by decide,Fy (n:=9) (L4 p l Ts a fun p l Ts a _ σ G=>Pen G p ∧ G l = some (.lst (Ts.map V.str)) ∧ ∃ (z3 z4 z5 z6 : Option V),σ = [some (.ref a),some (.ref p),some (.ref l),z3,z4,z5,z6,none,none]) ⟨p9,el9,none,none,none,none,rfl⟩ ?_ ?_⟩
 ·rintro k σ G hk hR1
  refine DK hR1 fun pG eG hz76=>?_
  refine NJ hz76 fun z3 z4 z5 z6 hq75=>?_
  clear hz76
  obtain rfl:=hq75
  try clear hR1
  refine ⟨_,rfl,_,_,rfl,rfl,by decide,?_⟩
  have hw3 : k % 3 < 3:=Ux _ (by decide)
  have ew : (0 + (k : Int)) % 3 = ((k % 3 : Nat) : Int):=by lia
  rw [ew]
  generalize k % 3 = w at hw3 ⊢
  obtain ⟨T,hTw⟩:=(hlen3 w hw3)
  obtain ⟨hTm,hT2⟩:=(hT3 w T hw3 hTw)
  obtain ⟨hTg,hTl⟩:=(hTA T hTm)
  have hvT : (Ts.map V.str)[w]? = some (.str T):=by rw [Tu,hTw]; rfl
  obtain ⟨S,hSw,hSb,hS2⟩ : ∃ S : Str,([.str (Str.ofString " "),.str (Str.ofString " "),.str (Str.ofString ", ")] : List V)[w]? = some (.str S) ∧ (S = AL ∨ S = AZ) ∧ (w = 2 → S = AZ):=by
   have h3 : w = 0 ∨ w = 1 ∨ w = 2:=by lia
   rcases h3 with rfl | rfl | rfl
   ·exact ⟨_,rfl,.inl rfl,fun z=>absurd z (by decide)⟩
   ·exact ⟨_,rfl,.inl rfl,fun z=>absurd z (by decide)⟩
   ·exact ⟨_,rfl,.inr rfl,fun _=>rfl⟩
  refine ⟨_,rfl,_,rfl,_,rfl,l,_,_,_,rfl,rfl,SqL.of eG,As hvT,P3,fun lm hlm=>⟨_,rfl,lm,_,_,_,rfl,rfl,SqL.of A9,As hSw,?_⟩⟩
  have sA:=Ad.new (o:=.lst [.str (Str.ofString " "),.str (Str.ofString " "),.str (Str.ofString ", ")]) hlm
  refine ⟨p,T,S,rfl,pG.sm sA,hTg.1,by lia,hSb,fun u1 G1 m1 p1 hB1=>?_⟩
  have eG1:=m1 _ _ lp (sA _ _ eG)
  have hc1 : w = 2 → cm u1 ≤ 12:=fun z=>by
   have e:=hT2 z
   have:=hB1.cms (hS2 z) (.inr (by rw [e]; exact hfr))
   rw [e] at this; lia
  have hl1:=hB1.len
  try dsimp only
  refine LF (L7 p l Ts w a k z6 fun p l Ts w a k z6 σ' G'=>Pen G' p ∧ G' l = some (.lst (Ts.map V.str)) ∧ ∃ u : Str,Tg u ∧ (w = 2 → Cok (sg u) → cm u ≤ 16) ∧ σ' = [some (.ref a),some (.ref p),some (.ref l),some (.int (0 + (k : Int))),some (.int (w : Int)),some (.str u),z6,none,none]) (fun nx hnx=>?_) ?_
  ·refine ⟨_,rfl,p,3,rfl,p1,by decide,by decide,fun d G2 d0 d1 o2 p2=>⟨rfl,_,rfl,?_⟩⟩
   have eG2:=o2.mv _ _ lp eG1
   refine Hv (fun _=>?_) (fun _=>?_)
   ·refine ⟨_,rfl,_,rfl,P3,fun lm2 hlm2=>⟨_,rfl,lm2,_,_,_,rfl,rfl,SqL.of A9,As hSw,?_⟩⟩
    have sB:=Ad.new (o:=.lst [.str (Str.ofString " "),.str (Str.ofString " "),.str (Str.ofString ", ")]) hlm2
    refine ⟨p,u1,S,rfl,p2.sm sB,hB1.asc,by lia,hSb,fun u2 G3 m3 p3 hB2=>hnx _ _ ⟨p3,m3 _ _ lp (sB _ _ eG2),u2,⟨hB2.asc,?_⟩,fun z hk=>?_,rfl⟩⟩
    ·have:=hB2.len; lia
    ·have h1:=hB2.cms (hS2 z) (.inl hk)
     have h2:=hc1 z
     lia
   ·exact hnx _ _ ⟨p2,eG2,u1,⟨hB1.asc,by lia⟩,fun z _=>by have:=hc1 z; lia,rfl⟩
  rintro σ' G2 hR2
  refine DK hR2 fun p2 eG2 hz78=>?_
  refine GX hz78 fun u hz78'=>?_
  clear hz78
  refine DK hz78' fun hu hcu hq77=>?_
  clear hz78'
  obtain rfl:=hq77
  try clear hR2
  obtain ⟨res,hres⟩ : ∃ res,RdW w u res:=by
   have h3 : w = 0 ∨ w = 1 ∨ w = 2:=by lia
   rcases h3 with rfl | rfl | rfl
   ·exact QK u
   ·exact Qb u
   ·exact QJ (hcu rfl)
  refine ⟨_,rfl,_,rfl,w,u,res,rfl,hu,hres,fun v G3 s3 hv=>?_⟩
  refine ⟨_,rfl,_,rfl,w,_,rfl,hw3,.inl ⟨u,res,rfl,hu,hres,fun v' G4 s4 hv'=>⟨_,rfl,Oc hv' (hv.same s4) ⟨_,rfl,AR ?_⟩⟩⟩⟩
  have hv4:=hv.same s4
  have s24:=s3.trans s4
  have p4:=p2.sm s24
  have eG4:=s24 _ _ eG2
  have fin : ∀ G5,Ad G4 G5 → Pen G5 p ∧ G5 l = some (.lst (Ts.map V.str)):=fun G5 s5=>⟨p4.sm s5,s5 _ _ eG4⟩
  cases hres with
  | num0 h =>
    obtain rfl : v = _:=hv4
    exact ⟨_,rfl,_,_,_,_,rfl,.of (.str _),ED K,true,rfl,AR ⟨(fin _ (Ad.refl _)).1,(fin _ (Ad.refl _)).2,_,_,_,_,rfl⟩⟩
  | crvX h =>
    obtain rfl : v = _:=hv4
    exact ⟨_,rfl,_,_,_,_,rfl,.of (.str _),ED K,true,rfl,AR ⟨(fin _ (Ad.refl _)).1,(fin _ (Ad.refl _)).2,_,_,_,_,rfl⟩⟩
  | bad h =>
    obtain rfl : v = _:=hv4
    exact ⟨_,rfl,_,_,_,_,rfl,.of (.str _),ED K,true,rfl,AR ⟨(fin _ (Ad.refl _)).1,(fin _ (Ad.refl _)).2,_,_,_,_,rfl⟩⟩
  | twice h1 h17 h23 hf hnd =>
    obtain rfl : v = _:=hv4
    exact ⟨_,rfl,_,_,_,_,rfl,.of (.str _),ED K,true,rfl,AR ⟨(fin _ (Ad.refl _)).1,(fin _ (Ad.refl _)).2,_,_,_,_,rfl⟩⟩
  | many h1 h17 h23 hf hnd ht =>
    obtain rfl : v = _:=hv4
    exact ⟨_,rfl,_,_,_,_,rfl,.of (.str _),ED K,true,rfl,AR ⟨(fin _ (Ad.refl _)).1,(fin _ (Ad.refl _)).2,_,_,_,_,rfl⟩⟩
  | @num q1 h =>
    obtain ⟨r1,rfl,hr1⟩:=hv4
    refine FW Rj.ex fun f fd hz79'=>?_
    refine E6 hz79' fun FO B kp m=>?_
    clear hz79'
    cases m_show_number.symm.trans m
    refine ⟨_,rfl,_,_,_,_,rfl,.tup hr1,Fw K,false,rfl,Bv ⟨⟨P3,fun l2 hl2=>⟨_,rfl,l2,_,_,_,rfl,rfl,SqL.of A9,As (j:=0) rfl,_,fd,rfl,kp,_,rfl,_,_,AF.up FO (by decide),B,_,q1,rfl,⟨r1,rfl,hr1.same (Ad.new hl2)⟩,h,_,rfl,rfl,_,rfl,?_⟩⟩⟩⟩
    rw [decide_eq_true (rfl : V.str (tx q1) = V.str (tx q1))]
    have sN:=Ad.new (o:=.lst [.ref f_show_number,.ref f_show_curve,.ref f_show_points]) hl2
    exact AR ⟨(fin _ sN).1,(fin _ sN).2,_,_,_,_,rfl⟩
  | crv0 =>
    obtain ⟨r1,rfl,hc1⟩:=hv4
    obtain ⟨xs1,hr1,_⟩:=(id hc1)
    refine FW F_show_curve.ex fun f fd hz80'=>?_
    refine E6 hz80' fun FO B kp m=>?_
    clear hz80'
    cases m_show_curve.symm.trans m
    refine ⟨_,rfl,_,_,_,_,rfl,.tup hr1,Fw K,false,rfl,Bv ⟨⟨P3,fun l2 hl2=>⟨_,rfl,l2,_,_,_,rfl,rfl,SqL.of A9,As (j:=1) rfl,_,fd,rfl,kp,_,rfl,_,_,AF.up FO (by decide),B,r1,[],rfl,hc1.same (Ad.new hl2),nofun,by decide,fun G6 s6=>⟨_,rfl,rfl,_,rfl,?_⟩⟩⟩⟩⟩
    rw [decide_eq_true (show V.str (ctx []) = V.str (Str.ofString "0") from rfl)]
    have sN:=(Ad.new (o:=.lst [.ref f_show_number,.ref f_show_curve,.ref f_show_points]) hl2).trans s6
    exact AR ⟨(fin _ sN).1,(fin _ sN).2,_,_,_,_,rfl⟩
  | @crv ys hf hn h16 q1 hl' h0 =>
    obtain ⟨r1,rfl,hc1⟩:=hv4
    obtain ⟨xs1,hr1,_⟩:=(id hc1)
    refine FW F_show_curve.ex fun f fd hz81'=>?_
    refine E6 hz81' fun FO B kp m=>?_
    clear hz81'
    cases m_show_curve.symm.trans m
    refine ⟨_,rfl,_,_,_,_,rfl,.tup hr1,Fw K,false,rfl,Bv ⟨⟨P3,fun l2 hl2=>⟨_,rfl,l2,_,_,_,rfl,rfl,SqL.of A9,As (j:=1) rfl,_,fd,rfl,kp,_,rfl,_,_,AF.up FO (by decide),B,r1,ys,rfl,hc1.same (Ad.new hl2),hf,by lia,fun G6 s6=>⟨_,rfl,rfl,_,rfl,?_⟩⟩⟩⟩⟩
    rw [decide_eq_true (show V.str (ctx ys) = V.str (Str.join AL (ys.map tx)) by rw [show ctx ys = _ from if_neg hn])]
    have sN:=(Ad.new (o:=.lst [.ref f_show_number,.ref f_show_curve,.ref f_show_points]) hl2).trans s6
    exact AR ⟨(fin _ sN).1,(fin _ sN).2,_,_,_,_,rfl⟩
  | @pts pss1 h1 h23 hf hnd ht =>
    refine FW hv4 fun r1 xs1 hz83'=>?_
    refine DK hz83' fun hq82 hr1 hP1=>?_
    clear hz83'
    obtain rfl:=hq82
    have hge1:=E9 h23
    refine FW F_show_points.ex fun f fd hz84'=>?_
    refine E6 hz84' fun FO B kp m=>?_
    clear hz84'
    cases m_show_points.symm.trans m
    refine ⟨_,rfl,_,_,_,_,rfl,.tup hr1,Fw K,false,rfl,Bv ⟨⟨P3,fun l2 hl2=>⟨_,rfl,l2,_,_,_,rfl,rfl,SqL.of A9,As (j:=2) rfl,_,fd,rfl,kp,_,rfl,_,_,AF.up FO (by decide),B,r1,xs1,pss1,rfl,hr1.same (Ad.new hl2),Pts.same hP1 (Ad.new hl2),h23,hf,by lia,fun G6 s6=>⟨_,rfl,rfl,_,rfl,?_⟩⟩⟩⟩⟩
    rw [decide_eq_true (rfl : V.str (Bc pss1) = V.str (Bc pss1))]
    have sN:=(Ad.new (o:=.lst [.ref f_show_number,.ref f_show_curve,.ref f_show_points]) hl2).trans s6
    exact AR ⟨(fin _ sN).1,(fin _ sN).2,_,_,_,_,rfl⟩
 rintro σ G hR3
 refine DK hR3 fun pG eG hz86=>?_
 refine NJ hz86 fun z3 z4 z5 z6 hq85=>?_
 clear hz86
 obtain rfl:=hq85
 try clear hR3
 obtain ⟨T1,hT1⟩:=(hlen3 1 (by decide))
 obtain ⟨hT1g,hT1l⟩:=(hTA T1 (Tx hT1))
 have hv1 : (Ts.map V.str)[1]? = some (.str T1):=by rw [Tu,hT1]; rfl
 refine ⟨rfl,_,rfl,l,_,_,_,rfl,rfl,SqL.of eG,As (j:=1) hv1,P1,fun l1 hl1=>?_⟩
 refine ⟨l1,3,[.str T1],rfl,rfl,A9,by decide,by decide,(show 1 * 3 ≤ sizeLine by decide),fun l2 hl2=>?_⟩
 have sL:=(Ad.new (o:=.lst [.str T1]) hl1).trans (Ad.new (o:=.lst (Tj (3 : Int).toNat [V.str T1]).flatten) hl2)
 have hsum : ([T1,T1,T1].map fun t : Str=>t.length).sum + ([T1,T1,T1] : List Str).length * AL.length ≤ 13575:=by
  show T1.length + (T1.length + (T1.length + 0)) + 3 * 1 ≤ 13575
  lia
 refine ⟨AL,l2,[T1,T1,T1],rfl,rfl,SqL.of A9,GU (SJ hsum (by decide)),?_⟩
 have hlg : Tg (Str.join AL [T1,T1,T1]):=⟨CL (by rw [Sok,CV]; decide) fun t ht=>by
  simp only [SQ,Vi,or_false] at ht
  rcases ht with rfl | rfl | rfl <;> exact hT1g.1,by
  have:=F0 (sep:=AL) (ts:=[T1,T1,T1]) (V8 _ _)
  lia⟩
 generalize Str.join AL [T1,T1,T1] = L3 at hlg ⊢
 have pL:=pG.sm sL
 have eL:=sL _ _ eG
 generalize upd (upd G l1 (.lst [.str T1])) l2 (.lst (Tj (3 : Int).toNat [V.str T1]).flatten) = GL at pL eL ⊢
 clear hsum sL
 obtain ⟨res,hres⟩:=(Qb L3)
 refine ⟨_,rfl,1,_,rfl,by decide,.inl ⟨L3,res,rfl,hlg,hres,fun v G1 s1 hv=>⟨_,rfl,1,L3,res,rfl,hlg,hres,fun v' G2 s2 hv'=>Oc (hv.same s2) hv' ⟨_,rfl,AR ?_⟩⟩⟩⟩
 have pM:=(pL.sm s1).sm s2
 have eM:=s2 _ _ (s1 _ _ eL)
 clear hv hv' hl1 hl2 hres
 have txtOk : ∀ t ∈ ([wdT 2,wdT 2,wdT 2] : List Str),Sok t:=by unfold Sok; decide +kernel
 refine BN ⟨3,rfl,by decide,by decide,Kl (n:=3) (fun i zs H'=>Ad G2 H' ∧ zs = Tj i (V.str (wdT 2))) ⟨Ad.refl _,rfl⟩ (fun i zs H' _ h=>by rw [h.2,TF]) P3 ?_ ?_⟩
 ·rintro i zs H' hi ⟨sH,rfl⟩
  rw [Int.zero_add]
  obtain ⟨T,hTw⟩:=(hlen3 i hi)
  obtain ⟨hTg,hTl⟩:=(hTA T (Tx hTw))
  have hvT : (Ts.map V.str)[i]? = some (.str T):=by rw [Tu,hTw]; rfl
  have hN : sg (Str.ofString "\n") = [10]:=by decide +kernel
  have hl2 : (T ++ Str.ofString "\n").length = T.length + 1:=by rw [Ai,AE,Tz,← Ai,hN]; rfl
  have hTn : Tg (T ++ Str.ofString "\n"):=⟨fun c hc=>by
   rw [AE,hN] at hc
   rcases SR.mp hc with z | z
   ·exact hTg.1 c z
   ·rw [Ul.mp z]; decide,by lia⟩
  have h10 : 10 ∈ sg (T ++ Str.ofString "\n"):=by rw [AE,hN]; exact SR.mpr (.inr (Ul.mpr rfl))
  have hrd : RdW i (T ++ Str.ofString "\n") (.word 2):=by
   have h3 : i = 0 ∨ i = 1 ∨ i = 2:=by lia
   rcases h3 with rfl | rfl | rfl
   ·exact nl0 h10
   ·exact nl1 h10
   ·exact nl2 h10
  refine ⟨_,rfl,_,rfl,_,rfl,l,_,_,_,rfl,rfl,SqL.of (sH _ _ eM),As hvT,T,_,rfl,rfl,?_,i,_,rfl,hi,.inl ⟨_,_,rfl,hTn,hrd,fun v G5 s5 hv=>⟨sH.trans s5,?_⟩⟩⟩
  ·have : (Str.ofString "\n").length = 1:=by rw [Ai,hN]; rfl
   rw [this,hs]; lia
  ·rw [show v = V.str (wdT 2) from hv]
   exact Vg.symm
 rintro zs G3 ⟨s3,rfl⟩ jl hjl
 have sJ:=Ad.new (o:=.lst (Tj 3 (V.str (wdT 2)))) hjl
 refine ⟨P3,fun kl hkl=>?_⟩
 have sK:=Ad.new (o:=.lst [V.str (Str.ofString "text"),V.str (Str.ofString "text"),V.str (Str.ofString "text")]) hkl
 refine Pq (ts:=[wdT 2,wdT 2,wdT 2]) (us:=[wdT 2,wdT 2,wdT 2]) (SqL.of (sK _ _ A9)) (SqL.of A9) txtOk txtOk ?_
 refine ⟨_,rfl,AN (by rw [decide_eq_true rfl] <;> rfl) ?_⟩
 have pN:=((pM.sm s3).sm sJ).sm sK
 clear eM s3 hjl hkl pM
 generalize upd (upd G3 jl (.lst (Tj 3 (V.str (wdT 2))))) kl (.lst [V.str (Str.ofString "text"),V.str (Str.ofString "text"),V.str (Str.ofString "text")]) = GN at pN ⊢
 refine ⟨P1,fun li hli=>?_⟩
 have lip : li ≠ p:=pN.ne' hli
 have pO:=pN.sm (Ad.new (o:=.lst [V.str (Str.ofString "1")]) hli)
 have eA:=A9 (H:=GN) (a:=li) (o:=.lst [V.str (Str.ofString "1")])
 generalize upd GN li (.lst [V.str (Str.ofString "1")]) = GO at pO eA ⊢
 refine ⟨P2,fun ti hti=>?_⟩
 have tip : ti ≠ p:=pO.ne' hti
 have sC:=Ad.new (o:=.tup [V.int 1,V.int 2]) hti
 have pP:=pO.sm sC
 have eA:=sC _ _ eA
 have eC:=A9 (H:=GO) (a:=ti) (o:=.tup [V.int 1,V.int 2])
 generalize upd GO ti (.tup [V.int 1,V.int 2]) = GP at pP eA eC ⊢
 clear sC
 intro di hdi
 have dip : di ≠ p:=pP.ne' hdi
 have sD:=Ad.new (o:=.dK []) hdi
 have pQ:=pP.sm sD
 have eA:=sD _ _ eA
 have eC:=sD _ _ eC
 have eD:=A9 (H:=GP) (a:=di) (o:=.dK [])
 generalize upd GP di (.dK []) = GQ at pQ eA eC eD ⊢
 clear sD
 refine ⟨P0,fun ei hei=>?_⟩
 have eip : ei ≠ p:=pQ.ne' hei
 have sE:=Ad.new (o:=.tup []) hei
 have pR:=pQ.sm sE
 have eA:=sE _ _ eA
 have eC:=sE _ _ eC
 have eD:=sE _ _ eD
 have eE:=A9 (H:=GQ) (a:=ei) (o:=.tup [])
 generalize upd GQ ei (.tup []) = GR at pR eA eC eD eE ⊢
 clear sE
 refine ⟨(by decide : 7 ≤ sizeLine),fun ml hml=>?_⟩
 have mlp : ml ≠ p:=pR.ne' hml
 have sM:=Ad.new (o:=.lst [V.non,.int 3,.bl true,.ref li,.ref ti,.ref di,.ref ei]) hml
 have pS:=pR.sm sM
 have eA:=sM _ _ eA
 have eC:=sM _ _ eC
 have eD:=sM _ _ eD
 have eE:=sM _ _ eE
 have eM:=A9 (H:=GR) (a:=ml) (o:=.lst [V.non,.int 3,.bl true,.ref li,.ref ti,.ref di,.ref ei])
 generalize upd GR ml (.lst [V.non,.int 3,.bl true,.ref li,.ref ti,.ref di,.ref ei]) = GS at pS eA eC eD eE eM ⊢
 clear sM hli hti hdi hei hml pR pQ pP pO pN
 refine ⟨_,rfl,p,7,rfl,pS,by decide,by decide,fun d GT d0 d1 oT pT=>?_⟩
 obtain ⟨x,hx,hm⟩:=(Py (xs:=[V.non,.int 3,.bl true,.ref li,.ref ti,.ref di,.ref ei]) d0 d1)
 have eA:=oT.mv _ _ lip eA
 have eC:=oT.mv _ _ tip eC
 have eD:=oT.mv _ _ dip eD
 have eE:=oT.mv _ _ eip eE
 have eM:=oT.mv _ _ mlp eM
 have hno : J2 K GT x:=by
  simp only [SQ,Vi,or_false] at hm
  rcases hm with rfl | rfl | rfl | rfl | rfl | rfl | rfl
  ·exact ⟨_,.of .non,OZ K⟩
  ·exact ⟨_,.of (.int _),NB K⟩
  ·exact ⟨_,.of (.bl _),P8 K⟩
  ·exact ⟨_,.lst (SqL.of eA),P4 K⟩
  ·exact ⟨_,.tup (SqT.of eC),Fw K⟩
  ·exact ⟨_,.of (.dK eD),P7 K⟩
  ·exact ⟨_,.tup (SqT.of eE),Fw K⟩
 refine ⟨ml,_,_,x,rfl,rfl,SqL.of eM,hx,?_⟩
 clear hx hm eA eC eD eE eM
 refine BN ⟨3,rfl,by decide,by decide,Kl (n:=3) (fun i zs H'=>Ad GT H' ∧ zs = Tj i (V.str (wdT 2))) ⟨Ad.refl _,rfl⟩ (fun i zs H' _ h=>by rw [h.2,TF]) P3 ?_ ?_⟩
 ·rintro i zs H' hi ⟨sH,rfl⟩
  rw [Int.zero_add]
  exact ⟨_,rfl,_,rfl,i,x,rfl,hi,.inr ⟨hno.same sH,fun G5 s5=>⟨sH.trans s5,Vg.symm⟩⟩⟩
 rintro zs G3 ⟨s3,rfl⟩ jl hjl
 refine ⟨P3,fun kl hkl=>?_⟩
 have sK:=Ad.new (o:=.lst [V.str (Str.ofString "text"),V.str (Str.ofString "text"),V.str (Str.ofString "text")]) hkl
 refine Pq (ts:=[wdT 2,wdT 2,wdT 2]) (us:=[wdT 2,wdT 2,wdT 2]) (SqL.of (sK _ _ A9)) (SqL.of A9) txtOk txtOk ?_
 rw [decide_eq_true rfl]
 exact q _
end
theorem fdm {P : Program} (w : World) {K : SI} {mg : Str → Option Value} (base : Heap) {n : Nat} {x : Str} {ps : List Str} {sp : Sp} {f : Addr} {fd : FuncData} (a : AF P w K mg base CX0 n f fd ps sp) (b : Cz K fd ps []) (c : T9 K (.ref f) = true) (d : mg x = some (.ref f)) : Fd P w K mg base n x ps sp:=⟨_,_,a,b,c,d⟩
theorem PF {l : U2} {w : World} {K : SI} {h : Heap} {mg : Str → Option Value} {fa f1 f2 f3 f4 f5 f6 f7 f8 f9 f10 f11 f12 f13 f14 f15 f16 f17 f18 f19 f20 f21 f22 f23 f24 f25 f26 f27 f28 f29 f30 f31 f32 f33 f34 f35 f36 f37 f38 f39 f40 : Addr} (hT : l.prog.given.tree = none) (X : K.In h) (G : h.Ns mainGlobals mg) (hfa : mg "law" = some (.ref fa))
 {od1 an1 od2 an2 od3 an3 od4 an4 od5 an5 od6 an6 od7 an7 od8 an8 od9 an9 od10 an10 od11 an11 od12 an12 od13 an13 od14 an14 od15 an15 od16 an16 od17 an17 od18 an18 od19 an19 od20 an20 od21 an21 od22 an22 od23 an23 od24 an24 od25 an25 od26 an26 od27 an27 od28 an28 od29 an29 od30 an30 od31 an31 od32 an32 od33 an33 od34 an34 od35 an35 od36 an36 od37 an37 od38 an38 od39 an39 od40 an40 : Option Addr} {sl1 sl2 sl3 sl4 sl5 sl6 sl7 sl8 sl9 sl10 sl11 sl12 sl13 sl14 sl15 sl16 sl17 sl18 sl19 sl20 sl21 sl22 sl23 sl24 sl25 sl26 sl27 sl28 sl29 sl30 sl31 sl32 sl33 sl34 sl35 sl36 sl37 sl38 sl39 sl40 : Array (Option Value)} {oc1 kV1 dc1 pm1 cd1 ct1 oc2 kV2 dc2 pm2 cd2 ct2 oc3 kV3 dc3 pm3 cd3 ct3 oc4 kV4 dc4 pm4 cd4 ct4 oc5 kV5 dc5 pm5 cd5 ct5 oc6 kV6 dc6 pm6 cd6 ct6 oc7 kV7 dc7 pm7 cd7 ct7 oc8 kV8 dc8 pm8 cd8 ct8 oc9 kV9 dc9 pm9 cd9 ct9 oc10 kV10 dc10 pm10 cd10 ct10 oc11 kV11 dc11 pm11 cd11 ct11 oc12 kV12 dc12 pm12 cd12 ct12 oc13 kV13 dc13 pm13 cd13 ct13 oc14 kV14 dc14 pm14 cd14 ct14 oc15 kV15 dc15 pm15 cd15 ct15 oc16 kV16 dc16 pm16 cd16 ct16 oc17 kV17 dc17 pm17 cd17 ct17 oc18 kV18 dc18 pm18 cd18 ct18 oc19 kV19 dc19 pm19 cd19 ct19 oc20 kV20 dc20 pm20 cd20 ct20 oc21 kV21 dc21 pm21 cd21 ct21 oc22 kV22 dc22 pm22 cd22 ct22 oc23 kV23 dc23 pm23 cd23 ct23 oc24 kV24 dc24 pm24 cd24 ct24 oc25 kV25 dc25 pm25 cd25 ct25 oc26 kV26 dc26 pm26 cd26 ct26 oc27 kV27 dc27 pm27 cd27 ct27 oc28 kV28 dc28 pm28 cd28 ct28 oc29 kV29 dc29 pm29 cd29 ct29 oc30 kV30 dc30 pm30 cd30 ct30 oc31 kV31 dc31 pm31 cd31 ct31 oc32 kV32 dc32 pm32 cd32 ct32 oc33 kV33 dc33 pm33 cd33 ct33 oc34 kV34 dc34 pm34 cd34 ct34 oc35 kV35 dc35 pm35 cd35 ct35 oc36 kV36 dc36 pm36 cd36 ct36 oc37 kV37 dc37 pm37 cd37 ct37 oc38 kV38 dc38 pm38 cd38 ct38 oc39 kV39 dc39 pm39 cd39 ct39 oc40 kV40 dc40 pm40 cd40 ct40 : Value}
 (a1 : Ut K mainGlobals "_law_pen" = some (some (.ref f1))) (l1 : K.lookup f1 = some ⟨oc1,od1,.func (TH "_law_pen" "_law_pen" (Ar (top 44)) (Ao (top 44)) (Ac (top 44)) .none kV1 dc1 pm1 an1 cd1 ct1),sl1⟩) (c1 : TJ K cd1 "_law_pen" = true) (k1 : T9 K (.ref f1) = true)
 (a2 : Ut K mainGlobals "_law_text" = some (some (.ref f2))) (l2 : K.lookup f2 = some ⟨oc2,od2,.func (TH "_law_text" "_law_text" (Ar (top 52)) (Ao (top 52)) (Ac (top 52)) .none kV2 dc2 pm2 an2 cd2 ct2),sl2⟩) (c2 : TJ K cd2 "_law_text" = true) (k2 : T9 K (.ref f2) = true)
 (a3 : Ut K mainGlobals "_law_texts" = some (some (.ref f3))) (l3 : K.lookup f3 = some ⟨oc3,od3,.func (TH "_law_texts" "_law_texts" (Ar (top 53)) (Ao (top 53)) (Ac (top 53)) .none kV3 dc3 pm3 an3 cd3 ct3),sl3⟩) (c3 : TJ K cd3 "_law_texts" = true) (k3 : T9 K (.ref f3) = true)
 (a4 : Ut K mainGlobals "_law_points_text" = some (some (.ref f4))) (l4 : K.lookup f4 = some ⟨oc4,od4,.func (TH "_law_points_text" "_law_points_text" (Ar (top 54)) (Ao (top 54)) (Ac (top 54)) .none kV4 dc4 pm4 an4 cd4 ct4),sl4⟩) (c4 : TJ K cd4 "_law_points_text" = true) (k4 : T9 K (.ref f4) = true)
 (a5 : Ut K mainGlobals "_law_draw" = some (some (.ref f5))) (l5 : K.lookup f5 = some ⟨oc5,od5,.func (TH "_law_draw" "_law_draw" (Ar (top 45)) (Ao (top 45)) (Ac (top 45)) .none kV5 dc5 pm5 an5 cd5 ct5),sl5⟩) (c5 : TJ K cd5 "_law_draw" = true) (k5 : T9 K (.ref f5) = true)
 (a6 : Ut K mainGlobals "_law_bent" = some (some (.ref f6))) (l6 : K.lookup f6 = some ⟨oc6,od6,.func (TH "_law_bent" "_law_bent" (Ar (top 60)) (Ao (top 60)) (Ac (top 60)) .none kV6 dc6 pm6 an6 cd6 ct6),sl6⟩) (c6 : TJ K cd6 "_law_bent" = true) (k6 : T9 K (.ref f6) = true)
 (a7 : Ut K mainGlobals "_law_figures" = some (some (.ref f7))) (l7 : K.lookup f7 = some ⟨oc7,od7,.func (TH "_law_figures" "_law_figures" (Ar (top 55)) (Ao (top 55)) (Ac (top 55)) .none kV7 dc7 pm7 an7 cd7 ct7),sl7⟩) (c7 : TJ K cd7 "_law_figures" = true) (k7 : T9 K (.ref f7) = true)
 (a8 : Ut K mainGlobals "_law_lowest" = some (some (.ref f8))) (l8 : K.lookup f8 = some ⟨oc8,od8,.func (TH "_law_lowest" "_law_lowest" (Ar (top 46)) (Ao (top 46)) (Ac (top 46)) .none kV8 dc8 pm8 an8 cd8 ct8),sl8⟩) (c8 : TJ K cd8 "_law_lowest" = true) (k8 : T9 K (.ref f8) = true)
 (a9 : Ut K mainGlobals "_law_read" = some (some (.ref f9))) (l9 : K.lookup f9 = some ⟨oc9,od9,.func (TH "_law_read" "_law_read" (Ar (top 56)) (Ao (top 56)) (Ac (top 56)) .none kV9 dc9 pm9 an9 cd9 ct9),sl9⟩) (c9 : TJ K cd9 "_law_read" = true) (k9 : T9 K (.ref f9) = true)
 (a10 : Ut K mainGlobals "_law_due" = some (some (.ref f10))) (l10 : K.lookup f10 = some ⟨oc10,od10,.func (TH "_law_due" "_law_due" (Ar (top 58)) (Ao (top 58)) (Ac (top 58)) .none kV10 dc10 pm10 an10 cd10 ct10),sl10⟩) (c10 : TJ K cd10 "_law_due" = true) (k10 : T9 K (.ref f10) = true)
 (a11 : Ut K mainGlobals "_law_refusal" = some (some (.ref f11))) (l11 : K.lookup f11 = some ⟨oc11,od11,.func (TH "_law_refusal" "_law_refusal" (Ar (top 57)) (Ao (top 57)) (Ac (top 57)) .none kV11 dc11 pm11 an11 cd11 ct11),sl11⟩) (c11 : TJ K cd11 "_law_refusal" = true) (k11 : T9 K (.ref f11) = true)
 (a12 : Ut K mainGlobals "check_text" = some (some (.ref f12))) (l12 : K.lookup f12 = some ⟨oc12,od12,.func (TH "check_text" "check_text" (Ar (top 37)) (Ao (top 37)) (Ac (top 37)) .none kV12 dc12 pm12 an12 cd12 ct12),sl12⟩) (c12 : TJ K cd12 "check_text" = true) (k12 : T9 K (.ref f12) = true)
 (a13 : Ut K mainGlobals "is_whole" = some (some (.ref f13))) (l13 : K.lookup f13 = some ⟨oc13,od13,.func (TH "is_whole" "is_whole" (Ar (top 13)) (Ao (top 13)) (Ac (top 13)) .none kV13 dc13 pm13 an13 cd13 ct13),sl13⟩) (c13 : TJ K cd13 "is_whole" = true) (k13 : T9 K (.ref f13) = true)
 (a14 : Ut K mainGlobals "common_measure" = some (some (.ref f14))) (l14 : K.lookup f14 = some ⟨oc14,od14,.func (TH "common_measure" "common_measure" (Ar (top 14)) (Ao (top 14)) (Ac (top 14)) .none kV14 dc14 pm14 an14 cd14 ct14),sl14⟩) (c14 : TJ K cd14 "common_measure" = true) (k14 : T9 K (.ref f14) = true)
 (a15 : Ut K mainGlobals "is_number" = some (some (.ref f15))) (l15 : K.lookup f15 = some ⟨oc15,od15,.func (TH "is_number" "is_number" (Ar (top 15)) (Ao (top 15)) (Ac (top 15)) .none kV15 dc15 pm15 an15 cd15 ct15),sl15⟩) (c15 : TJ K cd15 "is_number" = true) (k15 : T9 K (.ref f15) = true)
 (a16 : Ut K mainGlobals "are_figures" = some (some (.ref f16))) (l16 : K.lookup f16 = some ⟨oc16,od16,.func (TH "are_figures" "are_figures" (Ar (top 34)) (Ao (top 34)) (Ac (top 34)) .none kV16 dc16 pm16 an16 cd16 ct16),sl16⟩) (c16 : TJ K cd16 "are_figures" = true) (k16 : T9 K (.ref f16) = true)
 (a17 : Ut K mainGlobals "is_top" = some (some (.ref f17))) (l17 : K.lookup f17 = some ⟨oc17,od17,.func (TH "is_top" "is_top" (Ar (top 35)) (Ao (top 35)) (Ac (top 35)) .none kV17 dc17 pm17 an17 cd17 ct17),sl17⟩) (c17 : TJ K cd17 "is_top" = true) (k17 : T9 K (.ref f17) = true)
 (a18 : Ut K mainGlobals "number_in" = some (some (.ref f18))) (l18 : K.lookup f18 = some ⟨oc18,od18,.func (TH "number_in" "number_in" (Ar (top 36)) (Ao (top 36)) (Ac (top 36)) .none kV18 dc18 pm18 an18 cd18 ct18),sl18⟩) (c18 : TJ K cd18 "number_in" = true) (k18 : T9 K (.ref f18) = true)
 (a19 : Ut K mainGlobals "numbers_in" = some (some (.ref f19))) (l19 : K.lookup f19 = some ⟨oc19,od19,.func (TH "numbers_in" "numbers_in" (Ar (top 38)) (Ao (top 38)) (Ac (top 38)) .none kV19 dc19 pm19 an19 cd19 ct19),sl19⟩) (c19 : TJ K cd19 "numbers_in" = true) (k19 : T9 K (.ref f19) = true)
 (a20 : Ut K mainGlobals "read_number" = some (some (.ref f20))) (l20 : K.lookup f20 = some ⟨oc20,od20,.func (TH "read_number" "read_number" (Ar (top 39)) (Ao (top 39)) (Ac (top 39)) .none kV20 dc20 pm20 an20 cd20 ct20),sl20⟩) (c20 : TJ K cd20 "read_number" = true) (k20 : T9 K (.ref f20) = true)
 (a21 : Ut K mainGlobals "curve_of" = some (some (.ref f21))) (l21 : K.lookup f21 = some ⟨oc21,od21,.func (TH "curve_of" "curve_of" (Ar (top 18)) (Ao (top 18)) (Ac (top 18)) .none kV21 dc21 pm21 an21 cd21 ct21),sl21⟩) (c21 : TJ K cd21 "curve_of" = true) (k21 : T9 K (.ref f21) = true)
 (a22 : Ut K mainGlobals "read_curve" = some (some (.ref f22))) (l22 : K.lookup f22 = some ⟨oc22,od22,.func (TH "read_curve" "read_curve" (Ar (top 40)) (Ao (top 40)) (Ac (top 40)) .none kV22 dc22 pm22 an22 cd22 ct22),sl22⟩) (c22 : TJ K cd22 "read_curve" = true) (k22 : T9 K (.ref f22) = true)
 (a23 : Ut K mainGlobals "are_unlike" = some (some (.ref f23))) (l23 : K.lookup f23 = some ⟨oc23,od23,.func (TH "are_unlike" "are_unlike" (Ar (top 22)) (Ao (top 22)) (Ac (top 22)) .none kV23 dc23 pm23 an23 cd23 ct23),sl23⟩) (c23 : TJ K cd23 "are_unlike" = true) (k23 : T9 K (.ref f23) = true)
 (a24 : Ut K mainGlobals "told_in" = some (some (.ref f24))) (l24 : K.lookup f24 = some ⟨oc24,od24,.func (TH "told_in" "told_in" (Ar (top 24)) (Ao (top 24)) (Ac (top 24)) .none kV24 dc24 pm24 an24 cd24 ct24),sl24⟩) (c24 : TJ K cd24 "told_in" = true) (k24 : T9 K (.ref f24) = true)
 (a25 : Ut K mainGlobals "is_point" = some (some (.ref f25))) (l25 : K.lookup f25 = some ⟨oc25,od25,.func (TH "is_point" "is_point" (Ar (top 21)) (Ao (top 21)) (Ac (top 21)) .none kV25 dc25 pm25 an25 cd25 ct25),sl25⟩) (c25 : TJ K cd25 "is_point" = true) (k25 : T9 K (.ref f25) = true)
 (a26 : Ut K mainGlobals "points_of" = some (some (.ref f26))) (l26 : K.lookup f26 = some ⟨oc26,od26,.func (TH "points_of" "points_of" (Ar (top 23)) (Ao (top 23)) (Ac (top 23)) .none kV26 dc26 pm26 an26 cd26 ct26),sl26⟩) (c26 : TJ K cd26 "points_of" = true) (k26 : T9 K (.ref f26) = true)
 (a27 : Ut K mainGlobals "read_points_of" = some (some (.ref f27))) (l27 : K.lookup f27 = some ⟨oc27,od27,.func (TH "read_points_of" "read_points_of" (Ar (top 41)) (Ao (top 41)) (Ac (top 41)) .none kV27 dc27 pm27 an27 cd27 ct27),sl27⟩) (c27 : TJ K cd27 "read_points_of" = true) (k27 : T9 K (.ref f27) = true)
 (a28 : Ut K mainGlobals "read_points" = some (some (.ref f28))) (l28 : K.lookup f28 = some ⟨oc28,od28,.func (TH "read_points" "read_points" (Ar (top 42)) (Ao (top 42)) (Ac (top 42)) .none kV28 dc28 pm28 an28 cd28 ct28),sl28⟩) (c28 : TJ K cd28 "read_points" = true) (k28 : T9 K (.ref f28) = true)
 (a29 : Ut K mainGlobals "_law_told_of" = some (some (.ref f29))) (l29 : K.lookup f29 = some ⟨oc29,od29,.func (TH "_law_told_of" "_law_told_of" (Ar (top 59)) (Ao (top 59)) (Ac (top 59)) .none kV29 dc29 pm29 an29 cd29 ct29),sl29⟩) (c29 : TJ K cd29 "_law_told_of" = true) (k29 : T9 K (.ref f29) = true)
 (a30 : Ut K mainGlobals "_law_number" = some (some (.ref f30))) (l30 : K.lookup f30 = some ⟨oc30,od30,.func (TH "_law_number" "_law_number" (Ar (top 48)) (Ao (top 48)) (Ac (top 48)) .none kV30 dc30 pm30 an30 cd30 ct30),sl30⟩) (c30 : TJ K cd30 "_law_number" = true) (k30 : T9 K (.ref f30) = true)
 (a31 : Ut K mainGlobals "_law_plus" = some (some (.ref f31))) (l31 : K.lookup f31 = some ⟨oc31,od31,.func (TH "_law_plus" "_law_plus" (Ar (top 47)) (Ao (top 47)) (Ac (top 47)) .none kV31 dc31 pm31 an31 cd31 ct31),sl31⟩) (c31 : TJ K cd31 "_law_plus" = true) (k31 : T9 K (.ref f31) = true)
 (a32 : Ut K mainGlobals "_law_places" = some (some (.ref f32))) (l32 : K.lookup f32 = some ⟨oc32,od32,.func (TH "_law_places" "_law_places" (Ar (top 50)) (Ao (top 50)) (Ac (top 50)) .none kV32 dc32 pm32 an32 cd32 ct32),sl32⟩) (c32 : TJ K cd32 "_law_places" = true) (k32 : T9 K (.ref f32) = true)
 (a33 : Ut K mainGlobals "_law_points" = some (some (.ref f33))) (l33 : K.lookup f33 = some ⟨oc33,od33,.func (TH "_law_points" "_law_points" (Ar (top 51)) (Ao (top 51)) (Ac (top 51)) .none kV33 dc33 pm33 an33 cd33 ct33),sl33⟩) (c33 : TJ K cd33 "_law_points" = true) (k33 : T9 K (.ref f33) = true)
 (a34 : Ut K mainGlobals "_law_curve" = some (some (.ref f34))) (l34 : K.lookup f34 = some ⟨oc34,od34,.func (TH "_law_curve" "_law_curve" (Ar (top 49)) (Ao (top 49)) (Ac (top 49)) .none kV34 dc34 pm34 an34 cd34 ct34),sl34⟩) (c34 : TJ K cd34 "_law_curve" = true) (k34 : T9 K (.ref f34) = true)
 (a35 : Ut K mainGlobals "show_number" = some (some (.ref f35))) (l35 : K.lookup f35 = some ⟨oc35,od35,.func (TH "show_number" "show_number" (Ar (top 29)) (Ao (top 29)) (Ac (top 29)) .none kV35 dc35 pm35 an35 cd35 ct35),sl35⟩) (c35 : TJ K cd35 "show_number" = true) (k35 : T9 K (.ref f35) = true)
 (a36 : Ut K mainGlobals "show_numbers" = some (some (.ref f36))) (l36 : K.lookup f36 = some ⟨oc36,od36,.func (TH "show_numbers" "show_numbers" (Ar (top 30)) (Ao (top 30)) (Ac (top 30)) .none kV36 dc36 pm36 an36 cd36 ct36),sl36⟩) (c36 : TJ K cd36 "show_numbers" = true) (k36 : T9 K (.ref f36) = true)
 (a37 : Ut K mainGlobals "show_curve" = some (some (.ref f37))) (l37 : K.lookup f37 = some ⟨oc37,od37,.func (TH "show_curve" "show_curve" (Ar (top 31)) (Ao (top 31)) (Ac (top 31)) .none kV37 dc37 pm37 an37 cd37 ct37),sl37⟩) (c37 : TJ K cd37 "show_curve" = true) (k37 : T9 K (.ref f37) = true)
 (a38 : Ut K mainGlobals "show_point" = some (some (.ref f38))) (l38 : K.lookup f38 = some ⟨oc38,od38,.func (TH "show_point" "show_point" (Ar (top 32)) (Ao (top 32)) (Ac (top 32)) .none kV38 dc38 pm38 an38 cd38 ct38),sl38⟩) (c38 : TJ K cd38 "show_point" = true) (k38 : T9 K (.ref f38) = true)
 (a39 : Ut K mainGlobals "show_points" = some (some (.ref f39))) (l39 : K.lookup f39 = some ⟨oc39,od39,.func (TH "show_points" "show_points" (Ar (top 33)) (Ao (top 33)) (Ac (top 33)) .none kV39 dc39 pm39 an39 cd39 ct39),sl39⟩) (c39 : TJ K cd39 "show_points" = true) (k39 : T9 K (.ref f39) = true)
 (a40 : Ut K mainGlobals "law" = some (some (.ref f40))) (l40 : K.lookup f40 = some ⟨oc40,od40,.func (TH "law" "law" (Ar (top 61)) (Ao (top 61)) (Ac (top 61)) .none kV40 dc40 pm40 an40 cd40 ct40),sl40⟩) (c40 : TJ K cd40 "law" = true) (k40 : T9 K (.ref f40) = true)
 (z_len : Ut K mainGlobals "len" = some none)
 (z_str : Ut K mainGlobals "str" = some none)
 (z_min : Ut K mainGlobals "min" = some none)
 (z_abs : Ut K mainGlobals "abs" = some none)
 (z_int : Ut K mainGlobals "int" = some none)
 (z_tuple : Ut K mainGlobals "tuple" = some none)
 (z_isinstance : Ut K mainGlobals "isinstance" = some none)
 (z_set : Ut K mainGlobals "set" = some none)
 (z_sum : Ut K mainGlobals "sum" = some none)
 (z_ValueError : Ut K mainGlobals "ValueError" = some none)
 (z_bool : Ut K mainGlobals "bool" = some none)
 (z_all : Ut K mainGlobals "all" = some none)
 (z_range : Ut K mainGlobals "range" = some none)
 (z_list : Ut K mainGlobals "list" = some none)
 {t_FIGURES : Tok} (x_FIGURES : Ut K mainGlobals "FIGURES" = some (some (.str "0123456789" t_FIGURES)))
 {t_MOST_FIGURES : Tok} (x_MOST_FIGURES : Ut K mainGlobals "MOST_FIGURES" = some (some (.int 60 t_MOST_FIGURES)))
 {t_MOST_NUMBERS : Tok} (x_MOST_NUMBERS : Ut K mainGlobals "MOST_NUMBERS" = some (some (.int 16 t_MOST_NUMBERS)))
 {t_MOST_TOLD : Tok} (x_MOST_TOLD : Ut K mainGlobals "MOST_TOLD" = some (some (.int 12 t_MOST_TOLD)))
 {g_NOUGHT : Addr} {o_NOUGHT : Obj} {v_NOUGHT : Array Value} {m_NOUGHT : Nat} (x_NOUGHT : Ut K mainGlobals "NOUGHT" = some (some (.ref g_NOUGHT))) (y_NOUGHT : K.lookup g_NOUGHT = some o_NOUGHT) (w_NOUGHT : o_NOUGHT.cls = .type "tuple") (d_NOUGHT : o_NOUGHT.data = .seq v_NOUGHT m_NOUGHT) (e_NOUGHT : v_NOUGHT.toList.map M7 = [some (.int (0 : Rat).num),some (.int ((0 : Rat).den : Int))])
 {a_CurveError : Addr} (nx_CurveError : Ut K mainGlobals "CurveError" = some (some (.ref a_CurveError)))
 {a_TooMany : Addr} (nx_TooMany : Ut K mainGlobals "TooMany" = some (some (.ref a_TooMany)))
 {a_NoPoints : Addr} (nx_NoPoints : Ut K mainGlobals "NoPoints" = some (some (.ref a_NoPoints)))
 {a_NoPoint : Addr} (nx_NoPoint : Ut K mainGlobals "NoPoint" = some (some (.ref a_NoPoint)))
 {a_NoNumber : Addr} (nx_NoNumber : Ut K mainGlobals "NoNumber" = some (some (.ref a_NoNumber)))
 {a_NoCurve : Addr} (nx_NoCurve : Ut K mainGlobals "NoCurve" = some (some (.ref a_NoCurve)))
 {a_NoStretch : Addr} (nx_NoStretch : Ut K mainGlobals "NoStretch" = some (some (.ref a_NoStretch)))
 {a_TooDeep : Addr} (nx_TooDeep : Ut K mainGlobals "TooDeep" = some (some (.ref a_TooDeep)))
 {a_TooFew : Addr} (nx_TooFew : Ut K mainGlobals "TooFew" = some (some (.ref a_TooFew)))
 {a_NoText : Addr} (nx_NoText : Ut K mainGlobals "NoText" = some (some (.ref a_NoText)))
 {a_NoRow : Addr} (nx_NoRow : Ut K mainGlobals "NoRow" = some (some (.ref a_NoRow)))
 {bm0TooMany N0TooMany nm0TooMany q0TooMany bs0TooMany hd0TooMany sn0TooMany sub0TooMany ab0TooMany col0TooMany dd0TooMany j0TooMany j1TooMany j2TooMany j3TooMany j5TooMany} (xl_TooMany : K.lookup a_TooMany = some (PySem.excClassObj nm0TooMany q0TooMany a_TooMany N0TooMany bs0TooMany bm0TooMany hd0TooMany sn0TooMany sub0TooMany ab0TooMany col0TooMany dd0TooMany j0TooMany j1TooMany j2TooMany j3TooMany j5TooMany "ValueError.__new__"))
 (xex_TooMany : Uu K a_TooMany [.type "ValueError",.type "Exception",.type "BaseException",.type "object"] "ValueError.__new__" = true)
 (xga_TooMany : T7 K (.ref a_TooMany) "__getattribute__" = some (some (.builtin "BaseException.__getattribute__"))) (xgt_TooMany : T7 K (.ref a_TooMany) "__getattr__" = some none) (xca_TooMany : T7 K (.ref a_TooMany) "__class__" = some (some (.builtin "object.__class__")))
 (xob_TooMany : Ta K a_TooMany (.type "object") = some true) (xbe_TooMany : Ta K a_TooMany (.type "BaseException") = some true)
 (xm_TooMany : UO K (.ref a_TooMany) (.ref a_CurveError) = some true) (xv_TooMany : Tb K (.ref a_TooMany) (.type "ValueError") = some true)
 (xk_TooMany_0 : Tb K (.ref a_TooMany) (.ref a_TooMany) = some true)
 (xk_TooMany_1 : Tb K (.ref a_TooMany) (.ref a_NoPoints) = some false)
 (xk_TooMany_2 : Tb K (.ref a_TooMany) (.ref a_NoPoint) = some false)
 (xk_TooMany_3 : Tb K (.ref a_TooMany) (.ref a_NoNumber) = some false)
 (xk_TooMany_4 : Tb K (.ref a_TooMany) (.ref a_NoCurve) = some false)
 (xk_TooMany_5 : Tb K (.ref a_TooMany) (.ref a_NoStretch) = some false)
 (xk_TooMany_6 : Tb K (.ref a_TooMany) (.ref a_TooDeep) = some false)
 (xk_TooMany_7 : Tb K (.ref a_TooMany) (.ref a_TooFew) = some false)
 (xk_TooMany_8 : Tb K (.ref a_TooMany) (.ref a_NoText) = some false)
 (xk_TooMany_9 : Tb K (.ref a_TooMany) (.ref a_NoRow) = some false)
 {bm0NoPoints N0NoPoints nm0NoPoints q0NoPoints bs0NoPoints hd0NoPoints sn0NoPoints sub0NoPoints ab0NoPoints col0NoPoints dd0NoPoints j0NoPoints j1NoPoints j2NoPoints j3NoPoints j5NoPoints} (xl_NoPoints : K.lookup a_NoPoints = some (PySem.excClassObj nm0NoPoints q0NoPoints a_NoPoints N0NoPoints bs0NoPoints bm0NoPoints hd0NoPoints sn0NoPoints sub0NoPoints ab0NoPoints col0NoPoints dd0NoPoints j0NoPoints j1NoPoints j2NoPoints j3NoPoints j5NoPoints "ValueError.__new__"))
 (xex_NoPoints : Uu K a_NoPoints [.type "ValueError",.type "Exception",.type "BaseException",.type "object"] "ValueError.__new__" = true)
 (xga_NoPoints : T7 K (.ref a_NoPoints) "__getattribute__" = some (some (.builtin "BaseException.__getattribute__"))) (xgt_NoPoints : T7 K (.ref a_NoPoints) "__getattr__" = some none) (xca_NoPoints : T7 K (.ref a_NoPoints) "__class__" = some (some (.builtin "object.__class__")))
 (xob_NoPoints : Ta K a_NoPoints (.type "object") = some true) (xbe_NoPoints : Ta K a_NoPoints (.type "BaseException") = some true)
 (xm_NoPoints : UO K (.ref a_NoPoints) (.ref a_CurveError) = some true) (xv_NoPoints : Tb K (.ref a_NoPoints) (.type "ValueError") = some true)
 (xk_NoPoints_0 : Tb K (.ref a_NoPoints) (.ref a_TooMany) = some false)
 (xk_NoPoints_1 : Tb K (.ref a_NoPoints) (.ref a_NoPoints) = some true)
 (xk_NoPoints_2 : Tb K (.ref a_NoPoints) (.ref a_NoPoint) = some false)
 (xk_NoPoints_3 : Tb K (.ref a_NoPoints) (.ref a_NoNumber) = some false)
 (xk_NoPoints_4 : Tb K (.ref a_NoPoints) (.ref a_NoCurve) = some false)
 (xk_NoPoints_5 : Tb K (.ref a_NoPoints) (.ref a_NoStretch) = some false)
 (xk_NoPoints_6 : Tb K (.ref a_NoPoints) (.ref a_TooDeep) = some false)
 (xk_NoPoints_7 : Tb K (.ref a_NoPoints) (.ref a_TooFew) = some false)
 (xk_NoPoints_8 : Tb K (.ref a_NoPoints) (.ref a_NoText) = some false)
 (xk_NoPoints_9 : Tb K (.ref a_NoPoints) (.ref a_NoRow) = some false)
 {bm0NoText N0NoText nm0NoText q0NoText bs0NoText hd0NoText sn0NoText sub0NoText ab0NoText col0NoText dd0NoText j0NoText j1NoText j2NoText j3NoText j5NoText} (xl_NoText : K.lookup a_NoText = some (PySem.excClassObj nm0NoText q0NoText a_NoText N0NoText bs0NoText bm0NoText hd0NoText sn0NoText sub0NoText ab0NoText col0NoText dd0NoText j0NoText j1NoText j2NoText j3NoText j5NoText "ValueError.__new__"))
 (xex_NoText : Uu K a_NoText [.type "ValueError",.type "Exception",.type "BaseException",.type "object"] "ValueError.__new__" = true)
 (xga_NoText : T7 K (.ref a_NoText) "__getattribute__" = some (some (.builtin "BaseException.__getattribute__"))) (xgt_NoText : T7 K (.ref a_NoText) "__getattr__" = some none) (xca_NoText : T7 K (.ref a_NoText) "__class__" = some (some (.builtin "object.__class__")))
 (xob_NoText : Ta K a_NoText (.type "object") = some true) (xbe_NoText : Ta K a_NoText (.type "BaseException") = some true)
 (xm_NoText : UO K (.ref a_NoText) (.ref a_CurveError) = some true) (xv_NoText : Tb K (.ref a_NoText) (.type "ValueError") = some true)
 (xk_NoText_0 : Tb K (.ref a_NoText) (.ref a_TooMany) = some false)
 (xk_NoText_1 : Tb K (.ref a_NoText) (.ref a_NoPoints) = some false)
 (xk_NoText_2 : Tb K (.ref a_NoText) (.ref a_NoPoint) = some false)
 (xk_NoText_3 : Tb K (.ref a_NoText) (.ref a_NoNumber) = some false)
 (xk_NoText_4 : Tb K (.ref a_NoText) (.ref a_NoCurve) = some false)
 (xk_NoText_5 : Tb K (.ref a_NoText) (.ref a_NoStretch) = some false)
 (xk_NoText_6 : Tb K (.ref a_NoText) (.ref a_TooDeep) = some false)
 (xk_NoText_7 : Tb K (.ref a_NoText) (.ref a_TooFew) = some false)
 (xk_NoText_8 : Tb K (.ref a_NoText) (.ref a_NoText) = some true)
 (xk_NoText_9 : Tb K (.ref a_NoText) (.ref a_NoRow) = some false)
 (xgg : T8 K (.builtin "object.__class__") "__get__" = some (some (.builtin "getset_descriptor.__get__"))) (xtk : PySem.W.takesIn K (.builtin "object.__class__") = some true)
 :
  ∃ fd : FuncData,(∀ (s : Shared) (v : Value),BindsTo s fd ⟨[v],[]⟩ [("_law_script",v)]) ∧ ∀ base : Heap,K.In base → base.Ns mainGlobals mg → AF l.prog w K mg base CX0 40 fa fd ["_law_script"] (Jh K):=by
 have e:=hfa.symm.trans (Uv X G a40)
 cases e
 have QV:=Vj X G z_len
 have QZ:=Vj X G z_str
 have b_min:=Vj X G z_min
 have R5:=Vj X G z_abs
 have R0:=Vj X G z_int
 have QX:=Vj X G z_tuple
 have QW:=Vj X G z_isinstance
 have Rc:=Vj X G z_set
 have b_sum:=Vj X G z_sum
 have Rn:=Vj X G z_ValueError
 have Ro:=Vj X G z_bool
 have R3:=Vj X G z_all
 have R1:=Vj X G z_range
 have Rb:=Vj X G z_list
 have c_FIGURES:=Uv X G x_FIGURES
 have c_MOST_FIGURES:=Uv X G x_MOST_FIGURES
 have c_MOST_NUMBERS:=Uv X G x_MOST_NUMBERS
 have c_MOST_TOLD:=Uv X G x_MOST_TOLD
 have c_NOUGHT:=Uv X G x_NOUGHT
 have n_NOUGHT : ∀ H : Hp,Be K H (.ref g_NOUGHT) (0):=fun H=>⟨_,rfl,LY y_NOUGHT w_NOUGHT d_NOUGHT e_NOUGHT⟩
 have m_read_number:=Uv X G a20
 have m_read_curve:=Uv X G a22
 have m_read_points:=Uv X G a28
 have m_show_number:=Uv X G a35
 have m_show_curve:=Uv X G a37
 have m_show_points:=Uv X G a39
 have F1:=AI (st:=top 44) l1 c1 k1
 have B1:=Fun.binds2 "_law_script" "_law_k" F1 fun _ _ _ _ _ _ _ _=>rfl
 have F2:=AI (st:=top 52) l2 c2 k2
 have B2:=Fun.binds1 "_law_number_here" F2 fun _ _ _ _ _ _ _=>rfl
 have F3:=AI (st:=top 53) l3 c3 k3
 have B3:=Fun.binds1 "_law_numbers" F3 fun _ _ _ _ _ _ _=>rfl
 have F4:=AI (st:=top 54) l4 c4 k4
 have B4:=Fun.binds1 "_law_points_here" F4 fun _ _ _ _ _ _ _=>rfl
 have F5:=AI (st:=top 45) l5 c5 k5
 have B5:=Fun.binds2 "_law_pen_here" "_law_many" F5 fun _ _ _ _ _ _ _ _=>rfl
 have F6:=AI (st:=top 60) l6 c6 k6
 have B6:=Fun.binds3 "_law_pen_here" "_law_text_here" "_law_between" F6 fun _ _ _ _ _ _ _ _ _=>rfl
 have F7:=AI (st:=top 55) l7 c7 k7
 have B7:=Fun.binds1 "_law_word" F7 fun _ _ _ _ _ _ _=>rfl
 have F8:=AI (st:=top 46) l8 c8 k8
 have B8:=Fun.binds2 "_law_top" "_law_bottom" F8 fun _ _ _ _ _ _ _ _=>rfl
 have F9:=AI (st:=top 56) l9 c9 k9
 have B9:=Fun.binds1 "_law_word" F9 fun _ _ _ _ _ _ _=>rfl
 have F10:=AI (st:=top 58) l10 c10 k10
 have B10:=Fun.binds2 "_law_way" "_law_text_here" F10 fun _ _ _ _ _ _ _ _=>rfl
 have F11:=AI (st:=top 57) l11 c11 k11
 have B11:=Fun.binds1 "_law_caught" F11 fun _ _ _ _ _ _ _=>rfl
 have F12:=AI (st:=top 37) l12 c12 k12
 have B12:=Fun.binds1 "text" F12 fun _ _ _ _ _ _ _=>rfl
 have F13:=AI (st:=top 13) l13 c13 k13
 have B13:=Fun.binds1 "thing" F13 fun _ _ _ _ _ _ _=>rfl
 have F14:=AI (st:=top 14) l14 c14 k14
 have B14:=Fun.binds2 "one" "other" F14 fun _ _ _ _ _ _ _ _=>rfl
 have F15:=AI (st:=top 15) l15 c15 k15
 have B15:=Fun.binds1 "thing" F15 fun _ _ _ _ _ _ _=>rfl
 have F16:=AI (st:=top 34) l16 c16 k16
 have B16:=Fun.binds2 "text" "most" F16 fun _ _ _ _ _ _ _ _=>rfl
 have F17:=AI (st:=top 35) l17 c17 k17
 have B17:=Fun.binds2 "text" "most" F17 fun _ _ _ _ _ _ _ _=>rfl
 have F18:=AI (st:=top 36) l18 c18 k18
 have B18:=Fun.binds2 "text" "most" F18 fun _ _ _ _ _ _ _ _=>rfl
 have F19:=AI (st:=top 38) l19 c19 k19
 have B19:=Fun.binds2 "parts" "most" F19 fun _ _ _ _ _ _ _ _=>rfl
 have F20:=AI (st:=top 39) l20 c20 k20
 have B20:=Fun.binds1 "text" F20 fun _ _ _ _ _ _ _=>rfl
 have F21:=AI (st:=top 18) l21 c21 k21
 have B21:=Fun.binds1 "numbers" F21 fun _ _ _ _ _ _ _=>rfl
 have F22:=AI (st:=top 40) l22 c22 k22
 have B22:=Fun.binds1 "text" F22 fun _ _ _ _ _ _ _=>rfl
 have F23:=AI (st:=top 22) l23 c23 k23
 have B23:=Fun.binds1 "places" F23 fun _ _ _ _ _ _ _=>rfl
 have F24:=AI (st:=top 24) l24 c24 k24
 have B24:=Fun.binds1 "points" F24 fun _ _ _ _ _ _ _=>rfl
 have F25:=AI (st:=top 21) l25 c25 k25
 have B25:=Fun.binds1 "thing" F25 fun _ _ _ _ _ _ _=>rfl
 have F26:=AI (st:=top 23) l26 c26 k26
 have B26:=Fun.binds1 "thing" F26 fun _ _ _ _ _ _ _=>rfl
 have F27:=AI (st:=top 41) l27 c27 k27
 have B27:=Fun.binds2 "text" "most" F27 fun _ _ _ _ _ _ _ _=>rfl
 have F28:=AI (st:=top 42) l28 c28 k28
 have B28:=Fun.binds1 "text" F28 fun _ _ _ _ _ _ _=>rfl
 have F29:=AI (st:=top 59) l29 c29 k29
 have B29:=Fun.binds2 "_law_way" "_law_text_here" F29 fun _ _ _ _ _ _ _ _=>rfl
 have F30:=AI (st:=top 48) l30 c30 k30
 have B30:=Fun.binds1 "_law_pen_here" F30 fun _ _ _ _ _ _ _=>rfl
 have F31:=AI (st:=top 47) l31 c31 k31
 have B31:=Fun.binds2 "_law_a" "_law_b" F31 fun _ _ _ _ _ _ _ _=>rfl
 have F32:=AI (st:=top 50) l32 c32 k32
 have B32:=Fun.binds2 "_law_pen_here" "_law_many" F32 fun _ _ _ _ _ _ _ _=>rfl
 have F33:=AI (st:=top 51) l33 c33 k33
 have B33:=Fun.binds2 "_law_pen_here" "_law_most" F33 fun _ _ _ _ _ _ _ _=>rfl
 have F34:=AI (st:=top 49) l34 c34 k34
 have B34:=Fun.binds2 "_law_pen_here" "_law_most" F34 fun _ _ _ _ _ _ _ _=>rfl
 have F35:=AI (st:=top 29) l35 c35 k35
 have B35:=Fun.binds1 "number" F35 fun _ _ _ _ _ _ _=>rfl
 have F36:=AI (st:=top 30) l36 c36 k36
 have B36:=Fun.binds1 "numbers" F36 fun _ _ _ _ _ _ _=>rfl
 have F37:=AI (st:=top 31) l37 c37 k37
 have B37:=Fun.binds1 "curve" F37 fun _ _ _ _ _ _ _=>rfl
 have F38:=AI (st:=top 32) l38 c38 k38
 have B38:=Fun.binds1 "point" F38 fun _ _ _ _ _ _ _=>rfl
 have F39:=AI (st:=top 33) l39 c39 k39
 have B39:=Fun.binds1 "points" F39 fun _ _ _ _ _ _ _=>rfl
 have F40:=AI (st:=top 61) l40 c40 k40
 refine ⟨TH "law" "law" (Ar (top 61)) (Ao (top 61)) (Ac (top 61)) .none kV40 dc40 pm40 an40 cd40 ct40,fun s v=>.of_eq rfl,fun base _ _=>?_⟩
 have c_CurveError:=Uv X G nx_CurveError
 have c_TooMany:=Uv X G nx_TooMany
 have c_NoPoints:=Uv X G nx_NoPoints
 have c_NoPoint:=Uv X G nx_NoPoint
 have c_NoNumber:=Uv X G nx_NoNumber
 have c_NoCurve:=Uv X G nx_NoCurve
 have c_NoStretch:=Uv X G nx_NoStretch
 have c_TooDeep:=Uv X G nx_TooDeep
 have c_TooFew:=Uv X G nx_TooFew
 have c_NoText:=Uv X G nx_NoText
 have c_NoRow:=Uv X G nx_NoRow
 have k_TooMany : Hb K "TooMany" a_TooMany:=⟨nx_TooMany,⟨_,_,_,_,_,_,_,_,_,_,_,_,_,_,_,_,xl_TooMany⟩,xex_TooMany⟩
 have xr_TooMany : Kx K a_TooMany [a_TooMany,a_NoPoints,a_NoPoint,a_NoNumber,a_NoCurve,a_NoStretch,a_TooDeep,a_TooFew,a_NoText,a_NoRow] 0:=⟨⟨xga_TooMany,xgt_TooMany,xca_TooMany,xgg,xtk,xob_TooMany,xbe_TooMany,⟨_,_,_,_,xl_TooMany⟩⟩,xv_TooMany,fun i c h=>match i,h with | 0,h=>by cases h; exact xk_TooMany_0 | 1,h=>by cases h; exact xk_TooMany_1 | 2,h=>by cases h; exact xk_TooMany_2 | 3,h=>by cases h; exact xk_TooMany_3 | 4,h=>by cases h; exact xk_TooMany_4 | 5,h=>by cases h; exact xk_TooMany_5 | 6,h=>by cases h; exact xk_TooMany_6 | 7,h=>by cases h; exact xk_TooMany_7 | 8,h=>by cases h; exact xk_TooMany_8 | 9,h=>by cases h; exact xk_TooMany_9 | i + 10,h=>nomatch h⟩
 have k_NoPoints : Hb K "NoPoints" a_NoPoints:=⟨nx_NoPoints,⟨_,_,_,_,_,_,_,_,_,_,_,_,_,_,_,_,xl_NoPoints⟩,xex_NoPoints⟩
 have xr_NoPoints : Kx K a_NoPoints [a_TooMany,a_NoPoints,a_NoPoint,a_NoNumber,a_NoCurve,a_NoStretch,a_TooDeep,a_TooFew,a_NoText,a_NoRow] 1:=⟨⟨xga_NoPoints,xgt_NoPoints,xca_NoPoints,xgg,xtk,xob_NoPoints,xbe_NoPoints,⟨_,_,_,_,xl_NoPoints⟩⟩,xv_NoPoints,fun i c h=>match i,h with | 0,h=>by cases h; exact xk_NoPoints_0 | 1,h=>by cases h; exact xk_NoPoints_1 | 2,h=>by cases h; exact xk_NoPoints_2 | 3,h=>by cases h; exact xk_NoPoints_3 | 4,h=>by cases h; exact xk_NoPoints_4 | 5,h=>by cases h; exact xk_NoPoints_5 | 6,h=>by cases h; exact xk_NoPoints_6 | 7,h=>by cases h; exact xk_NoPoints_7 | 8,h=>by cases h; exact xk_NoPoints_8 | 9,h=>by cases h; exact xk_NoPoints_9 | i + 10,h=>nomatch h⟩
 have k_NoText : Hb K "NoText" a_NoText:=⟨nx_NoText,⟨_,_,_,_,_,_,_,_,_,_,_,_,_,_,_,_,xl_NoText⟩,xex_NoText⟩
 have xr_NoText : Kx K a_NoText [a_TooMany,a_NoPoints,a_NoPoint,a_NoNumber,a_NoCurve,a_NoStretch,a_TooDeep,a_TooFew,a_NoText,a_NoRow] 8:=⟨⟨xga_NoText,xgt_NoText,xca_NoText,xgg,xtk,xob_NoText,xbe_NoText,⟨_,_,_,_,xl_NoText⟩⟩,xv_NoText,fun i c h=>match i,h with | 0,h=>by cases h; exact xk_NoText_0 | 1,h=>by cases h; exact xk_NoText_1 | 2,h=>by cases h; exact xk_NoText_2 | 3,h=>by cases h; exact xk_NoText_3 | 4,h=>by cases h; exact xk_NoText_4 | 5,h=>by cases h; exact xk_NoText_5 | 6,h=>by cases h; exact xk_NoText_6 | 7,h=>by cases h; exact xk_NoText_7 | 8,h=>by cases h; exact xk_NoText_8 | 9,h=>by cases h; exact xk_NoText_9 | i + 10,h=>nomatch h⟩
 have S5:=fdm w base (Ju F1 QV hT) B1 k1 (Uv X G a1)
 have Rw:=fdm w base (IF F2 QZ hT) B2 k2 (Uv X G a2)
 have S6:=fdm w base (Hs F3 Rw hT) B3 k3 (Uv X G a3)
 have S7:=fdm w base (Ej F4 Rw hT) B4 k4 (Uv X G a4)
 have Rh:=fdm w base (II F5 hT) B5 k5 (Uv X G a5)
 have S8:=fdm w base (IJ F6 Rh QV b_min hT) B6 k6 (Uv X G a6)
 have S9:=fdm w base (FV F7 QV hT) B7 k7 (Uv X G a7)
 have Rx:=fdm w base (GB F8 R5 hT) B8 k8 (Uv X G a8)
 have Sa:=fdm w base (IG F9 S9 Rx QV R0 hT) B9 k9 (Uv X G a9)
 have Sb:=fdm w base (Jv F10 Sa QX QW QZ QV R0 Rc b_sum hT) B10 k10 (Uv X G a10)
 have H__law_refusal : FdH l.prog w K mg base 33 "_law_refusal" "_law_caught" (K7 K [a_TooMany,a_NoPoints,a_NoPoint,a_NoNumber,a_NoCurve,a_NoStretch,a_TooDeep,a_TooFew,a_NoText,a_NoRow]):=⟨_,_,Fo F11 c_TooMany c_NoPoints c_NoPoint c_NoNumber c_NoCurve c_NoStretch c_TooDeep c_TooFew c_NoText c_NoRow QW QV Rn hT,B11,k11,Uv X G a11⟩
 have R8:=fdm w base (Es F12 QW QZ hT) B12 k12 (Uv X G a12)
 have XF_check_text : AF l.prog w K mg base (CX2 l.prog w) 33 _ _ ["text"] (DR K a_NoText):=Gu (base:=base) (w:=w) F12 k_NoText QW QZ hT
 have X_check_text : FdY l.prog w K mg base 33 "check_text" ["text"] (DR K a_NoText):=⟨_,_,XF_check_text,B12,k12,Uv X G a12⟩
 have Y_check_text : FdY l.prog w K mg base 33 "check_text" ["text"] (fun vs H Q E=>(DO : Sp) vs H Q E ∨ (DR K a_NoText : Sp) vs H Q E):=⟨_,_,(Es F12 QW QZ hT).calm.or XF_check_text,B12,k12,Uv X G a12⟩
 have Sd:=fdm w base (Jr F13 QW R0 Ro hT) B13 k13 (Uv X G a13)
 have Se:=fdm w base (EV F14 R5 hT) B14 k14 (Uv X G a14)
 have RM:=fdm w base (IE F15 Sd Se QW QX QV hT) B15 k15 (Uv X G a15)
 have RN:=fdm w base (Gx F16 R3 QV c_FIGURES hT) B16 k16 (Uv X G a16)
 have E_is_top:=fdm w base (LJ F17 RN hT) B17 k17 (Uv X G a17)
 have Ry:=fdm w base (ID F18 RM E_is_top RN QV R0 hT) B18 k18 (Uv X G a18)
 have R9:=fdm w base (Er F19 Ry hT) B19 k19 (Uv X G a19)
 have XF_numbers_in : AF l.prog w K mg base (CX2 l.prog w) 36 _ _ ["parts","most"] (Cb K a_NoText):=Gs (base:=base) (w:=w) F19 k_NoText Ry hT
 have X_numbers_in : FdY l.prog w K mg base 36 "numbers_in" ["parts","most"] (Cb K a_NoText):=⟨_,_,XF_numbers_in,B19,k19,Uv X G a19⟩
 have Y_numbers_in : FdY l.prog w K mg base 36 "numbers_in" ["parts","most"] (fun vs H Q E=>(BB K : Sp) vs H Q E ∨ (Cb K a_NoText : Sp) vs H Q E):=⟨_,_,(Er F19 Ry hT).calm.or XF_numbers_in,B19,k19,Uv X G a19⟩
 have Sf:=fdm w base (E3 F20 R8 R9 c_MOST_FIGURES hT) B20 k20 (Uv X G a20)
 have XF_read_number : AF l.prog w K mg base (CX2 l.prog w) 37 _ _ ["text"] (Eb K a_NoText):=FR (base:=base) (w:=w) F20 Y_check_text Y_numbers_in R8 R9 c_MOST_FIGURES hT
 have X_read_number : FdY l.prog w K mg base 37 "read_number" ["text"] (Eb K a_NoText):=⟨_,_,XF_read_number,B20,k20,Uv X G a20⟩
 have Y_read_number : FdY l.prog w K mg base 37 "read_number" ["text"] (fun vs H Q E=>(Gg K : Sp) vs H Q E ∨ (Eb K a_NoText : Sp) vs H Q E):=⟨_,_,(E3 F20 R8 R9 c_MOST_FIGURES hT).calm.or XF_read_number,B20,k20,Uv X G a20⟩
 have Rz:=fdm w base (Jt F21 QV QX c_NOUGHT n_NOUGHT hT) B21 k21 (Uv X G a21)
 have Sg:=fdm w base (Ep F22 R8 R9 Rz QV c_MOST_FIGURES c_MOST_NUMBERS c_NOUGHT n_NOUGHT hT) B22 k22 (Uv X G a22)
 have XF_read_curve : AF l.prog w K mg base (CX2 l.prog w) 37 _ _ ["text"] (Dr K a_NoText):=Gr (base:=base) (w:=w) F22 k_NoText Y_check_text Y_numbers_in R8 R9 Rz QV c_MOST_FIGURES c_MOST_NUMBERS c_NOUGHT n_NOUGHT hT
 have X_read_curve : FdY l.prog w K mg base 37 "read_curve" ["text"] (Dr K a_NoText):=⟨_,_,XF_read_curve,B22,k22,Uv X G a22⟩
 have Y_read_curve : FdY l.prog w K mg base 37 "read_curve" ["text"] (fun vs H Q E=>(EJ K : Sp) vs H Q E ∨ (Dr K a_NoText : Sp) vs H Q E):=⟨_,_,(Ep F22 R8 R9 Rz QV c_MOST_FIGURES c_MOST_NUMBERS c_NOUGHT n_NOUGHT hT).calm.or XF_read_curve,B22,k22,Uv X G a22⟩
 have RA:=fdm w base (Hr F23 QV Rc hT) B23 k23 (Uv X G a23)
 have RC:=fdm w base (Kc F24 R1 QV hT) B24 k24 (Uv X G a24)
 have RD:=fdm w base (Js F25 RM R3 QW QX QV hT) B25 k25 (Uv X G a25)
 have RO:=fdm w base (EU F26 RA RC RD QX R3 QV QW Rb c_MOST_TOLD hT) B26 k26 (Uv X G a26)
 have XF_points_of : AF l.prog w K mg base (CX2 l.prog w) 36 _ _ ["thing"] (Fj K a_NoPoints a_TooMany):=Hm (base:=base) (w:=w) F26 k_NoPoints k_TooMany RA RC RD QX R3 QV QW Rb c_MOST_TOLD hT
 have X_points_of : FdY l.prog w K mg base 36 "points_of" ["thing"] (Fj K a_NoPoints a_TooMany):=⟨_,_,XF_points_of,B26,k26,Uv X G a26⟩
 have Y_points_of : FdY l.prog w K mg base 36 "points_of" ["thing"] (fun vs H Q E=>(Ec K : Sp) vs H Q E ∨ (Fj K a_NoPoints a_TooMany : Sp) vs H Q E):=⟨_,_,(EU F26 RA RC RD QX R3 QV QW Rb c_MOST_TOLD hT).calm.or XF_points_of,B26,k26,Uv X G a26⟩
 have RE:=fdm w base (ET F27 R8 RO R9 QX QV hT) B27 k27 (Uv X G a27)
 have XF_read_points_of : AF l.prog w K mg base (CX2 l.prog w) 37 _ _ ["text","most"] (Jf K (IU a_TooMany a_NoPoints a_NoText)):=EB (base:=base) (w:=w) F27 k_NoText Y_check_text Y_numbers_in Y_points_of R8 RO R9 QX QV hT
 have X_read_points_of : FdY l.prog w K mg base 37 "read_points_of" ["text","most"] (Jf K (IU a_TooMany a_NoPoints a_NoText)):=⟨_,_,XF_read_points_of,B27,k27,Uv X G a27⟩
 have Sh:=fdm w base (E2 F28 RE c_MOST_FIGURES hT) B28 k28 (Uv X G a28)
 have XF_read_points : AF l.prog w K mg base (CX2 l.prog w) 38 _ _ ["text"] (Dq K (IU a_TooMany a_NoPoints a_NoText)):=FQ (base:=base) (w:=w) F28 X_read_points_of RE c_MOST_FIGURES hT
 have X_read_points : FdY l.prog w K mg base 38 "read_points" ["text"] (Dq K (IU a_TooMany a_NoPoints a_NoText)):=⟨_,_,XF_read_points,B28,k28,Uv X G a28⟩
 have Y_read_points : FdY l.prog w K mg base 38 "read_points" ["text"] (fun vs H Q E=>(EI K : Sp) vs H Q E ∨ (Dq K (IU a_TooMany a_NoPoints a_NoText) : Sp) vs H Q E):=⟨_,_,(E2 F28 RE c_MOST_FIGURES hT).calm.or XF_read_points,B28,k28,Uv X G a28⟩
 have Si:=fdm w base (FU F29 c_CurveError xm_TooMany xr_TooMany xm_NoPoints xr_NoPoints xm_NoText xr_NoText H__law_refusal Y_read_number Y_read_curve Y_read_points Sf Sg Sh hT m_read_number m_read_curve m_read_points) B29 k29 (Uv X G a29)
 have Rl:=fdm w base (GA F30 Rh Rx hT) B30 k30 (Uv X G a30)
 have Sj:=fdm w base (IH F31 Rx hT) B31 k31 (Uv X G a31)
 have Sk:=fdm w base (Gz F32 Rl Sj R1 hT) B32 k32 (Uv X G a32)
 have Sl:=fdm w base (Gy F33 Sk Rh Rl QX hT) B33 k33 (Uv X G a33)
 have Sm:=fdm w base (Ht F34 Rl Rh QX R1 hT) B34 k34 (Uv X G a34)
 have RF:=fdm w base (Gw F35 QZ hT) B35 k35 (Uv X G a35)
 have Sn:=fdm w base (FT F36 RF hT) B36 k36 (Uv X G a36)
 have So:=fdm w base (Ho F37 Sn QV hT) B37 k37 (Uv X G a37)
 have Sr:=fdm w base (Hn F38 RF hT) B38 k38 (Uv X G a38)
 have Ss:=fdm w base (Gv F39 Sr hT) B39 k39 (Uv X G a39)
 exact OS F40 S5 Rw S6 S7 S8 Sb Si Rh Rl Sl Sm RF So Ss R1 QW QZ hT m_show_number m_show_curve m_show_points
theorem QB {l : U2} {q : Program} {loose : List Str} {XP : (Str → Option Value) → Heap → Prop} {YP : World → Heap → Prop} {d : DefRec} {K : Params → SI} (hI : PyProof.Rows.importsNone q = true) (hn : l.most = some 63) (hdf : d.params.defaults = [])
 (hY : ∀ (w : World) (h : Heap),YP w h → (K w.params).In h)
 (F : ∀ (w : World) (mg : Str → Option Value) (fa : Addr) (h : Heap),(K w.params).In h → h.Ns mainGlobals mg → mg d.name = some (.ref fa) →
  ∃ fd : FuncData,(∀ (s : Shared) (u : Value),BindsTo s fd ⟨[u],[]⟩ [("_law_script",u)]) ∧ ∀ base : Heap,(K w.params).In base → base.Ns mainGlobals mg → AF l.prog w (K w.params) mg base CX0 40 fa fd ["_law_script"] ((fun (K : SI)=>(Jh K : Sp)) (K w.params))) :
 PySem.W.WalkO q loose XP YP l.row.toRowW d [] (fun f vs=>PySem.call f vs) :=
 L2.Nf (n:=63) (k:=40) (x:="_law_script") (CX:=fun _=>CX0) (sp:=fun w=>(fun (K : SI)=>(Jh K : Sp)) (K w.params)) hI hn (by decide) hdf ⟨rfl,by decide,by decide⟩ hY F (fun _ _ a ns hl _ hS=>⟨a,ns,rfl,hS,hl,fun _=>rfl⟩) fun _ _ _ _ _ z=>z
end Pf
def PySem.W.Fast.tw15767228656067340561 : Unit:=()
def PySem.W.Fast.tw452568344484375672 : Unit:=()
def PySem.W.Fast.tw7040147085620271335 : Unit:=()
def PySem.W.Fast.tw6323077814050843188 : Unit:=()
def PySem.W.Fast.tw2601613238362045021 : Unit:=()
def PySem.W.Fast.tw16740438408792336956 : Unit:=()
def PySem.W.Fast.tw6234009944331182964 : Unit:=()
def PySem.W.Fast.tw8262567395003412770 : Unit:=()
def PySem.W.Fast.tw15339148515456774136 : Unit:=()
def PySem.W.Fast.tw7471234434210058578 : Unit:=()
def PySem.W.Fast.tw16400123286488870915 : Unit:=()
def PySem.W.Fast.tw18124654532252253588 : Unit:=()
def PySem.W.Fast.tw5500179512511122556 : Unit:=()
def PySem.W.Fast.tw16874605703813438498 : Unit:=()
def PySem.W.Fast.tw9866977875594260545 : Unit:=()
def PySem.W.Fast.tw4025468669197951272 : Unit:=()
def PySem.W.Fast.tw16788080825864539094 : Unit:=()
def PySem.W.Fast.tw6858394746976470840 : Unit:=()
def PySem.W.Fast.tw4640121894090002310 : Unit:=()
def PySem.W.Fast.tw11101602025716829443 : Unit:=()
def PySem.W.Fast.tw16871812520628413675 : Unit:=()
def PySem.W.Fast.tw2636987235679839040 : Unit:=()
def PySem.W.Fast.tw13763752140779609076 : Unit:=()
def PySem.W.Fast.tw6207878209485457167 : Unit:=()
def PySem.W.Fast.tw16538945621749495341 : Unit:=()
def PySem.W.Fast.tw13400796160524406746 : Unit:=()
def PySem.W.Fast.tw7448830943157756018 : Unit:=()
def PySem.W.Fast.tw12385279444581552348 : Unit:=()
def PySem.W.Fast.tw11211128358630907610 : Unit:=()
def PySem.W.Fast.tw17656896415347734016 : Unit:=()
def PySem.W.Fast.tw104282146709660719 : Unit:=()
def PySem.W.Fast.tw5602897037368127834 : Unit:=()
def PySem.W.Fast.tw13009176171471127131 : Unit:=()
def PySem.W.Fast.tw12132228683747154608 : Unit:=()
def PySem.W.Fast.tw15615966679269771003 : Unit:=()
def PySem.W.Fast.tw18247192500636015676 : Unit:=()
def PySem.W.Fast.tw15892707440523199457 : Unit:=()
def PySem.W.Fast.tw4303567709019734174 : Unit:=()
def PySem.W.Fast.tw13724147119227200315 : Unit:=()
def PySem.W.Fast.tw2705541584868594627 : Unit:=()
def PySem.W.Fast.tw9489810714660118433 : Unit:=()
def PySem.W.Fast.tw3036688072692452117 : Unit:=()
def PySem.W.Fast.tw7298586849057620191 : Unit:=()
def PySem.W.Fast.tw16315500720937505183 : Unit:=()
def PySem.W.Fast.tw12265814440070148077 : Unit:=()
def PySem.W.Fast.tw16013691567817798791 : Unit:=()
def PySem.W.Fast.tw9291027219672188029 : Unit:=()
def PySem.W.Fast.tw13798360843982958984 : Unit:=()
def PySem.W.Fast.tw7416144665725152959 : Unit:=()
def PySem.W.Fast.tw9631061865883661114 : Unit:=()
def PySem.W.Fast.tw8009735114509170361 : Unit:=()
def PySem.W.Fast.tw8879011194211535578 : Unit:=()
def PySem.W.Fast.tw196105464104393219 : Unit:=()
def PySem.W.Fast.tw12020344876135612412 : Unit:=()
def PySem.W.Fast.tw18195723913598720511 : Unit:=()
def PySem.W.Fast.tw3656475686061893593 : Unit:=()
def PySem.W.Fast.tw17855717401161958165 : Unit:=()
def PySem.W.Fast.tw8591839365242158539 : Unit:=()
def PySem.W.Fast.tw16001839819281544370 : Unit:=()
def PySem.W.Fast.tw8552542709222804800 : Unit:=()
def PySem.W.Fast.tw2283727680066162239 : Unit:=()
def PySem.W.Fast.tw12930736025667109810 : Unit:=()
def PySem.W.Fast.tw5222712265272286130 : Unit:=()
def PySem.W.Fast.tw4246830837356063199 : Unit:=()
def PySem.W.Fast.tw3786395818888539496 : Unit:=()
def PySem.W.Fast.tw3626666001209779151 : Unit:=()
def PySem.W.Fast.tw14241081562317093792 : Unit:=()
def PySem.W.Fast.tw17454684450794786570 : Unit:=()
def PySem.W.Fast.tw7539344713306626021 : Unit:=()
def PySem.W.Fast.tw16272750942665016786 : Unit:=()
def PySem.W.Fast.tw17112438680562337973 : Unit:=()
def PySem.W.Fast.tw13351128290927701005 : Unit:=()
def PySem.W.Fast.tw11824689934807326075 : Unit:=()
def PySem.W.Fast.tw3690820596550790030 : Unit:=()
def PySem.W.Fast.tw7115255919809182766 : Unit:=()
def PySem.W.Fast.tw2155427818844469342 : Unit:=()
def PySem.W.Fast.tw13046118773111562810 : Unit:=()
def PySem.W.Fast.tw17294427517863546363 : Unit:=()
def PySem.W.Fast.tw15139222878030620156 : Unit:=()
def PySem.W.Fast.tw15765625628180772948 : Unit:=()
def PySem.W.Fast.tw1623539611474850215 : Unit:=()
def PySem.W.Fast.tw8269727537362600205 : Unit:=()
def PySem.W.Fast.tw17378652200108622839 : Unit:=()
def PySem.W.Fast.tw9211960654181142366 : Unit:=()
def PySem.W.Fast.tw6971126585035191596 : Unit:=()
def PySem.W.Fast.tw2197128579623249572 : Unit:=()
def PySem.W.Fast.tw9027934470866372874 : Unit:=()
def PySem.W.Fast.tw4363096066426300404 : Unit:=()
def PySem.W.Fast.tw10624247000875290015 : Unit:=()
def PySem.W.Fast.tw7818172447829296884 : Unit:=()
def PySem.W.Fast.tw9510881763069693715 : Unit:=()
def PySem.W.Fast.tw16761097284374440898 : Unit:=()
def PySem.W.Fast.tw11977174663840005047 : Unit:=()
def PySem.W.Fast.tw8645652180390968755 : Unit:=()
def PySem.W.Fast.tw15671514303715046935 : Unit:=()
def PySem.W.Fast.tw14414275266232873853 : Unit:=()
def PySem.W.Fast.tw2706199565914167238 : Unit:=()
def PySem.W.Fast.tw9786076693515159882 : Unit:=()
def PySem.W.Fast.tw3926971675952164361 : Unit:=()
def PySem.W.Fast.tw10097313625627496860 : Unit:=()
open PySem PySem.W PyProof.Rows
set_option maxRecDepth 100000 in
set_option maxHeartbeats 0 in
theorem PySem.Challenge.cw_onecurve_k61_bent_texts_holds : PySem.Challenge.rw_onecurve_k61_bent_texts.Holds := by
 w_on; o_law; k_head; (case hw=>w_witness2)
 k_fill
 refine Pf.QB (l:=PySem.Challenge.rw_onecurve_k61_bent_texts) (by decide +kernel) rfl rfl (fun w h Y=>PySem.W.kIn_of Y) ?F
 case F =>
  intro w mg fa h KX G hmg
  refine' Pf.PF rfl KX G hmg  ?a1 ?l1 ?c1 ?k1 ?a2 ?l2 ?c2 ?k2 ?a3 ?l3 ?c3 ?k3 ?a4 ?l4 ?c4 ?k4 ?a5 ?l5 ?c5 ?k5 ?a6 ?l6 ?c6 ?k6 ?a7 ?l7 ?c7 ?k7 ?a8 ?l8 ?c8 ?k8 ?a9 ?l9 ?c9 ?k9 ?a10 ?l10 ?c10 ?k10 ?a11 ?l11 ?c11 ?k11 ?a12 ?l12 ?c12 ?k12 ?a13 ?l13 ?c13 ?k13 ?a14 ?l14 ?c14 ?k14 ?a15 ?l15 ?c15 ?k15 ?a16 ?l16 ?c16 ?k16 ?a17 ?l17 ?c17 ?k17 ?a18 ?l18 ?c18 ?k18 ?a19 ?l19 ?c19 ?k19 ?a20 ?l20 ?c20 ?k20 ?a21 ?l21 ?c21 ?k21 ?a22 ?l22 ?c22 ?k22 ?a23 ?l23 ?c23 ?k23 ?a24 ?l24 ?c24 ?k24 ?a25 ?l25 ?c25 ?k25 ?a26 ?l26 ?c26 ?k26 ?a27 ?l27 ?c27 ?k27 ?a28 ?l28 ?c28 ?k28 ?a29 ?l29 ?c29 ?k29 ?a30 ?l30 ?c30 ?k30 ?a31 ?l31 ?c31 ?k31 ?a32 ?l32 ?c32 ?k32 ?a33 ?l33 ?c33 ?k33 ?a34 ?l34 ?c34 ?k34 ?a35 ?l35 ?c35 ?k35 ?a36 ?l36 ?c36 ?k36 ?a37 ?l37 ?c37 ?k37 ?a38 ?l38 ?c38 ?k38 ?a39 ?l39 ?c39 ?k39 ?a40 ?l40 ?c40 ?k40 ?z_len ?z_str ?z_min ?z_abs ?z_int ?z_tuple ?z_isinstance ?z_set ?z_sum ?z_ValueError ?z_bool ?z_all ?z_range ?z_list ?x_FIGURES ?x_MOST_FIGURES ?x_MOST_NUMBERS ?x_MOST_TOLD ?x_NOUGHT ?y_NOUGHT ?w_NOUGHT ?d_NOUGHT ?e_NOUGHT ?nx_CurveError ?nx_TooMany ?nx_NoPoints ?nx_NoPoint ?nx_NoNumber ?nx_NoCurve ?nx_NoStretch ?nx_TooDeep ?nx_TooFew ?nx_NoText ?nx_NoRow ?xl_TooMany ?xex_TooMany ?xga_TooMany ?xgt_TooMany ?xca_TooMany ?xob_TooMany ?xbe_TooMany ?xm_TooMany ?xv_TooMany ?xk_TooMany_0 ?xk_TooMany_1 ?xk_TooMany_2 ?xk_TooMany_3 ?xk_TooMany_4 ?xk_TooMany_5 ?xk_TooMany_6 ?xk_TooMany_7 ?xk_TooMany_8 ?xk_TooMany_9 ?xl_NoPoints ?xex_NoPoints ?xga_NoPoints ?xgt_NoPoints ?xca_NoPoints ?xob_NoPoints ?xbe_NoPoints ?xm_NoPoints ?xv_NoPoints ?xk_NoPoints_0 ?xk_NoPoints_1 ?xk_NoPoints_2 ?xk_NoPoints_3 ?xk_NoPoints_4 ?xk_NoPoints_5 ?xk_NoPoints_6 ?xk_NoPoints_7 ?xk_NoPoints_8 ?xk_NoPoints_9 ?xl_NoText ?xex_NoText ?xga_NoText ?xgt_NoText ?xca_NoText ?xob_NoText ?xbe_NoText ?xm_NoText ?xv_NoText ?xk_NoText_0 ?xk_NoText_1 ?xk_NoText_2 ?xk_NoText_3 ?xk_NoText_4 ?xk_NoText_5 ?xk_NoText_6 ?xk_NoText_7 ?xk_NoText_8 ?xk_NoText_9 ?xgg ?xtk
  (case a1=>k_is)
  (case l1=>k_is)
  (case c1=>k_is)
  (case k1=>k_is)
  (case a2=>k_is)
  (case l2=>k_is)
  (case c2=>k_is)
  (case k2=>k_is)
  (case a3=>k_is)
  (case l3=>k_is)
  (case c3=>k_is)
  (case k3=>k_is)
  (case a4=>k_is)
  (case l4=>k_is)
  (case c4=>k_is)
  (case k4=>k_is)
  (case a5=>k_is)
  (case l5=>k_is)
  (case c5=>k_is)
  (case k5=>k_is)
  (case a6=>k_is)
  (case l6=>k_is)
  (case c6=>k_is)
  (case k6=>k_is)
  (case a7=>k_is)
  (case l7=>k_is)
  (case c7=>k_is)
  (case k7=>k_is)
  (case a8=>k_is)
  (case l8=>k_is)
  (case c8=>k_is)
  (case k8=>k_is)
  (case a9=>k_is)
  (case l9=>k_is)
  (case c9=>k_is)
  (case k9=>k_is)
  (case a10=>k_is)
  (case l10=>k_is)
  (case c10=>k_is)
  (case k10=>k_is)
  (case a11=>k_is)
  (case l11=>k_is)
  (case c11=>k_is)
  (case k11=>k_is)
  (case a12=>k_is)
  (case l12=>k_is)
  (case c12=>k_is)
  (case k12=>k_is)
  (case a13=>k_is)
  (case l13=>k_is)
  (case c13=>k_is)
  (case k13=>k_is)
  (case a14=>k_is)
  (case l14=>k_is)
  (case c14=>k_is)
  (case k14=>k_is)
  (case a15=>k_is)
  (case l15=>k_is)
  (case c15=>k_is)
  (case k15=>k_is)
  (case a16=>k_is)
  (case l16=>k_is)
  (case c16=>k_is)
  (case k16=>k_is)
  (case a17=>k_is)
  (case l17=>k_is)
  (case c17=>k_is)
  (case k17=>k_is)
  (case a18=>k_is)
  (case l18=>k_is)
  (case c18=>k_is)
  (case k18=>k_is)
  (case a19=>k_is)
  (case l19=>k_is)
  (case c19=>k_is)
  (case k19=>k_is)
  (case a20=>k_is)
  (case l20=>k_is)
  (case c20=>k_is)
  (case k20=>k_is)
  (case a21=>k_is)
  (case l21=>k_is)
  (case c21=>k_is)
  (case k21=>k_is)
  (case a22=>k_is)
  (case l22=>k_is)
  (case c22=>k_is)
  (case k22=>k_is)
  (case a23=>k_is)
  (case l23=>k_is)
  (case c23=>k_is)
  (case k23=>k_is)
  (case a24=>k_is)
  (case l24=>k_is)
  (case c24=>k_is)
  (case k24=>k_is)
  (case a25=>k_is)
  (case l25=>k_is)
  (case c25=>k_is)
  (case k25=>k_is)
  (case a26=>k_is)
  (case l26=>k_is)
  (case c26=>k_is)
  (case k26=>k_is)
  (case a27=>k_is)
  (case l27=>k_is)
  (case c27=>k_is)
  (case k27=>k_is)
  (case a28=>k_is)
  (case l28=>k_is)
  (case c28=>k_is)
  (case k28=>k_is)
  (case a29=>k_is)
  (case l29=>k_is)
  (case c29=>k_is)
  (case k29=>k_is)
  (case a30=>k_is)
  (case l30=>k_is)
  (case c30=>k_is)
  (case k30=>k_is)
  (case a31=>k_is)
  (case l31=>k_is)
  (case c31=>k_is)
  (case k31=>k_is)
  (case a32=>k_is)
  (case l32=>k_is)
  (case c32=>k_is)
  (case k32=>k_is)
  (case a33=>k_is)
  (case l33=>k_is)
  (case c33=>k_is)
  (case k33=>k_is)
  (case a34=>k_is)
  (case l34=>k_is)
  (case c34=>k_is)
  (case k34=>k_is)
  (case a35=>k_is)
  (case l35=>k_is)
  (case c35=>k_is)
  (case k35=>k_is)
  (case a36=>k_is)
  (case l36=>k_is)
  (case c36=>k_is)
  (case k36=>k_is)
  (case a37=>k_is)
  (case l37=>k_is)
  (case c37=>k_is)
  (case k37=>k_is)
  (case a38=>k_is)
  (case l38=>k_is)
  (case c38=>k_is)
  (case k38=>k_is)
  (case a39=>k_is)
  (case l39=>k_is)
  (case c39=>k_is)
  (case k39=>k_is)
  (case a40=>k_is)
  (case l40=>k_is)
  (case c40=>k_is)
  (case k40=>k_is)
  (case z_len=>k_is)
  (case z_str=>k_is)
  (case z_min=>k_is)
  (case z_abs=>k_is)
  (case z_int=>k_is)
  (case z_tuple=>k_is)
  (case z_isinstance=>k_is)
  (case z_set=>k_is)
  (case z_sum=>k_is)
  (case z_ValueError=>k_is)
  (case z_bool=>k_is)
  (case z_all=>k_is)
  (case z_range=>k_is)
  (case z_list=>k_is)
  (case x_FIGURES=>k_is)
  (case x_MOST_FIGURES=>k_is)
  (case x_MOST_NUMBERS=>k_is)
  (case x_MOST_TOLD=>k_is)
  (case x_NOUGHT=>k_is)
  (case y_NOUGHT=>k_is)
  (case w_NOUGHT=>rfl)
  (case d_NOUGHT=>rfl)
  (case e_NOUGHT=>rfl)
  (case nx_CurveError=>k_is)
  (case nx_TooMany=>k_is)
  (case nx_NoPoints=>k_is)
  (case nx_NoPoint=>k_is)
  (case nx_NoNumber=>k_is)
  (case nx_NoCurve=>k_is)
  (case nx_NoStretch=>k_is)
  (case nx_TooDeep=>k_is)
  (case nx_TooFew=>k_is)
  (case nx_NoText=>k_is)
  (case nx_NoRow=>k_is)
  (case xl_TooMany=>k_is)
  (case xex_TooMany=>k_exc)
  (case xga_TooMany=>k_is)
  (case xgt_TooMany=>k_is)
  (case xca_TooMany=>k_is)
  (case xob_TooMany=>k_is)
  (case xbe_TooMany=>k_is)
  (case xm_TooMany=>kts_exm)
  (case xv_TooMany=>kit_is)
  (case xk_TooMany_0=>kit_is)
  (case xk_TooMany_1=>kit_is)
  (case xk_TooMany_2=>kit_is)
  (case xk_TooMany_3=>kit_is)
  (case xk_TooMany_4=>kit_is)
  (case xk_TooMany_5=>kit_is)
  (case xk_TooMany_6=>kit_is)
  (case xk_TooMany_7=>kit_is)
  (case xk_TooMany_8=>kit_is)
  (case xk_TooMany_9=>kit_is)
  (case xl_NoPoints=>k_is)
  (case xex_NoPoints=>k_exc)
  (case xga_NoPoints=>k_is)
  (case xgt_NoPoints=>k_is)
  (case xca_NoPoints=>k_is)
  (case xob_NoPoints=>k_is)
  (case xbe_NoPoints=>k_is)
  (case xm_NoPoints=>kts_exm)
  (case xv_NoPoints=>kit_is)
  (case xk_NoPoints_0=>kit_is)
  (case xk_NoPoints_1=>kit_is)
  (case xk_NoPoints_2=>kit_is)
  (case xk_NoPoints_3=>kit_is)
  (case xk_NoPoints_4=>kit_is)
  (case xk_NoPoints_5=>kit_is)
  (case xk_NoPoints_6=>kit_is)
  (case xk_NoPoints_7=>kit_is)
  (case xk_NoPoints_8=>kit_is)
  (case xk_NoPoints_9=>kit_is)
  (case xl_NoText=>k_is)
  (case xex_NoText=>k_exc)
  (case xga_NoText=>k_is)
  (case xgt_NoText=>k_is)
  (case xca_NoText=>k_is)
  (case xob_NoText=>k_is)
  (case xbe_NoText=>k_is)
  (case xm_NoText=>kts_exm)
  (case xv_NoText=>kit_is)
  (case xk_NoText_0=>kit_is)
  (case xk_NoText_1=>kit_is)
  (case xk_NoText_2=>kit_is)
  (case xk_NoText_3=>kit_is)
  (case xk_NoText_4=>kit_is)
  (case xk_NoText_5=>kit_is)
  (case xk_NoText_6=>kit_is)
  (case xk_NoText_7=>kit_is)
  (case xk_NoText_8=>kit_is)
  (case xk_NoText_9=>kit_is)
  (case xgg=>k_is)
  (case xtk=>k_is)
#print axioms PySem.Challenge.cw_onecurve_k61_bent_texts_holds
