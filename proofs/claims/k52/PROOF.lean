import PyProof.Rows.All
import Wide.All
import OpenK.AllK
import Wide.FinOn
import Lean
import PyProof.EqAt
import PyProof.EqKinds
import PyProof.TupleCall
import KE.KLam
import KE.KNestM
import KE.KSortKey
import PySem.Challenge.RW_onecurve_k52_quotients_told
open Option renaming some → Rl,getD_some → Th
open PySem.W renaming instObj → Rm,methodObj → Rn,Frag → Rv,lookIn → RN,findIn → RO,keepIn → RP,kitOne → RQ,kia_one → RS,kitx_list → RT,fnOf → S9,codeIn → Sa,nsIn → Tu,envX → Ud,kla_fn → Ug,codeHdIn → Uh,tabObj → Ui,codeHd_of_K → Uj,kla_obj → Uk,OpenLaw → Um,mg_of → V7,mg_none_of → V8
open Nat renaming lt_of_lt_of_le → Ro,lt_irrefl → Rp,ne_of_lt → Rq,le_trans → Rw,le_of_lt → Rx,ne_of_gt → RJ,le_refl → RK,zero_le → RM,min_eq_left → Sd,min_eq_right → Se,mul_comm → Sm,lt_of_le_of_lt → So,pos_of_ne_zero → Ss,add_zero → SJ,lt_succ_self → T9,lt_succ_of_lt → Tc,pow_le_pow_right → Tg,pow_add → Tn,pow_pos → Tq,add_mul → Tr,one_mul → Ts,mul_le_mul_right → Tt,sub_zero → Tw,mul_add → TC,succ_pos → TK,sub_self → TQ,le_add_right → TX,zero_add → U0,le_of_eq → Ul,add_sub_cancel → Ur,mul_le_mul → UA,lt_or_ge → UG,mul_one → UM,mul_le_mul_left → V4
open List renaming range → Rr,mem_filter → Rt,mem_range → Ru,filterMap_cons → Ry,mem_cons_self → Rz,mem_cons_of_mem → RA,mem_cons → RC,mem_append → RD,mem_append_left → RE,getElem?_eq_some_iff → RF,getElem?_set_self → RG,getElem?_set_ne → RH,mem_append_right → RL,append_nil → RU,nodup_cons → RV,of_mem_zip → RW,replicate → RX,length_take → RY,getElem?_append_right → RZ,getElem?_replicate → S1,getElem?_append_left → S2,getElem?_map → S3,take_sublist → S4,mem_of_getElem? → S5,length_append → S6,length_map → S7,length_replicate → S8,length_drop → Sf,size_toArray → Sg,length_set → Sh,replicate_succ → Si,flatten_cons → Sj,length_singleton → Sk,map_cons → Sn,length_pos_iff → SN,length_cons → SO,getElem?_cons_succ → SQ,map_set → SR,map_replicate → SS,take_add_one → SU,map_append → SV,take_length → SW,eq_nil_of_length_eq_zero → SX,lookup_cons → T3,lookup → T4,all_eq_true → T5,getD_eq_getElem?_getD → T6,ext_getElem? → T7,getElem?_drop → T8,mem_singleton → Td,getElem?_eq_getElem → Te,getElem_mem → Tf,getElem_of_mem → Ti,drop_zero → Tv,getElem?_eq_none → TL,length_nil → TM,take_of_length_le → TN,take_zero → TR,drop_eq_nil_of_le → TU,length_range → U1,mem_map → U4,getElem?_range → U6,getElem?_of_mem → U8,range_succ → U9,perm_append_comm → Ua,length_eq_zero_iff → Uc,mem_map_of_mem → Ue,getElem?_take → UE,length_zip → UI,pairwise_map → UJ,mem_of_mem_take → UL,drop_nil → UN,mem_of_mem_drop → UO,map_congr_left → UP,eq_of_mem_replicate → UT,map_fst_zip → UX,filter_cons_of_pos → UY,filter_append → UZ,filter_cons_of_neg → V0,length_filter_le → V1,countP_eq_length_filter → V2,mem_or_eq_of_mem_set → V5,map_take → V6
open Array renaming length_toList → RI,getElem?_toList → Sl,getElem?_eq_none → TV,forIn_toList → U2,getElem?_eq_getElem → U3,getD_eq_getD_getElem? → U5,getElem?_setIfInBounds_ne → U7,replicate → Ub
open Int renaming toNat_natCast → Sb,gcd → Sr,mul_fdiv_cancel_left → Su,gcd_comm → Sw,gcd_dvd_left → Sx,one_mul → Sy,gcd_dvd_right → Sz,mul_ne_zero → SF,natAbs_mul → Tj,natAbs_add_le → To,sub_eq_add_neg → Tp,pow_zero → Tx,pow_succ → Tz,emod_nonneg → TY,emod_lt_of_pos → TZ,mul_comm → Uo,mul_assoc → Uq,eq_of_mul_eq_mul_left → Us,pow_ne_zero → Ut,one_pow → Uu,pow_mul → Uv,pow_add → Uw,mul_zero → Ux,fdiv → UK,fdiv_eq_ediv_of_nonneg → UU,natCast_nonneg → V3
open Rat renaming divInt → Sv,num_divInt_den → SA,divInt_eq_div → SD,div_mul_cancel → SE,intCast_add → SG,intCast_mul → SH,intCast_sub → SI,pow_zero → SK,pow_succ → SM,mul_eq_zero → SY,mul_assoc → TF,mul_inv_cancel → TH,mul_one → TJ,intCast_zero → Uy,intCast_inj → Uz,mul_comm → UB,zero_mul → UC,mul_zero → UD,one_mul → UH,le_trans → UQ,num_intCast → UR,den_intCast → US,num_eq_zero → UW
set_option Elab.async false
set_option linter.all false
set_option maxRecDepth 100000
namespace L2
open PySem PySem.Spec PyProof.Rows
abbrev Key:=Sum Int Str
def Gy:Key->Value->Bool
 | .inl k,v=>Value.isInt k v
 | .inr x,v=>Value.isStrOf x v
def Pa(w:World):Key->Int
 | .inl k=>hashInt k
 | .inr x=>hashStr w x
theorem Br:∀{k:Key} {v:Value},Gy k v=true->(∃i t,k=Sum.inl i/\v=Value.int i t)\/(∃x t,k=Sum.inr x/\v=Value.str x t)
 | .inl i,v,h=>by
   obtain⟨t,e⟩:=Value.isInt_shape (k:=i) (v:=v) h
   exact .inl ⟨i,t,rfl,e⟩
 | .inr x,v,h=>by
   obtain⟨t,e⟩:=Value.isStrOf_shape (x:=x) (v:=v) h
   exact .inr ⟨x,t,rfl,e⟩
theorem Kh(i:Int)(t:Tok):Gy (.inl i) (.int i t)=true:=by simp[Gy,Value.isInt]
theorem Kg(x:Str)(t:Tok):Gy (.inr x) (.str x t)=true:=by simp[Gy,Value.isStrOf]
theorem NM(a b:Int):decide ((Sum.inl a:Key)=Sum.inl b)=(a == b):=by
 by_cases e:a=b
 ·subst e;simp
 ·have h:¬(Sum.inl a:Key)=Sum.inl b:=fun q=>e (Sum.inl.inj q)
  rw[decide_eq_false h]
  exact(beq_eq_false_iff_ne.mpr e).symm
theorem NJ(a b:Str):decide ((Sum.inr a:Key)=Sum.inr b)=decide (a=b):=by
 by_cases e:a=b
 ·subst e;simp
 ·have h:¬(Sum.inr a:Key)=Sum.inr b:=fun q=>e (Sum.inr.inj q)
  rw[decide_eq_false h,decide_eq_false e]
theorem NL(a:Int)(b:Str):decide ((Sum.inl a:Key)=Sum.inr b)=false:=decide_eq_false (fun q=>nomatch q)
theorem NK(a:Str)(b:Int):decide ((Sum.inr a:Key)=Sum.inl b)=false:=decide_eq_false (fun q=>nomatch q)
def CJ(prog:Program)(w:World):PySem.KeyKind prog w Key where
 is:=Gy
 hash:=Pa w
 inj:=fun v a b ha hb=>by
  rcases Br ha with ⟨i,t,rfl,rfl⟩ | ⟨x,t,rfl,rfl⟩
  ·rcases Br hb with ⟨j,u,rfl,e⟩ | ⟨y,u,rfl,e⟩
   ·injection e with e1 _;rw[e1]
   ·exact nomatch e
  ·rcases Br hb with ⟨j,u,rfl,e⟩ | ⟨y,u,rfl,e⟩
   ·exact nomatch e
   ·injection e with e1 _;rw[e1]
 byValue:=fun k v h=>by
  rcases Br h with ⟨i,t,rfl,rfl⟩ | ⟨x,t,rfl,rfl⟩<;>rfl
 pyHash:=fun hv h=>by
  rcases Br hv with ⟨i,t,rfl,rfl⟩ | ⟨x,t,rfl,rfl⟩
  ·exact wpAny_pyHash_int h
  ·exact wpAny_pyHash_str h
 eqBool:=fun hu hv h=>by
  rcases Br hu with ⟨i,t,rfl,rfl⟩ | ⟨x,t,rfl,rfl⟩
  ·rcases Br hv with ⟨j,u,rfl,rfl⟩ | ⟨y,u,rfl,rfl⟩
   ·rw[NM]at h;exact wpAny_eqBool_int h
   ·rw[NL]at h;exact SeqAt.EqAt.int_str i t y u _ _ _ _ h
  ·rcases Br hv with ⟨j,u,rfl,rfl⟩ | ⟨y,u,rfl,rfl⟩
   ·rw[NK]at h;exact SeqAt.EqAt.str_int x t j u _ _ _ _ h
   ·rw[NJ]at h;exact wpAny_eqBool_str h
 «strs»:=fun k x t v h=>by
  rcases Br h with ⟨i,u,rfl,e⟩ | ⟨y,u,rfl,e⟩
  ·exact nomatch e
  ·injection e with e1 _
   subst e1
   cases v<;>rfl
theorem Ij(prog:Program)(w:World)(i:Int)(t:Tok):(CJ prog w).is (.inl i) (.int i t)=true:=Kh i t
theorem Ii(prog:Program)(w:World)(x:Str)(t:Tok):(CJ prog w).is (.inr x) (.str x t)=true:=Kg x t
end L2
namespace L2
open PySem PySem.Spec PyProof.Rows
inductive V where
 | non | bl (b:Bool) | int (i:Int) | str (x:Str) | byt (b:Array UInt8) | flt (b:UInt64) | ref (a:Addr) | ty (n:String)
 deriving DecidableEq
def AZ:V->Value->Prop
 | .non,u=>u=Value.none
 | .bl b,u=>u=Value.bool b
 | .int i,u=>∃t,u=Value.int i t
 | .str x,u=>∃t,u=Value.str x t
 | .byt b,u=>∃t,u=Value.bytes b t
 | .flt b,u=>∃t,u=Value.float b t
 | .ref a,u=>u=Value.ref a
 | .ty n,u=>u=Value.type n
abbrev AJ:List V->List Value->Prop:=Paired AZ
theorem AJ.length{xs:List V}{us:List Value}(r:AJ xs us):xs.length=us.length:=Paired.length r
theorem AJ.get:∀{xs:List V} {us:List Value} {i:Nat} {x:V},AJ xs us->xs[i]? = some x->∃u,us[i]? = some u/\AZ x u
 | _,_,_,_,.nil,e=>by simp at e
 | _,_,0,_,.cons r _,e=>by simp at e;subst e;exact⟨_,rfl,r⟩
 | _,_,i+1,x,.cons _ t,e=>by
   obtain⟨u,h1,h2⟩:=AJ.get (i:=i) (x:=x) t (by simpa using e)
   exact⟨u,by simpa using h1,h2⟩
theorem AJ.set{x:V}{u:Value}(r:AZ x u):∀{xs:List V} {us:List Value} (i:Nat),AJ xs us->AJ (xs.set i x) (us.set i u)
 | _,_,_,.nil=>.nil
 | _,_,0,.cons _ t=>.cons r t
 | _,_,i+1,.cons q t=>.cons q (AJ.set r i t)
theorem AJ.append{xs ys:List V}{us ws:List Value}(a:AJ xs us)(b:AJ ys ws):AJ (xs++ys) (us++ws):=by
 induction a with
 | nil=>exact b
 | cons r t ih=>exact .cons r ih
theorem AJ.take:∀{xs:List V} {us:List Value} (n:Nat),AJ xs us->AJ (xs.take n) (us.take n)
 | _,_,0,_=>.nil
 | _,_,_+1,.nil=>.nil
 | _,_,n+1,.cons r t=>.cons r (AJ.take n t)
theorem AJ.drop:∀{xs:List V} {us:List Value} (n:Nat),AJ xs us->AJ (xs.drop n) (us.drop n)
 | _,_,0,r=>r
 | _,_,_+1,.nil=>.nil
 | _,_,n+1,.cons _ t=>AJ.drop n t
def O6:Option V->Option Value->Prop
 | some v,some u=>AZ v u
 | none,none=>True
 | _,_=>False
def KV{κ:Type}:List (κ×V)->List (κ×Value)->Prop:=Paired fun(p:κ×V) (q:κ×Value)=>p.1=q.1/\AZ p.2 q.2
def kV:Key->V
 | .inl i=>.int i
 | .inr x=>.str x
inductive HO where
 | lst (xs:List V)
 | tup (xs:List V)
 | dK (kvs:List (Key×V)) | dT (kvs:List (List Key×V))
 | set (S:Int->Bool) (n:Nat)
 | ins (C dx:Addr) (fs:List (Str×V))
 | own (x:Addr)
 | xd (fs:List (Str×V))
 | met (f x:Addr)
 | rng (lo hi:Int)
 | frz (o:Obj) (u:HO)
 | tbl (ps:Array Value)
 | ext (φ:Heap->Prop)
abbrev Hp:=Addr->Option HO
def upd(H:Hp)(a:Addr)(o:HO):Hp:=fun b=>if b=a then some o else H b
theorem Ac{H:Hp}{a:Addr}{o:HO}:upd H a o a=some o:=by unfold upd;rw[if_pos rfl]
theorem Aw{H:Hp}{a b:Addr}{o:HO}(h:b≠a):upd H a o b=H b:=by unfold upd;rw[if_neg h]
theorem M7{H:Hp}{a:Addr}{o u:HO}:upd (upd H a o) a u=upd H a u:=by
 funext b;unfold upd;split<;>rfl
theorem ER{H:Hp}{a b:Addr}{o u:HO}(h:H a=some o)(h':H b=some u)(d:o≠u):a≠b:=by
 intro e;subst e;rw[h]at h';exact d (Rl.inj h')
theorem Ay{H:Hp}{a b:Addr}{o:HO}(h:H a=some o)(h':H b=none):a≠b:=by
 intro e;subst e;rw[h]at h';cases h'
section
variable (P:Program)(w:World)
def BP(H:Hp)(h:Heap)(a:Addr):HO->Prop
 | .lst xs=>xs.length<=sizeLine/\∃(its:List Value) (n:Nat),AJ xs its/\h.get? a=some { cls:=.type "list",data:=.seq its.toArray n }
 | .tup xs=>xs.length<=sizeLine/\∃its:List Value,AJ xs its/\IsTup h a its.toArray
 | .dK kvs=>kvs.length<=sizeLine/\(a == sysModules)=false/\∃vs,KV kvs vs/\h.DictOf (CJ P w) a vs
 | .dT kvs=>kvs.length<=sizeLine/\(a == sysModules)=false/\∃xs:List (List Key×Addr×Value),
  Paired (fun(p:List Key×V) (q:List Key×Addr×Value)=>p.1=q.1/\H q.2.1=some (.tup (p.1.map kV))/\AZ p.2 q.2.2) kvs xs /\
  ∃o es ep,h.get? a=some o/\o.ExactDict/\o.data = .dict es ep/\es.toList=xs.map (entryOfKey (tupleKind (CJ P w)))/\(xs.map (·.1)).Nodup
 | .set S n=>h.SetOf (intKind P w) a S n
 | .ins C dx fs=>H dx=some (.own a)/\fs.length<=1000/\dx≠a/\h.get? a=some (Rm C dx) /\
  ∃mA,h.Ns1 dx mA/\(∀f,O6 (fs.lookup f) (mA f))/\PySem.Within mA (fs.map (·.1))
 | .own _=>∃o,h.get? a=some o
 | .xd fs=>∃mA,h.Ns1 a mA/\∀f,O6 (fs.lookup f) (mA f)
 | .rng lo hi=>∃t u v,h.get? a=some { cls:=.type "range",data:=.fields #[.int lo t,.int hi u,.int 1 v] }
 | .frz o u=>h.get? a=some o/\BP H h a u
 | .tbl ps=>h.get? a=some { cls:=.none,data:=.fields ps }
 | .met f x=>h.get? a=some (Rn (.ref f) (.ref x))
 | .ext φ=>φ h/\(∃o,h.get? a=some o)/\∀h1 h2:Heap,φ h1->(∀o,h1.get? a=some o->h2.get? a=some o)->φ h2
def HOk(H:Hp)(h:Heap):Prop:=∀a o,H a=some o->BP P w H h a o
end
section
variable {P:Program}{w:World}{H H':Hp}{h h':Heap}{a:Addr}{o:HO}
theorem BP.lt(x:BP P w H h a o):a<h.objs.size:=by
 cases o with
 | lst xs=>obtain⟨_,_,_,_,e⟩:=x;exact Heap.lt_size e
 | tup xs=>obtain⟨_,_,_,p⟩:=x;exact p.lt
 | dK kvs=>obtain⟨_,_,_,_,o,_,_,e,_⟩:=x;exact Heap.lt_size e
 | dT kvs=>obtain⟨_,_,_,_,o,_,_,e,_⟩:=x;exact Heap.lt_size e
 | set S n=>obtain⟨o,_,_,_,e,_⟩:=x;exact Heap.lt_size e
 | ins C dx fs=>obtain⟨_,_,_,e,_⟩:=x;exact Heap.lt_size e
 | own y=>obtain⟨_,e⟩:=x;exact Heap.lt_size e
 | xd fs=>obtain⟨_,⟨_,_,_,e,_⟩,_⟩:=x;exact Heap.lt_size e
 | rng lo hi=>obtain⟨_,_,_,e⟩:=x;exact Heap.lt_size e
 | frz ob u=>obtain⟨e,_⟩:=x;exact Heap.lt_size e
 | tbl ps=>exact Heap.lt_size (show h.get? a=some _ from x)
 | met f y=>exact Heap.lt_size (show h.get? a=some _ from x)
 | ext φ=>obtain⟨_,⟨_,e⟩,_⟩:=x;exact Heap.lt_size e
theorem Paired.mapP{α β:Type}{F G:α->β->Prop}{l₁:List α}{l₂:List β}(h:Paired F l₁ l₂)(f:∀a b,F a b->G a b):Paired G l₁ l₂:=by
 induction h with
 | nil=>exact .nil
 | cons r t ih=>exact .cons (f _ _ r) ih
theorem BP.stay(x:BP P w H h a o)(k:∀b u,(b=a\/H b=some (.own a))->h.get? b=some u->h'.get? b=some u)
 (ho:∀b,H b=some (.own a)->H' b=some (.own a)) (ht:∀b xs,H b=some (.tup xs)->H' b=some (.tup xs)):BP P w H' h' a o:=by
 induction o with
 | lst xs=>obtain⟨z,its,n,r,e⟩:=x;exact⟨z,its,n,r,k _ _ (.inl rfl) e⟩
 | tup xs=>obtain⟨z,its,r,ob,e,c⟩:=x;exact⟨z,its,r,ob,k _ _ (.inl rfl) e,c⟩
 | dK kvs=>obtain⟨z,y,vs,r,ob,es,ep,e,c⟩:=x;exact⟨z,y,vs,r,ob,es,ep,k _ _ (.inl rfl) e,c⟩
 | dT kvs =>
   obtain⟨z,y,xs,r,ob,es,ep,e,c⟩:=x
   exact⟨z,y,xs,Paired.mapP r fun p q z=>⟨z.1,ht _ _ z.2.1,z.2.2⟩,ob,es,ep,k _ _ (.inl rfl) e,c⟩
 | set S n=>obtain⟨ob,es,ep,t,e,c⟩:=x;exact⟨ob,es,ep,t,k _ _ (.inl rfl) e,c⟩
 | ins C dx fs =>
   obtain⟨d,z,ne,e,mA,⟨od,es,ep,e2,c⟩,r⟩:=x
   exact⟨ho _ d,z,ne,k _ _ (.inl rfl) e,mA,⟨od,es,ep,k _ _ (.inr d) e2,c⟩,r⟩
 | own y=>obtain⟨ob,e⟩:=x;exact⟨ob,k _ _ (.inl rfl) e⟩
 | xd fs=>obtain⟨mA,⟨od,es,ep,e,c⟩,r⟩:=x;exact⟨mA,⟨od,es,ep,k _ _ (.inl rfl) e,c⟩,r⟩
 | rng lo hi=>obtain⟨t,u,v,e⟩:=x;exact⟨t,u,v,k _ _ (.inl rfl) e⟩
 | frz ob u ih=>obtain⟨e,q⟩:=x;exact⟨k _ _ (.inl rfl) e,ih q⟩
 | tbl ps =>
   have e:h.get? a=some { cls:=.none,data:=.fields ps }:=x
   show h'.get? a=some { cls:=.none,data:=.fields ps }
   exact k a _ (.inl rfl) e
 | met f y =>
   have e:h.get? a=some (Rn (.ref f) (.ref y)):=x
   show h'.get? a=some (Rn (.ref f) (.ref y))
   exact k a _ (.inl rfl) e
 | ext φ=>obtain⟨p,⟨o,e⟩,st⟩:=x;exact⟨st _ _ p fun o q=>k _ _ (.inl rfl) q,⟨o,k _ _ (.inl rfl) e⟩,st⟩
theorem HOk.lt(x:HOk P w H h)(e:H a=some o):a<h.objs.size:=(x a o e).lt
theorem HOk.fresh(x:HOk P w H h)(e:h.objs.size<=a):H a=none:=by
 cases q:H a with
 | none=>rfl
 | some u=>exact absurd (Ro (x.lt q) e) (Rp _)
theorem HOk.kept(x:HOk P w H h)(k:∀b u,h.get? b=some u->h'.get? b=some u):HOk P w H h':=fun a o e =>
 (x a o e).stay (fun b u _ q=>k b u q) (fun _ q=>q) fun _ _ q=>q
theorem HOk.laid(x:HOk P w H h)(k:∀b u,h.get? b=some u->h'.get? b=some u)(hp:h.objs.size<=a)(new:BP P w (upd H a o) h' a o):HOk P w (upd H a o) h':=fun b u e=>by
 have hn:=x.fresh hp
 by_cases hb:b=a
 ·subst hb;rw[Ac]at e;cases e;exact new
 ·rw[Aw hb]at e
  exact(x b u e).stay (fun c v _ q=>k c v q) (fun c q=>by rw[Aw (Ay q hn)];exact q) fun c xs q=>by rw[Aw (Ay q hn)];exact q
end
def Rd(H:Hp)(a:Addr)(u:HO):Prop:=H a=some u\/∃o,H a=some (.frz o u)
theorem Rd.ok{P:Program}{w:World}{H:Hp}{h:Heap}{a:Addr}{u:HO}(r:Rd H a u)(x:HOk P w H h):BP P w H h a u:=by
 rcases r with r | ⟨o,r⟩
 ·exact x a u r
 ·obtain⟨_,q⟩:=x a _ r
  exact q
def Mut:Option HO->Prop
 | some (.lst _)=>True
 | some (.dK _)=>True
 | some (.dT _)=>True
 | some (.set _ _)=>True
 | some (.ins _ _ _)=>True
 | some (.ext _)=>True
 | _=>False
section
variable {P:Program}{w:World}{H:Hp}{h h':Heap}{x e:Addr}{o':HO}
theorem HOk.write(ok:HOk P w H h)(mu:Mut (H x))(he:e=x\/H e=some (.own x))(k:∀b u,b≠e->h.get? b=some u->h'.get? b=some u)(heo:∃u,h'.get? e=some u)
 (new:BP P w (upd H x o') h' x o'):HOk P w (upd H x o') h':=fun b u q=>by
 have nown:∀c y,H c=some (.own y)->c≠x:=fun c y r z=>by subst z;rw[r]at mu;exact mu
 have ntup:∀c xs,H c=some (.tup xs)->c≠x:=fun c xs r z=>by subst z;rw[r]at mu;exact mu
 by_cases hb:b=x
 ·subst hb;rw[Ac]at q;cases q;exact new
 ·rw[Aw hb]at q
  by_cases hbe:b=e
  ·have q':H b=some (.own x):=by
    rcases he with z | z
    ·exact absurd (hbe.trans z) hb
    ·rw[hbe];exact z
   rw[q]at q';cases q'
   obtain⟨v,hv⟩:=heo
   exact⟨v,by rw[hbe];exact hv⟩
  ·refine(ok b u q).stay (fun c v hc r=>k c v ?_ r) (fun c r=>by rw[Aw (nown c b r)];exact r) fun c xs r=>by rw[Aw (ntup c xs r)];exact r
   rcases hc with rfl | hc
   ·exact hbe
   ·rintro rfl
    rcases he with z | z
    ·exact nown c b hc z
    ·rw[hc]at z;cases z;exact hb rfl
end
structure Un(fs ex:List Addr)(H H':Hp)(h h':Heap):Prop where
 keep:∀b o,h.get? b=some o->H b=none->b∉fs->b∉ex->h'.get? b=some o
 slot:∀b o,h.get? b=some o->H b=none->b∈fs->b∉ex->∃sl,h'.get? b=some { o with slots:=sl }
 free:∀b o,h.get? b=some o->H b=none->b∉ex->H' b=none
 there:∀b o,h.get? b=some o->b∉ex->∃o',h'.get? b=some o'
 tups:∀b xs,H b=some (.tup xs)->H' b=some (.tup xs)
 frzs:∀b o u,H b=some (.frz o u)->H' b=some (.frz o u)
 tbls:∀b ps,H b=some (.tbl ps)->∃more,H' b=some (.tbl (ps++more))
section
variable {fs fs' ex ex':List Addr}{H H1 H2:Hp}{h h1 h2 h':Heap}{a x e:Addr}{o:HO}
theorem Un.any(u:Un fs ex H H1 h h1){b:Addr}{ob:Obj}(q:h.get? b=some ob)(n:H b=none)(hx:b∉ex):∃sl,h1.get? b=some { ob with slots:=sl }:=by
 by_cases hb:b∈fs
 ·exact u.slot b ob q n hb hx
 ·exact⟨ob.slots,u.keep b ob q n hb hx⟩
theorem Un.kept(k:∀b u,h.get? b=some u->h'.get? b=some u):Un fs ex H H h h' :=
 ⟨fun b ob q _ _ _=>k b ob q,fun b ob q _ _ _=>⟨ob.slots,k b ob q⟩,fun _ _ _ n _=>n,fun b ob q _=>⟨ob,k b ob q⟩,fun _ _ q=>q,fun _ _ _ q=>q,fun _ ps q=>⟨#[],by rw[q];simp⟩⟩
theorem Un.refl:Un fs ex H H h h:=Un.kept fun _ _ q=>q
theorem Un.laid(k:∀b u,h.get? b=some u->h'.get? b=some u)(hp:h.objs.size<=a)(hn:H a=none):Un fs ex H (upd H a o) h h' where
 keep:=fun b u q _ _ _=>k b u q
 slot:=fun b u q _ _ _=>⟨u.slots,k b u q⟩
 free:=fun b u q n _=>by rw[Aw (Rq (Ro (Heap.lt_size q) hp))];exact n
 there:=fun b u q _=>⟨u,k b u q⟩
 tups:=fun b xs q=>by rw[Aw (Ay q hn)];exact q
 frzs:=fun b u xs q=>by rw[Aw (Ay q hn)];exact q
 tbls:=fun b ps q=>⟨#[],by rw[Aw (Ay q hn),q];simp⟩
theorem Un.write(mu:Mut (H x))(he:e=x\/H e=some (.own x))(k:∀b u,b≠e->h.get? b=some u->h'.get? b=some u)(heo:∃u,h'.get? e=some u):Un fs ex H (upd H x o) h h':=by
 have hx:∀b,H b=none->b≠x:=fun b n z=>by subst z;rw[n]at mu;exact mu
 have hb:∀b,H b=none->b≠e:=fun b n z=>by
  subst z
  rcases he with r | r
  ·exact hx b n r
  ·rw[n]at r;cases r
 have hm:∀b u,H b=some u->¬Mut (some u)->b≠x:=fun b u q nm z=>by subst z;rw[q]at mu;exact nm mu
 refine⟨fun b u q n _ _=>k b u (hb b n) q,fun b u q n _ _=>⟨u.slots,k b u (hb b n) q⟩,fun b u q n _=>by rw[Aw (hx b n)];exact n,fun b u q _=>?_,
  fun b xs q=>by rw[Aw (hm b _ q fun z=>z)];exact q,fun b u xs q=>by rw[Aw (hm b _ q fun z=>z)];exact q,fun b ps q=>⟨#[],by rw[Aw (hm b _ q fun z=>z),q];simp⟩⟩
 by_cases hbe:b=e
 ·subst hbe;exact heo
 ·exact⟨u,k b u hbe q⟩
end
def trk(h:Heap)(H:Hp):List Addr:=(Rr h.objs.size).filter fun a=>(H a).isSome
def FO(h:Heap)(H:Hp):Heap:=PySem.W.hideAll h (trk h H)
theorem Kl(h:Heap)(H:Hp):(FO h H).objs.size=h.objs.size:=PySem.W.hideAll_size _ _
theorem LF{h:Heap}{H:Hp}{b:Addr}{o:Obj}(e:h.get? b=some o)(n:H b=none):(FO h H).get? b=some o :=
 PySem.W.hideAll_get _ e fun hm=>by
  have q:(H b).isSome=true:=(Rt.mp hm).2
  rw[n]at q;simp at q
theorem Mt{h:Heap}{H:Hp}{b:Addr}{o:Obj}(e:(FO h H).get? b=some o):h.get? b=some o/\H b=none:=by
 have e':h.get? b=some o:=PySem.W.of_hideAll (trk h H) e
 refine⟨e',?_⟩
 cases q:H b with
 | none=>rfl
 | some x =>
   have hm:b∈trk h H:=Rt.mpr ⟨Ru.mpr (Heap.lt_size e'),by simp[q]⟩
   have z:(FO h H).get? b=none:=PySem.W.hideAll_none (trk h H) hm
   rw[z]at e;cases e
def MM(g h:Heap)(L:Addr):List (Addr×Obj):=(Rr h.objs.size).filterMap fun a=>if a=L\/(g.get? a).isSome=true then none else (h.get? a).map fun o=>(a,o)
def BV(g h:Heap)(L d:Addr):List (Addr×Obj):=(MM g h L).filter fun p=>decide (p.1≠d)
end L2
namespace L2
open PySem PySem.Spec PyProof.Rows
structure Mod(K:Rv)(mg:Str->Option Value)(base:Heap):Prop where
 kin:K.In base
 glob:base.Ns mainGlobals mg
 blt:∃mb,base.Ns builtinsNs mb/\∀x:Str,x ≠ "__name__" -> mb x=bootBuiltins x
 nolimit:base.NoLimit
 seer:base.NoSeer
structure Cx where
 prog:Program
 w:World
 K:Rv
 mg:Str->Option Value
 base:Heap
 A:Around
 N:List Str
 s₀:Shared
 H₀:Hp
 env:Env
 outer:List Env
 stack:List Env
 ex:List Addr
 fn:Str->Bool
 calm:Bool
 pn:List (Addr×Obj)
 xe:Value->Shared->Prop
def frs(l:List Env):List Addr:=l.filterMap (·.frame)
abbrev Cx.fs(X:Cx):List Addr:=frs X.outer
def Vis(sc:Scope)(x:Str):Prop:=sc.names.lookup x=some .local\/sc.names.lookup x=some .cell\/sc.names.lookup x=some .free
def Loc(sc:Scope)(x:Str):Prop:=sc.names.lookup x=some .local\/sc.names.lookup x=some .cell
def Pk(env:Env)(h:Heap)(m:Str->Option Value)(x:Str)(u:Value):Prop :=
 (env.kindOf x=some .local/\m x=some u)\/((env.kindOf x=some .cell\/env.kindOf x=some .free)/\∃c,env.cells.lookup x=some c/\h.IsCell c (some u))
structure Cx.Ok(X:Cx):Prop where
 mod:Mod X.K X.mg X.base
 kind:X.env.scope.kind = .function
 glob:X.env.globals=mainGlobals
 blt:X.env.builtins=builtinsNs
 above:X.s₀.heap.objs.size<=X.env.locals
 inj:∀x y c,X.env.cells.lookup x=some c->X.env.cells.lookup y=some c->x=y
 has:∀x,(X.env.kindOf x=some .cell\/X.env.kindOf x=some .free)->∃c,X.env.cells.lookup x=some c
 cab:∀x c,X.fn x=true->X.env.cells.lookup x=some c->X.s₀.heap.objs.size<=c
 hd:X.calm=true->X.A.handled=none
 frames:X.A.frames=some X.stack
 stk:X.stack=X.outer\/(X.stack=X.env::X.outer/\X.env.frame=some X.env.locals)
 exf:∀b∈X.ex,b≠X.env.locals/\∀x c,X.env.cells.lookup x=some c->c≠b
 bs:∀b o,X.base.get? b=some o->X.s₀.heap.get? b=some o/\X.H₀ b=none
 bsz:X.base.objs.size<=X.s₀.heap.objs.size
 noex:∀b o,X.base.get? b=some o->b∉X.ex
 exfs:∀b∈X.ex,b∉X.fs
 funs:X.s₀.heap.FunFrames X.base X.outer
 frf:∀b∈X.fs,X.H₀ b=none
structure Inv(X:Cx)(pins:List (Addr×Obj))(σ:List (Option V))(H:Hp)(s:Shared):Prop where
 ok:X.Ok
 os:s.os=X.s₀.os
 bare:AllBare s.gens
 base:Un X.fs X.ex X.H₀ H X.s₀.heap s.heap
 loc:∃m,s.heap.Ns X.env.locals m/\∀(i:Nat) (x:Str) (v:V),X.N[i]? = some x->σ[i]? = some (some v)->Vis X.env.scope x->∃u,AZ v u/\Pk X.env s.heap m x u
 cell:∀x c,X.env.cells.lookup x=some c->∃v,s.heap.IsCell c v
 free:H X.env.locals=none
 freeC:∀x c,X.env.cells.lookup x=some c->H c=none
 pin:∀p∈X.pn++pins,s.heap.get? p.1=some p.2/\H p.1=none/\p.1≠X.env.locals/\p.1∉X.fs/\∀v,p.2.data ≠ .cell v
 hok:HOk X.prog X.w H s.heap
 len:σ.length=X.N.length
section
variable {X:Cx}{pins:List (Addr×Obj)}{σ:List (Option V)}{H H':Hp}{s:Shared}{h':Heap}
theorem Cx.Ok.nofr(ok:X.Ok){b:Addr}{o:Obj}(e:X.base.get? b=some o):b∉X.fs:=fun hb=>by
 have:=(ok.funs.mem hb).1
 rw[e]at this;cases this
theorem Inv.bs(I:Inv X pins σ H s):∀b o,X.base.get? b=some o->s.heap.get? b=some o/\H b=none:=fun b o e =>
 ⟨I.base.keep b o (I.ok.bs b o e).1 (I.ok.bs b o e).2 (I.ok.nofr e) (I.ok.noex b o e),I.base.free b o (I.ok.bs b o e).1 (I.ok.bs b o e).2 (I.ok.noex b o e)⟩
theorem Inv.bk(I:Inv X pins σ H s):∀b o,X.base.get? b=some o->s.heap.get? b=some o:=fun b o e=>(I.bs b o e).1
theorem Inv.mod(I:Inv X pins σ H s):Mod X.K X.mg X.base:=I.ok.mod
theorem Inv.kIn(I:Inv X pins σ H s):X.K.In s.heap:=I.ok.mod.kin.keeps I.bk
theorem Inv.nolimit(I:Inv X pins σ H s):s.heap.NoLimit:=I.ok.mod.nolimit.keeps I.bk
theorem Inv.lt(I:Inv X pins σ H s):X.env.locals<s.heap.objs.size:=let ⟨_,hn,_⟩:=I.loc;hn.lt
theorem Inv.sz(I:Inv X pins σ H s):X.s₀.heap.objs.size<=s.heap.objs.size:=Rw I.ok.above (Rx I.lt)
theorem Inv.nofs(I:Inv X pins σ H s){a:Addr}(h:s.heap.objs.size<=a):a∉X.fs:=fun hb=>by
 obtain⟨_,o,ho,_⟩:=I.ok.funs.mem hb
 exact absurd (Ro (Heap.lt_size ho) (Rw I.sz h)) (Rp _)
theorem Inv.cne(I:Inv X pins σ H s):∀x c,X.env.cells.lookup x=some c->c≠X.env.locals:=fun x c e z=>by
 obtain⟨v,o,ho,hd⟩:=I.cell x c e
 obtain⟨m,⟨o',es,ep,ho',hd',_⟩,_⟩:=I.loc
 rw[z,ho']at ho;cases ho;rw[hd']at hd;cases hd
theorem Inv.funs(I:Inv X pins σ H s):s.heap.FunFrames X.base X.outer:=by
 have all:∀(l:List Env),(∀b∈frs l,b∈X.fs)->X.s₀.heap.FunFrames X.base l->s.heap.FunFrames X.base l:=by
  intro l
  induction l with
  | nil=>intro _ _;trivial
  | cons env r ih =>
    intro hs hl
    obtain⟨hk,⟨L,o,hf,hn,ho,hd⟩,hr⟩:=hl
    have hL:L∈X.fs:=hs L (by unfold frs;rw[Ry,hf];exact Rz)
    obtain⟨sl,e⟩:=I.base.slot L o ho (I.ok.frf L hL) hL fun z=>I.ok.exfs L z hL
    exact⟨hk,⟨L,_,hf,hn,e,hd⟩,ih (fun b hb=>hs b (by unfold frs;rw[Ry,hf];exact RA _ hb)) hr⟩
 exact all X.outer (fun _ hb=>hb) I.ok.funs
theorem Inv.stack(I:Inv X pins σ H s):s.heap.FunFrames X.base X.stack:=by
 rcases I.ok.stk with e | ⟨e,hf⟩
 ·rw[e];exact I.funs
 ·rw[e]
  obtain⟨m,hn,_⟩:=I.loc
  refine .cons (by rw[I.ok.kind];decide) hf hn ?_ I.funs
  exact Heap.get?_none_of_le (Rw I.ok.bsz I.ok.above)
theorem Inv.stkSub(I:Inv X pins σ H s):∀b∈frs X.stack,b∈X.env.locals::X.fs:=fun b hb=>by
 rcases I.ok.stk with e | ⟨e,hf⟩
 ·rw[e]at hb;exact RA _ hb
 ·rw[e]at hb
  unfold frs at hb
  rw[Ry,hf]at hb
  exact hb
theorem Inv.stkFree(I:Inv X pins σ H s):∀b∈frs X.stack,H b=none:=fun b hb=>by
 rcases RC.mp (I.stkSub b hb) with e | hb
 ·rw[e];exact I.free
 ·obtain⟨_,o,ho,_⟩:=I.ok.funs.mem hb
  exact I.base.free b o ho (I.ok.frf b hb) fun z=>I.ok.exfs b z hb
theorem Inv.step{g':Array GenState}{t':Nat}{d':Drawn}{ch:List Addr}(I:Inv X pins σ H s)
 (hch:∀b∈ch,(b∈X.ex\/X.s₀.heap.objs.size<=b)/\b≠X.env.locals/\(∀x c,X.env.cells.lookup x=some c->c≠b)/\∀p∈X.pn++pins,p.1≠b)
 (keep:∀b o,b≠X.env.locals->b∉X.fs->b∉ch->s.heap.get? b=some o->H b=none->h'.get? b=some o)
 (slot:∀b o,b≠X.env.locals->b∈X.fs->b∉ch->s.heap.get? b=some o->H b=none->∃sl,h'.get? b=some { o with slots:=sl }) (free:∀b o,b∉ch->s.heap.get? b=some o->H b=none->H' b=none)
 (there:∀b o,b∉ch->s.heap.get? b=some o->∃o',h'.get? b=some o')
 (tups:∀b xs,H b=some (.tup xs)->H' b=some (.tup xs)) (frzs:∀b o u,H b=some (.frz o u)->H' b=some (.frz o u)) (tbls:∀b ps,H b=some (.tbl ps)->∃more,H' b=some (.tbl (ps++more)))
 (ns:∀m,s.heap.Ns X.env.locals m->h'.Ns X.env.locals m) (hok:HOk X.prog X.w H' h') (hg:AllBare g') :
 Inv X pins σ H' { s with heap:=h',gens:=g',drawn:=d',toks:=t' }:=by
 have neL:∀b o,X.s₀.heap.get? b=some o->b≠X.env.locals:=fun b o e=>Rq (Ro (Heap.lt_size e) I.ok.above)
 have neC:∀b o,X.s₀.heap.get? b=some o->b∉X.ex->b∉ch:=fun b o e hx hb=>by
  rcases(hch b hb).1 with z | z
  ·exact hx z
  ·exact absurd (Ro (Heap.lt_size e) z) (Rp _)
 have cellK:∀x c,X.env.cells.lookup x=some c->∀v,s.heap.IsCell c v->h'.IsCell c v:=fun x c e v ⟨o,ho,hd⟩=>by
  have nch:c∉ch:=fun z=>(hch c z).2.2.1 x c e rfl
  by_cases hc:c∈X.fs
  ·obtain⟨sl,q⟩:=slot c o (I.cne x c e) hc nch ho (I.freeC x c e)
   exact⟨_,q,hd⟩
  ·exact⟨o,keep c o (I.cne x c e) hc nch ho (I.freeC x c e),hd⟩
 refine⟨I.ok,I.os,hg,⟨fun b o e n hb hx=>?_,fun b o e n hb hx=>?_,fun b o e n hx=>?_,fun b o e hx=>?_,fun b xs e=>tups b xs (I.base.tups b xs e),fun b o xs e=>frzs b o xs (I.base.frzs b o xs e),fun b ps e=>?_⟩,?_,fun x c e=>?_,?_,fun x c e=>?_,fun p hp=>?_,hok,I.len⟩
 ·exact keep b o (neL b o e) hb (neC b o e hx) (I.base.keep b o e n hb hx) (I.base.free b o e n hx)
 ·obtain⟨sl,e1⟩:=I.base.slot b o e n hb hx
  obtain⟨sl',e2⟩:=slot b _ (neL b o e) hb (neC b o e hx) e1 (I.base.free b o e n hx)
  exact⟨sl',e2⟩
 ·obtain⟨o',e1⟩:=I.base.there b o e hx
  exact free b o' (neC b o e hx) e1 (I.base.free b o e n hx)
 ·obtain⟨o',e1⟩:=I.base.there b o e hx
  exact there b o' (neC b o e hx) e1
 ·obtain⟨m1,e1⟩:=I.base.tbls b ps e
  obtain⟨m2,e2⟩:=tbls b _ e1
  exact⟨m1++m2,by rw[e2,Array.append_assoc]⟩
 ·obtain⟨m,hn,hl⟩:=I.loc
  refine⟨m,ns m hn,fun i x v e1 e2 e3=>?_⟩
  obtain⟨u,r,l⟩:=hl i x v e1 e2 e3
  refine⟨u,r,?_⟩
  rcases l with l | ⟨k,c,e,z⟩
  ·exact .inl l
  ·exact .inr ⟨k,c,e,cellK x c e _ z⟩
 ·obtain⟨v,z⟩:=I.cell x c e
  exact⟨v,cellK x c e v z⟩
 ·obtain⟨m,⟨o,_,_,ho,_⟩,_⟩:=I.loc
  exact free _ o (fun z=>(hch _ z).2.1 rfl) ho I.free
 ·obtain⟨v,o,ho,hd⟩:=I.cell x c e
  exact free c o (fun z=>(hch c z).2.2.1 x c e rfl) ho (I.freeC x c e)
 ·obtain⟨e,n,ne,nf,d⟩:=I.pin p hp
  have nch:p.1∉ch:=fun z=>(hch p.1 z).2.2.2 p hp rfl
  exact⟨keep p.1 p.2 ne nf nch e n,free p.1 p.2 nch e n,ne,nf,d⟩
theorem Inv.un{t':Nat}(I:Inv X pins σ H s)(u:Un X.fs [] H H' s.heap h')(hok:HOk X.prog X.w H' h'):Inv X pins σ H' { s with heap:=h',toks:=t' }:=by
 obtain⟨m,⟨o,es,ep,ho,r⟩,_⟩:=id I.loc
 obtain⟨sl,hL⟩:=u.any ho I.free (by simp)
 exact I.step (g':=s.gens) (d':=s.drawn) (ch:=[]) (fun _ z=>nomatch z) (fun b o _ hb _ e n=>u.keep b o e n hb (by simp)) (fun b o _ hb _ e n=>u.slot b o e n hb (by simp)) (fun b o _ e n=>u.free b o e n (by simp)) (fun b o _ e=>u.there b o e (by simp)) u.tups u.frzs u.tbls (fun m' hm=>by
  obtain⟨o',es',ep',ho',r'⟩:=hm
  rw[ho]at ho';cases ho'
  exact⟨_,es',ep',hL,r'⟩) hok I.bare
theorem Inv.call{g':Array GenState}{t':Nat}{d':Drawn}{ch:List Addr}(I:Inv X pins σ H s)(u:Un (frs X.stack) ch H H' s.heap h')(hok:HOk X.prog X.w H' h')(hg:AllBare g')
 (hch:∀b∈ch,(b∈X.ex\/X.s₀.heap.objs.size<=b)/\b≠X.env.locals/\(∀x c,X.env.cells.lookup x=some c->c≠b)/\∀p∈X.pn++pins,p.1≠b) :
 Inv X pins σ H' { s with heap:=h',gens:=g',drawn:=d',toks:=t' }:=by
 obtain⟨m,⟨o,es,ep,ho,r⟩,_⟩:=id I.loc
 obtain⟨sl,hL⟩:=u.any ho I.free fun z=>(hch _ z).2.1 rfl
 exact I.step (ch:=ch) hch (fun b o hL hb hc e n=>u.keep b o e n (fun z=>(RC.mp (I.stkSub b z)).elim hL hb) hc) (fun b o _ _ hc e n=>u.any e n hc) (fun b o hc e n=>u.free b o e n hc) (fun b o hc e=>u.there b o e hc) u.tups u.frzs u.tbls (fun m' hm=>by
  obtain⟨o',es',ep',ho',r'⟩:=hm
  rw[ho]at ho';cases ho'
  exact⟨_,es',ep',hL,r'⟩) hok hg
theorem Inv.turned{t':Nat}{it:Addr}(I:Inv X pins σ H s)(k:∀b o,b≠it->s.heap.get? b=some o->h'.get? b=some o)(hn:H it=none)(hL:it≠X.env.locals)
 (h1:it∈X.ex\/X.s₀.heap.objs.size<=it) (h2:∀x c,X.env.cells.lookup x=some c->c≠it) (h3:∀p∈X.pn++pins,p.1≠it):Inv X pins σ H { s with heap:=h',toks:=t' }:=by
 have nit:∀b u,H b=some u->b≠it:=fun b u e z=>by rw[z,hn]at e;cases e
 refine I.step (g':=s.gens) (d':=s.drawn) (ch:=[it]) (fun b hb=>?_) (fun b o _ _ hc e _=>k b o (fun z=>hc (by simp[z])) e) (fun b o _ _ hc e _=>⟨o.slots,k b o (fun z=>hc (by simp[z])) e⟩) (fun _ _ _ _ n=>n)
  (fun b o hc e=>⟨o,k b o (fun z=>hc (by simp[z])) e⟩) (fun _ _ e=>e) (fun _ _ _ e=>e) (fun b ps e=>⟨#[],by rw[e];simp⟩) (fun m hm=>?_) (fun b u e=>?_) I.bare
 ·have e:b=it:=by simpa using hb
  subst e
  exact⟨h1,hL,h2,h3⟩
 ·obtain⟨o,es,ep,ho,r⟩:=hm
  exact⟨o,es,ep,k _ o (Ne.symm hL) ho,r⟩
 ·refine(I.hok b u e).stay (fun c v hc q=>k c v ?_ q) (fun _ q=>q) fun _ _ q=>q
  rcases hc with z | z
  ·rw[z];exact nit b u e
  ·exact nit c _ z
theorem Inv.tok(I:Inv X pins σ H s)(t:Nat):Inv X pins σ H { s with toks:=t }:=I.un (h':=s.heap) (t':=t) Un.refl I.hok
theorem Inv.kept{t':Nat}(I:Inv X pins σ H s)(k:∀b u,s.heap.get? b=some u->h'.get? b=some u):Inv X pins σ H { s with heap:=h',toks:=t' }:=I.un (Un.kept k) (I.hok.kept k)
theorem Inv.laid{a:Addr}{o:HO}{t':Nat}(I:Inv X pins σ H s)(k:∀b u,s.heap.get? b=some u->h'.get? b=some u)(hp:s.heap.objs.size<=a)(new:BP X.prog X.w (upd H a o) h' a o) :
 Inv X pins σ (upd H a o) { s with heap:=h',toks:=t' }:=I.un (Un.laid k hp (I.hok.fresh hp)) (I.hok.laid k hp new)
theorem Inv.write{x e:Addr}{o:HO}{t':Nat}(I:Inv X pins σ H s)(mu:Mut (H x))(he:e=x\/H e=some (.own x))(k:∀b u,b≠e->s.heap.get? b=some u->h'.get? b=some u)(heo:∃u,h'.get? e=some u)
 (new:BP X.prog X.w (upd H x o) h' x o):Inv X pins σ (upd H x o) { s with heap:=h',toks:=t' }:=I.un (Un.write mu he k heo) (I.hok.write mu he k heo new)
theorem Inv.weak{σ':List (Option V)}(I:Inv X pins σ H s)(hl:σ'.length=σ.length)(w:∀(i:Nat) v,σ'[i]? = some (some v)->σ[i]? = some (some v)):Inv X pins σ' H s :=
 ⟨I.ok,I.os,I.bare,I.base,let ⟨m,hn,hl'⟩:=I.loc;⟨m,hn,fun i x v e1 e2 e3=>hl' i x v e1 (w i v e2) e3⟩,I.cell,I.free,I.freeC,I.pin,I.hok,hl.trans I.len⟩
theorem Inv.pins_of{pins':List (Addr×Obj)}(I:Inv X pins σ H s)(h:∀p∈pins',s.heap.get? p.1=some p.2/\H p.1=none/\p.1≠X.env.locals/\p.1∉X.fs/\∀v,p.2.data ≠ .cell v):Inv X pins' σ H s :=
 ⟨I.ok,I.os,I.bare,I.base,I.loc,I.cell,I.free,I.freeC,fun p hp=>(RD.mp hp).elim (fun z=>I.pin p (RE _ z)) (h p),I.hok,I.len⟩
theorem Ib{N:List Str}(hN:N.Nodup){i j:Nat}{x:Str}(a:N[i]? = some x)(b:N[j]? = some x):i=j:=by
 obtain⟨h1,e1⟩:=RF.mp a
 obtain⟨h2,e2⟩:=RF.mp b
 exact(List.getElem_inj hN).mp (e1.trans e2.symm)
theorem Gn{M:Model}{A:Around}{E:Value->Shared->Prop}{i:Nat}{x:Str}{v:V}{u:Value}{Q:Unit->Shared->Prop}(I:Inv X pins σ H s)(hN:X.N.Nodup)(hi:X.N[i]? = some x)(hx:Loc X.env.scope x)(r:AZ v u)
 (h:∀s',Inv X pins (σ.set i (some v)) H s'->(∃a,Heap.SameBut a s.heap s'.heap/\(a=X.env.locals\/X.env.cells.lookup x=some a))->Q () s') (hf:X.fn x=true\/X.env.scope.names.lookup x=some .local:=by first | exact .inl rfl | exact .inr rfl | assumption):wpAny M A (storeName X.env x u) Q E s:=by
 obtain⟨m,hn,hl⟩:=id I.loc
 have hcls:(X.env.scope.kind == .class||(X.env.scope.kind == .module&&X.env.locals != X.env.globals))=false:=by rw[I.ok.kind];rfl
 have hiσ:i<σ.length:=by rw[I.len];exact(RF.mp hi).1
 have cne:=I.cne
 have tracked:∀{a:Addr} {h':Heap},(∃o,s.heap.get? a=some o/\H a=none)->Heap.SameBut a s.heap h'->HOk X.prog X.w H h':=fun{a h'} ha hs b ob e=>by
  obtain⟨_,_,hfree⟩:=ha
  refine(I.hok b ob e).stay (fun c w' hc q=>(hs.2 c ?_).trans q) (fun _ q=>q) fun _ _ q=>q
  rintro rfl
  rcases hc with rfl | hc
  ·rw[hfree]at e;cases e
  ·rw[hfree]at hc;cases hc
 rcases hx with hk | hk
 ·refine wpAny_storeName_local hk hn (fun h' hn' hs=>?_) hcls
  obtain⟨oL,_,_,hoL,_⟩:=id hn
  refine h _ ⟨I.ok,I.os,I.bare,⟨fun b o e n hb hx=>?_,fun b o e n hb hx=>?_,I.base.free,fun b o e hx=>?_,I.base.tups,I.base.frzs,I.base.tbls⟩,⟨_,hn',fun j y v' e1 e2 e3=>?_⟩,fun y c e=>?_,I.free,I.freeC,fun p hp=>?_,tracked ⟨oL,hoL,I.free⟩ hs,by simpa using I.len⟩ ⟨_,hs,.inl rfl⟩
  ·exact(hs.2 b (Rq (Ro (Heap.lt_size e) I.ok.above))).trans (I.base.keep b o e n hb hx)
  ·obtain⟨sl,e1⟩:=I.base.slot b o e n hb hx
   exact⟨sl,(hs.2 b (Rq (Ro (Heap.lt_size e) I.ok.above))).trans e1⟩
  ·obtain⟨o',e1⟩:=I.base.there b o e hx
   exact⟨o',(hs.2 b (Rq (Ro (Heap.lt_size e) I.ok.above))).trans e1⟩
  ·by_cases hj:j=i
   ·subst hj
    rw[hi]at e1;cases e1
    rw[RG hiσ]at e2
    cases e2
    exact⟨u,r,.inl ⟨hk,by simp⟩⟩
   ·rw[RH (Ne.symm hj)]at e2
    obtain⟨u',r',q⟩:=hl j y v' e1 e2 e3
    refine⟨u',r',?_⟩
    rcases q with ⟨k,e⟩ | ⟨k,c,e,z⟩
    ·refine .inl ⟨k,?_⟩
     have:y≠x:=fun e=>hj (Ib hN e1 (e ▸ hi))
     simp[this,e]
    ·exact .inr ⟨k,c,e,z.sameBut hs (cne y c e)⟩
  ·obtain⟨w',z⟩:=I.cell y c e
   exact⟨w',z.sameBut hs (cne y c e)⟩
  ·obtain⟨e,n,ne,nf,d⟩:=I.pin p hp
   exact⟨(hs.2 p.1 ne).trans e,n,ne,nf,d⟩
 ·have hfn:X.fn x=true:=by
   rcases hf with z | z
   ·exact z
   ·rw[z]at hk;cases hk
  obtain⟨c,hc⟩:=I.ok.has x (.inl hk)
  obtain⟨w',z⟩:=I.cell x c hc
  refine wpAny_storeName_cell I.ok.kind hk hc z (fun h' hc' hs=>?_)
  obtain⟨oc,hoc,hocd⟩:=id z
  refine h { s with heap:=h' } ⟨I.ok,I.os,I.bare,⟨fun b o e n hb hx=>?_,fun b o e n hb hx=>?_,I.base.free,fun b o e hx=>?_,I.base.tups,I.base.frzs,I.base.tbls⟩,⟨m,hn.sameBut hs (Ne.symm (cne x c hc)),fun j y v' e1 e2 e3=>?_⟩,fun y c' e=>?_,I.free,I.freeC,fun p hp=>?_,tracked ⟨oc,hoc,I.freeC x c hc⟩ hs,by simpa using I.len⟩ ⟨c,hs,.inr hc⟩
  ·exact(hs.2 b (Rq (Ro (Heap.lt_size e) (I.ok.cab x c hfn hc)))).trans (I.base.keep b o e n hb hx)
  ·obtain⟨sl,e1⟩:=I.base.slot b o e n hb hx
   exact⟨sl,(hs.2 b (Rq (Ro (Heap.lt_size e) (I.ok.cab x c hfn hc)))).trans e1⟩
  ·obtain⟨o',e1⟩:=I.base.there b o e hx
   exact⟨o',(hs.2 b (Rq (Ro (Heap.lt_size e) (I.ok.cab x c hfn hc)))).trans e1⟩
  ·by_cases hj:j=i
   ·subst hj
    rw[hi]at e1;cases e1
    rw[RG hiσ]at e2
    cases e2
    exact⟨u,r,.inr ⟨.inl hk,c,hc,hc'⟩⟩
   ·rw[RH (Ne.symm hj)]at e2
    obtain⟨u',r',q⟩:=hl j y v' e1 e2 e3
    refine⟨u',r',?_⟩
    rcases q with q | ⟨k,c',e,z'⟩
    ·exact .inl q
    ·refine .inr ⟨k,c',e,z'.sameBut hs ?_⟩
     rintro rfl
     exact hj (Ib hN e1 (I.ok.inj _ _ _ e hc ▸ hi))
  ·by_cases hcc:c'=c
   ·subst hcc;exact⟨_,hc'⟩
   ·obtain⟨w2,z2⟩:=I.cell y c' e
    exact⟨w2,z2.sameBut hs hcc⟩
  ·obtain⟨e,n,ne,nf,d⟩:=I.pin p hp
   refine⟨(hs.2 p.1 ?_).trans e,n,ne,nf,d⟩
   intro q
   rw[q,hoc]at e
   have q':oc=p.2:=Rl.inj e
   exact d w' (by rw[<- q'];exact hocd)
theorem DZ{M:Model}{A:Around}{E:Value->Shared->Prop}{i:Nat}{x:Str}{v:V}{u:Value}{Q:Unit->Shared->Prop}(I:Inv X pins σ H s)(hN:X.N.Nodup)(hi:X.N[i]? = some x)(hx:Loc X.env.scope x)(r:AZ v u)
 (h:∀s',Inv X pins (σ.set i (some v)) H s'->Q () s') (hf:X.fn x=true\/X.env.scope.names.lookup x=some .local:=by first | exact .inl rfl | exact .inr rfl | assumption):wpAny M A (storeName X.env x u) Q E s :=
 Gn I hN hi hx r (fun s' I' _=>h s' I') hf
theorem Inv.call'{s':Shared}{ch:List Addr}(I:Inv X pins σ H s)(ho:s'.os=s.os)(u:Un (frs X.stack) ch H H' s.heap s'.heap)(hok:HOk X.prog X.w H' s'.heap)(hg:AllBare s'.gens)
 (hch:∀b∈ch,(b∈X.ex\/X.s₀.heap.objs.size<=b)/\b≠X.env.locals/\(∀x c,X.env.cells.lookup x=some c->c≠b)/\∀p∈X.pn++pins,p.1≠b):Inv X pins σ H' s':=by
 obtain⟨h',g',d',t',o'⟩:=s'
 have e:o'=s.os:=ho
 subst e
 exact I.call (g':=g') (t':=t') (d':=d') u hok hg hch
end
abbrev XK:=Value->Option Addr->Hp->Prop
abbrev St:=List (Option V)
abbrev VK:=V->Hp->Prop
abbrev TE:=St->Hp->VK->Prop
abbrev TT:=St->Hp->(Bool->Hp->Prop)->Prop
abbrev TA:=St->Hp->(List V->Hp->Prop)->Prop
structure CZ where
 nx:St->Hp->Prop
 rt:VK
 bk:St->Hp->Prop:=fun _ _=>False
 ct:St->Hp->Prop:=fun _ _=>False
abbrev TS:=CZ->St->Hp->Prop
inductive EP(X:Cx)(pins:List (Addr×Obj))(σ:St)(Q:VK)(u:Value)(s':Shared):Prop
 | mk (v:_) (H':_) (h1:Inv X pins σ H' s') (h2:AZ v u) (h3:Q v H'):EP X pins σ Q u s'
def TP(X:Cx)(pins:List (Addr×Obj))(σ:St)(Q:Bool->Hp->Prop)(b:Bool)(s':Shared):Prop:=∃H',Inv X pins σ H' s'/\Q b H'
inductive AP(X:Cx)(pins:List (Addr×Obj))(σ:St)(Q:List V->Hp->Prop)(us:List Value)(s':Shared):Prop
 | mk (vs:_) (H':_) (h1:Inv X pins σ H' s') (h2:AJ vs us) (h3:Q vs H'):AP X pins σ Q us s'
def SP(X:Cx)(pins:List (Addr×Obj))(D:CZ)(f:Flow)(s':Shared):Prop :=
 match f with
 | .next=>∃σ' H',Inv X pins σ' H' s'/\D.nx σ' H'
 | .brk=>∃σ' H',Inv X pins σ' H' s'/\D.bk σ' H'
 | .cont=>∃σ' H',Inv X pins σ' H' s'/\D.ct σ' H'
 | .ret u=>∃v σ' H',Inv X pins σ' H' s'/\AZ v u/\D.rt v H'
def PE(X:Cx)(e:Expr)(t:TE):Prop :=
 ∀(pins:List (Addr×Obj)) (s:Shared) (σ:St) (H:Hp) (Q:VK),Inv X pins σ H s->t σ H Q->wpAny (model X.prog X.w) X.A (eval e X.env) (EP X pins σ Q) X.xe s
def PT(X:Cx)(e:Expr)(t:TT):Prop :=
 ∀(pins:List (Addr×Obj)) (s:Shared) (σ:St) (H:Hp) (Q:Bool->Hp->Prop),Inv X pins σ H s->t σ H Q->wpAny (model X.prog X.w) X.A (isTrue e X.env (eval e X.env)) (TP X pins σ Q) X.xe s
def PW(X:Cx)(e:Expr)(t:TT):Prop :=
 ∀(whole:Sem Value) (pins:List (Addr×Obj)) (s:Shared) (σ:St) (H:Hp) (Q:Bool->Hp->Prop),Inv X pins σ H s->t σ H Q->wpAny (model X.prog X.w) X.A (isTrue e X.env whole) (TP X pins σ Q) X.xe s
theorem PW.pt{X:Cx}{e:Expr}{t:TT}(h:PW X e t):PT X e t:=h _
def PA(X:Cx)(es:List Expr)(t:TA):Prop :=
 ∀(pos:Pos) (pins:List (Addr×Obj)) (s:Shared) (σ:St) (H:Hp) (Q:List V->Hp->Prop),Inv X pins σ H s->t σ H Q->wpAny (model X.prog X.w) X.A (spliced (backTo pos (starEach es X.env))) (AP X pins σ Q) X.xe s
def PS(X:Cx)(st:Stmt)(t:TS):Prop :=
 ∀(pins:List (Addr×Obj)) (s:Shared) (σ:St) (H:Hp) (D:CZ),Inv X pins σ H s->t D σ H->wpAny (model X.prog X.w) X.A (exec st X.env) (SP X pins D) X.xe s
def PSs(X:Cx)(st:List Stmt)(t:TS):Prop :=
 ∀(pins:List (Addr×Obj)) (s:Shared) (σ:St) (H:Hp) (D:CZ),Inv X pins σ H s->t D σ H->wpAny (model X.prog X.w) X.A (execs st X.env) (SP X pins D) X.xe s
theorem thn{α:Type}{t:Sem α}{Q Q':α->Shared->Prop}{M:Model}{A:Around}{E:Value->Shared->Prop}{s:Shared}(h:wpAny M A t Q E s)(hQ:∀a s,Q a s->Q' a s):wpAny M A t Q' E s:=wpAny_mono h hQ fun _ _ x=>x
end L2
namespace L2
open PySem PySem.Spec PyProof.Rows
section
variable {X:Cx}
inductive KH(i:Nat)(σ:St)(H:Hp)(Q:VK):Prop
 | mk (v:_) (h1:σ[i]? = some (some v)) (h2:Q v H):KH i σ H Q
def tC(v:V):TE:=fun _ H Q=>Q v H
theorem Nj{i:Nat}{x:Str}{pos:Pos}(hN:X.N[i]? = some x)(hv:Vis X.env.scope x)(hd:(x == ("__debug__" : Str))=false:=by decide)(hcd:(x == ("__classdict__" : Str))=false:=by decide):PE X (.Name x pos) (KH i):=by
 intro pins s σ H Q I h
 obtain⟨v,e,h⟩:=h
 obtain⟨m,hn,hl⟩:=I.loc
 obtain⟨u,r,l⟩:=hl i x v hN e hv
 have fin:EP X pins σ Q u s:=⟨v,H,I,r,h⟩
 rcases l with ⟨hk,hm⟩ | ⟨hk,c,hc,hcell⟩
 ·exact wpAny_Name (wpAny_loadName_local I.ok.kind hk hn hm fin) hd
 ·rcases hk with hk | hk
  ·exact wpAny_Name (wpAny_loadName_cell I.ok.kind hk hc hcell fin) hd
  ·exact wpAny_Name (wpAny_loadName_free I.ok.kind hk hc hcell fin hcd) hd
theorem Aa{i j pos}:PE X (.Constant (.int i) j pos) (tC (.int i)):=fun _ _ _ H _ I h=>wpAny_Constant_int ⟨.int i,H,I.tok _,⟨_,rfl⟩,h⟩
theorem EM{b j pos}:PE X (.Constant (.bool b) j pos) (tC (.bl b)):=fun _ _ _ H _ I h=>Constant_bool ⟨.bl b,H,I,rfl,h⟩
def Gl(X:Cx)(x:Str):Prop:=X.env.kindOf x=some .globalImplicit
theorem JA{E:Value->Shared->Prop}{pins:List (Addr×Obj)}{s:Shared}{σ:St}{H:Hp}{x:Str}{u:Value}{pos:Pos}{Q:Value->Shared->Prop}(I:Inv X pins σ H s)(hg:Gl X x)(hm:X.mg x=some u)(h:Q u s)
 (hd:(x == ("__debug__" : Str))=false:=by decide):wpAny (model X.prog X.w) X.A (eval (.Name x pos) X.env) Q E s :=
 Calls.Name_function_global I.ok.kind hg (Calls.loadGlobal_global (by rw[I.ok.glob];exact I.mod.glob.keeps I.bk) hm h) hd
theorem Dw{E:Value->Shared->Prop}{pins:List (Addr×Obj)}{s:Shared}{σ:St}{H:Hp}{x:Str}{u:Value}{pos:Pos}{Q:Value->Shared->Prop}(I:Inv X pins σ H s)(hg:Gl X x)(hm:X.mg x=none)(hv:bootBuiltins x=some u)(h:Q u s)
 (hn:x ≠ "__name__":=by decide) (hd:(x == ("__debug__" : Str))=false:=by decide):wpAny (model X.prog X.w) X.A (eval (.Name x pos) X.env) Q E s:=by
 obtain⟨mb,h1,h2⟩:=I.mod.blt
 exact Calls.Name_function_global I.ok.kind hg (Calls.loadGlobal_builtin (by rw[I.ok.glob];exact I.mod.glob.keeps I.bk) hm (by rw[I.ok.blt];exact h1.keeps I.bk) ((h2 x hn).trans hv) h) hd
theorem DG{x:Str}{v:V}{u:Value}{pos:Pos}(hg:Gl X x)(hm:X.mg x=some u)(r:AZ v u)(hd:(x == ("__debug__" : Str))=false:=by decide):PE X (.Name x pos) (tC v) :=
 fun _ _ _ H _ I h=>JA I hg hm ⟨v,H,I,r,h⟩ hd
theorem DH{x:Str}{v:V}{u:Value}{pos:Pos}(hg:Gl X x)(hm:X.mg x=none)(hv:bootBuiltins x=some u)(r:AZ v u)(hn:x ≠ "__name__":=by decide)(hd:(x == ("__debug__" : Str))=false:=by decide):PE X (.Name x pos) (tC v) :=
 fun _ _ _ H _ I h=>Dw I hg hm hv ⟨v,H,I,r,h⟩ hn hd
variable {a b:Expr}{ta tb:TE}{pos:Pos}
def tB(t:TE):TT:=fun σ H Q=>t σ H fun x H1=>∃c,x = .bl c/\Q c H1
theorem Ct{e:Expr}{t:TE}(h:PE X e t)(he:∀whole,isTrue e X.env whole=(do let v <- whole;standAt e.pos;holding [v] (truthy v)):=by intro _;rfl):PT X e (tB t):=by
 intro pins s σ H Q I hw
 refine isTrue_plain (thn (h pins s σ H _ I hw) fun v s1 ⟨x,H1,I1,r1,q1⟩=>?_) (he _)
 obtain⟨d,rfl,q⟩:=q1
 cases r1
 exact wpAny_truthy_bool ⟨H1,I1,q⟩
variable {tA tB':TT}{BV:List Expr}
def P7(t u:TT):TT:=fun σ H Q=>t σ H fun c H1=>if c=true then u σ H1 Q else Q false H1
def tOr(t u:TT):TT:=fun σ H Q=>t σ H fun c H1=>if c=true then Q true H1 else u σ H1 Q
def P5(t:TT):TT:=fun σ H Q=>t σ H fun c H1=>Q (!c) H1
theorem D9(ha:PT X a tA):PW X (.BoolOp .And [a] pos) tA:=by
 intro wh pins s σ H Q I h
 refine isTrue_and (thn (ha pins s σ H Q I h) fun c s1 e=>?_)
 cases c with
 | true=>exact isTrue_and_nil e
 | false=>exact e
theorem D8(ha:PT X a tA):PW X (.BoolOp .Or [a] pos) tA:=by
 intro wh pins s σ H Q I h
 refine isTrue_or (thn (ha pins s σ H Q I h) fun c s1 e=>?_)
 cases c with
 | false=>exact isTrue_or_nil e
 | true=>exact e
theorem DV(ha:PT X a tA)(hb:PW X (.BoolOp .And (b::BV) pos) tB'):PW X (.BoolOp .And (a::b::BV) pos) (P7 tA tB'):=by
 intro wh pins s σ H Q I h
 refine isTrue_and (thn (ha pins s σ H _ I h) fun c s1 ⟨H1,I1,q1⟩=>?_)
 cases c with
 | true=>exact hb wh pins s1 σ H1 Q I1 q1
 | false=>exact⟨H1,I1,q1⟩
theorem CI(ha:PT X a tA)(hb:PW X (.BoolOp .Or (b::BV) pos) tB'):PW X (.BoolOp .Or (a::b::BV) pos) (tOr tA tB'):=by
 intro wh pins s σ H Q I h
 refine isTrue_or (thn (ha pins s σ H _ I h) fun c s1 ⟨H1,I1,q1⟩=>?_)
 cases c with
 | true=>exact⟨H1,I1,q1⟩
 | false=>exact hb wh pins s1 σ H1 Q I1 q1
theorem Cu(ha:PT X a tA):PT X (.UnaryOp .Not a pos) (P5 tA):=by
 intro pins s σ H Q I h
 exact isTrue_not (ha pins s σ H (fun c H1=>Q (!c) H1) I h)
def Oj(ta tb:TE):TE:=fun σ H Q=>ta σ H fun x H1=>∃c,x = .bl c/\if c=true then tb σ H1 Q else Q (.bl false) H1
def P4(ta tb:TE):TE:=fun σ H Q=>ta σ H fun x H1=>∃c,x = .bl c/\if c=true then Q (.bl true) H1 else tb σ H1 Q
def Od(ta:TE):TE:=fun σ H Q=>ta σ H fun x H1=>∃c,x = .bl c/\Q (.bl (!c)) H1
theorem GY{op}{t:TE}(h:PE X a t):PE X (.BoolOp op [a] pos) t:=fun pins s σ H Q I hw=>BoolOp_one (h pins s σ H Q I hw)
theorem IY(ha:PE X a ta)(hb:PE X (.BoolOp .And (b::BV) pos) tb):PE X (.BoolOp .And (a::b::BV) pos) (Oj ta tb):=by
 intro pins s σ H Q I h
 refine BoolOp_and (thn (ha pins s σ H _ I h) fun v s1 ⟨x,H1,I1,r1,q1⟩=>?_)
 obtain⟨c,rfl,q1⟩:=q1
 cases r1
 refine wpAny_truthy_bool ?_
 cases c with
 | true=>exact hb pins s1 σ H1 Q I1 q1
 | false=>exact⟨.bl false,H1,I1,rfl,q1⟩
theorem Ox(ha:PE X a ta)(hb:PE X (.BoolOp .Or (b::BV) pos) tb):PE X (.BoolOp .Or (a::b::BV) pos) (P4 ta tb):=by
 intro pins s σ H Q I h
 refine BoolOp_or (thn (ha pins s σ H _ I h) fun v s1 ⟨x,H1,I1,r1,q1⟩=>?_)
 obtain⟨c,rfl,q1⟩:=q1
 cases r1
 refine wpAny_truthy_bool ?_
 cases c with
 | false=>exact hb pins s1 σ H1 Q I1 q1
 | true=>exact⟨.bl true,H1,I1,rfl,q1⟩
theorem Nk(ha:PE X a ta):PE X (.UnaryOp .Not a pos) (Od ta):=by
 intro pins s σ H Q I h
 refine UnaryOp_ (thn (ha pins s σ H _ I h) fun v s1 ⟨x,H1,I1,r1,q1⟩=>?_)
 obtain⟨c,rfl,q1⟩:=q1
 cases r1
 exact not_of (wpAny_truthy_bool ⟨.bl (!c),H1,I1,rfl,q1⟩)
def tIf(t:TT)(ta tb:TE):TE:=fun σ H Q=>t σ H fun c H1=>if c=true then ta σ H1 Q else tb σ H1 Q
theorem HU{c:Expr}(hc:PT X c tA)(ha:PE X a ta)(hb:PE X b tb):PE X (.IfExp c a b pos) (tIf tA ta tb):=by
 intro pins s σ H Q I h
 refine wpAny_IfExp (thn (hc pins s σ H _ I h) fun d s1 ⟨H1,I1,q1⟩=>?_)
 cases d with
 | true=>exact ha pins s1 σ H1 Q I1 q1
 | false=>exact hb pins s1 σ H1 Q I1 q1
end
end L2
namespace L2
open PySem PySem.Spec PyProof.Rows
def SqL(K:Rv)(H:Hp)(a:Addr)(xs:List V):Prop :=
 Rd H a (.lst xs) \/
  ∃(o:Obj) (its:Array Value) (n:Nat),K.lookup a=some o/\o.cls = .type "list" /\ o.dict=none/\o.data = .seq its n/\its.size<=sizeLine/\AJ xs its.toList
def SqT(K:Rv)(H:Hp)(a:Addr)(xs:List V):Prop :=
 Rd H a (.tup xs) \/
  ∃(o:Obj) (its:Array Value) (n:Nat),K.lookup a=some o/\o.cls = .type "tuple" /\ o.data = .seq its n/\its.size<=sizeLine/\AJ xs its.toList
def Kv:Value->Option V
 | .none=>some .non
 | .bool b=>some (.bl b)
 | .int i _=>some (.int i)
 | .str x _=>some (.str x)
 | .bytes b _=>some (.byt b)
 | .float b _=>some (.flt b)
 | .ref a=>some (.ref a)
 | .type n=>some (.ty n)
 | _=>none
theorem AZ.abs{x:V}{u:Value}(r:AZ x u):Kv u=some x:=by
 cases x with
 | non=>cases r;rfl
 | bl _=>cases r;rfl
 | int _=>obtain⟨t,rfl⟩:=r;rfl
 | str _=>obtain⟨t,rfl⟩:=r;rfl
 | byt _=>obtain⟨t,rfl⟩:=r;rfl
 | flt _=>obtain⟨t,rfl⟩:=r;rfl
 | ref _=>cases r;rfl
 | ty _=>cases r;rfl
theorem AZ.inj{x y:V}{u:Value}(r:AZ x u)(q:AZ y u):x=y:=Rl.inj (r.abs.symm.trans q.abs)
theorem AJ.inj{xs ys:List V}{us:List Value}(a:AJ xs us)(b:AJ ys us):xs=ys:=by
 induction a generalizing ys with
 | nil=>cases b;rfl
 | cons r t ih=>cases b with | cons r' t'=>rw[r.inj r',ih t']
section
variable {X:Cx}{pins:List (Addr×Obj)}{σ:St}{H:Hp}{s:Shared}{a:Addr}{xs ys:List V}
theorem SqL.of{K:Rv}(h:H a=some (.lst xs)):SqL K H a xs:=.inl (.inl h)
theorem SqT.of{K:Rv}(h:H a=some (.tup xs)):SqT K H a xs:=.inl (.inl h)
theorem Inv.list(I:Inv X pins σ H s)(h:SqL X.K H a xs):∃its:List Value,AJ xs its/\PlainL s.heap a its.toArray/\xs.length<=sizeLine:=by
 rcases h with h | ⟨o,its,n,hk,hc,hd,hs,hz,r⟩
 ·obtain⟨z,its,n,r,e⟩:=h.ok I.hok
  exact⟨its,r,⟨_,n,e,rfl,rfl,rfl⟩,z⟩
 ·refine⟨its.toList,r,⟨o,n,I.kIn a o hk,hc,hd,by simpa using hs⟩,?_⟩
  have e:=r.length
  simp only[RI]at e
  lia
theorem Inv.tuple(I:Inv X pins σ H s)(h:SqT X.K H a xs):∃its:List Value,AJ xs its/\IsTup s.heap a its.toArray/\xs.length<=sizeLine:=by
 rcases h with h | ⟨o,its,n,hk,hc,hs,hz,r⟩
 ·obtain⟨z,its,r,p⟩:=h.ok I.hok
  exact⟨its,r,p,z⟩
 ·refine⟨its.toList,r,⟨o,I.kIn a o hk,hc,n,by simpa using hs⟩,?_⟩
  have e:=r.length
  simp only[RI]at e
  lia
theorem Inv.list_inj(I:Inv X pins σ H s)(h:SqL X.K H a xs)(h':SqL X.K H a ys):xs=ys:=by
 obtain⟨its,r,⟨o,n,e,_,_,d⟩,_⟩:=I.list h
 obtain⟨its',r',⟨o',n',e',_,_,d'⟩,_⟩:=I.list h'
 rw[e]at e';cases e'
 rw[d]at d'
 injection d' with d1 _
 have:its=its':=by simpa using congrArg Array.toList d1
 subst this
 exact r.inj r'
theorem Inv.tuple_inj(I:Inv X pins σ H s)(h:SqT X.K H a xs)(h':SqT X.K H a ys):xs=ys:=by
 obtain⟨its,r,⟨o,e,_,n,d⟩,_⟩:=I.tuple h
 obtain⟨its',r',⟨o',e',_,n',d'⟩,_⟩:=I.tuple h'
 rw[e]at e';cases e'
 rw[d]at d'
 injection d' with d1 _
 have:its=its':=by simpa using congrArg Array.toList d1
 subst this
 exact r.inj r'
end
abbrev Cx.wish(X:Cx)(E:Value->Shared->Prop):Cx:={ X with xe:=E }
abbrev Cx.nox(X:Cx):Cx:=X.wish fun _ _=>False
theorem Cx.Ok.wish{X:Cx}(ok:X.Ok)(E:Value->Shared->Prop):(X.wish E).Ok :=
 ⟨ok.mod,ok.kind,ok.glob,ok.blt,ok.above,ok.inj,ok.has,ok.cab,ok.hd,ok.frames,ok.stk,ok.exf,ok.bs,ok.bsz,ok.noex,ok.exfs,ok.funs,ok.frf⟩
theorem Cx.Ok.unwish{X:Cx}{E:Value->Shared->Prop}(ok:(X.wish E).Ok):X.Ok :=
 ⟨ok.mod,ok.kind,ok.glob,ok.blt,ok.above,ok.inj,ok.has,ok.cab,ok.hd,ok.frames,ok.stk,ok.exf,ok.bs,ok.bsz,ok.noex,ok.exfs,ok.funs,ok.frf⟩
section
variable {X:Cx}{pins:List (Addr×Obj)}{σ:St}{H:Hp}{s:Shared}{E:Value->Shared->Prop}
theorem Inv.wish(I:Inv X pins σ H s)(E:Value->Shared->Prop):Inv (X.wish E) pins σ H s:=⟨I.ok.wish E,I.os,I.bare,I.base,I.loc,I.cell,I.free,I.freeC,I.pin,I.hok,I.len⟩
theorem Inv.unwish(I:Inv (X.wish E) pins σ H s):Inv X pins σ H s:=⟨I.ok.unwish,I.os,I.bare,I.base,I.loc,I.cell,I.free,I.freeC,I.pin,I.hok,I.len⟩
theorem SP.unwish{D:CZ}{f:Flow}{s':Shared}(h:SP (X.wish E) pins D f s'):SP X pins D f s':=by
 cases f with
 | next=>obtain⟨σ',H',I,q⟩:=h;exact⟨σ',H',I.unwish,q⟩
 | brk=>obtain⟨σ',H',I,q⟩:=h;exact⟨σ',H',I.unwish,q⟩
 | cont=>obtain⟨σ',H',I,q⟩:=h;exact⟨σ',H',I.unwish,q⟩
 | ret u=>obtain⟨v,σ',H',I,r,q⟩:=h;exact⟨v,σ',H',I.unwish,r,q⟩
theorem PSs.nox{st:List Stmt}{t:TS}(h:PSs X.nox st t):PSs X st t:=fun pins s σ H D I hw =>
 wpAny_mono (h pins s σ H D (I.wish _) hw) (fun _ _ q=>q.unwish) fun _ _ z=>False.elim z
end
section
variable {X:Cx}{st:Stmt}{BV:List Stmt}{t u:TS}{e:Expr}{te:TE}{pos:Pos}
def Of:TS:=fun D σ H=>D.nx σ H
@[reducible] def CZ.to(D:CZ)(n:St->Hp->Prop):CZ:={ D with nx:=n }
def M8(t u:TS):TS:=fun D σ H=>t (D.to (u D)) σ H
theorem AI:PSs X [] Of:=fun _ _ σ H _ I h=>wpAny_execs_nil ⟨σ,H,I,h⟩
theorem Le(h1:PS X st t)(h2:PSs X BV u):PSs X (st::BV) (M8 t u):=by
 intro pins s σ H D I h
 refine wpAny_execs_cons (thn (h1 pins s σ H { D with nx:=u D } I h) fun f s1 q=>?_)
 cases f with
 | next =>
   obtain⟨σ',H',I',q⟩:=q
   exact h2 pins s1 σ' H' D I' q
 | ret v=>exact q
 | brk=>exact q
 | cont=>exact q
theorem Ag(h1:PS X st t):PSs X [st] t:=by
 intro pins s σ H D I h
 refine wpAny_execs_cons (thn (h1 pins s σ H D I h) fun f s1 q=>?_)
 cases f with
 | next=>exact wpAny_execs_nil q
 | ret v=>exact q
 | brk=>exact q
 | cont=>exact q
theorem Inv.quiet{pins:List (Addr×Obj)}{σ:St}{H:Hp}{s:Shared}(I:Inv X pins σ H s):interactive X.env=false:=by simp[interactive,I.ok.kind]
def Oh(te:TE):TS:=fun D σ H=>te σ H fun _ H1=>D.nx σ H1
theorem Dc(he:PE X e te)(hs:swapsWith e none pos.line X.env=pure false:=by rfl):PS X (.Expr e pos) (Oh te):=by
 intro pins s σ H D I h
 exact wpAny_Expr_any (thn (he pins s σ H _ I h) fun v s1 ⟨x,H1,I1,r1,q1⟩=>⟨σ,H1,I1,q1⟩) I.quiet hs
def OY(te:TE):TS:=fun D σ H=>te σ H D.rt
theorem Av(he:PE X e te):PS X (.Return (some e) pos) (OY te):=by
 intro pins s σ H D I h
 exact wpAny_Return_some (thn (he pins s σ H _ I h) fun v s1 ⟨x,H1,I1,r1,q1⟩=>⟨x,σ,H1,I1,r1,q1⟩)
def K0(c:TT)(t u:TS):TS:=fun D σ H=>c σ H fun b H1=>if b=true then t D σ H1 else u D σ H1
theorem Ou{c:Expr}{a b:List Stmt}{tc:TT}(hc:PT X c tc)(ha:PSs X a t)(hb:PSs X b u):PS X (.If c a b pos) (K0 tc t u):=by
 intro pins s σ H D I h
 refine wpAny_If (thn (hc pins s σ H _ I h) fun d s1 ⟨H1,I1,q1⟩=>?_)
 cases d with
 | true=>exact ha pins s1 σ H1 D I1 q1
 | false=>exact hb pins s1 σ H1 D I1 q1
def N0:TS:=fun _ _ _=>False
theorem Cy:PS X st N0:=fun _ _ _ _ _ _ h=>h.elim
end
abbrev TG:=V->St->Hp->(St->Hp->Prop)->Prop
abbrev TGs:=List V->St->Hp->(St->Hp->Prop)->Prop
def PG(X:Cx)(target:Expr)(t:TG):Prop :=
 ∀ (pins:List (Addr×Obj)) (s:Shared) (σ:St) (H:Hp) (v:V) (u:Value) (Q:St->Hp->Prop),Inv X pins σ H s->AZ v u->t v σ H Q ->
   wpAny (model X.prog X.w) X.A (assign target X.env u) (fun _ s'=>∃σ' H',Inv X pins σ' H' s'/\Q σ' H') X.xe s
def PGs(X:Cx)(ts:List Expr)(t:TGs):Prop :=
 ∀ (pins:List (Addr×Obj)) (s:Shared) (σ:St) (H:Hp) (vs:List V) (us:List Value) (Q:St->Hp->Prop),Inv X pins σ H s->AJ vs us->t vs σ H Q ->
   wpAny (model X.prog X.w) X.A (assignInOrder ((assignEach ts X.env).map (·.2)) us) (fun _ s'=>∃σ' H',Inv X pins σ' H' s'/\Q σ' H') X.xe s
abbrev O4:=V->V->V->Hp->(Hp->Prop)->Prop
def OT(X:Cx)(t:O4):Prop :=
 ∀ (pins:List (Addr×Obj)) (s:Shared) (σ:St) (H:Hp) (o i v:V) (ov iv u:Value) (Q:Hp->Prop),Inv X pins σ H s->AZ o ov->AZ i iv->AZ v u->t o i v H Q ->
   wpAny (model X.prog X.w) X.A (setItem ov iv u) (fun _ s'=>∃H',Inv X pins σ H' s'/\Q H') X.xe s
section
variable {X:Cx}{pos:Pos}
def Ck(i:Nat):TG:=fun v σ H Q=>Q (σ.set i (some v)) H
theorem Ax{i:Nat}{x:Str}(hN:X.N.Nodup)(hi:X.N[i]? = some x)(hx:Loc X.env.scope x)(hf:X.fn x=true\/X.env.scope.names.lookup x=some .local:=by first | exact .inl rfl | exact .inr rfl | assumption):PG X (.Name x pos) (Ck i):=by
 intro pins s σ H v u Q I r h
 exact wpAny_assign_Name (DZ I hN hi hx r (fun s' I'=>⟨_,H,I',h⟩) hf)
def MF:TGs:=fun vs σ H Q=>vs=[]/\Q σ H
inductive FP(t:TG)(u:TGs)(vs:List V)(σ:St)(H:Hp)(Q:(St->Hp->Prop)):Prop
 | mk (v:_) (r:_) (h1:vs=v::r) (h2:t v σ H fun σ' H'=>u r σ' H' Q):FP t u vs σ H Q
theorem F0:PGs X [] MF:=by
 intro pins s σ H vs us Q I r h
 obtain⟨e,h⟩:=h
 subst e
 cases r
 exact assignInOrder_nil ⟨σ,H,I,h⟩
theorem C8{e:Expr}{es:List Expr}{t:TG}{u:TGs}(h1:PG X e t)(h2:PGs X es u)
 (hs:(assignEach (e::es) X.env).map (·.2)=assign e X.env::(assignEach es X.env).map (·.2):=by rfl):PGs X (e::es) (FP t u):=by
 intro pins s σ H vs us Q I r h
 obtain⟨v,vr,e1,h⟩:=h
 subst e1
 cases r with
 | cons r rr =>
   rw[hs]
   refine assignInOrder_cons (thn (h1 pins s σ H _ _ _ I r h) fun _ s1 ⟨σ1,H1,I1,q1⟩=>?_)
   exact h2 pins s1 σ1 H1 _ _ Q I1 rr q1
inductive Km(K:Rv)(n:Nat)(t:TGs)(v:V)(σ:St)(H:Hp)(Q:(St->Hp->Prop)):Prop
 | mk (a:_) (xs:_) (h1:v = .ref a) (h2:SqT K H a xs) (h3:xs.length=n) (h4:t xs σ H Q):Km K n t v σ H Q
theorem Ni{es:List Expr}{k:Nat}{t:TGs}{n:Nat}(hc:X.calm=true)(h:PGs X es t)
 (hn:(assignEach es X.env).length=n:=by rfl) (hst:(assignEach es X.env).findIdx? (·.1)=none:=by rfl):PG X (.Tuple es k pos) (Km X.K n t):=by
 intro pins s σ H v u Q I r hw
 obtain⟨a,xs,e1,hq,hl,hw⟩:=hw
 subst e1
 cases r
 obtain⟨its,rv,ht,hz⟩:=I.tuple hq
 refine assign_Tuple_tuple (I.ok.hd hc) ht (by simp[hn,<- hl,rv.length]) hst fun h' hx=>?_
 have I1:Inv X pins σ H { s with heap:=h' }:=I.kept (t':=s.toks) fun b o e=>hx b o (Rq (Heap.lt_size e)) e
 exact h pins _ σ H xs _ Q I1 (by simpa using rv) hw
def Pb(to ti:TE)(t:O4):TG:=fun v σ H Q=>to σ H fun o H1=>ti σ H1 fun i H2=>t o i v H2 fun H3=>Q σ H3
theorem Eu{o i:Expr}{to ti:TE}{t:O4}(ho:PE X o to)(hi:PE X i ti)(hs:OT X t)
 (ha:∀v,assign (.Subscript o i pos) X.env v=(do
  let ov <- holding [v] (eval o X.env)
  let iv <- holding [v,ov] (eval i X.env)
  standAt pos
  holding [v,ov,iv] (setItem ov iv v)
  release [v,ov,iv] []):=by intro _;rfl):PG X (.Subscript o i pos) (Pb to ti t):=by
 intro pins s σ H v u Q I r h
 rw[ha]
 refine wpAny_bind (wpAny_holding (thn (ho pins s σ H _ I h) fun ov s1 ⟨x,H1,I1,r1,q1⟩=>?_))
 refine wpAny_bind (wpAny_holding (thn (hi pins s1 σ H1 _ I1 q1) fun iv s2 ⟨y,H2,I2,r2,q2⟩=>?_))
 refine wpAny_bind (wpAny_standAt (wpAny_bind (wpAny_holding (thn (hs pins s2 σ H2 x y v ov iv u _ I2 r1 r2 r q2) fun _ s3 ⟨H3,I3,q3⟩=>?_))))
 exact wpAny_release ⟨σ,H3,I3,q3⟩
def N4(te:TE)(g:TG):TS:=fun D σ H=>te σ H fun x H1=>g x σ H1 D.nx
theorem DW{tg e:Expr}{te:TE}{g:TG}(he:PE X e te)(hg:PG X tg g)(hs:swapsWithSole [tg] e pos.line X.env=pure false:=by rfl)(hw:swappedStores [tg] e X.env=pure none:=by rfl)
 (h1:(assignEach [tg] X.env).map (·.2)=[assign tg X.env]:=by rfl):PS X (.Assign [tg] e pos) (N4 te g):=by
 intro pins s σ H D I h
 refine wpAny_Assign_stores (thn (he pins s σ H _ I h) fun v s1 ⟨x,H1,I1,r1,q1⟩=>?_) hs hw
 rw[h1]
 exact thn (hg pins s1 σ H1 x v _ I1 r1 q1) fun _ s2 q=>q
theorem Ai{i:Nat}{x:Str}{e:Expr}{te:TE}{pos':Pos}(hN:X.N.Nodup)(hi:X.N[i]? = some x)(hx:Loc X.env.scope x)(he:PE X e te)(hs:swapsWith e (some (.Name x pos')) pos.line X.env=pure false:=by rfl)(hf:X.fn x=true\/X.env.scope.names.lookup x=some .local:=by first | exact .inl rfl | exact .inr rfl | assumption) :
 PS X (.Assign [.Name x pos'] e pos) (N4 te (Ck i)):=by
 intro pins s σ H D I h
 refine wpAny_Assign_Name (thn (he pins s σ H _ I h) fun v s1 ⟨y,H1,I1,r1,q1⟩=>?_) hs
 exact DZ I1 hN hi hx r1 (fun s2 I2=>⟨_,H1,I2,q1⟩) hf
def OZ(i j:Nat)(ta:TA):TS:=fun D σ H=>ta σ H fun vs H1=>∃v w,vs=[v,w]/\D.nx ((σ.set i (some v)).set j (some w)) H1
theorem Nd{i j:Nat}{x y:Str}{a b:Expr}{ta:TA}{px py pt:Pos}{kt k2 pt2}(hc:X.calm=true)(hN:X.N.Nodup)(hi:X.N[i]? = some x)(hj:X.N[j]? = some y)(hij:i≠j)
 (hx:X.env.scope.names.lookup x=some .local) (hy:X.env.scope.names.lookup y=some .local) (ha:PA X [a,b] ta)
 (hw:swappedStores [.Tuple [.Name x px,.Name y py] kt pt] (.Tuple [a,b] k2 pt2) X.env=pure (some [x,y]))
 (hs:swapsWithSole [.Tuple [.Name x px,.Name y py] kt pt] (.Tuple [a,b] k2 pt2) pos.line X.env=pure false:=by rfl) :
 PS X (.Assign [.Tuple [.Name x px,.Name y py] kt pt] (.Tuple [a,b] k2 pt2) pos) (OZ i j ta):=by
 intro pins s σ H D I h
 rw[exec_Assign_arm]
 refine wpAny_bind (wpAny_standAt ?_)
 rw[hs]
 refine wpAny_bind (wpAny_pure ?_)
 rw[if_neg (by decide)]
 refine wpAny_bind (Tuple_ (thn (ha _ pins s σ H _ I h) fun us s1 ⟨vs,H1,I1,r1,q1⟩=>?_))
 obtain⟨v,w,e1,q1⟩:=q1
 subst e1
 obtain⟨u1,u2,rfl,rv,rw'⟩:∃u1 u2,us=[u1,u2]/\AZ v u1/\AZ w u2:=by
  cases r1 with
  | cons p q =>
    cases q with
    | cons p' q' =>
      cases q'
      exact⟨_,_,rfl,p,p'⟩
 refine wpAny_newObj_type ?_ (by show 2<=sizeLine;decide)
 have I2:Inv X pins σ H1 { s1 with heap:=s1.heap.push { cls:=.type "tuple",data:=.seq [u1,u2].toArray } }:=I1.kept (t':=s1.toks) fun b o e=>Heap.get?_push_of_some _ e
 rw[hw]
 refine wpAny_bind (wpAny_pure ?_)
 show wpAny (model X.prog X.w) X.A (do rule "assign.swapped-stores";let items <- unpackItems (.ref s1.heap.objs.size) 2 none;assignInOrder [fun v=>bindName X.env y v,fun v=>bindName X.env x v] items.reverse;pure Flow.next) _ _ _
 refine wpAny_bind (wpAny_rule (wpAny_bind (unpackItems_tuple (items:=#[u1,u2]) (I.ok.hd hc) (IsTup.new s1.heap _) fun h' hx'=>?_)))
 have I3:=I2.kept (h':=h') (t':=s1.toks) fun b o e=>hx' b o (Rq (Heap.lt_size e)) e
 show wpAny _ _ (assignInOrder [fun v=>bindName X.env y v,fun v=>bindName X.env x v] [u2,u1] >>= fun _=>pure Flow.next) _ _ _
 refine wpAny_bind (assignInOrder_cons (wpAny_bindName (DZ I3 hN hj (.inl hy) rw' (fun s2 I4=>?_) (.inr hy))))
 refine assignInOrder_cons (wpAny_bindName (DZ I4 hN hi (.inl hx) rv (fun s3 I5=>assignInOrder_nil (wpAny_pure ?_)) (.inr hx)))
 rw[List.set_comm _ _ (Ne.symm hij)]at I5
 exact⟨_,H1,I5,q1⟩
end
section
variable {X:Cx}{pos:Pos}
def IM(c:TT)(tb:TS):TS:=fun D σ H=>∃W:Nat->St->Hp->Prop,(∃m,W m σ H)/\∀m σ H,W m σ H ->
 c σ H fun b H1=>if b=true then ∃N:St->Hp->Prop,(∀σ' H',N σ' H'->∃m',m'<m/\W m' σ' H')/\tb { D with nx:=N,ct:=N,bk:=D.nx } σ H1 else D.nx σ H1
theorem Cw{c:Expr}{body:List Stmt}{tc:TT}{tb:TS}(hp:PassesOwn (model X.prog X.w) X.A X.env X.xe)(hc:PT X c tc)(hb:PSs X body tb):PS X (.While c body [] pos) (IM tc tb):=by
 intro pins s σ H D I h
 obtain⟨W,⟨m0,w0⟩,turn⟩:=h
 refine wpAny_While (codeAny_whileLoop (fun n s'=>∃σ' H',Inv X pins σ' H' s'/\W n σ' H') ?_ m0 ⟨σ,H,I,w0⟩)
 rintro n s1 ⟨σ1,H1,I1,w1⟩
 refine wpAny_passesOwn hp (thn (hc pins s1 σ1 H1 _ I1 (turn n σ1 H1 w1)) fun b s2 ⟨H2,I2,q2⟩=>?_)
 cases b with
 | true =>
   obtain⟨N,hN,q2⟩:=q2
   rw[if_pos rfl]
   refine wpAny_passesOwn hp (thn (hb pins s2 σ1 H2 _ I2 q2) fun f s3 q3=>?_)
   cases f with
   | next =>
     obtain⟨σ3,H3,I3,n3⟩:=q3
     obtain⟨m',hm,w3⟩:=hN σ3 H3 n3
     exact⟨m',hm,σ3,H3,I3,w3⟩
   | cont =>
     obtain⟨σ3,H3,I3,n3⟩:=q3
     obtain⟨m',hm,w3⟩:=hN σ3 H3 n3
     exact⟨m',hm,σ3,H3,I3,w3⟩
   | brk=>exact q3
   | ret v=>exact q3
 | false =>
   rw[if_neg Bool.false_ne_true]
   exact wpAny_execs_nil ⟨σ1,H2,I2,q2⟩
end
structure It where
 go:Nat->Hp->Prop
 yld:Nat->Hp->V->Hp->Prop
 stop:Nat->Hp->Prop
def DM(X:Cx)(pins:List (Addr×Obj))(H:Hp)(b:Addr):Prop :=
 H b=none/\b≠X.env.locals/\b∉X.fs/\(b∈X.ex\/X.s₀.heap.objs.size<=b)/\(∀x c,X.env.cells.lookup x=some c->c≠b)/\∀p∈X.pn++pins,p.1≠b
theorem Inv.fpOk{X:Cx}{pins:List (Addr×Obj)}{σ:St}{H H':Hp}{s:Shared}{b:Addr}(I:Inv X pins σ H s)(hb:s.heap.objs.size<=b)(hn:H' b=none):DM X pins H' b:=by
 refine⟨hn,RJ (Ro I.lt hb),I.nofs hb,.inr (Rw I.sz hb),fun x c e z=>?_,fun p hp z=>?_⟩
 ·obtain⟨v,q⟩:=I.cell x c e
  exact absurd (Ro q.lt (by rw[z];exact hb)) (Rp _)
 ·exact absurd (Ro (Heap.lt_size (I.pin p hp).1) (by rw[z];exact hb)) (Rp _)
structure IE(P:Program)(w:World)(K:Rv)(tg:Expr)(J:It)(fp:List Addr)(it:Addr)(tn:Nat->Heap->Prop):Prop where
 mem:it∈fp
 obj:∀i h,tn i h->∀b∈fp,∃o,h.get? b=some o/\∀v,o.data ≠ .cell v
 keep:∀i h h',tn i h->(∀b∈fp,∀o,h.get? b=some o->h'.get? b=some o)->tn i h'
 item:∀(X:Cx),X.prog=P->X.w=w->X.K=K->X.calm=true->∀(i:Nat) (pins:List (Addr×Obj)) (s:Shared) (σ:St) (H:Hp) (E:Value->Shared->Prop),Inv X pins σ H s->(∀b∈fp,DM X pins H b)->tn i s.heap->J.go i H ->
  wpAny (model P w) X.A (pyNext (.ref it)) (fun r s1=>∃u,r=some u /\
   wpAny (model P w) X.A (letOwnedTupleGo tg (.ref it) u) (fun _ s2=>∃x H',Inv X pins σ H' s2/\AZ x u/\J.yld i H x H'/\tn (i+1) s2.heap/\∀b∈fp,H' b=none) E s1) E s
 done:∀(X:Cx),X.prog=P->X.w=w->X.K=K->X.calm=true->∀(i:Nat) (pins:List (Addr×Obj)) (s:Shared) (σ:St) (H:Hp) (E:Value->Shared->Prop),Inv X pins σ H s->(∀b∈fp,DM X pins H b)->tn i s.heap->J.stop i H ->
  wpAny (model P w) X.A (pyNext (.ref it)) (fun r s1=>r=none/\Inv X pins σ H s1) E s
 self:∀(A:Around) (i:Nat) (s:Shared) (Q:Value->Shared->Prop) (E:Value->Shared->Prop),tn i s.heap->Q (.ref it) s->wpAny (model P w) A (pyIter (.ref it)) Q E s
abbrev TI:=St->Hp->(It->Hp->Prop)->Prop
def PIE(X:Cx)(pins:List (Addr×Obj))(σ:St)(tg:Expr)(R:It->Hp->Prop)(itv:Value)(s2:Shared):Prop :=
 ∃(it:Addr) (fp:List Addr) (tn:Nat->Heap->Prop) (J:It) (H':Hp),itv = .ref it/\Inv X pins σ H' s2/\IE X.prog X.w X.K tg J fp it tn/\tn 0 s2.heap/\(∀b∈fp,DM X pins H' b)/\R J H'
def PI(X:Cx)(tg iter:Expr)(wi:TI):Prop :=
 ∀ (pins:List (Addr×Obj)) (s:Shared) (σ:St) (H:Hp) (R:It->Hp->Prop),Inv X pins σ H s->wi σ H R ->
   wpAny (model X.prog X.w) X.A (eval iter X.env) (fun v s1=>wpAny (model X.prog X.w) X.A (pyIter v) (PIE X pins σ tg R) X.xe s1) X.xe s
theorem Io{M:Model}{A:Around}{E:Value->Shared->Prop}{s:Shared}{tg:Expr}{it:Addr}{u:Value}{o:Obj}{n:String}{vs:Array Value}{Q:Unit->Shared->Prop}(ho:s.heap.get? it=some o)(hc:o.cls = .type n)(hd:o.data = .fields vs)
 (hn:["enumerate","zip","dict_itemiterator","dict_reverseitemiterator","odict_iterator","itertools.zip_longest","itertools.pairwise"].contains n=false) (hQ:Q () s):wpAny M A (letOwnedTupleGo tg (.ref it) u) Q E s:=by
 unfold letOwnedTupleGo
 cases tg<;>first
  | exact wpAny_pure hQ
  | (cases u<;>first
   | exact wpAny_pure hQ
   | (refine wpAny_bind (wpAny_load ho ?_)
      rw[hc,hd]
      show wpAny M A (if (["enumerate","zip","dict_itemiterator","dict_reverseitemiterator","odict_iterator","itertools.zip_longest","itertools.pairwise"].contains n&&vs[0]? == some (rawInt _))=true then _ else _) Q E s
      rw[if_neg (by intro h;rw[hn,Bool.false_and]at h;cases h)]
      exact wpAny_pure hQ))
def Itl(K:Rv)(a:Addr):It :=
 ⟨fun i H=>∃xs x,SqL K H a xs/\xs[i]? = some x,fun i H x H'=>H'=H/\∀xs,SqL K H a xs->xs[i]? = some x,fun i H=>∃xs,SqL K H a xs/\xs.length<=i⟩
def Itt(K:Rv)(a:Addr):It :=
 ⟨fun i H=>∃xs x,SqT K H a xs/\xs[i]? = some x,fun i H x H'=>H'=H/\∀xs,SqT K H a xs->xs[i]? = some x,fun i H=>∃xs,SqT K H a xs/\xs.length<=i⟩
def Itr(lo:Int)(n:Nat):It:=⟨fun i _=>i<n,fun i H x H'=>H'=H/\x = .int (lo+i),fun i _=>n<=i⟩
theorem JX{P:Program}{w:World}{K:Rv}{tg:Expr}(a it:Addr):IE P w K tg (Itl K a) [it] it (fun i h=>h.IsListIter it a i) where
 mem:=by simp
 obj:=fun i h st b hb=>by
  have e:b=it:=by simpa using hb
  subst e
  obtain⟨o,e,c,d⟩:=st
  exact⟨o,e,fun v z=>by rw[d]at z;cases z⟩
 keep:=fun i h h' st k=>st.at fun o e=>k it (by simp) o e
 item:=by
  intro X hP hw hK hc i pins s σ H E I hf st hg
  subst hP hw hK
  obtain⟨xs,x,hq,hx⟩:=hg
  obtain⟨its,rv,p,hz⟩:=I.list hq
  obtain⟨u,hu,ru⟩:=rv.get hx
  obtain⟨f0,f1,f2,f3,f4,f5⟩:=hf it (by simp)
  refine wpAny_pyNext_list_item st p.isList (x:=u) (by simpa using hu) fun h' st' sb=>?_
  have I1:Inv X pins σ H { s with heap:=h' }:=I.turned (t':=s.toks) (fun b o hb e=>(sb.2 b hb).trans e) f0 f1 f3 f4 f5
  obtain⟨o,e,c,d⟩:=id st'
  exact⟨u,rfl,Io (s:={ s with heap:=h' }) e c d (by decide) ⟨x,H,I1,ru,⟨rfl,fun ys hy=>by rw[I.list_inj hy hq];exact hx⟩,st',fun b hb=>(hf b hb).1⟩⟩
 done:=by
  intro X hP hw hK hc i pins s σ H E I hf st hg
  subst hP hw hK
  obtain⟨xs,hq,hx⟩:=hg
  obtain⟨its,rv,p,hz⟩:=I.list hq
  obtain⟨f0,f1,f2,f3,f4,f5⟩:=hf it (by simp)
  have hl:=rv.length
  exact wpAny_pyNext_list_end (I.ok.hd hc) st p.isList (by simp;lia) fun h' eb=>⟨rfl,I.turned (t':=s.toks) (fun b o hb e=>eb b o hb e) f0 f1 f3 f4 f5⟩
 self:=fun _ _ _ _ _ st h=>wpAny_pyIter_listiter st h
theorem II{P:Program}{w:World}{K:Rv}{tg:Expr}(a it:Addr):IE P w K tg (Itt K a) [it] it (fun i h=>h.IsTupleIter it a i) where
 mem:=by simp
 obj:=fun i h st b hb=>by
  have e:b=it:=by simpa using hb
  subst e
  obtain⟨o,e,c,d⟩:=st
  exact⟨o,e,fun v z=>by rw[d]at z;cases z⟩
 keep:=fun i h h' st k=>st.at fun o e=>k it (by simp) o e
 item:=by
  intro X hP hw hK hc i pins s σ H E I hf st hg
  subst hP hw hK
  obtain⟨xs,x,hq,hx⟩:=hg
  obtain⟨its,rv,p,hz⟩:=I.tuple hq
  obtain⟨u,hu,ru⟩:=rv.get hx
  obtain⟨f0,f1,f2,f3,f4,f5⟩:=hf it (by simp)
  refine wpAny_pyNext_tuple_item st (show s.heap.IsTuple a its.toArray from p) (x:=u) (by simpa using hu) fun h' st' sb=>?_
  have I1:Inv X pins σ H { s with heap:=h' }:=I.turned (t':=s.toks) (fun b o hb e=>(sb.2 b hb).trans e) f0 f1 f3 f4 f5
  obtain⟨o,e,c,d⟩:=id st'
  exact⟨u,rfl,Io (s:={ s with heap:=h' }) e c d (by decide) ⟨x,H,I1,ru,⟨rfl,fun ys hy=>by rw[I.tuple_inj hy hq];exact hx⟩,st',fun b hb=>(hf b hb).1⟩⟩
 done:=by
  intro X hP hw hK hc i pins s σ H E I hf st hg
  subst hP hw hK
  obtain⟨xs,hq,hx⟩:=hg
  obtain⟨its,rv,p,hz⟩:=I.tuple hq
  obtain⟨f0,f1,f2,f3,f4,f5⟩:=hf it (by simp)
  have hl:=rv.length
  exact wpAny_pyNext_tuple_end (I.ok.hd hc) st (show s.heap.IsTuple a its.toArray from p) (by simp;lia) fun h' eb=>⟨rfl,I.turned (t':=s.toks) (fun b o hb e=>eb b o hb e) f0 f1 f3 f4 f5⟩
 self:=fun _ _ _ _ _ st h=>wpAny_pyIter_tupleiter st h
theorem IJ{P:Program}{w:World}{K:Rv}{tg:Expr}(it:Addr)(lo:Int)(n:Nat):IE P w K tg (Itr lo n) [it] it (fun i h=>IsRangeIter h it (lo+(i:Nat)*1) ((n:Int)-(i:Nat)) 1) where
 mem:=by simp
 obj:=fun i h st b hb=>by
  have e:b=it:=by simpa using hb
  subst e
  exact⟨_,st,fun v z=>by
   have z':Data.fields _=Data.cell v:=z
   cases z'⟩
 keep:=fun i h h' st k=>k it (by simp) _ st
 item:=by
  intro X hP hw hK hc i pins s σ H E I hf st hg
  subst hP hw hK
  obtain⟨f0,f1,f2,f3,f4,f5⟩:=hf it (by simp)
  have W:=Walks.range (prog:=X.prog) (w:=X.w) (I.ok.hd hc) it lo 1 n
  refine W.item i s _ _ hg st fun v h' tk hv st' kk=>?_
  obtain⟨t,rfl⟩:=hv
  have I1:Inv X pins σ H { s with heap:=h',toks:=tk }:=I.turned (fun b o hb e=>kk b o (by simpa using hb) e) f0 f1 f3 f4 f5
  refine⟨_,rfl,Io (s:={ s with heap:=h',toks:=tk }) (n:="range_iterator") st' rfl rfl (by decide) ⟨.int (lo+i),H,I1,⟨t,?_⟩,⟨rfl,rfl⟩,st',fun b hb=>(hf b hb).1⟩⟩
  rw[Int.mul_one]
 done:=by
  intro X hP hw hK hc i pins s σ H E I hf st hg
  subst hP hw hK
  obtain⟨f0,f1,f2,f3,f4,f5⟩:=hf it (by simp)
  exact wpAny_pyNext_range_end (I.ok.hd hc) st (by have:n<=i:=hg;lia) fun h' eb=>⟨rfl,I.turned (t':=s.toks) (fun b o hb e=>eb b o hb e) f0 f1 f3 f4 f5⟩
 self:=fun _ _ _ _ _ st h=>wpAny_pyIter_rangeiter st h
end L2
namespace L2
open PySem PySem.Spec PyProof.Rows
section
variable {X:Cx}{tg:Expr}
def LD(K:Rv)(tl:TE):TI:=fun σ H R=>tl σ H fun x H1=>∃a,x = .ref a/\(∃xs,SqL K H1 a xs)/\R (Itl K a) H1
def NS(K:Rv)(tl:TE):TI:=fun σ H R=>tl σ H fun x H1=>∃a,x = .ref a/\(∃xs,SqT K H1 a xs)/\R (Itt K a) H1
theorem Ju{l:Expr}{tl:TE}(hl:PE X l tl):PI X tg l (LD X.K tl):=by
 intro pins s σ H R I h
 refine thn (hl pins s σ H _ I h) fun v s1 ⟨x,H1,I1,r1,q1⟩=>?_
 obtain⟨a,e,⟨xs,hq⟩,q⟩:=q1
 subst e
 cases r1
 obtain⟨its,rv,p,hz⟩:=I1.list hq
 refine wpAny_pyIter_list p.isList ?_
 refine⟨s1.heap.objs.size,[s1.heap.objs.size],_,_,H1,rfl,I1.kept (t':=s1.toks) fun b o e=>Heap.get?_push_of_some _ e,JX a _,⟨_,Heap.get?_push_size _ rfl,rfl,rfl⟩,fun b hb=>?_,q⟩
 have e:b=s1.heap.objs.size:=by simpa using hb
 subst e
 exact I1.fpOk (RK _) (I1.hok.fresh (RK _))
theorem Li{l:Expr}{tl:TE}(hl:PE X l tl):PI X tg l (NS X.K tl):=by
 intro pins s σ H R I h
 refine thn (hl pins s σ H _ I h) fun v s1 ⟨x,H1,I1,r1,q1⟩=>?_
 obtain⟨a,e,⟨xs,hq⟩,q⟩:=q1
 subst e
 cases r1
 obtain⟨its,rv,p,hz⟩:=I1.tuple hq
 refine wpAny_pyIter_tuple (show s1.heap.IsTuple a its.toArray from p) ?_
 refine⟨s1.heap.objs.size,[s1.heap.objs.size],_,_,H1,rfl,I1.kept (t':=s1.toks) fun b o e=>Heap.get?_push_of_some _ e,II a _,⟨_,Heap.get?_push_size _ rfl,rfl,rfl⟩,fun b hb=>?_,q⟩
 have e:b=s1.heap.objs.size:=by simpa using hb
 subst e
 exact I1.fpOk (RK _) (I1.hok.fresh (RK _))
theorem La{pins:List (Addr×Obj)}{σ:St}{H:Hp}{s:Shared}{R:It->Hp->Prop}{E:Value->Shared->Prop}{lo hi:Int}{t u v:Tok}{tk:Nat}(I:Inv X pins σ H s)(h1 : -(2 ^ 62)<=lo)(h2:lo<2 ^ 62)(h3 : -(2 ^ 62)<=hi)(h4:hi<2 ^ 62)
 (q:R (Itr lo (hi-lo).toNat) H):wpAny (model X.prog X.w) X.A (pyIter (.ref s.heap.objs.size)) (PIE X pins σ tg R) E { s with heap:=s.heap.push { cls:=.type "range",data:=.fields #[.int lo t,.int hi u,.int 1 v] },toks:=tk }:=by
 refine wpAny_pyIter_range (IsRange.new ..) (small_one h1 h2 h3 h4) ?_
 have I1:Inv X pins σ H { s with heap:=s.heap.push { cls:=.type "range",data:=.fields #[.int lo t,.int hi u,.int 1 v] },toks:=tk }:=I.kept fun b o e=>Heap.get?_push_of_some _ e
 refine⟨(s.heap.push { cls:=.type "range",data:=.fields #[.int lo t,.int hi u,.int 1 v] }).objs.size,[(s.heap.push { cls:=.type "range",data:=.fields #[.int lo t,.int hi u,.int 1 v] }).objs.size],_,_,H,rfl,
  I1.kept (t':=tk) fun b o e=>Heap.get?_push_of_some _ e,IJ _ lo (hi-lo).toNat,?_,fun b hb=>?_,q⟩
 ·have e1:lo+((0:Nat):Int)*1=lo:=by simp
  have e2:(((hi-lo).toNat:Nat):Int)-((0:Nat):Int)=Builtin.Range.rangeSize lo hi 1:=by rw[rangeSize_one];split<;>lia
  show IsRangeIter _ _ (lo+((0:Nat):Int)*1) ((((hi-lo).toNat:Nat):Int)-((0:Nat):Int)) 1
  rw[e1,e2]
  exact Heap.get?_push_size _ rfl
 ·have e:b=(s.heap.push { cls:=.type "range",data:=.fields #[.int lo t,.int hi u,.int 1 v] }).objs.size:=by simpa using hb
  subst e
  exact I1.fpOk (RK _) (I1.hok.fresh (RK _))
def OG(ta:TA):TI:=fun σ H R=>ta σ H fun vs H1=>∃j:Int,vs=[.int j] /\ -(2 ^ 62)<=j/\j<2 ^ 62/\R (Itr 0 j.toNat) H1
theorem BE{a:Expr}{ta:TA}{p pos:Pos}(hg:Gl X "range")(hm:X.mg "range" = none)(ha:PA X [a] ta)(hs:starEach [a] X.env=[(false,eval a X.env)]:=by rfl):PI X tg (.Call (.Name "range" p) [a] [] pos) (OG ta):=by
 intro pins s σ H R I h
 refine Call_ (Dw I hg hm boot_range (PyProof.Rows.callWith_type1 (thn (ha pos pins s σ H _ I h) fun us s1 ⟨vs,H1,I1,r1,q1⟩=>?_) hs rfl))
 obtain⟨j,e,q1,q2,q⟩:=q1
 subst e
 cases r1 with
 | cons r rr =>
   cases rr
   obtain⟨t,rfl⟩:=r
   exact call_range_1 (La I1 (by lia) (by lia) q1 q2 (by simpa using q))
def N3(wi:TI)(g:TG)(tb:TS):TS:=fun D σ H=>wi σ H fun J H1=>∃W:Nat->Nat->St->Hp->Prop,(∃m,W 0 m σ H1)/\∀i m σ H,W i m σ H ->
 (J.stop i H/\D.nx σ H)\/(J.go i H/\∃N:St->Hp->Prop,(∀σ' H',N σ' H'->∃m',m'<m/\W (i+1) m' σ' H')/\∀x H',J.yld i H x H'->g x σ H' fun σ2 H2=>tb { D with nx:=N,ct:=N,bk:=D.nx } σ2 H2)
def FC(fp:List Addr)(h:Heap):List (Addr×Obj):=fp.filterMap fun b=>(h.get? b).map fun o=>(b,o)
theorem Dg{fp:List Addr}{h:Heap}{b:Addr}{o:Obj}(hb:b∈fp)(e:h.get? b=some o):(b,o)∈FC fp h:=List.mem_filterMap.mpr ⟨b,hb,by rw[e];rfl⟩
theorem K7{fp:List Addr}{h:Heap}{p:Addr×Obj}(hp:p∈FC fp h):p.1∈fp/\h.get? p.1=some p.2:=by
 obtain⟨b,hb,e⟩:=List.mem_filterMap.mp hp
 cases q:h.get? b with
 | none=>rw[q]at e;cases e
 | some o =>
   rw[q]at e
   have e':(b,o)=p:=Rl.inj e
   subst e'
   exact⟨hb,q⟩
theorem Inv.pinned{pins:List (Addr×Obj)}{σ:St}{H:Hp}{s:Shared}{fp:List Addr}(I:Inv X pins σ H s)(hf:∀b∈fp,DM X pins H b)(ho:∀b∈fp,∃o,s.heap.get? b=some o/\∀v,o.data ≠ .cell v):Inv X (pins++FC fp s.heap) σ H s :=
 I.pins_of fun p hp=>(RD.mp hp).elim (fun z=>I.pin p (RL _ z)) fun z=>by
  obtain⟨hb,e⟩:=K7 z
  obtain⟨f0,f1,f2,_⟩:=hf p.1 hb
  obtain⟨o,e',d⟩:=ho p.1 hb
  rw[e]at e';cases e'
  exact⟨e,f0,f1,f2,d⟩
theorem Inv.unpinned{pins pl:List (Addr×Obj)}{σ:St}{H:Hp}{s:Shared}(I:Inv X (pins++pl) σ H s):Inv X pins σ H s:=I.pins_of fun p hp=>I.pin p (RL _ (RE _ hp))
theorem Nf{iter:Expr}{body:List Stmt}{wi:TI}{g:TG}{tb:TS}{pos:Pos}(hp:PassesOwn (model X.prog X.w) X.A X.env X.xe)(hc:X.calm=true)(hi:PI X tg iter wi)(hg:PG X tg g)(hb:PSs X body tb)
 (hs:∀x,foldedSetIterable iter X.env x=pure x:=by intro _;rfl):PS X (.For tg iter body [] pos) (N3 wi g tb):=by
 intro pins s σ H D I h
 refine wpAny_For (thn (hi pins s σ H _ I h) fun v s1 h1=>thn h1 fun itv s2 h2=>?_) hs
 obtain⟨it,fp,tn,J,H2,e,I2,T,st2,f2,W,⟨m0,w0⟩,turn⟩:=h2
 subst e
 -- what stays true of the iterator's objects through the loop
 have stat:∀{H':Hp},(∀b∈fp,H' b=none)->∀b∈fp,DM X pins H' b:=fun hn b hb=>⟨hn b hb,(f2 b hb).2⟩
 refine codeAny_forLoop_any (fun n s'=>∃i σ' H',Inv X pins σ' H' s'/\tn i s'.heap/\(∀b∈fp,H' b=none)/\W i n σ' H') ?_ m0 ⟨0,σ,H2,I2,st2,fun b hb=>(f2 b hb).1,w0⟩
 rintro n s3 ⟨i,σ3,H3,I3,st3,fr3,w3⟩
 rcases turn i n σ3 H3 w3 with ⟨stop,qn⟩ | ⟨go,N,hN,step⟩
 ·refine wpAny_passesOwn hp (thn (T.done X rfl rfl rfl hc i pins s3 σ3 H3 X.xe I3 (stat fr3) st3 stop) fun r s4 ⟨hr,I4⟩=>?_)
  subst hr
  exact wpAny_execs_nil ⟨σ3,H3,I4,qn⟩
 ·refine wpAny_passesOwn hp (thn (T.item X rfl rfl rfl hc i pins s3 σ3 H3 X.xe I3 (stat fr3) st3 go) fun r s4 ⟨u,hr,h4⟩=>?_)
  subst hr
  refine wpAny_passesOwn hp (thn h4 fun _ s5 ⟨x,H5,I5,r5,y5,st5,fr5⟩=>?_)
  have I5':=I5.pinned (stat fr5) (T.obj _ _ st5)
  refine wpAny_passesOwn hp (thn (hg _ s5 σ3 H5 x u _ I5' r5 (step x H5 y5)) fun _ s6 ⟨σ6,H6,I6,q6⟩=>?_)
  refine wpAny_passesOwn hp (thn (hb _ s6 σ6 H6 _ I6 q6) fun f s7 q7=>?_)
  have again:∀{σ7:St} {H7:Hp},Inv X (pins++FC fp s5.heap) σ7 H7 s7->N σ7 H7->∃m,m<n/\∃i σ' H',Inv X pins σ' H' s7/\tn i s7.heap/\(∀b∈fp,H' b=none)/\W i m σ' H':=fun{σ7 H7} I7 n7=>by
   obtain⟨m',hm,w7⟩:=hN σ7 H7 n7
   refine⟨m',hm,i+1,σ7,H7,I7.unpinned,T.keep _ _ _ st5 fun b hb o e=>(I7.pin (b,o) (RL _ (RL _ (Dg hb e)))).1,fun b hb=>?_,w7⟩
   obtain⟨o,e,d⟩:=T.obj _ _ st5 b hb
   exact(I7.pin (b,o) (RL _ (RL _ (Dg hb e)))).2.1
  cases f with
  | next=>obtain⟨σ7,H7,I7,n7⟩:=q7;exact again I7 n7
  | cont=>obtain⟨σ7,H7,I7,n7⟩:=q7;exact again I7 n7
  | brk=>obtain⟨σ7,H7,I7,q7⟩:=q7;exact⟨σ7,H7,I7.unpinned,q7⟩
  | ret v=>obtain⟨x7,σ7,H7,I7,r7,q7⟩:=q7;exact⟨x7,σ7,H7,I7.unpinned,r7,q7⟩
end
theorem FQ{K:Rv}{a:Addr}{xs:List V}{g:TG}{tb:TS}{D:CZ}{σ:St}{H:Hp}(Pv:Nat->St->Hp->Prop)(h0:Pv 0 σ H)(hl:∀i σ H,i<=xs.length->Pv i σ H->SqL K H a xs)
 (hs:∀i x σ H,xs[i]? = some x->Pv i σ H->g x σ H fun σ2 H2=>tb { D with nx:=Pv (i+1),ct:=Pv (i+1),bk:=D.nx } σ2 H2) (hd:∀σ H,Pv xs.length σ H->D.nx σ H) :
 ∃ W:Nat->Nat->St->Hp->Prop,(∃m,W 0 m σ H)/\∀i m σ H,W i m σ H ->
   ((Itl K a).stop i H/\D.nx σ H)\/((Itl K a).go i H/\∃N:St->Hp->Prop,(∀σ' H',N σ' H'->∃m',m'<m/\W (i+1) m' σ' H')/\∀x H',(Itl K a).yld i H x H'->g x σ H' fun σ2 H2=>tb { D with nx:=N,ct:=N,bk:=D.nx } σ2 H2):=by
 refine⟨fun i m σ H=>m=xs.length-i/\i<=xs.length/\Pv i σ H,⟨xs.length,by simp,RM _,h0⟩,?_⟩
 rintro i m σ H ⟨rfl,hi,p⟩
 have q:=hl i σ H hi p
 by_cases hlt:i<xs.length
 ·refine .inr ⟨⟨xs,xs[i],q,by simp[hlt]⟩,Pv (i+1),fun σ' H' p'=>⟨xs.length-(i+1),by lia,rfl,hlt,p'⟩,fun x H' y=>?_⟩
  obtain⟨e,y⟩:=y
  subst e
  exact hs i x σ _ (y xs q) p
 ·have e:i=xs.length:=by lia
  subst e
  exact .inl ⟨⟨xs,q,RK _⟩,hd σ H p⟩
theorem MG{K:Rv}{a:Addr}{xs:List V}{g:TG}{tb:TS}{D:CZ}{σ:St}{H:Hp}(Pv:Nat->St->Hp->Prop)(h0:Pv 0 σ H)(hl:∀i σ H,i<=xs.length->Pv i σ H->SqT K H a xs)
 (hs:∀i x σ H,xs[i]? = some x->Pv i σ H->g x σ H fun σ2 H2=>tb { D with nx:=Pv (i+1),ct:=Pv (i+1),bk:=D.nx } σ2 H2) (hd:∀σ H,Pv xs.length σ H->D.nx σ H) :
 ∃ W:Nat->Nat->St->Hp->Prop,(∃m,W 0 m σ H)/\∀i m σ H,W i m σ H ->
   ((Itt K a).stop i H/\D.nx σ H)\/((Itt K a).go i H/\∃N:St->Hp->Prop,(∀σ' H',N σ' H'->∃m',m'<m/\W (i+1) m' σ' H')/\∀x H',(Itt K a).yld i H x H'->g x σ H' fun σ2 H2=>tb { D with nx:=N,ct:=N,bk:=D.nx } σ2 H2):=by
 refine⟨fun i m σ H=>m=xs.length-i/\i<=xs.length/\Pv i σ H,⟨xs.length,by simp,RM _,h0⟩,?_⟩
 rintro i m σ H ⟨rfl,hi,p⟩
 have q:=hl i σ H hi p
 by_cases hlt:i<xs.length
 ·refine .inr ⟨⟨xs,xs[i],q,by simp[hlt]⟩,Pv (i+1),fun σ' H' p'=>⟨xs.length-(i+1),by lia,rfl,hlt,p'⟩,fun x H' y=>?_⟩
  obtain⟨e,y⟩:=y
  subst e
  exact hs i x σ _ (y xs q) p
 ·have e:i=xs.length:=by lia
  subst e
  exact .inl ⟨⟨xs,q,RK _⟩,hd σ H p⟩
theorem Ce{lo:Int}{n:Nat}{g:TG}{tb:TS}{D:CZ}{σ:St}{H:Hp}(Pv:Nat->St->Hp->Prop)(h0:Pv 0 σ H)
 (hs:∀i σ H,i<n->Pv i σ H->g (.int (lo+i)) σ H fun σ2 H2=>tb { D with nx:=Pv (i+1),ct:=Pv (i+1),bk:=D.nx } σ2 H2) (hd:∀σ H,Pv n σ H->D.nx σ H) :
 ∃ W:Nat->Nat->St->Hp->Prop,(∃m,W 0 m σ H)/\∀i m σ H,W i m σ H ->
   ((Itr lo n).stop i H/\D.nx σ H)\/((Itr lo n).go i H/\∃N:St->Hp->Prop,(∀σ' H',N σ' H'->∃m',m'<m/\W (i+1) m' σ' H')/\∀x H',(Itr lo n).yld i H x H'->g x σ H' fun σ2 H2=>tb { D with nx:=N,ct:=N,bk:=D.nx } σ2 H2):=by
 refine⟨fun i m σ H=>m=n-i/\i<=n/\Pv i σ H,⟨n,by simp,RM _,h0⟩,?_⟩
 rintro i m σ H ⟨rfl,hi,p⟩
 by_cases hlt:i<n
 ·refine .inr ⟨hlt,Pv (i+1),fun σ' H' p'=>⟨n-(i+1),by lia,rfl,hlt,p'⟩,fun x H' y=>?_⟩
  obtain⟨e,y⟩:=y
  subst e y
  exact hs i σ _ hlt p
 ·have e:i=n:=by lia
  subst e
  exact .inl ⟨RK _,hd σ H p⟩
theorem HK{c:TT}{tb:TS}{D:CZ}{σ:St}{H:Hp}(Pv:St->Hp->Prop)(μ:St->Hp->Nat)(h0:Pv σ H)
 (hs:∀σ H,Pv σ H->c σ H fun b H1=>if b=true then tb { D with nx:=fun σ' H'=>Pv σ' H'/\μ σ' H'<μ σ H,ct:=fun σ' H'=>Pv σ' H'/\μ σ' H'<μ σ H,bk:=D.nx } σ H1 else D.nx σ H1)
 (mono:∀σ H Q Q',(∀b H1,Q b H1->Q' b H1)->c σ H Q->c σ H Q'):IM c tb D σ H:=by
 refine⟨fun m σ H=>m=μ σ H/\Pv σ H,⟨_,rfl,h0⟩,?_⟩
 rintro m σ H ⟨rfl,p⟩
 refine mono σ H _ _ (fun b H1 q=>?_) (hs σ H p)
 cases b with
 | true=>exact⟨_,fun σ' H' ⟨p',l⟩=>⟨_,l,rfl,p'⟩,q⟩
 | false=>exact q
end L2
namespace L2
open PySem PySem.Spec PyProof.Rows
abbrev R2:=V->V->Hp->VK->Prop
def OpR(X:Cx)(f:Value->Value->Sem Value)(r:R2):Prop :=
 ∀ (pins:List (Addr×Obj)) (s:Shared) (σ:St) (H:Hp) (x y:V) (v u:Value) (Q:VK),Inv X pins σ H s->AZ x v->AZ y u->r x y H Q ->
   wpAny (model X.prog X.w) X.A (f v u) (EP X pins σ Q) X.xe s
def UnR(X:Cx)(f:Value->Sem Value)(r:V->Hp->VK->Prop):Prop :=
 ∀ (pins:List (Addr×Obj)) (s:Shared) (σ:St) (H:Hp) (x:V) (v:Value) (Q:VK),Inv X pins σ H s->AZ x v->r x H Q ->
   wpAny (model X.prog X.w) X.A (f v) (EP X pins σ Q) X.xe s
def CD(X:Cx)(f:Value)(r:List V->Hp->VK->Prop):Prop :=
 ∀ (pins:List (Addr×Obj)) (s:Shared) (σ:St) (H:Hp) (xs:List V) (us:List Value) (Q:VK),Inv X pins σ H s->AJ xs us->r xs H Q ->
   wpAny (model X.prog X.w) X.A (call f us) (EP X pins σ Q) X.xe s
def tOp(r:R2)(ta tb:TE):TE:=fun σ H Q=>ta σ H fun x H1=>tb σ H1 fun y H2=>r x y H2 Q
def tUn(r:V->Hp->VK->Prop)(ta:TE):TE:=fun σ H Q=>ta σ H fun x H1=>r x H1 Q
inductive rI(C:Int->Int->Prop)(g:Int->Int->V)(x:V)(y:V)(H:Hp)(Q:VK):Prop
 | mk (i:_) (j:_) (h1:x = .int i) (h2:y = .int j) (h3:C i j) (h4:Q (g i j) H):rI C g x y H Q
inductive rI0(g:Int->Int->V)(x:V)(y:V)(H:Hp)(Q:VK):Prop
 | mk (i:_) (j:_) (h1:x = .int i) (h2:y = .int j) (h3:Q (g i j) H):rI0 g x y H Q
inductive rU(g:Int->V)(x:V)(H:Hp)(Q:VK):Prop
 | mk (i:_) (h1:x = .int i) (h2:Q (g i) H):rU g x H Q
section
variable {X:Cx}{a b c:Expr}{ta tb tc:TE}{pos:Pos}
theorem O2(ha:PE X a ta)(hb:PE X b tb){pins:List (Addr×Obj)}{s:Shared}{σ:St}{H:Hp}{R:V->V->Hp->Prop}(I:Inv X pins σ H s)
 (h:ta σ H fun x H1=>tb σ H1 fun y H2=>R x y H2) {Q:Value->Shared->Prop} {f:Value->Value->Sem Value}
 (hf:∀v u s2 x y H2,Inv X pins σ H2 s2->AZ x v->AZ y u->R x y H2->wpAny (model X.prog X.w) X.A (f v u) Q X.xe s2) :
 wpAny (model X.prog X.w) X.A (eval a X.env) (fun v s₁=>wpAny (model X.prog X.w) X.A (eval b X.env) (fun u s₂=>wpAny (model X.prog X.w) X.A (f v u) Q X.xe s₂) X.xe s₁) X.xe s:=by
 refine thn (ha pins s σ H _ I h) fun v s1 ⟨x,H1,I1,r1,q1⟩=>?_
 refine thn (hb pins s1 σ H1 _ I1 q1) fun u s2 ⟨y,H2,I2,r2,q2⟩=>?_
 exact hf v u s2 x y H2 I2 r1 r2 q2
theorem Ah{op:Operator}{r:R2}(ho:OpR X (binaryOp op) r)(ha:PE X a ta)(hb:PE X b tb):PE X (.BinOp a op b pos) (tOp r ta tb):=by
 intro pins s σ H Q I h
 exact wpAny_BinOp (O2 ha hb I h fun v u s2 x y H2 I2 rx ry q=>ho pins s2 σ H2 x y v u Q I2 rx ry q)
theorem Ci{op:UnaryOp}{r:V->Hp->VK->Prop}(ho:UnR X (unaryOp op) r)(ha:PE X a ta):PE X (.UnaryOp op a pos) (tUn r ta):=by
 intro pins s σ H Q I h
 exact UnaryOp_ (thn (ha pins s σ H _ I h) fun v s1 ⟨x,H1,I1,r1,q1⟩=>ho pins s1 σ H1 x v Q I1 r1 q1)
theorem opI{f:Value->Value->Sem Value}{C:Int->Int->Prop}{g:Int->Int->Int}
 (rule:∀(i j:Int) (t u:Tok) (s:Shared) (Q:Value->Shared->Prop) (E:Value->Shared->Prop),C i j->Q (.int (g i j) s.toks) { s with toks:=s.toks+1 }->wpAny (model X.prog X.w) X.A (f (.int i t) (.int j u)) Q E s) :
 OpR X f (rI C fun i j=>.int (g i j)):=by
 intro pins s σ H x y v u Q I rx ry h
 obtain⟨i,j,rfl,rfl,hc,q⟩:=h
 obtain⟨t,rfl⟩:=rx
 obtain⟨t',rfl⟩:=ry
 exact rule i j t t' s _ _ hc ⟨.int (g i j),H,I.tok _,⟨_,rfl⟩,q⟩
theorem OB{f:Value->Value->Sem Value}{g:Int->Int->Int}
 (rule:∀(i j:Int) (t u:Tok) (s:Shared) (Q:Value->Shared->Prop) (E:Value->Shared->Prop),Q (.int (g i j) s.toks) { s with toks:=s.toks+1 }->wpAny (model X.prog X.w) X.A (f (.int i t) (.int j u)) Q E s) :
 OpR X f (rI0 fun i j=>.int (g i j)):=by
 intro pins s σ H x y v u Q I rx ry h
 obtain⟨i,j,rfl,rfl,q⟩:=h
 obtain⟨t,rfl⟩:=rx
 obtain⟨t',rfl⟩:=ry
 exact rule i j t t' s _ _ ⟨.int (g i j),H,I.tok _,⟨_,rfl⟩,q⟩
theorem Nt{f:Value->Value->Sem Value}{g:Int->Int->Bool}
 (rule:∀(i j:Int) (t u:Tok) (s:Shared) (Q:Value->Shared->Prop) (E:Value->Shared->Prop),Q (.bool (g i j)) s->wpAny (model X.prog X.w) X.A (f (.int i t) (.int j u)) Q E s) :
 OpR X f (rI0 fun i j=>.bl (g i j)):=by
 intro pins s σ H x y v u Q I rx ry h
 obtain⟨i,j,rfl,rfl,q⟩:=h
 obtain⟨t,rfl⟩:=rx
 obtain⟨t',rfl⟩:=ry
 exact rule i j t t' s _ _ ⟨.bl (g i j),H,I,rfl,q⟩
def O8(i j:Int):Prop:=0<=j/\j<=1000000/\i.natAbs<2 ^ 64
theorem AR:OpR X (binaryOp .Add) (rI0 fun i j=>.int (i+j)):=OB fun _ _ _ _ _ _ _ q=>add_int q
theorem Ba:OpR X (binaryOp .Sub) (rI0 fun i j=>.int (i-j)):=OB fun _ _ _ _ _ _ _ q=>sub_int q
theorem Cg:OpR X (binaryOp .Mod) (rI (fun _ j=>0<j) fun i j=>.int (i % j)):=opI fun i j _ _ _ _ _ hc q=>by
 have h1:(0:Int)<j:=hc
 exact mod_int' (by lia) (by rw[Int.fmod_eq_emod_of_nonneg i (by lia)];exact q)
theorem J2:OpR X (binaryOp .Pow) (rI O8 fun i j=>.int (i ^ j.toNat)):=opI fun _ _ _ _ _ _ _ hc q=>pow_int_small hc.1 hc.2.1 hc.2.2 q
theorem unI{f:Value->Sem Value}{g:Int->Int}
 (rule:∀(i:Int) (t:Tok) (s:Shared) (Q:Value->Shared->Prop) (E:Value->Shared->Prop),Q (.int (g i) s.toks) { s with toks:=s.toks+1 }->wpAny (model X.prog X.w) X.A (f (.int i t)) Q E s) :
 UnR X f (rU fun i=>.int (g i)):=by
 intro pins s σ H x v Q I rx h
 obtain⟨i,rfl,q⟩:=h
 obtain⟨t,rfl⟩:=rx
 exact rule i t s _ _ ⟨.int (g i),H,I.tok _,⟨_,rfl⟩,q⟩
theorem BS:UnR X (unaryOp .USub) (rU fun i=>.int (-i)):=unI fun _ _ _ _ _ q=>neg_int q
end
def Ol:V->V->Bool
 | .non,.non=>true | .non,.int _=>true | .int _,.non=>true | .non,.bl _=>true | .bl _,.non=>true | .non,.str _=>true | .str _,.non=>true
 | .int _,.int _=>true | .bl _,.bl _=>true | .str _,.str _=>true | .byt _,.byt _=>true
 | .int _,.str _=>true | .str _,.int _=>true | .bl _,.str _=>true | .str _,.bl _=>true
 | _,_=>false
def rEq:R2:=fun x y H Q=>Ol x y=true/\Q (.bl (decide (x=y))) H
def rNe:R2:=fun x y H Q=>Ol x y=true/\Q (.bl (!decide (x=y))) H
theorem JL{i j:Int}:decide (V.int i=V.int j)=(i == j):=by
 rw[Bool.eq_iff_iff]
 simp
theorem LP{i j:Bool}:decide (V.bl i=V.bl j)=(i == j):=by
 rw[Bool.eq_iff_iff]
 simp
theorem JK{i j:Str}:decide (V.str i=V.str j)=(i == j):=by
 rw[Bool.eq_iff_iff]
 simp
theorem JM{i j:Array UInt8}:decide (V.byt i=V.byt j)=(i.toList == j.toList):=by
 rw[Bool.eq_iff_iff]
 cases i
 cases j
 simp
section
variable {X:Cx}{a b c:Expr}{ta tb tc:TE}{pos:Pos}
theorem AX{pins:List (Addr×Obj)}{σ:St}{H:Hp}{s:Shared}{Q:VK}{k k':Bool}(I:Inv X pins σ H s)(q:Q (.bl k) H)(e:k=k'):EP X pins σ Q (.bool k') s:=by
 subst e
 exact⟨.bl k,H,I,rfl,q⟩
theorem Dl:OpR X (compareOp .Eq) rEq:=by
 intro pins s σ H x y v u Q I rx ry h
 obtain⟨hs,q⟩:=h
 cases x with
 | non =>
   cases rx
   cases y with
   | non=>cases ry;exact PySem.EqNone.eq_none_none (AX I q (by simp))
   | bl j=>cases ry;exact PySem.EqNone.eq_none_bool (AX I q (by simp))
   | int j=>obtain⟨t',rfl⟩:=ry;exact PySem.EqNone.eq_none_int (AX I q (by simp))
   | str j=>obtain⟨t',rfl⟩:=ry;exact PySem.EqNone.eq_none_str (AX I q (by simp))
   | _=>exact absurd (show false=true from hs) Bool.false_ne_true
 | bl i =>
   cases rx
   cases y with
   | non=>cases ry;exact PySem.EqNone.eq_bool_none (AX I q (by simp))
   | bl j=>cases ry;exact eq_bool (AX I q LP)
   | str j=>obtain⟨t',rfl⟩:=ry;exact PySem.EqMixed.eq_bool_str (AX I q (by simp))
   | _=>exact absurd (show false=true from hs) Bool.false_ne_true
 | int i =>
   obtain⟨t,rfl⟩:=rx
   cases y with
   | non=>cases ry;exact PySem.EqNone.eq_int_none (AX I q (by simp))
   | int j=>obtain⟨t',rfl⟩:=ry;exact eq_int (AX I q JL)
   | str j=>obtain⟨t',rfl⟩:=ry;exact PySem.EqMixed.eq_int_str (AX I q (by simp))
   | _=>exact absurd (show false=true from hs) Bool.false_ne_true
 | str i =>
   obtain⟨t,rfl⟩:=rx
   cases y with
   | non=>cases ry;exact PySem.EqNone.eq_str_none (AX I q (by simp))
   | bl j=>cases ry;exact PySem.EqMixed.eq_str_bool (AX I q (by simp))
   | int j=>obtain⟨t',rfl⟩:=ry;exact PySem.EqMixed.eq_str_int (AX I q (by simp))
   | str j=>obtain⟨t',rfl⟩:=ry;exact eq_str (AX I q JK)
   | _=>exact absurd (show false=true from hs) Bool.false_ne_true
 | byt i =>
   obtain⟨t,rfl⟩:=rx
   cases y with
   | byt j=>obtain⟨t',rfl⟩:=ry;exact PySem.W.eq_bytes (AX I q JM)
   | _=>exact absurd (show false=true from hs) Bool.false_ne_true
 | _=>cases y<;>exact absurd (show false=true from hs) Bool.false_ne_true
theorem EO:OpR X (compareOp .NotEq) rNe:=by
 intro pins s σ H x y v u Q I rx ry h
 obtain⟨hs,q⟩:=h
 cases x with
 | non =>
   cases rx
   cases y with
   | non=>cases ry;exact PySem.EqNone.ne_none_none (AX I q (by simp))
   | bl j=>cases ry;exact PySem.EqNone.ne_none_bool (AX I q (by simp))
   | int j=>obtain⟨t',rfl⟩:=ry;exact PySem.EqNone.ne_none_int (AX I q (by simp))
   | str j=>obtain⟨t',rfl⟩:=ry;exact PySem.EqNone.ne_none_str (AX I q (by simp))
   | _=>exact absurd (show false=true from hs) Bool.false_ne_true
 | bl i =>
   cases rx
   cases y with
   | non=>cases ry;exact PySem.EqNone.ne_bool_none (AX I q (by simp))
   | bl j=>cases ry;exact ne_bool (AX I q (congrArg not LP))
   | str j=>obtain⟨t',rfl⟩:=ry;exact PySem.EqMixed.ne_bool_str (AX I q (by simp))
   | _=>exact absurd (show false=true from hs) Bool.false_ne_true
 | int i =>
   obtain⟨t,rfl⟩:=rx
   cases y with
   | non=>cases ry;exact PySem.EqNone.ne_int_none (AX I q (by simp))
   | int j=>obtain⟨t',rfl⟩:=ry;exact ne_int (AX I q (congrArg not JL))
   | str j=>obtain⟨t',rfl⟩:=ry;exact PySem.EqMixed.ne_int_str (AX I q (by simp))
   | _=>exact absurd (show false=true from hs) Bool.false_ne_true
 | str i =>
   obtain⟨t,rfl⟩:=rx
   cases y with
   | non=>cases ry;exact PySem.EqNone.ne_str_none (AX I q (by simp))
   | bl j=>cases ry;exact PySem.EqMixed.ne_str_bool (AX I q (by simp))
   | int j=>obtain⟨t',rfl⟩:=ry;exact PySem.EqMixed.ne_str_int (AX I q (by simp))
   | str j=>obtain⟨t',rfl⟩:=ry;exact ne_str (AX I q (congrArg not JK))
   | _=>exact absurd (show false=true from hs) Bool.false_ne_true
 | byt i =>
   obtain⟨t,rfl⟩:=rx
   cases y with
   | byt j=>obtain⟨t',rfl⟩:=ry;exact PySem.W.ne_bytes (AX I q (congrArg not JM))
   | _=>exact absurd (show false=true from hs) Bool.false_ne_true
 | _=>cases y<;>exact absurd (show false=true from hs) Bool.false_ne_true
theorem E7:OpR X (compareOp .Lt) (rI0 fun i j=>.bl (decide (i<j))):=Nt fun _ _ _ _ _ _ _ q=>lt_int q
theorem CU:OpR X (compareOp .Gt) (rI0 fun i j=>.bl (decide (j<i))):=Nt fun _ _ _ _ _ _ _ q=>gt_int q
theorem OA:OpR X (compareOp .GtE) (rI0 fun i j=>.bl (decide (j<=i))):=Nt fun _ _ _ _ _ _ _ q=>ge_int q
theorem As(b:Expr){op:CmpOp}(h:op ≠ .In:=by decide)(h2:op ≠ .NotIn:=by decide):behindInMarks op b=false:=by
 have e1:(op == CmpOp.In)=false:=by cases op<;>first | rfl | exact absurd rfl h
 have e2:(op == CmpOp.NotIn)=false:=by cases op<;>first | rfl | exact absurd rfl h2
 cases b<;>simp[behindInMarks,e1,e2]
theorem Df{op:CmpOp}{r:R2}(ho:OpR X (compareOp op) r)(ha:PE X a ta)(hb:PE X b tb)(hm:behindInMarks op b=false):PE X (.Compare a [op] [b] pos) (tOp r ta tb):=by
 intro pins s σ H Q I h
 exact wpAny_Compare1 (O2 ha hb I h fun v u s2 x y H2 I2 rx ry q=>ho pins s2 σ H2 x y v u Q I2 rx ry q) hm
def Oa(t:TE):TT:=fun σ H Q=>t σ H fun x H'=>∃k,x = .bl k/\Q k H'
theorem Ap{op:CmpOp}{r:R2}(ho:OpR X (compareOp op) r)(ha:PE X a ta)(hb:PE X b tb)(hm:behindInMarks op b=false):PT X (.Compare a [op] [b] pos) (Oa (tOp r ta tb)):=by
 intro pins s σ H Q I h
 refine wpAny_isTrue_Compare1 (thn (ha pins s σ H _ I h) fun v s1 ⟨x,H1,I1,r1,q1⟩=>thn (hb pins s1 σ H1 _ I1 q1) fun u s2 ⟨y,H2,I2,r2,q2⟩ =>
  thn (ho pins s2 σ H2 x y v u _ I2 r1 r2 q2) fun c s3 ⟨z,H3,I3,r3,k,e,q3⟩=>?_) hm
 subst e
 cases r3
 exact wpAny_truthy_bool ⟨H3,I3,q3⟩
theorem Ho:(sizeLine:Nat)<2 ^ 63:=by rw[sizeLine_eq];decide
theorem Fg{x:V}{us:List Value}(r:AJ [x] us):∃u,us=[u]/\AZ x u:=by
 cases r with
 | cons r1 r2=>cases r2;exact⟨_,rfl,r1⟩
theorem O9{x y:V}{us:List Value}(r:AJ [x,y] us):∃u w',us=[u,w']/\AZ x u/\AZ y w':=by
 cases r with
 | cons r1 r2 =>
   cases r2 with
   | cons r3 r4=>cases r4;exact⟨_,_,rfl,r1,r3⟩
theorem Ej:CD X (.builtin "abs") (fun xs H Q=>∃i,xs=[.int i]/\Q (.int (if i<0 then -i else i)) H):=by
 intro pins s σ H xs us Q I r h
 obtain⟨i,rfl,q⟩:=h
 obtain⟨u,rfl,t,rfl⟩:=Fg r
 exact call_abs_int fun u tk=>⟨.int (if i<0 then -i else i),H,I.tok _,⟨_,rfl⟩,q⟩
end
end L2
namespace L2
open PySem PySem.Spec PyProof.Rows
structure O7(h:Heap)(x dx C:Addr)(mA:Str->Option Value):Prop where
 obj:h.get? x=some (Rm C dx)
 ns:h.Ns1 dx mA
 ne:dx≠x
theorem Kb{h:Heap}{dx:Addr}{mA:Str->Option Value}(n:h.Ns1 dx mA):∃od,h.get? dx=some od/\∀name,RN name od=some (mA name):=by
 obtain⟨o,es,ep,ho,hd,hk,_,hm⟩:=n
 refine⟨o,ho,fun name=>?_⟩
 have e:=hm name
 unfold nsFind findBy at e
 rw[<- Array.find?_toList]at e
 unfold RN
 rw[hd]
 dsimp only
 split
 ·rename_i y q
  rw[q]at e
  exact congrArg some e
 ·rename_i q
  rw[q]at e
  have a:es.toList.any (·.refKey)=false:=by
   rw[List.any_eq_false]
   intro y hy
   obtain⟨z,t,hkey⟩:=hk y (Array.mem_toList_iff.mp hy)
   simp[DictEntry.refKey,hkey]
  have a':¬es.toList.any (·.refKey)=true:=by rw[a];exact Bool.false_ne_true
  rw[if_neg a']
  exact congrArg some e
theorem O7.look{h:Heap}{x dx C:Addr}{mA:Str->Option Value}(I:O7 h x dx C mA):∃od,PySem.W.InstAt h x (Rm C dx) C (some od)/\∀name,RN name od=some (mA name) :=
 let ⟨od,ho,hl⟩:=Kb I.ns
 ⟨od,⟨I.obj,rfl,rfl,ho⟩,hl⟩
section
variable {prog:Program}{w:World}{A:Around}{E:Value->Shared->Prop}{s:Shared}{K:Rv}{x dx C f:Addr}{mA:Str->Option Value}{name:Str}{v:Value}
end
section
variable {P:Program}{w:World}{H H':Hp}{h h':Heap}{a C dx:Addr}{fs fs':List (Str×V)}
theorem MD(hok:HOk P w H h)(e:H a=some (.ins C dx fs)):∃mA,O7 h a dx C mA/\(∀f,O6 (fs.lookup f) (mA f))/\PySem.Within mA (fs.map (·.1))/\fs.length<=1000/\H dx=some (.own a):=by
 obtain⟨d,z,ne,ob,mA,n,r,q⟩:=(show BP P w H h a (.ins C dx fs) from hok a _ e)
 exact⟨mA,⟨ob,n,ne⟩,r,q,z,d⟩
end
structure Cls(K:Rv)(C:Addr):Prop where
 pg:PySem.W.plainGet K C Str.empty=true
 hd:PySem.W.hasDictIn K C=true
 po:PySem.W.plainOver K C=true
 sa:RO K (.ref C) "__setattr__" = some (some (.builtin "object.__setattr__"))
theorem Cls.get{K:Rv}{C:Addr}(c:Cls K C)(f:Str):PySem.W.plainGet K C f=true:=c.pg
structure Con(K:Rv)(C:Addr)(f:Str)(v:V)(u:Value):Prop where
 at_:RO K (.ref C) f=some (some u)
 rel:AZ v u
 get:PySem.W.specialIn K u "__get__" = some none
 cp:PySem.W.copiedNames.contains f=false
structure Meth(K:Rv)(C:Addr)(m:Str)(f:Addr):Prop where
 at_:RO K (.ref C) m=some (some (.ref f))
 fn:PySem.W.isFn K (.ref f)=true
 kp:RP K (.ref f)=true
section
variable {X:Cx}{pins:List (Addr×Obj)}{σ:St}{H:Hp}{s:Shared}{a C dx:Addr}{fs:List (Str×V)}{f:Str}{v:V}{A:Around}{E:Value->Shared->Prop}
end
section
variable {X:Cx}{o e value:Expr}{f:Str}{pos pos' tpos:Pos}{ta tv:TE}
end
section
variable {X:Cx}{pins:List (Addr×Obj)}{σ:St}{H:Hp}{s:Shared}{A:Around}{E:Value->Shared->Prop}{Q:Value->Shared->Prop}{c:Value}{b:Bool}
inductive EH(K:Rv)(H:Hp):V->Value->Prop where
 | non:EH K H .non (.type "NoneType")
 | bl (x:Bool):EH K H (.bl x) (.type "bool")
 | int (i:Int):EH K H (.int i) (.type "int")
 | str (x:Str):EH K H (.str x) (.type "str")
 | flt (x:UInt64):EH K H (.flt x) (.type "float")
 | lst {a:Addr} {xs:List V} (e:H a=some (.lst xs)):EH K H (.ref a) (.type "list")
 | frz {a:Addr} {o:Obj} {xs:List V} (e:H a=some (.frz o (.lst xs))):EH K H (.ref a) (.type "list")
 | tup {a:Addr} {xs:List V} (e:H a=some (.tup xs)):EH K H (.ref a) (.type "tuple")
 | dK {a:Addr} {kvs:List (Key×V)} (e:H a=some (.dK kvs)):EH K H (.ref a) (.type "dict")
 | dT {a:Addr} {kvs:List (List Key×V)} (e:H a=some (.dT kvs)):EH K H (.ref a) (.type "dict")
 | ins {a C dx:Addr} {fs:List (Str×V)} (e:H a=some (.ins C dx fs)) (cl:Cls K C) (ha:RO K (.ref C) "__class__" = some (some (.builtin "object.__class__")))
  (hn:PySem.W.specialIn K (.builtin "object.__class__") "__get__" = some (some (.builtin "getset_descriptor.__get__"))) (htk:PySem.W.takesIn K (.builtin "object.__class__")=some true)
  (hm:PySem.W.mroIn K C (.type "object")=some true):EH K H (.ref a) (.ref C)
theorem Ki{x:V}{u t:Value}(I:Inv X pins σ H s)(rx:AZ x u)(ty:EH X.K H x t)(e:RQ X.K t c=some b)(h:∀tk,Q (.bool b) { s with toks:=tk }) :
 wpAny (model X.prog X.w) A (call (.builtin "isinstance") [u,c]) Q E s:=by
 cases ty with
 | non=>cases (show u=Value.none from rx);exact RS PySem.W.kitx_none I.kIn True.intro e (fun z=>nomatch z) h
 | bl y=>cases (show u=Value.bool y from rx);exact RS PySem.W.kitx_bool I.kIn True.intro e (fun z=>nomatch z) h
 | int i=>obtain⟨t,q⟩:=(show ∃t,u=Value.int i t from rx);cases q;exact RS PySem.W.kitx_int I.kIn True.intro e (fun z=>nomatch z) h
 | str y=>obtain⟨t,q⟩:=(show ∃t,u=Value.str y t from rx);cases q;exact RS PySem.W.kitx_str I.kIn True.intro e (fun z=>nomatch z) h
 | flt y=>obtain⟨t,q⟩:=(show ∃t,u=Value.float y t from rx);cases q;exact RS PySem.W.kitx_float I.kIn True.intro e (fun z=>nomatch z) h
 | @lst a xs ea =>
   cases (show u=Value.ref a from rx)
   obtain⟨_,_,n,_,h1⟩:=(show BP X.prog X.w H s.heap a (.lst xs) from I.hok a _ ea)
   exact RS RT I.kIn ⟨_,h1,rfl⟩ e (fun z=>nomatch z) h
 | @frz a ob xs ea =>
   cases (show u=Value.ref a from rx)
   obtain⟨_,_,_,n,_,h1⟩:=(show BP X.prog X.w H s.heap a (.frz ob (.lst xs)) from I.hok a _ ea)
   exact RS RT I.kIn ⟨_,h1,rfl⟩ e (fun z=>nomatch z) h
 | @tup a xs ea =>
   cases (show u=Value.ref a from rx)
   obtain⟨_,_,_,p⟩:=(show BP X.prog X.w H s.heap a (.tup xs) from I.hok a _ ea)
   obtain⟨o,h1,h2,_⟩:=p
   exact RS PySem.W.kitx_tuple I.kIn ⟨o,h1,h2⟩ e (fun z=>nomatch z) h
 | @dK a kvs ea =>
   cases (show u=Value.ref a from rx)
   obtain⟨_,_,vs,_,p⟩:=(show BP X.prog X.w H s.heap a (.dK kvs) from I.hok a _ ea)
   obtain⟨o,es,ep,h1,h2,_⟩:=p
   exact RS PySem.W.kitx_dict I.kIn ⟨o,h1,h2.1⟩ e (fun z=>nomatch z) h
 | @dT a kvs ea =>
   cases (show u=Value.ref a from rx)
   obtain⟨_,_,xs,_,o,es,ep,h1,h2,_⟩:=(show BP X.prog X.w H s.heap a (.dT kvs) from I.hok a _ ea)
   exact RS PySem.W.kitx_dict I.kIn ⟨o,h1,h2.1⟩ e (fun z=>nomatch z) h
 | @ins a C dx fs ea cl ha hn htk hm =>
   cases (show u=Value.ref a from rx)
   obtain⟨mA,O,_⟩:=MD I.hok ea
   obtain⟨od,J,_⟩:=O.look
   exact RS (PySem.W.kitx_own (cl.get _) cl.hd ha hn htk hm) I.kIn J e (fun z=>nomatch z) h
end
end L2
namespace L2
open PySem PySem.Spec PyProof.Rows
structure Ca(k:Nat)(A:Around):Prop where
 hd:A.handled=none
 dp:A.depth+3*k+5<recursionLimit
 un:A.units+16*k+200<cLine
theorem Ca.mono{j k:Nat}{A:Around}(r:Ca k A)(h:j<=k):Ca j A:=⟨r.hd,by have:=r.dp;lia,by have:=r.un;lia⟩
theorem Ca.deeper{k:Nat}{A:Around}(r:Ca (k+1) A)(env:Env):Ca k (A.deeper env) :=
 ⟨r.hd,by have:=r.dp;show A.depth+1+3*k+5<_;lia,by have:=r.un;show A.units+3+16*k+200<_;lia⟩
theorem Ca.in1{k:Nat}{A:Around}(r:Ca (k+1) A):Ca k A.in1 :=
 ⟨r.hd,by have:=r.dp;show A.depth+3*k+5<_;lia,by have:=r.un;show A.units+1+16*k+200<_;lia⟩
theorem Ca.depth{k:Nat}{A:Around}(r:Ca k A):A.depth<recursionLimit:=by have:=r.dp;lia
theorem Ca.units{k:Nat}{A:Around}(r:Ca k A):A.units+64<cLine:=by have:=r.un;lia
def Oe:TA:=fun _ H Q=>Q [] H
def MO(ta:TE)(tr:TA):TA:=fun σ H Q=>ta σ H fun x H1=>tr σ H1 fun xs H2=>Q (x::xs) H2
section
variable {X:Cx}{e:Expr}{es:List Expr}{te:TE}{t:TA}{pos:Pos}
theorem Ab:PA X [] Oe:=fun _ _ _ _ H Q I h=>Calls.spliced_nil ⟨[],H,I,.nil,h⟩
theorem A0(ha:PE X e te)(hr:PA X es t)(hs:starEach (e::es) X.env=(false,eval e X.env)::starEach es X.env:=by rfl):PA X (e::es) (MO te t):=by
 intro pos pins s σ H Q I h
 rw[hs]
 show wpAny _ _ (spliced ((false,eval e X.env)::backTo pos (starEach es X.env))) _ _ s
 refine Calls.spliced_cons (thn (ha pins s σ H _ I h) fun u s1 ⟨x,H1,I1,r1,q1⟩=>?_)
 exact thn (hr pos pins s1 σ H1 _ I1 q1) fun us s2 ⟨xs,H2,I2,r2,q2⟩=>⟨x::xs,H2,I2,.cons r1 r2,q2⟩
def OX(t:TA):TE:=fun σ H Q=>t σ H fun xs H1=>xs.length<=sizeLine/\∀p,H1 p=none->Q (.ref p) (upd H1 p (.tup xs))
def P6(t:TA):TE:=fun σ H Q=>t σ H fun xs H1=>xs.length<=sizeLine/\∀p,H1 p=none->Q (.ref p) (upd H1 p (.lst xs))
theorem AG{x1}(h:PA X es t):PE X (.Tuple es x1 pos) (OX t):=by
 intro pins s σ H Q I hq
 refine wpAny_Tuple_spliced (thn (h pos pins s σ H _ I hq) fun us s1 ⟨xs,H1,I1,r,z,q⟩=>⟨by rw[<- r.length];exact z,?_⟩)
 have hf:H1 s1.heap.objs.size=none:=I1.hok.fresh (RK _)
 refine⟨.ref s1.heap.objs.size,upd H1 s1.heap.objs.size (.tup xs),I1.laid (t':=s1.toks) (fun b u e=>Heap.get?_push_of_some _ e) (RK _) ?_,rfl,q _ hf⟩
 exact⟨z,us,r,⟨_,Heap.get?_push_size _ rfl,rfl,_,rfl⟩⟩
theorem Bj(h:PA X es t):PE X (.List es pos) (P6 t):=by
 intro pins s σ H Q I hq
 refine wpAny_List_spliced (thn (h pos pins s σ H _ I hq) fun us s1 ⟨xs,H1,I1,r,z,q⟩=>⟨by rw[<- r.length];exact z,?_⟩)
 have hf:H1 s1.heap.objs.size=none:=I1.hok.fresh (RK _)
 refine⟨.ref s1.heap.objs.size,upd H1 s1.heap.objs.size (.lst xs),I1.laid (t':=s1.toks) (fun b u e=>Heap.get?_push_of_some _ e) (RK _) ?_,rfl,q _ hf⟩
 exact⟨z,us,0,r,Heap.get?_push_size _ rfl⟩
end
abbrev Sp:=List V->Hp->VK->XK->Prop
abbrev CXT:=List Env->Hp->Shared->XK->Value->Shared->Prop
structure Kw(P:Program)(w:World)(K:Rv)(mg:Str->Option Value)(base:Heap)(A:Around)(outer:List Env)(s:Shared)(H:Hp):Prop where
 frames:A.frames=some outer
 mod:Mod K mg base
 bs:∀b o,base.get? b=some o->s.heap.get? b=some o/\H b=none
 bsz:base.objs.size<=s.heap.objs.size
 funs:s.heap.FunFrames base outer
 frf:∀b∈frs outer,H b=none
 hok:HOk P w H s.heap
 bare:AllBare s.gens
def CE(outer:List Env)(P:Program)(w:World)(H:Hp)(s:Shared)(Q:VK)(u:Value)(s':Shared):Prop :=
 ∃v H',s'.os=s.os/\AllBare s'.gens/\Un (frs outer) [] H H' s.heap s'.heap/\HOk P w H' s'.heap/\AZ v u/\Q v H'
def CR(CX:CXT)(outer:List Env)(P:Program)(w:World)(H:Hp)(s:Shared)(Q:VK)(E:XK)(r:Result)(s':Shared):Prop :=
 match r with
 | .ok (.ret u)=>CE outer P w H s Q u s'
 | .ok _=>False
 | .error e=>CX outer H s E e s'
structure AO(P:Program)(w:World)(K:Rv)(mg:Str->Option Value)(base:Heap)(CX:CXT)(k:Nat)(f:Addr)(fd:FuncData)(ps:List Str)(sp:Sp):Prop where
 len:∀vs H Q E,sp vs H Q E->vs.length=ps.length
 run:∀(A:Around) (outer:List Env) (s:Shared) (H:Hp) (args:Args) (us:List Value) (vs:List V) (Q:VK) (E:XK),Ca k A->Kw P w K mg base A outer s H->BindsTo s fd args (ps.zip us)->AJ vs us->sp vs H Q E ->
  codeAny (model P w) A (.call (.ref f) args) (CR CX outer P w H s Q E) s
section
variable {X:Cx}{pins:List (Addr×Obj)}{σ:St}{H:Hp}{s s':Shared}
theorem Inv.env0(I:Inv X pins σ H s):Kw X.prog X.w X.K X.mg X.base X.A X.stack s H :=
 ⟨I.ok.frames,I.ok.mod,I.bs,Rw I.ok.bsz I.sz,I.stack,I.stkFree,I.hok,I.bare⟩
theorem Inv.after{Q:VK}{u:Value}(I:Inv X pins σ H s)(h:CE X.stack X.prog X.w H s Q u s'):EP X pins σ Q u s':=by
 obtain⟨v,H',os,bare,un,hok,r,q⟩:=h
 obtain⟨hh,g,d,t,os'⟩:=s'
 obtain rfl:os'=s.os:=os
 exact⟨v,H',I.call (h':=hh) (g':=g) (d':=d) (t':=t) (ch:=[]) un hok bare (fun b z=>absurd z (by simp)),r,q⟩
end
def MP(sp:Sp)(dvs:List V)(E:XK)(t:TA):TE:=fun σ H Q=>t σ H fun vs H1=>sp (vs++dvs) H1 Q E
def Cc(K:Rv)(fd:FuncData)(ps:List Str)(ds:List Value):Prop :=
 ∀(s:Shared) (us:List Value),K.In s.heap->(us++ds).length=ps.length->BindsTo s fd ⟨us,[]⟩ (ps.zip (us++ds))
theorem Cc.all{K:Rv}{fd:FuncData}{ps:List Str}(h:∀us:List Value,us.length=ps.length->bindArgs fd ⟨us,[]⟩=pure (ps.zip us)):Cc K fd ps []:=fun s us _ hl=>by
 rw[RU]at hl ⊢
 exact .of_eq (h us hl)
def Jh(CX:CXT)(X:Cx)(E:XK):Prop:=∀(pins:List (Addr×Obj)) (σ:St) (H:Hp) (s:Shared) (e:Value) (s':Shared),Inv X pins σ H s->CX X.stack H s E e s'->X.xe e s'
section
variable {X:Cx}{CX:CXT}{k:Nat}{f C:Addr}{fd:FuncData}{ps:List Str}{sp:Sp}{dvs:List V}{ds:List Value}{E:XK}{x m:Str}{p pos apos:Pos}{e o:Expr}{es:List Expr}{ta:TE}{t:TA}
theorem N5{pins:List (Addr×Obj)}{σ:St}{H:Hp}{s:Shared}{Q:VK}{us:List Value}{vs:List V}(F:AO X.prog X.w X.K X.mg X.base CX k f fd ps sp)(hr:Ca k X.A)(hb:Cc X.K fd ps ds)(hd:AJ dvs ds)(hx:Jh CX X E)
 (I:Inv X pins σ H s) (r:AJ vs us) (h:sp (vs++dvs) H Q E):wpAny (model X.prog X.w) X.A (call (.ref f) us) (EP X pins σ Q) X.xe s:=by
 have r2:AJ (vs++dvs) (us++ds):=r.append hd
 have hl:(us++ds).length=ps.length:=by rw[<- r2.length];exact F.len _ _ _ _ h
 refine wpAny_call (codeAny_mono (F.run X.A X.stack s H ⟨us,[]⟩ (us++ds) (vs++dvs) Q E hr I.env0 (hb s us I.kIn hl) r2 h) fun r s' hq=>?_)
 cases r with
 | error e=>exact hx pins σ H s e s' I hq
 | ok fl =>
   cases fl with
   | ret u=>exact I.after hq
   | next=>exact False.elim hq
   | brk=>exact False.elim hq
   | cont=>exact False.elim hq
theorem Mn(F:AO X.prog X.w X.K X.mg X.base CX k f fd ps sp)(hr:Ca k X.A)(hg:Gl X x)(hm:X.mg x=some (.ref f))(hk:RP X.K (.ref f)=true)(hb:Cc X.K fd ps ds)(hd:AJ dvs ds)(hx:Jh CX X E)
 (ha:PA X (e::es) t) (hdb:(x == ("__debug__" : Str))=false:=by decide) (he:starEach (e::es) X.env=(false,eval e X.env)::starEach es X.env:=by rfl) (hpl:(backTo pos (starEach es X.env)).any (·.1)=false:=by rfl) :
 PE X (.Call (.Name x p) (e::es) [] pos) (MP sp dvs E t):=by
 intro pins s σ H Q I h
 refine wpAny_Call_Name_kw (JA I hg hm ?_ hdb)
 refine PySem.W.callWith_K (h₀:=X.base) I.ok.mod.kin hk (thn (ha pos pins s σ H _ I h) fun us s1 ⟨vs,H1,I1,r,q⟩=>⟨I1.kIn,?_⟩) he hpl
 exact N5 F hr hb hd hx I1 r q
structure Mk(K:Rv)(C f:Addr):Prop where
 makes:PySem.W.makesIn K C=true
 init:RO K (.ref C) "__init__" = some (some (.ref f))
 fn:PySem.W.isFn K (.ref f)=true
 kp:RP K (.ref C)=true
end
section
variable {X:Cx}{CX:CXT}{k:Nat}{f C:Addr}{fd:FuncData}{ps ks:List Str}{sp:Sp}{E:XK}{x m:Str}{p pos apos kpos:Pos}{e o:Expr}{es:List Expr}{kws:List Keyword}{te ta:TE}{t tk:TA}{nm:Option Str}
structure Pl(K:Rv)(fd:FuncData)(ps ks:List Str)(g:List Value->List Value->List Value)(gV:List V->List V->List V):Prop where
 to:∀(s:Shared) (us ws:List Value),K.In s.heap->(g us ws).length=ps.length->BindsTo s fd ⟨us,ks.zip ws⟩ (ps.zip (g us ws))
 rel:∀{vs:List V} {us:List Value} {zs:List V} {ws:List Value},AJ vs us->AJ zs ws->AJ (gV vs zs) (g us ws)
variable {g:List Value->List Value->List Value}{gV:List V->List V->List V}
end
structure Aq(N P:List Str)(sc:Scope):Prop where
 kind:sc.kind = .function
 co:sc.isCoroutine=false
 gen:sc.isGenerator=false
 nd:N.Nodup
 pre:N.take P.length=P
 par:∀x∈P,sc.names.lookup x=some .local\/sc.names.lookup x=some .cell
 nofree:∀y∈sc.names,y.2 ≠ .free
theorem GF{kindOf:Str->Option NameKind}{x:Str}:∀{binds:List (Str×Value)} {m:Str->Option Value},(∀v,(x,v)∉binds)->bindL kindOf binds m x=m x
 | [],_,_=>rfl
 | (n,v)::r,m,h=>by
   unfold bindL
   rw[GF fun w hw=>h w (RA _ hw)]
   split
   ·have:x≠n:=by rintro rfl;exact h v Rz
    simp[this]
   ·rfl
theorem GI{kindOf:Str->Option NameKind}{x:Str}:∀{binds:List (Str×Value)} {m:Str->Option Value},(∀v,(x,v)∉binds)->bindC kindOf binds m x=m x
 | [],_,_=>rfl
 | (n,v)::r,m,h=>by
   unfold bindC
   rw[GI fun w hw=>h w (RA _ hw)]
   split
   ·rfl
   ·have:x≠n:=by rintro rfl;exact h v Rz
    simp[this]
theorem GH{kindOf:Str->Option NameKind}{x:Str}{v:Value}:∀{P:List Str} {vs:List Value} {i:Nat} {m:Str->Option Value},P.Nodup->P[i]? = some x->vs[i]? = some v->kindOf x=some .local ->
 bindL kindOf (P.zip vs) m x=some v
 | [],_,_,_,_,h,_,_=>by simp at h
 | _::_,[],_,_,_,_,h,_=>by simp at h
 | p::P,w::vs,0,m,nd,h1,h2,hk=>by
   simp at h1 h2;subst h1;subst h2
   show bindL kindOf ((p,w)::P.zip vs) m p=_
   unfold bindL
   rw[GF fun v hv=>(RV.mp nd).1 (RW hv).1,if_pos hk]
   simp
 | p::P,w::vs,i+1,m,nd,h1,h2,hk=>by
   show bindL kindOf ((p,w)::P.zip vs) m x=_
   unfold bindL
   exact GH (i:=i) (RV.mp nd).2 (by simpa using h1) (by simpa using h2) hk
theorem GJ{kindOf:Str->Option NameKind}{x:Str}{v:Value}:∀{P:List Str} {vs:List Value} {i:Nat} {m:Str->Option Value},P.Nodup->P[i]? = some x->vs[i]? = some v->kindOf x≠some .local ->
 bindC kindOf (P.zip vs) m x=some v
 | [],_,_,_,_,h,_,_=>by simp at h
 | _::_,[],_,_,_,_,h,_=>by simp at h
 | p::P,w::vs,0,m,nd,h1,h2,hk=>by
   simp at h1 h2;subst h1;subst h2
   show bindC kindOf ((p,w)::P.zip vs) m p=_
   unfold bindC
   rw[GI fun v hv=>(RV.mp nd).1 (RW hv).1,if_neg hk]
   simp
 | p::P,w::vs,i+1,m,nd,h1,h2,hk=>by
   show bindC kindOf ((p,w)::P.zip vs) m x=_
   unfold bindC
   exact GJ (i:=i) (RV.mp nd).2 (by simpa using h1) (by simpa using h2) hk
def E1(N:List Str)(vs:List V):St:=vs.map some++RX (N.length-vs.length) none
def Jf(CX:CXT)(P:Program)(w:World)(K:Rv)(mg:Str->Option Value)(base:Heap)(N:List Str)(qual:Str)(scope:Scope)(f:Addr)(cd:Value)(A:Around)(outer:List Env)(s:Shared)(H:Hp)(E:XK):Cx where
 prog:=P
 w:=w
 K:=K
 mg:=mg
 base:=base
 A:=A.deeper (envOfC qual scope s.heap.objs.size f cd)
 N:=N
 s₀:=s
 H₀:=H
 env:=envOfC qual scope s.heap.objs.size f cd
 outer:=outer
 stack:=envOfC qual scope s.heap.objs.size f cd::outer
 ex:=[]
 calm:=true
 fn:=fun _=>true
 pn:=[]
 xe:=fun e s'=>wpAny (model P w) (A.deeper (envOfC qual scope s.heap.objs.size f cd)) (leaving (envOfC qual scope s.heap.objs.size f cd) e) (fun _ s''=>CX outer H s E e s'') (fun e' s''=>CX outer H s E e' s'') s'
theorem IA{sc:Scope}{n:Nat}{x:Str}(h:sc.names.lookup x=some .cell):∃c,(cellsFrom n sc.names []).lookup x=some c:=by
 have q:=PySem.W.cellsFrom_some sc.names n [] (.inl h)
 exact Option.isSome_iff_exists.mp q
theorem Kk{CX:CXT}{P:Program}{w:World}{K:Rv}{mg:Str->Option Value}{base:Heap}{N ps:List Str}{qual:Str}{scope:Scope}{f:Addr}{cd:Value}{A:Around}{outer:List Env}{s s1:Shared}{H:Hp}{E:XK}{us:List Value}{vs:List V}
 (S:Aq N ps scope) (hd:A.handled=none) (e0:Kw P w K mg base A outer s H) (hl:vs.length=ps.length) (r:AJ vs us)
 (x:InCallC s s.heap.objs.size (bindL (envOfC qual scope s.heap.objs.size f cd).kindOf (ps.zip us) fun _=>none) (cellsFrom (s.heap.objs.size+1) scope.names []) (bindC (envOfC qual scope s.heap.objs.size f cd).kindOf (ps.zip us) fun _=>none) s1) :
 Inv (Jf CX P w K mg base N qual scope f cd A outer s H E) [] (E1 N vs) H s1:=by
 have hpl:ps.length<=N.length:=by have:=congrArg List.length S.pre;rw[RY]at this;lia
 obtain⟨h1,tk,rfl,hk⟩:=x.done
 have noA:∀b:Addr,b∉(Jf CX P w K mg base N qual scope f cd A outer s H E).ex:=fun b z=>absurd (show b∈([]:List Addr) from z) (by simp)
 refine⟨⟨e0.mod,S.kind,rfl,rfl,RK _,fun y z c h1 h2=>?_,fun y hy=>?_,fun y c _ h=>?_,fun _=>hd,Around.frames_deeper e0.frames,.inr ⟨rfl,rfl⟩,fun b z=>absurd z (noA b),e0.bs,e0.bsz,fun b _ _=>noA b,fun b z=>absurd z (noA b),e0.funs,e0.frf⟩,
  rfl,e0.bare,Un.kept hk,⟨_,x.toInCall.ns,fun i y v h1 h2 h3=>?_⟩,fun y c h=>⟨_,x.cell y c h⟩,e0.hok.fresh (RK _),fun y c h=>?_,fun p hp=>absurd (show p∈([]:List (Addr×Obj)) from hp) (by simp),e0.hok.kept hk,?_⟩
 ·exact name_of_addr x.apart (PySem.mem_of_lookup h1) (PySem.mem_of_lookup h2)
 ·have hy:scope.names.lookup y=some .cell\/scope.names.lookup y=some .free:=hy
  rcases hy with hy | hy
  ·exact IA hy
  ·exact absurd rfl (S.nofree _ (PySem.mem_of_lookup hy))
 ·exact Rx (x.above y c (PySem.mem_of_lookup h))
 ·have hi:i<vs.length:=by
   unfold E1 at h2
   by_cases hi:i<vs.length
   ·exact hi
   ·rw[RZ (by simpa using hi)]at h2
    rw[S1]at h2
    split at h2<;>cases h2
  have ha:vs[i]? = some v:=by
   unfold E1 at h2
   rw[S2 (by simpa using hi),S3]at h2
   cases e:vs[i]? with
   | none=>rw[e]at h2;cases h2
   | some a=>rw[e]at h2;cases h2;rfl
  obtain⟨u,hu,rv⟩:=r.get ha
  have hp:ps[i]? = some y:=by
   rw[<- S.pre,List.getElem?_take_of_lt (by lia)];exact h1
  have ndP:ps.Nodup:=by rw[<- S.pre];exact S.nd.sublist (S4 _ _)
  refine⟨u,rv,?_⟩
  rcases S.par y (S5 hp) with k | k
  ·exact .inl ⟨k,GH ndP hp hu k⟩
  ·obtain⟨c,e⟩:=IA (n:=s.heap.objs.size+1) k
   refine .inr ⟨.inl k,c,e,?_⟩
   have q:=x.cell y c e
   rw[GJ ndP hp hu (by show scope.names.lookup y≠_;rw[k];decide)]at q
   exact q
 ·exact e0.hok.fresh (Rx (x.above y c (PySem.mem_of_lookup h)))
 ·unfold E1
  show _=N.length
  rw[S6,S7,S8]
  lia
theorem MV{CX:CXT}{P:Program}{w:World}{K:Rv}{mg:Str->Option Value}{base:Heap}{k:Nat}{f:Addr}{name qual:Str}{params:Arguments}{body:List Stmt}{scope:Scope}{dV kV doc pm cdv ct oc:Value}{an od:Option Addr}
 {osl:Array (Option Value)} {N ps:List Str} {sp:Sp} (lk:K.lookup f=some ⟨oc,od,.func (S9 name qual params body scope dV kV doc pm an cdv ct),osl⟩) (hcd:Sa K cdv qual=true) (S:Aq N ps scope)
 (len:∀vs H Q E,sp vs H Q E->vs.length=ps.length)
 (hbody:∀(A:Around) (outer:List Env) (s:Shared) (H:Hp) (vs:List V) (Q:VK) (E:XK),Ca k (A.deeper (envOfC qual scope s.heap.objs.size f cdv))->sp vs H Q E ->
  ∃t,PSs (Jf CX P w K mg base N qual scope f cdv A outer s H E) body t/\t { nx:=fun _ H'=>Q .non H',rt:=Q } (E1 N vs) H) :
 AO P w K mg base CX (k+1) f (S9 name qual params body scope dV kV doc pm an cdv ct) ps sp:=by
 refine⟨len,fun A outer s H args us vs Q E hr e0 hb r hsp=>?_⟩
 have hl:=len _ _ _ _ hsp
 have KX:K.In s.heap:=e0.mod.kin.keeps fun b o e=>(e0.bs b o e).1
 have lim:s.heap.NoLimit:=e0.mod.nolimit.keeps fun b o e=>(e0.bs b o e).1
 have hkind:∀y∈ps.zip us,scope.names.lookup y.1=some .local\/(scope.names.lookup y.1=some .cell/\((cellsFrom (s.heap.objs.size+1) scope.names []).lookup y.1).isSome=true):=fun⟨n,v⟩ hy=>by
  rcases S.par n (RW hy).1 with q | q
  ·exact .inl q
  ·exact .inr ⟨q,PySem.W.cellsFrom_some _ _ _ (.inl q)⟩
 refine codeAny_call_function hr.depth (KX _ _ lk) rfl S.co S.gen rfl (PySem.W.codeRec_of KX hcd) (hb _ _ _ _ ?_)
 refine wpAny_newFunctionEnv_cells S.kind hkind fun env he s1 x=>?_
 subst he
 refine⟨lim.keeps x.toInCall.keep,codeAny_func ?_⟩
 obtain⟨t,ht,hq⟩:=hbody A outer s H vs Q E (hr.deeper _) hsp
 have I:Inv (Jf CX P w K mg base N qual scope f cdv A outer s H E) [] (E1 N vs) H s1:=Kk S hr.hd e0 hl r x
 refine wpAny_mono (ht [] s1 (E1 N vs) H _ I hq) (fun fl s' hs=>?_) fun e s' hs=>hs
 have fin:∀{σ':St} {H':Hp} {v:V} {u:Value},Inv (Jf CX P w K mg base N qual scope f cdv A outer s H E) [] σ' H' s'->AZ v u->Q v H'->CE outer P w H s Q u s' :=
  fun{σ' H' v u} J rv q=>⟨v,H',J.os,J.bare,J.base,J.hok,rv,q⟩
 cases fl with
 | ret u =>
   obtain⟨v,σ',H',J,rv,q⟩:=hs
   exact fin J rv q
 | next =>
   obtain⟨σ',H',J,q⟩:=hs
   exact fin (v:=V.non) (u:=Value.none) J rfl q
 | brk =>
   obtain⟨_,_,_,q⟩:=hs
   exact False.elim q
 | cont =>
   obtain⟨_,_,_,q⟩:=hs
   exact False.elim q
end L2
namespace L2
open PySem PySem.Spec PyProof.Rows
section
variable {X:Cx}{x:Str}{p pos:Pos}{e:Expr}{es:List Expr}{t:TA}{id T:String}{r:List V->Hp->VK->Prop}
def tCB(r:List V->Hp->VK->Prop)(t:TA):TE:=fun σ H Q=>t σ H fun vs H1=>r vs H1 Q
theorem Al(hc:CD X (.builtin id) r)(hg:Gl X x)(hm:X.mg x=none)(hv:bootBuiltins x=some (.builtin id))(ha:PA X (e::es) t)(hn:x ≠ "__name__":=by decide)(hdb:(x == ("__debug__" : Str))=false:=by decide)
 (he:starEach (e::es) X.env=(false,eval e X.env)::starEach es X.env:=by rfl) (hpl:(backTo pos (starEach es X.env)).any (·.1)=false:=by rfl):PE X (.Call (.Name x p) (e::es) [] pos) (tCB r t):=by
 intro pins s σ H Q I h
 refine wpAny_Call_Name_kw (Dw I hg hm hv ?_ hn hdb)
 exact PyProof.Rows.callWith_builtin1 (thn (ha pos pins s σ H _ I h) fun us s1 ⟨vs,H1,I1,r1,q1⟩=>hc pins s1 σ H1 vs us Q I1 r1 q1) he hpl
theorem Cr(hc:CD X (.type T) r)(hg:Gl X x)(hm:X.mg x=none)(hv:bootBuiltins x=some (.type T))(ha:PA X (e::es) t)(hn:x ≠ "__name__":=by decide)(hdb:(x == ("__debug__" : Str))=false:=by decide)
 (he:starEach (e::es) X.env=(false,eval e X.env)::starEach es X.env:=by rfl) (hpl:(backTo pos (starEach es X.env)).any (·.1)=false:=by rfl):PE X (.Call (.Name x p) (e::es) [] pos) (tCB r t):=by
 intro pins s σ H Q I h
 refine wpAny_Call_Name_kw (Dw I hg hm hv ?_ hn hdb)
 exact PyProof.Rows.callWith_type1 (thn (ha pos pins s σ H _ I h) fun us s1 ⟨vs,H1,I1,r1,q1⟩=>hc pins s1 σ H1 vs us Q I1 r1 q1) he hpl
end
end L2
namespace HT
open PySem PyProof.Rows
section
open PySem.SeqAt
open PySem.AutoSeq1 (wpAny_loadPart')
open PySem.MeetsSeq PySem.MeetsSeq2 PySem.MeetsSeq3
end
section
variable {prog:Program}{w:World}{A:Around}{E:Value->Shared->Prop}{s:Shared}
def sIx(n d:Nat):Option Int->Nat
 | none=>d
 | some v=>if v<0 then (v+(n:Int)).toNat else min v.toNat n
theorem sIx_nat(n d k:Nat):sIx n d (some (k:Int))=min k n:=by
 show(if (k:Int)<0 then ((k:Int)+(n:Int)).toNat else min (k:Int).toNat n)=min k n
 rw[if_neg (by lia),Sb]
theorem clip_eq(v:Int)(n d:Nat):(if v<0 then max (v+(n:Int)) 0 else min v (n:Int))=((sIx n d (some v):Nat):Int):=by
 show(if v<0 then max (v+(n:Int)) 0 else min v (n:Int))=(((if v<0 then (v+(n:Int)).toNat else min v.toNat n):Nat):Int)
 by_cases hv:v<0
 ·rw[if_pos hv,if_pos hv,Int.toNat_eq_max]
 ·rw[if_neg hv,if_neg hv]
  obtain⟨k,rfl⟩:=Int.eq_ofNat_of_zero_le (Int.not_lt.mp hv)
  rw[Sb]
  rcases Nat.le_total k n with h | h
  ·rw[Sd h,Int.min_eq_left (Int.ofNat_le.mpr h)]
  ·rw[Se h,Int.min_eq_right (Int.ofNat_le.mpr h)]
end
end HT
namespace L2
open PySem PySem.Spec PyProof.Rows
abbrev TO:=St->Hp->(Option Int->Hp->Prop)->Prop
def PO(X:Cx)(e:Option Expr)(t:TO):Prop :=
 ∀ (pins:List (Addr×Obj)) (s:Shared) (σ:St) (H:Hp) (Q:Option Int->Hp->Prop),Inv X pins σ H s->t σ H Q ->
   wpAny (model X.prog X.w) X.A (evalPart e X.env) (fun u s'=>∃o H',Inv X pins σ H' s'/\IsPart u o/\Q o H') X.xe s
def M9:TO:=fun _ H Q=>Q none H
def Oc(t:TE):TO:=fun σ H Q=>t σ H fun x H1=>∃i,x = .int i/\Q (some i) H1
section
variable {X:Cx}{e:Expr}{te:TE}{lo hi:Option Expr}{tl th:TO}{pos p2:Pos}
theorem De:PO X none M9:=by
 intro pins s σ H Q I h
 rw[evalPart_none]
 exact wpAny_pure ⟨none,H,I,.none,h⟩
theorem Dd(h:PE X e te):PO X (some e) (Oc te):=by
 intro pins s σ H Q I hw
 rw[evalPart_some]
 refine thn (h pins s σ H _ I hw) fun u s1 ⟨x,H1,I1,r1,q1⟩=>?_
 obtain⟨i,rfl,q⟩:=q1
 obtain⟨t,rfl⟩:=r1
 exact⟨some i,H1,I1,.int i t,q⟩
def SlR(X:Cx)(r:V->Option Int->Option Int->Hp->VK->Prop):Prop :=
 ∀ (pins:List (Addr×Obj)) (s:Shared) (σ:St) (H:Hp) (x:V) (v vl vu:Value) (lo hi:Option Int) (sl:Addr) (Q:VK),Inv X pins σ H s->AZ x v->s.heap.IsSliceOf sl vl vu .none->IsPart vl lo->IsPart vu hi->r x lo hi H Q ->
   ∃T id,typeLookup (.type T) "__getitem__" = pure (some (.builtin id))/\s.TypeIs v T/\wpAny (model X.prog X.w) X.A (getItem v (.ref sl)) (EP X pins σ Q) X.xe s
def tSl(r:V->Option Int->Option Int->Hp->VK->Prop)(te:TE)(tl th:TO):TE:=fun σ H Q=>te σ H fun x H1=>tl σ H1 fun l H2=>th σ H2 fun u H3=>r x l u H3 Q
theorem Cz{r:V->Option Int->Option Int->Hp->VK->Prop}(hr:SlR X r)(he:PE X e te)(hl:PO X lo tl)(hu:PO X hi th):PE X (.Subscript e (.Slice lo hi none p2) pos) (tSl r te tl th):=by
 intro pins s σ H Q I h
 refine Subscript_ (thn (he pins s σ H _ I h) fun v s1 ⟨x,H1,I1,r1,q1⟩=>?_)
 refine wpAny_Slice (thn (hl pins s1 σ H1 _ I1 q1) fun vl s2 ⟨l,H2,I2,pl,q2⟩=>thn (hu pins s2 σ H2 _ I2 q2) fun vu s3 ⟨u,H3,I3,pu,q3⟩=>?_)
 rw[evalPart_none]
 refine wpAny_pure ?_
 have I4:Inv X pins σ H3 { s3 with heap:=s3.heap.push { cls:=.type "slice",data:=.fields #[vl,vu,.none] } }:=I3.kept (t':=s3.toks) fun b ob q=>Heap.get?_push_of_some _ q
 obtain⟨T,id,hT,ht,hg⟩:=hr pins { s3 with heap:=s3.heap.push { cls:=.type "slice",data:=.fields #[vl,vu,.none] } } σ H3 x v vl vu l u s3.heap.objs.size Q I4 r1 (Heap.IsSliceOf.new ..) pl pu q3
 show wpAny (model X.prog X.w) X.A (subscriptTail e (.Slice lo hi none p2) v (.ref s3.heap.objs.size)) (EP X pins σ Q) X.xe { s3 with heap:=s3.heap.push { cls:=.type "slice",data:=.fields #[vl,vu,.none] } }
 exact tail_any (ops:=[.ref s3.heap.objs.size,v]) ht hT hg (by with_unfolding_all rfl)
def Cp(xs:List V)(lo hi:Option Int):List V:=(xs.drop (HT.sIx xs.length 0 lo)).take (HT.sIx xs.length xs.length hi-HT.sIx xs.length 0 lo)
theorem Iw(xs:List V)(lo hi:Option Int):(Cp xs lo hi).length<=xs.length:=by
 unfold Cp
 rw[RY,Sf]
 exact Rw (Nat.min_le_right _ _) (Nat.sub_le _ _)
end
end L2
namespace L2
open PySem PySem.Spec PyProof.Rows
def ixN(n:Nat)(i:Int):Option Nat:=if 0<=i then (if i<n then some i.toNat else none) else if -(n:Int)<=i then some (i+n).toNat else none
def atI{α:Type}(xs:List α)(i:Int):Option α:=(ixN xs.length i).bind fun j=>xs[j]?
theorem JD{n:Nat}{i:Int}{j:Nat}(h:ixN n i=some j):seqIndex? i n=some j/\j<n /\ -(n:Int)<=i/\i<n:=by
 unfold ixN at h
 by_cases h0:0<=i
 ·rw[if_pos h0]at h
  by_cases h1:i<n
  ·rw[if_pos h1]at h
   have e:i.toNat=j:=Rl.inj h
   exact⟨by rw[seqIndex_of h0 h1,e],by lia,by lia,h1⟩
  ·rw[if_neg h1]at h;cases h
 ·rw[if_neg h0]at h
  by_cases h1 : -(n:Int)<=i
  ·rw[if_pos h1]at h
   have e:(i+n).toNat=j:=Rl.inj h
   exact⟨by rw[seqIndex_neg (by lia) h1,e],by lia,h1,by lia⟩
  ·rw[if_neg h1]at h;cases h
theorem JT{α:Type}{xs:List α}{i:Int}{v:α}(h:atI xs i=some v):∃j,seqIndex? i xs.length=some j/\xs[j]? = some v/\j<xs.length /\ -(xs.length:Int)<=i/\i<xs.length:=by
 unfold atI at h
 cases e:ixN xs.length i with
 | none=>rw[e]at h;cases h
 | some j =>
   rw[e]at h
   obtain⟨h1,h2,h3,h4⟩:=JD e
   exact⟨j,h1,h,h2,h3,h4⟩
theorem C9{α:Type}{xs:List α}{j:Nat}{v:α}(h:xs[j]? = some v):atI xs (j:Int)=some v:=by
 have hj:j<xs.length:=(RF.mp h).1
 have e:ixN xs.length (j:Int)=some j:=by
  unfold ixN
  rw[if_pos (by lia),if_pos (by lia)];simp
 unfold atI;rw[e];exact h
def MN(b:Expr):Prop:=∀o i,subscripted b false o i=operate [o,i] (getItem o i)
def IxR(X:Cx)(r:R2):Prop :=
 ∀ (value slice:Expr) (pins:List (Addr×Obj)) (s:Shared) (σ:St) (H:Hp) (x y:V) (v u:Value) (Q:VK),Inv X pins σ H s->AZ x v->AZ y u->r x y H Q ->
   subscripted slice false v u=operate [v,u] (getItem v u)->wpAny (model X.prog X.w) X.A (subscriptTail value slice v u) (EP X pins σ Q) X.xe s
def MtR(X:Cx)(id:String)(r:V->List V->Hp->VK->Prop):Prop :=
 ∀ (pins:List (Addr×Obj)) (s:Shared) (σ:St) (H:Hp) (x:V) (xs:List V) (v:Value) (us:List Value) (Q:VK),Inv X pins σ H s->AZ x v->AJ xs us->r x xs H Q ->
   wpAny (model X.prog X.w) X.A (call (.builtin id) (v::us)) (EP X pins σ Q) X.xe s
section
variable {X:Cx}{a b:Expr}{ta tb:TE}{pos:Pos}
theorem Aj{r:R2}(hr:IxR X r)(ha:PE X a ta)(hb:PE X b tb)(hs:MN b):PE X (.Subscript a b pos) (tOp r ta tb):=by
 intro pins s σ H Q I h
 exact Subscript_ (O2 ha hb I h fun v u s2 x y H2 I2 rx ry q=>hr a b pins s2 σ H2 x y v u Q I2 rx ry q (hs _ _))
inductive Nb(K:Rv)(x:V)(y:V)(H:Hp)(Q:VK):Prop
 | mk (p:_) (xs:_) (i:_) (v:_) (h1:x = .ref p) (h2:y = .int i) (h3:SqL K H p xs) (h4:atI xs i=some v) (h5:Q v H):Nb K x y H Q
inductive Na(K:Rv)(x:V)(y:V)(H:Hp)(Q:VK):Prop
 | mk (p:_) (xs:_) (i:_) (v:_) (h1:x = .ref p) (h2:y = .int i) (h3:SqT K H p xs) (h4:atI xs i=some v) (h5:Q v H):Na K x y H Q
theorem MB:IxR X (Nb X.K):=by
 intro value slice pins s σ H x y v u Q I rx ry h hs
 obtain⟨p,xs,i,z,rfl,rfl,hq,he,q⟩:=h
 cases rx
 obtain⟨t,rfl⟩:=ry
 obtain⟨its,r,pl,hz⟩:=I.list hq
 obtain⟨j,h1,h2,h3,h4,h5⟩:=JT he
 obtain⟨w,ew,rw'⟩:=r.get h2
 have hl:=r.length
 have hn:=Ho
 have fin:EP X pins σ Q w s:=⟨z,H,I,rw',q⟩
 by_cases h0:0<=i
 ·have hj:i.toNat=j:=by
   rw[seqIndex_of h0 h5]at h1
   exact Rl.inj h1
  exact item_listR pl.isList h0 (by lia) (by rw[hj];simpa using ew) fin hs
 ·have hj:(i+(its.toArray.size:Int)).toNat=j:=by
   rw[seqIndex_neg (by lia) h4]at h1
   rw[Sg,<- hl]
   exact Rl.inj h1
  exact subscriptTail_builtinR (x:=w) pl.isList.typeIs slot_list_getitem.lookup
   (wpAny_getItem_list_neg (Q:=fun r s'=>r=w/\EP X pins σ Q r s') pl.isList (by lia) (by rw[Sg]<;>lia) (by lia) (by rw[hj];simpa using ew) ⟨rfl,fin⟩) hs
theorem NO:IxR X (Na X.K):=by
 intro value slice pins s σ H x y v u Q I rx ry h hs
 obtain⟨p,xs,i,z,rfl,rfl,hq,he,q⟩:=h
 cases rx
 obtain⟨t,rfl⟩:=ry
 obtain⟨its,r,pl,hz⟩:=I.tuple hq
 obtain⟨j,h1,h2,h3,h4,h5⟩:=JT he
 obtain⟨w,ew,rw'⟩:=r.get h2
 have hl:=r.length
 have hn:=Ho
 have fin:EP X pins σ Q w s:=⟨z,H,I,rw',q⟩
 exact subscriptTail_builtinR (x:=w) pl.typeIs slot_tuple_getitem.lookup
  (getItem_tuple (j:=j) (Q:=fun r s'=>r=w/\EP X pins σ Q r s') pl (by lia) (by lia) (by rw[Sg,<- hl];exact h1) (by simpa using ew) ⟨rfl,fin⟩) hs
theorem J8(its:List Value)(n j:Nat)(u:Value):Obj.mapSeq (·.setIfInBounds j u) { cls:=.type "list",data:=.seq its.toArray n }={ cls:=.type "list",data:=.seq (its.set j u).toArray n }:=by
 simp[Obj.mapSeq]
theorem Inv.lst{pins:List (Addr×Obj)}{σ:St}{H:Hp}{s:Shared}{p:Addr}{xs:List V}(I:Inv X pins σ H s)(h:H p=some (.lst xs)) :
 ∃(its:List Value) (n:Nat),AJ xs its/\s.heap.get? p=some { cls:=.type "list",data:=.seq its.toArray n }/\xs.length<=sizeLine:=by
 obtain⟨z,its,n,r,e⟩:=I.hok p _ h
 exact⟨its,n,r,e,z⟩
theorem Inv.lstUpd{pins:List (Addr×Obj)}{σ:St}{H:Hp}{s:Shared}{p:Addr}{xs ys:List V}{its its':List Value}{n n':Nat}{f:Obj->Obj}(I:Inv X pins σ H s)(h:H p=some (.lst xs))
 (ho:s.heap.get? p=some { cls:=.type "list",data:=.seq its.toArray n }) (hf:f { cls:=.type "list",data:=.seq its.toArray n }={ cls:=.type "list",data:=.seq its'.toArray n' }) (r:AJ ys its') (hz:ys.length<=sizeLine) (t:Nat) :
 Inv X pins σ (upd H p (.lst ys)) { s with heap:=s.heap.update p f,toks:=t }:=by
 have e:(s.heap.update p f).get? p=some { cls:=.type "list",data:=.seq its'.toArray n' }:=by
  rw[Heap.get?_update_self f ho (by rw[hf]<;>rfl),hf]
 refine I.write (x:=p) (e:=p) (by rw[h];trivial) (.inl rfl) (fun b u hb q=>(Heap.get?_update_other _ _ (Ne.symm hb)).trans q) ⟨_,e⟩ ?_
 exact⟨hz,its',n',r,e⟩
inductive MQ(o:V)(i:V)(v:V)(H:Hp)(Q:(Hp->Prop)):Prop
 | mk (p:_) (xs:_) (k:_) (j:_) (h1:o = .ref p) (h2:i = .int k) (h3:H p=some (.lst xs)) (h4:ixN xs.length k=some j) (h5:Q (upd H p (.lst (xs.set j v)))):MQ o i v H Q
theorem CQ:OT X MQ:=by
 intro pins s σ H o i v ov iv u Q I ro ri rv h
 obtain⟨p,xs,k,j,rfl,rfl,hp,hj,q⟩:=h
 cases ro
 obtain⟨t,rfl⟩:=ri
 obtain⟨its,n,r,ho,hz⟩:=I.lst hp
 obtain⟨h1,h2,h3,h4⟩:=JD hj
 have hl:=r.length
 have hn:=Ho
 have I':Inv X pins σ (upd H p (.lst (xs.set j v))) { s with heap:=s.heap.update p (Obj.mapSeq (·.setIfInBounds j u)) } :=
  I.lstUpd hp ho (J8 its n j u) (r.set rv j) (by rw[Sh];exact hz) s.toks
 by_cases h0:0<=k
 ·have hk:k.toNat=j:=by
   rw[seqIndex_of h0 h4]at h1
   exact Rl.inj h1
  exact PySem.W.ki_setAt ho h0 (by lia) (by rw[Sg,<- hl];exact h4) (by rw[hk];exact⟨_,I',q⟩)
 ·have hk:(k+(its.toArray.size:Int)).toNat=j:=by
   rw[seqIndex_neg (by lia) h3]at h1
   rw[Sg,<- hl]
   exact Rl.inj h1
  exact PySem.W.ki_setBack ho (by lia) (by rw[Sg,<- hl];exact h3) (by lia) (by rw[hk];exact⟨_,I',q⟩)
theorem GS(lo hi:Option Int)(n:Nat):(sliceBounds lo hi none n).1=((HT.sIx n 0 lo:Nat):Int)/\(sliceBounds lo hi none n).2.1=((HT.sIx n n hi:Nat):Int)/\(sliceBounds lo hi none n).2.2=1:=by
 have key:∀(i:Int) (d:Nat),max 0 (min (if i<0 then i+(n:Int) else i) (n:Int))=((HT.sIx n d (some i):Nat):Int):=by
  intro i d
  rw[<- HT.clip_eq]
  by_cases h:i<0
  ·rw[if_pos h,if_pos h,Int.min_eq_left (by lia),Int.max_comm]
  ·rw[if_neg h,if_neg h,Int.max_eq_right (Int.le_min.mpr ⟨by lia,by lia⟩)]
 refine⟨?_,?_,rfl⟩
 ·cases lo with
  | none=>simp[sliceBounds,HT.sIx]
  | some i=>exact key i 0
 ·cases hi with
  | none=>simp[sliceBounds,HT.sIx]
  | some i=>exact key i n
theorem FW(its:List Value)(lo hi:Option Int):slicePick its.toArray lo hi none=((its.drop (HT.sIx its.length 0 lo)).take (HT.sIx its.length its.length hi-HT.sIx its.length 0 lo)).toArray:=by
 obtain⟨h1,h2,h3⟩:=GS lo hi its.toArray.size
 unfold slicePick
 rw[h1,h2,h3]
 simp only[sliceRange_one,pick_run,Sg]<;>rfl
inductive N9(K:Rv)(x:V)(lo:Option Int)(hi:Option Int)(H:Hp)(Q:VK):Prop
 | mk (a:_) (xs:_) (h1:x = .ref a) (h2:SqL K H a xs) (h3:∀p,H p=none->Q (.ref p) (upd H p (.lst (Cp xs lo hi)))):N9 K x lo hi H Q
theorem Md:SlR X (N9 X.K):=by
 intro pins s σ H x v vl vu lo hi sl Q I rx hs pl pu h
 obtain⟨a,xs,rfl,hx,q⟩:=h
 cases rx
 obtain⟨its,r,ht,hz⟩:=I.list hx
 have hlen:=r.length
 refine⟨"list",_,slot_list_getitem.lookup,ht.isList.typeIs,?_⟩
 refine wpAny_getItem_list_slice ht.isList hs pl pu .none (by simp) ?_ (by rw[Sg]<;>lia)
 rw[FW,<- hlen]
 refine⟨.ref s.heap.objs.size,_,I.laid (t':=s.toks) (o:=.lst (Cp xs lo hi)) (fun b ob q=>Heap.get?_push_of_some _ q) (RK _) ?_,rfl,q _ (I.hok.fresh (RK _))⟩
 exact⟨Rw (Iw xs lo hi) hz,_,0,(r.drop (HT.sIx xs.length 0 lo)).take (HT.sIx xs.length xs.length hi-HT.sIx xs.length 0 lo),Heap.get?_push_size _ rfl⟩
theorem HD:CD X (.builtin "len") (fun xs H Q=>∃p ys,xs=[.ref p]/\(SqL X.K H p ys\/SqT X.K H p ys)/\Q (.int ys.length) H):=by
 intro pins s σ H xs us Q I r h
 obtain⟨p,ys,rfl,hq,q⟩:=h
 obtain⟨u,rfl,rx⟩:=Fg r
 cases rx
 have hn:=Ho
 rcases hq with hq | hq
 ·obtain⟨its,r',pl,hz⟩:=I.list hq
  have hlen:=r'.length
  exact Calls.call_len_list pl.isList (by simp only[Sg]<;>lia) ⟨.int ys.length,H,I.tok _,⟨s.toks+1,by rw[Sg,hlen]⟩,q⟩
 ·obtain⟨its,r',pl,hz⟩:=I.tuple hq
  have hlen:=r'.length
  exact len_tuple pl (by simp only[Sg]<;>lia) ⟨.int ys.length,H,I.tok _,⟨s.toks+1,by rw[Sg,hlen]⟩,q⟩
theorem HC:CD X (.type "list") (fun xs H Q=>∃p ys,xs=[.ref p]/\(SqL X.K H p ys\/SqT X.K H p ys)/\∀l,H l=none->Q (.ref l) (upd H l (.lst ys))):=by
 intro pins s σ H xs us Q I r h
 obtain⟨p,ys,rfl,hq,q⟩:=h
 obtain⟨u,rfl,rx⟩:=Fg r
 cases rx
 have fin:∀(its:List Value),AJ ys its->ys.length<=sizeLine->∀(h':Heap) (c':Nat),(∀b o',s.heap.get? b=some o'->h'.get? b=some o') ->
  h'.get? s.heap.objs.size=some { cls:=.type "list",dict:=none,data:=.seq its.toArray c',slots:=#[] }->EP X pins σ Q (.ref s.heap.objs.size) { s with heap:=h' }:=fun its r' hz h' c' kp e =>
  ⟨.ref s.heap.objs.size,_,I.laid (t':=s.toks) kp (RK _) (show BP X.prog X.w _ h' _ (.lst ys) from⟨hz,its,c',r',e⟩),rfl,q _ (I.hok.fresh (RK _))⟩
 rcases hq with hq | hq
 ·obtain⟨its,r',pl,hz⟩:=I.list hq
  have hlen:=r'.length
  obtain⟨o,ho,hc,n,hd⟩:=pl.isList
  exact call_list_seq p (.inl rfl) ho hc hd (fun h' c' kp e=>fin its r' hz h' c' kp e) (by simp only[Sg]<;>lia)
 ·obtain⟨its,r',pl,hz⟩:=I.tuple hq
  have hlen:=r'.length
  obtain⟨o,ho,hc,n,hd⟩:=pl
  exact call_list_seq p (.inr rfl) ho hc hd (fun h' c' kp e=>fin its r' hz h' c' kp e) (by simp only[Sg]<;>lia)
theorem Gm:CD X (.type "tuple") (fun xs H Q=>∃p ys,xs=[.ref p]/\((SqL X.K H p ys/\∀l,H l=none->Q (.ref l) (upd H l (.tup ys)))\/(SqT X.K H p ys/\Q (.ref p) H))):=by
 intro pins s σ H xs us Q I r h
 obtain⟨p,ys,rfl,h⟩:=h
 obtain⟨u,rfl,rx⟩:=Fg r
 cases rx
 rcases h with ⟨hq,q⟩ | ⟨hq,q⟩
 ·obtain⟨its,r',pl,hz⟩:=I.list hq
  have hlen:=r'.length
  refine call_tuple_list pl.isList (fun h' kp=>?_) (by simp only[Sg]<;>lia)
  have I1:Inv X pins σ H { s with heap:=h' }:=I.kept (t':=s.toks) kp
  have I2:Inv X pins σ (upd H h'.objs.size (.tup ys)) { s with heap:=h'.push { cls:=.type "tuple",data:=.seq its.toArray } } :=
   I1.laid (t':=s.toks) (fun b o e=>Heap.get?_push_of_some _ e) (RK _) (show BP X.prog X.w _ _ _ (.tup ys) from⟨hz,its,r',IsTup.new _ _⟩)
  exact⟨.ref h'.objs.size,_,I2,rfl,q _ (I1.hok.fresh (RK _))⟩
 ·obtain⟨its,r',pl,hz⟩:=I.tuple hq
  exact call_tuple_same pl ⟨.ref p,H,I,rfl,q⟩
def tyV(K:Rv)(T:String)(x:V)(H:Hp):Prop:=match x with
 | .str _=>T = "str"
 | .int _=>T = "int"
 | .ref p=>(T = "list" /\ ∃xs,SqL K H p xs)\/(T = "tuple" /\ ∃o,K.lookup p=some o/\o.cls = .type "tuple" /\ o.dict=none) \/
  (T = "dict" /\ ((∃kvs,H p=some (.dK kvs))\/∃kvs,H p=some (.dT kvs)))\/(T = "set" /\ ∃S n,H p=some (.set S n))
 | _=>False
theorem Kz{pins:List (Addr×Obj)}{σ:St}{H:Hp}{s:Shared}{T:String}{x:V}{v:Value}(I:Inv X pins σ H s)(r:AZ x v)(ty:tyV X.K T x H) :
 s.TypeIs v T/\∀a,v = .ref a->∃ob,s.heap.get? a=some ob/\ob.dict=none:=by
 cases x with
 | str z =>
   obtain⟨t,rfl⟩:=r
   cases (show T = "str" from ty)
   exact⟨typeIs_str s z t,fun _ e=>nomatch e⟩
 | int i =>
   obtain⟨t,rfl⟩:=r
   cases (show T = "int" from ty)
   exact⟨typeIs_int s i t,fun _ e=>nomatch e⟩
 | ref p =>
   cases r
   rcases ty with ⟨rfl,xs,hq⟩ | ⟨rfl,o,hk,hc,hd⟩ | ⟨rfl,hk⟩ | ⟨rfl,S,n,hk⟩
   ·obtain⟨its,_,pl,_⟩:=I.list hq
    refine⟨pl.isList.typeIs,fun a e=>?_⟩
    cases e
    obtain⟨o,n,e,c,hd,_⟩:=pl
    exact⟨o,e,hd⟩
   ·refine⟨⟨o,I.kIn p o hk,hc⟩,fun a e=>?_⟩
    cases e
    exact⟨o,I.kIn _ o hk,hd⟩
   ·have z:∃o,s.heap.get? p=some o/\o.ExactDict:=by
     rcases hk with ⟨kvs,hk⟩ | ⟨kvs,hk⟩
     ·obtain⟨_,_,_,_,o,_,_,e,ex,_⟩:=I.hok p _ hk
      exact⟨o,e,ex⟩
     ·obtain⟨_,_,_,_,o,_,_,e,ex,_⟩:=I.hok p _ hk
      exact⟨o,e,ex⟩
    obtain⟨o,e,ex⟩:=z
    refine⟨⟨o,e,ex.1⟩,fun a e2=>?_⟩
    cases e2
    exact⟨o,e,ex.2.1⟩
   ·obtain⟨o,_,_,_,e,ex,_⟩:=I.hok p _ hk
    refine⟨⟨o,e,ex.1⟩,fun a e2=>?_⟩
    cases e2
    exact⟨o,e,ex.2.1⟩
 | _=>exact False.elim ty
def Oi(K:Rv)(T:String)(r:V->List V->Hp->VK->Prop)(to:TE):TE:=fun σ H Q=>to σ H fun x H1=>tyV K T x H1/\r x [] H1 Q
def tBM(K:Rv)(T:String)(r:V->List V->Hp->VK->Prop)(to:TE)(t:TA):TE:=fun σ H Q=>to σ H fun x H1=>tyV K T x H1/\t σ H1 fun xs H2=>r x xs H2 Q
variable {o e:Expr}{es:List Expr}{to:TE}{t:TA}{name:Str}{apos cpos:Pos}{T id:String}{r:V->List V->Hp->VK->Prop}
theorem Nn(pa:PlainAttrs T)(slot:Slot T name id)(hty:typeOf (.builtin id)=pure (.type "method_descriptor"))(hm:MtR X id r)(ho:PE X o to)
 (hbase:attributeBase o name X.env (eval o X.env)=eval o X.env:=by rfl) (hline:(apos.endLine == cpos.line)=true:=by rfl) {K:Rv} (eK:X.K=K:=by rfl):PE X (.Call (.Attribute o name apos) [] [] cpos) (Oi K T r to):=by
 subst eK
 intro pins s σ H Q I h
 refine wpAny_Call_method0_late hbase hline (thn (ho pins s σ H _ I h) fun v s1 ⟨x,H1,I1,r1,ty,q1⟩=>?_)
 obtain⟨h1,h2⟩:=Kz I1 r1 ty
 exact⟨T,id,pa,slot,hty,h1,h2,Calls.callWith_builtin rfl (PySem.evalArgs_none (hm pins s1 σ H1 x [] v [] Q I1 r1 .nil q1))⟩
theorem Oy(pa:PlainAttrs T)(slot:Slot T name id)(hty:typeOf (.builtin id)=pure (.type "method_descriptor"))(hm:MtR X id r)(ho:PE X o to)(ha:PA X (e::es) t)
 (hbase:attributeBase o name X.env (eval o X.env)=eval o X.env:=by rfl)
 (hfew:((backTo cpos (starEach (e::es) X.env)).all (fun x=>!x.1)&&(backToKw cpos (keywordEach [] X.env)).all (fun x=>x.1.isSome)
  && decide ((e::es).length+([]:List Keyword).length+(if ([]:List Keyword).isEmpty then 0 else 1)<30))=true:=by rfl)
 (hline:(apos.endLine == cpos.line)=true:=by rfl) (hs:starEach (e::es) X.env=(false,eval e X.env)::starEach es X.env:=by rfl) (hplain:(backTo cpos (starEach es X.env)).any (·.1)=false:=by rfl) {K:Rv} (eK:X.K=K:=by rfl) :
 PE X (.Call (.Attribute o name apos) (e::es) [] cpos) (tBM K T r to t):=by
 subst eK
 intro pins s σ H Q I h
 refine wpAny_Call_method_late hbase hfew hline rfl (thn (ho pins s σ H _ I h) fun v s1 ⟨x,H1,I1,r1,ty,q1⟩=>?_)
 obtain⟨h1,h2⟩:=Kz I1 r1 ty
 refine⟨T,id,pa,slot,hty,h1,h2,?_⟩
 have hA:=ha cpos pins s1 σ H1 _ I1 q1
 rw[hs]at hA ⊢
 refine Calls.callWith_builtin (by show(false||(backTo cpos (starEach es X.env)).any (·.1))=false;rw[hplain]<;>rfl) (Calls.evalArgs_plain ?_)
 exact thn hA fun us s2 ⟨vs,H2,I2,r2,q2⟩=>hm pins s2 σ H2 x vs v us Q I2 r1 r2 q2
end
end L2
namespace L2
open PySem PySem.Spec PyProof.Rows
def MtM(X:Cx)(id:String)(r:V->List V->Hp->VK->Prop):Prop :=
 ∀ (pins:List (Addr×Obj)) (s:Shared) (σ:St) (H:Hp) (x:V) (xs:List V) (v:Value) (us:List Value) (Q:VK),Inv X pins σ H s->AZ x v->AJ xs us->r x xs H Q ->
   wpAny (model X.prog X.w) X.A (call (.builtin id) (v::us)) (EP X pins σ Q) X.xe s
theorem AJ.one{x:V}{us:List Value}(h:AJ [x] us):∃u,us=[u]/\AZ x u:=by
 cases h with
 | cons r t=>cases t;exact⟨_,rfl,r⟩
theorem AJ.two:∀{x y:V} {us:List Value},AJ [x,y] us->∃u v,us=[u,v]/\AZ x u/\AZ y v
 | _,_,_,.cons r (.cons q .nil)=>⟨_,_,rfl,r,q⟩
theorem AJ.zero:∀{us:List Value},AJ [] us->us=[]
 | _,.nil=>rfl
theorem AJ.dropLast{xs:List V}{us:List Value}(h:AJ xs us):AJ xs.dropLast us.dropLast:=by
 induction h with
 | nil=>exact .nil
 | cons r t ih =>
   cases t with
   | nil=>exact .nil
   | cons q t'=>exact .cons r ih
theorem AJ.rep{xs:List V}{us:List Value}(h:AJ xs us):∀k:Nat,AJ (RX k xs).flatten (RX k us).flatten
 | 0=>.nil
 | k+1=>by
   rw[Si,Si,Sj,Sj]
   exact AJ.append h (AJ.rep h k)
theorem Je{α:Type}(l:List α):l.eraseIdx (l.length-1)=l.dropLast:=by
 induction l with
 | nil=>rfl
 | cons a r ih =>
   cases r with
   | nil=>rfl
   | cons b r =>
     have e:(a::b::r).length-1=((b::r).length-1)+1:=by
      have h1:(a::b::r).length=r.length+2:=rfl
      have h2:(b::r).length=r.length+1:=rfl
      lia
     rw[e,List.eraseIdx_cons_succ,ih]
     all_goals rfl
theorem GC(its:List Value):∀(k:Nat) (acc:List Value),
 List.foldl (fun x1 x2=>x1++x2) acc.toArray (RX k its.toArray)=(acc++(RX k its).flatten).toArray
 | 0,acc=>by simp
 | k+1,acc=>by
   have e:acc.toArray++its.toArray=(acc++its).toArray:=by simp
   have e2:(acc++its)++(RX k its).flatten=acc++(RX (k+1) its).flatten:=by
    rw[Si,Sj,List.append_assoc]
   rw[<- e2,<- GC its k (acc++its),<- e,Si,List.foldl_cons]
section
variable {X:Cx}{pins:List (Addr×Obj)}{σ:St}{H:Hp}{s:Shared}{l b:Addr}{xs ys zs:List V}
theorem Inv.lset{its its':List Value}{n:Nat}{f:Array Value->Array Value}{t':Nat}(I:Inv X pins σ H s)(hH:H l=some (.lst xs))
 (e:s.heap.get? l=some { cls:=.type "list",data:=.seq its.toArray n }) (hf:f its.toArray=its'.toArray) (hv:AJ ys its') (hz:ys.length<=sizeLine) :
 Inv X pins σ (upd H l (.lst ys)) { s with heap:=s.heap.update l (Obj.mapSeq f),toks:=t' }:=by
 have q:=PySem.IsL.update e f
 rw[hf]at q
 refine I.write (x:=l) (e:=l) (by rw[hH];exact trivial) (.inl rfl) (fun b' u hb hu=>(Heap.get?_update_other s.heap (Obj.mapSeq f) (Ne.symm hb)).trans hu) ⟨_,q⟩ ?_
 exact⟨hz,its',_,hv,q⟩
theorem Inv.lnew{its:List Value}{t':Nat}(I:Inv X pins σ H s)(hv:AJ ys its)(hz:ys.length<=sizeLine) :
 Inv X pins σ (upd H s.heap.objs.size (.lst ys)) { s with heap:=s.heap.push { cls:=.type "list",data:=.seq its.toArray },toks:=t' } :=
 I.laid (fun _ _ q=>Heap.get?_push_of_some _ q) (RK _) ⟨hz,its,0,hv,Heap.get?_push_size _ rfl⟩
theorem Inv.fresh(I:Inv X pins σ H s):H s.heap.objs.size=none:=I.hok.fresh (RK _)
theorem Inv.lstM(I:Inv X pins σ H s)(hH:H l=some (.lst xs)):xs.length<=sizeLine/\∃(its:List Value) (n:Nat),AJ xs its/\xs.length=its.length/\s.heap.get? l=some { cls:=.type "list",data:=.seq its.toArray n }:=by
 obtain⟨z,its,n,r,e⟩:=I.hok l _ hH
 exact⟨z,its,n,r,r.length,e⟩
theorem Ln{n:Nat}(h:n<=sizeLine):Builtin.List.listTooLong n=false:=by
 unfold Builtin.List.listTooLong
 exact decide_eq_false (by lia)
end
section
variable {X:Cx}
inductive Jt(x:V)(vs:List V)(H:Hp)(Q:VK):Prop
 | mk (l:_) (xs:_) (y:_) (h1:x = .ref l) (h2:vs=[y]) (h3:H l=some (.lst xs)) (h4:xs.length<sizeLine) (h5:Q .non (upd H l (.lst (xs++[y])))):Jt x vs H Q
theorem EE:MtM X "list.append" Jt:=by
 intro pins s σ H x vs v us Q I rx rv h
 obtain⟨l,xs,y,rfl,rfl,hH,hz,q⟩:=h
 cases rx
 obtain⟨u,rfl,ru⟩:=rv.one
 obtain⟨z,its,n,r,hl,e⟩:=I.lstM hH
 refine call_meets F.slot_list_append ⟨_,e,rfl⟩ F.entry_list_append (F.args_list_append_2 _ _) (PySem.list_append l its.toArray n u (by rw[Sg];lia)) ⟨e,?_⟩
 refine⟨.non,_,I.lset (its':=its++[u]) hH e (by simp) (r.append (.cons ru .nil)) ?_,rfl,q⟩
 rw[S6,Sk]
 lia
inductive Oq(x:V)(vs:List V)(H:Hp)(Q:VK):Prop
 | mk (l:_) (xs:_) (y:_) (h1:x = .ref l) (h2:vs=[]) (h3:H l=some (.lst xs)) (h4:xs[xs.length-1]? = some y) (h5:Q y (upd H l (.lst xs.dropLast))):Oq x vs H Q
theorem Ny:MtM X "list.pop" Oq:=by
 intro pins s σ H x vs v us Q I rx rv h
 obtain⟨l,xs,y,rfl,rfl,hH,hy,q⟩:=h
 cases rx
 have hus:=rv.zero
 subst hus
 obtain⟨z,its,n,r,hl,e⟩:=I.lstM hH
 obtain⟨u,hu,ru⟩:=r.get hy
 have hy':its.toArray[its.toArray.size-1]? = some u:=by
  show its.toArray[its.length-1]? = some u
  rw[<- Sl,<- hl]
  exact hu
 refine call_meets F.slot_list_pop ⟨_,e,rfl⟩ F.entry_list_pop (F.args_list_pop_1 _) (MeetsSeq.list_pop_last l its.toArray n u hy' (by rw[Sg];lia)) ⟨e,?_⟩
 refine⟨y,_,I.lset (its':=its.dropLast) hH e ?_ r.dropLast ?_,ru,q⟩
 ·show its.toArray.eraseIdxIfInBounds (its.toArray.size-1)=its.dropLast.toArray
  rw[Sg,List.eraseIdxIfInBounds_toArray,Je]
 ·rw[List.length_dropLast]
  lia
inductive Ot(x:V)(y:V)(H:Hp)(Q:VK):Prop
 | mk (l:_) (b:_) (xs:_) (zs:_) (h1:x = .ref l) (h2:y = .ref b) (h3:H l=some (.lst xs)) (h4:H b=some (.lst zs)) (h5:xs.length+zs.length<=sizeLine) (h6:∀p,H p=none->Q (.ref p) (upd H p (.lst (xs++zs)))):Ot x y H Q
theorem Ew:OpR X (binaryOp .Add) Ot:=by
 intro pins s σ H x y v u Q I rx ry h
 obtain⟨l,b,xs,zs,rfl,rfl,hH,hB,hz,q⟩:=h
 cases rx
 cases ry
 obtain⟨z,its,n,r,hl,e⟩:=I.lstM hH
 obtain⟨z2,its2,n2,r2,hl2,e2⟩:=I.lstM hB
 refine PySem.P.add_list e e2 ?_ (by rw[Sg,Sg];lia)
 have ea:its.toArray++its2.toArray=(its++its2).toArray:=by simp
 rw[ea]
 exact⟨.ref _,_,I.lnew (t':=s.toks) (r.append r2) (by rw[S6];lia),rfl,q _ I.fresh⟩
inductive Oo(x:V)(y:V)(H:Hp)(Q:VK):Prop
 | mk (l:_) (k:_) (xs:_) (h1:x = .ref l) (h2:y = .int k) (h3:H l=some (.lst xs)) (h4 : -(2 ^ 63)<=k) (h5:k<2 ^ 63) (h6:xs.length*k.toNat<=sizeLine) (h7:∀p,H p=none->Q (.ref p) (upd H p (.lst (RX k.toNat xs).flatten))):Oo x y H Q
theorem My{α:Type}(xs:List α)(k:Nat):(RX k xs).flatten.length=k*xs.length:=by
 induction k with
 | zero=>simp
 | succ k ih=>rw[Si,Sj,S6,ih,Nat.succ_mul,Nat.add_comm]
theorem FE:OpR X (binaryOp .Mult) Oo:=by
 intro pins s σ H x y v u Q I rx ry h
 obtain⟨l,k,xs,rfl,rfl,hH,h1,h2,hz,q⟩:=h
 cases rx
 obtain⟨t,rfl⟩:=ry
 obtain⟨z,its,n,r,hl,e⟩:=I.lstM hH
 have hlen:its.toArray.size*k.toNat<=sizeLine:=by rw[Sg,<- hl];exact hz
 have hcap:¬its.toArray.size*k.toNat > (2 ^ 63-1) / 8:=by
  have:(sizeLine:Nat)<=(2 ^ 63-1) / 8:=by decide
  lia
 have hfit:¬(!Builtin.List.listFitsIndex k)=true:=by
  rw[fitsIndex_both h1 h2]
  exact Bool.false_ne_true
 have hlong:¬Builtin.List.listTooLong (its.toArray.size*k.toNat)=true:=by
  rw[Ln hlen]
  exact Bool.false_ne_true
 have hnew:List.foldl (fun x1 x2=>x1++x2) #[] (RX (if its.toArray.isEmpty=true then 0 else k.toNat) its.toArray)=(RX k.toNat its).flatten.toArray:=by
  have f0:∀m:Nat,List.foldl (fun x1 x2=>x1++x2) #[] (RX m its.toArray)=(RX m its).flatten.toArray:=fun m=>by
   have:=GC its m []
   rw[List.nil_append]at this
   exact this
  rw[f0]
  cases its with
  | nil=>simp
  | cons a r'=>rw[if_neg (by simp)]
 refine wpAny_binaryOp_repeat_ref (T:="list") (U:="int") (by decide) ⟨_,e,rfl⟩ (fun s'=>typeIs_int s' k t) noFill_list_mul F.fills_int_mul F.slot_int_rmul repeat_list F.slot_int_index.lookup
  (call_meets F.slot_int_rmul (typeIs_int s k t) F.entry_int_rmul (F.args_int_rmul_2 _ _) (int___rmul___int_list k t l its.toArray n)
   ⟨e,rfl,⟨_,e,rfl⟩,call_meets F.slot_list_mul ⟨_,e,rfl⟩ F.entry_list_mul (F.args_list_mul_2 _ _) (AutoListH.list___mul___list_int_3 l its.toArray n k t hfit hcap hlong) ⟨e,?_⟩⟩)
 rw[hnew]
 exact⟨.ref _,_,I.lnew (t':=s.toks) (r.rep k.toNat) (by rw[My,Sm];exact hz),rfl,q _ I.fresh⟩
end
section
variable {prog:Program}{w:World}{A:Around}{E:Value->Shared->Prop}{s:Shared}
set_option maxRecDepth 100000 in
end
section
variable {X:Cx}
end
end L2
namespace Att
open PySem PySem.W PySem.Calls PyProof.Rows
theorem ints_of_wellAll{P:Params}{h:Heap}:∀(ns:List Int) (vs:List Value),WellAll P h vs (ns.map WData.int)->IntsAre vs ns:=by
 intro ns
 induction ns with
 | nil =>
   intro vs w
   rw[List.map_nil]at w
   cases w
   exact .nil
 | cons n ns ih =>
   intro vs w
   rw[Sn]at w
   cases w with
   | cons a b =>
     cases a
     exact .cons _ _ (ih _ b)
theorem script_of{l:OpenLaw}{n:Nat}(hn:l.most=some n){P:Params}{h:Heap}{args:List WData}{vals:List Value}
 (hpre:l.row.toRowW.claim.pre args=true) (hwl:WellAll P h vals args) :
 ∃a vs ns,vals=[Value.ref a]/\args=[WData.list (ns.map WData.int)]/\h.get? a=some { cls:=.type "list",data:=.seq vs.toArray }/\IntsAre vs ns/\ns.length<=n:=by
 have hsh:WShape.hasAll [] args [.list .int]=true:=(pre_splitW hpre).1
 have hc:l.pre.holds [] { args:=args }=true:=(pre_splitW hpre).2
 obtain⟨d,r,rfl,h1,h2⟩:=hasAllW_cons hsh
 obtain rfl:=hasAllW_nil h2
 obtain⟨xs,rfl,h3⟩:=hasW_list h1
 obtain⟨ns,rfl⟩:=items_int h3
 have hlen:ns.length<=n:=by
  unfold OpenLaw.pre at hc
  have h4:(WTm.not (.lt (.lit (.int (n:Int))) (.len (.arg 0)))).holds [] { args:=[.list (ns.map .int)] }=true:=by
   have h4:=(holds_andW hc).1
   rw[hn]at h4
   exact h4
  have h5:=condW_of h4 (w_not (w_lt w_lit (w_len_list (w_arg rfl))))
  rw[S7]at h5
  refine Nat.le_of_not_lt fun q=>?_
  have q':(n:Int)<((ns.length:Nat):Int):=by lia
  first
   | (rw[decide_eq_true q']at h5;exact absurd h5 (by decide))
   | (simp at h5;lia)
 cases hwl with
 | cons w1 w2 =>
   cases w2
   cases w1 with
   | list ho hall=>exact⟨_,_,ns,rfl,rfl,ho,ints_of_wellAll ns _ hall,hlen⟩
theorem post_true(l:OpenLaw)(args:List WData):l.row.toRowW.claim.post args (.bool true) args=true :=
 postW_of (r:=l.row.toRowW) (X:=(true == true))
  (show WShape.has [] (.bool true) .bool=true by first | rfl | decide | simp[WShape.has,WShape.arms,WShape.armsAll])
  (show(WTm.eq .res (.lit (.bool true))).value [] { args:=args,res:=some (.bool true),after:=args }=some (.bool (true == true)) from w_eq_bool (w_res rfl) w_lit) rfl
theorem attach_call{l:OpenLaw}{n:Nat}{q:Program}{loose:List Str}{XP:(Str->Option Value)->Heap->Prop}{YP:World->Heap->Prop}{d:DefRec}
 (hn:l.most=some n) (hdf:d.params.defaults=[])
 (call:∀(w:World) (s₀ s₁:Shared) (mg mb:Str->Option Value) (fa:Addr) (o:Obj) (pm cd doc:Value) (a:Addr) (vs:List Value) (ns:List Int),
  Ground q loose [] XP w s₀ mg mb s₁.heap->YP w s₁.heap ->
  s₁.heap.get? fa=some o->o.data = .func (docDef d.name d.params d.body d.scope pm cd doc)->s₁.heap.CodeRec cd d.name->mg d.name=some (.ref fa) ->
  s₁.heap.get? a=some { cls:=.type "list",data:=.seq vs.toArray }->IntsAre vs ns->ns.length<=n->s₁.gens = #[] ->
  codeAny (model l.prog w) callerA (.call (.ref fa) ⟨[.ref a],[]⟩) (fun r s'=>r = .ok (.ret (.bool true))/\OldK s₁.heap s'.heap/\s'.os=s₁.os/\AllBare s'.gens) s₁) :
 WalkO q loose XP YP l.row.toRowW d [] (fun f vs=>PySem.call f vs):=by
 intro w s₀ s₁ mg mb G Y fa o pm cd doc dV kV ho hd hcd hD hmg hg args vals as hpre hlay hrd hwl hlo
 obtain rfl:dV = .none:=Dflts.none hD hdf
 obtain rfl:kV = .none:=Dflts.noKw hD
 obtain⟨a,vs,ns,rfl,rfl,hobj,hints,hlen⟩:=script_of hn hpre hwl
 refine enter_call (codeAny_mono (call w s₀ s₁ mg mb fa o pm cd doc a vs ns G Y ho (fd_plain hd) hcd hmg hobj hints hlen hg) fun r s' hq=>?_)
 obtain⟨rfl,h2,h3,h4⟩:=hq
 exact⟨.inl ⟨.bool true,.bool true,[],rfl,fun _=>rfl,.bool true,post_true l _,fun _=>⟨List.Pairwise.nil,fun _ hm=>(nomatch hm)⟩⟩,h2,h3,h4⟩
section
variable {prog:Program}{w:World}{A:Around}{E:Value->Shared->Prop}{s:Shared}{K:Frag}
end
end Att
namespace L2
open PySem PySem.Spec PyProof.Rows
theorem JW{vs:List Value}{ns:List Int}(h:IntsAre vs ns):AJ (ns.map V.int) vs:=by
 induction h with
 | nil=>exact .nil
 | cons n t h ih=>exact .cons ⟨t,rfl⟩ ih
end L2
namespace L2
open PySem PySem.Spec PyProof.Rows
end L2
namespace L2
open PySem PySem.Spec PyProof.Rows
def Ao(s:Stmt):Arguments:=match s with
 | .FunctionDef _ a _ _ _ _ _ _ _ _=>a
 | _=>{ posonlyargs:=[],args:=[],vararg:=none,kwonlyargs:=[],kw_defaults:=[],kwarg:=none,defaults:=[] }
def Am(s:Stmt):List Stmt:=match s with
 | .FunctionDef _ _ b _ _ _ _ _ _ _=>b
 | _=>[]
def Ae(s:Stmt):Scope:=match s with
 | .FunctionDef _ _ _ _ _ _ sc _ _ _=>sc
 | _=>{ kind:=.function,names:=[],isGenerator:=false,isCoroutine:=false }
abbrev CX0:CXT:=fun _ _ _ _ _ _=>False
abbrev E0:XK:=fun _ _ _=>False
theorem Oz{X:Cx}:Jh CX0 X E0:=fun _ _ _ _ _ _ _ h=>h.elim
structure Fun(K:Rv)(x qual:Str)(st:Stmt)(f:Addr)(fd:FuncData):Prop where
 ex:∃(oc:Value) (od:Option Addr) (kV doc pm:Value) (an:Option Addr) (cdv ct:Value) (osl:Array (Option Value)),
  fd=S9 x qual (Ao st) (Am st) (Ae st) .none kV doc pm an cdv ct/\K.lookup f=some ⟨oc,od,.func fd,osl⟩/\Sa K cdv qual=true
 kp:RP K (.ref f)=true
section
variable {P:Program}{w:World}{K:Rv}{mg:Str->Option Value}{base:Heap}
theorem Fun.ok{x qual:Str}{st:Stmt}{f:Addr}{fd:FuncData}{N ps:List Str}{k:Nat}{sp:Sp}(F:Fun K x qual st f fd)(S:Aq N ps (Ae st))(len:∀vs H Q E,sp vs H Q E->vs.length=ps.length)
 (hbody:∀(cdv:Value) (A:Around) (outer:List Env) (s:Shared) (H:Hp) (vs:List V) (Q:VK) (E:XK),Ca k (A.deeper (envOfC qual (Ae st) s.heap.objs.size f cdv))->sp vs H Q E ->
  ∃t,PSs (Jf CX0 P w K mg base N qual (Ae st) f cdv A outer s H E).nox (Am st) t/\t { nx:=fun _ H'=>Q .non H',rt:=Q } (E1 N vs) H):AO P w K mg base CX0 (k+1) f fd ps sp:=by
 obtain⟨oc,od,kV,doc,pm,an,cdv,ct,osl,rfl,lk,hcd⟩:=F.ex
 refine MV lk hcd S len fun A outer s H vs Q E hr hsp=>?_
 obtain⟨t,h,q⟩:=hbody cdv A outer s H vs Q E hr hsp
 exact⟨t,h.nox,q⟩
theorem Fun.binds{x qual:Str}{st:Stmt}{f:Addr}{fd:FuncData}{ps:List Str}(F:Fun K x qual st f fd)
 (h:∀(kV doc pm:Value) (an:Option Addr) (cdv ct:Value) (us:List Value),us.length=ps.length->bindArgs (S9 x qual (Ao st) (Am st) (Ae st) .none kV doc pm an cdv ct) ⟨us,[]⟩=pure (ps.zip us)):Cc K fd ps []:=by
 obtain⟨oc,od,kV,doc,pm,an,cdv,ct,osl,rfl,lk,hcd⟩:=F.ex
 exact .all (h kV doc pm an cdv ct)
theorem AA{x qual:Str}{st:Stmt}{f:Addr}{oc:Value}{od an:Option Addr}{osl:Array (Option Value)}{kV doc pm cdv ct:Value}(l:K.lookup f=some ⟨oc,od,.func (S9 x qual (Ao st) (Am st) (Ae st) .none kV doc pm an cdv ct),osl⟩)
 (c:Sa K cdv qual=true) (k:RP K (.ref f)=true):Fun K x qual st f (S9 x qual (Ao st) (Am st) (Ae st) .none kV doc pm an cdv ct):=⟨⟨oc,od,kV,doc,pm,an,cdv,ct,osl,rfl,l,c⟩,k⟩
end
theorem AF{n:Nat}(h:n<=1000):n<sizeLine:=So h (by decide)
section
variable {X:Cx}
theorem pv(i:Nat){x:Str}{pos:Pos}(hN:X.N[i]? = some x:=by rfl)(hv:Vis X.env.scope x:=by first | exact Or.inl rfl | exact Or.inr (Or.inl rfl) | exact Or.inr (Or.inr rfl))(hd:(x == ("__debug__" : Str))=false:=by decide)
 (hcd:(x == ("__classdict__" : Str))=false:=by decide):PE X (.Name x pos) (KH i):=Nj hN hv hd hcd
end
theorem CF{A B:Prop}(h:B):if false=true then A else B:=by
 rw[if_neg Bool.false_ne_true]
 exact h
theorem OE{A B:Prop}(h:A):if true=true then A else B:=by
 rw[if_pos rfl]
 exact h
theorem Jd{c A B:Prop}[Decidable c](h1:c->A)(h2:¬c->B):if c then A else B:=by
 by_cases h:c
 ·rw[if_pos h]
  exact h1 h
 ·rw[if_neg h]
  exact h2 h
def Af(H H':Hp):Prop:=∀b o,H b=some o->H' b=some o
theorem Af.refl(H:Hp):Af H H:=fun _ _ h=>h
theorem Af.trans{H H1 H2:Hp}(a:Af H H1)(b:Af H1 H2):Af H H2:=fun c o h=>b c o (a c o h)
theorem Af.seq{K:Rv}{H H':Hp}{a:Addr}{xs:List V}(e:Af H H')(h:SqL K H a xs):SqL K H' a xs:=by
 rcases h with (h | ⟨o,h⟩) | h
 ·exact .inl (.inl (e _ _ h))
 ·exact .inl (.inr ⟨o,e _ _ h⟩)
 ·exact .inr h
end L2
namespace L2
open PySem PySem.Spec PyProof.Rows
section
variable {κ:Type}[DecidableEq κ]
end
theorem OD{P:Program}{w:World}{k:Key}{u:Value}(r:AZ (kV k) u):(CJ P w).is k u=true:=by
 cases k with
 | inl i=>obtain⟨t,e⟩:=(show ∃t,u=Value.int i t from r);subst e;exact Ij P w i t
 | inr x=>obtain⟨t,e⟩:=(show ∃t,u=Value.str x t from r);subst e;exact Ii P w x t
theorem Gz{P:Program}{w:World}:∀{ks:List Key} {us:List Value},AJ (ks.map kV) us->ItemsAre (CJ P w) ks us
 | [],_,r=>by rw[List.map_nil]at r;cases r;exact .nil
 | k::ks,_,r=>by
   rw[Sn]at r
   cases r with
   | cons h t=>exact .cons (OD h) (Gz t)
section
variable {P:Program}{w:World}{H:Hp}{h:Heap}{a:Addr}
end
section
variable {X:Cx}{pins:List (Addr×Obj)}{σ:St}{H:Hp}{s:Shared}{a:Addr}{y v:V}{u r:Value}{o:Option V}{A:Around}{E:Value->Shared->Prop}
end
section
variable {X:Cx}{pins:List (Addr×Obj)}{σ:St}{H:Hp}{s:Shared}{a:Addr}{kvs:List (Key×V)}{k:Key}{u:Value}{A:Around}{E:Value->Shared->Prop}
end
section
variable {X:Cx}{o i e value:Expr}{pos pos' tpos:Pos}{td ty tv:TE}
end
section
variable {X:Cx}{pos:Pos}
end
structure M1(X:Cx)(o:Expr)(m:Str)(apos:Pos)(e:Expr)(cpos:Pos):Prop where
 base:attributeBase o m X.env (eval o X.env)=eval o X.env
 few:((backTo cpos (starEach [e] X.env)).all (fun x=>!x.1)&&(backToKw cpos (keywordEach [] X.env)).all (fun x=>x.1.isSome)
  && decide (([e]:List Expr).length+([]:List Keyword).length+(if ([]:List Keyword).isEmpty then 0 else 1)<30))=true
 line:(apos.endLine == cpos.line)=true
 trees:backTo cpos (starEach [e] X.env)=[(false,eval e X.env)]
structure M2(X:Cx)(o:Expr)(m:Str)(apos:Pos)(e f:Expr)(cpos:Pos):Prop where
 base:attributeBase o m X.env (eval o X.env)=eval o X.env
 few:((backTo cpos (starEach [e,f] X.env)).all (fun x=>!x.1)&&(backToKw cpos (keywordEach [] X.env)).all (fun x=>x.1.isSome)
  && decide (([e,f]:List Expr).length+([]:List Keyword).length+(if ([]:List Keyword).isEmpty then 0 else 1)<30))=true
 line:(apos.endLine == cpos.line)=true
 trees:backTo cpos (starEach [e,f] X.env)=[(false,eval e X.env),(false,eval f X.env)]
section
variable {X:Cx}{pins:List (Addr×Obj)}{σ:St}{H:Hp}{s:Shared}{a:Addr}{y d:V}{u r:Value}{o:Option V}{A:Around}{E:Value->Shared->Prop}
end
section
variable {X:Cx}{o e f:Expr}{apos cpos:Pos}{td ty tx:TE}
end
section
variable {X:Cx}{pins:List (Addr×Obj)}{σ:St}{H:Hp}{s:Shared}{a:Addr}{kvs:List (Key×V)}{A:Around}{E:Value->Shared->Prop}
end
section
variable {X:Cx}{pins:List (Addr×Obj)}{σ:St}{H:Hp}{s:Shared}{a:Addr}{y:V}{u:Value}{A:Around}{E:Value->Shared->Prop}
end
end L2
namespace Nm
def msr(a b:Int):Int:=if b<0 then -(Sr a b:Int) else (Sr a b:Int)
theorem gcd_pos{a b:Int}(hb:b≠0):0<Sr a b:=Ss fun h=>hb (Int.gcd_eq_zero_iff.mp h).2
theorem msr_ne{a b:Int}(hb:b≠0):msr a b≠0:=by
 have:=gcd_pos (a:=a) hb
 unfold msr;split<;>lia
theorem fdiv_neg_dvd{a g:Int}(h:g∣a):a.fdiv (-g) = -(a / g):=by
 obtain⟨k,rfl⟩:=h
 by_cases hg:g=0
 ·subst hg;simp
 ·rw[Int.mul_ediv_cancel_left _ hg,show g*k = -g * -k by rw[Int.neg_mul_neg],Su _ (by lia)]
theorem fdiv_dvd{a g:Int}(h:g∣a):a.fdiv g=a / g:=by
 obtain⟨k,rfl⟩:=h
 by_cases hg:g=0
 ·subst hg;simp
 ·rw[Int.mul_ediv_cancel_left _ hg,Su _ hg]
theorem top_msr{a b:Int}(hb:b≠0):a.fdiv (msr a b)=(Sv a b).num:=by
 rw[Rat.num_divInt,Sw b a]
 have d:(Sr a b:Int)∣a:=Sx ..
 unfold msr
 split
 ·rename_i h
  rw[fdiv_neg_dvd d,Int.sign_eq_neg_one_of_neg h,Int.neg_mul,Sy,Int.neg_ediv_of_dvd d]
 ·rw[fdiv_dvd d,Int.sign_eq_one_of_pos (by lia),Sy]
theorem bottom_msr{a b:Int}(hb:b≠0):b.fdiv (msr a b)=(Sv a b).den:=by
 rw[Rat.den_divInt,if_neg hb,Sw b a]
 have d:(Sr a b:Int)∣b:=Sz ..
 rw[Int.natCast_ediv]
 unfold msr
 split
 ·rename_i h
  rw[fdiv_neg_dvd d,<- Int.neg_ediv_of_dvd d,Int.ofNat_natAbs_of_nonpos (by lia)]
 ·rw[fdiv_dvd d,Int.natAbs_of_nonneg (by lia)]
theorem gcd_turn(x y:Int):Sr y (x % y)=Sr x y:=by
 have e:x % y+y*(x / y)=x:=Int.emod_add_mul_ediv x y
 have h:Sr (x % y+y*(x / y)) y=Sr (x % y) y:=Int.gcd_add_mul_left_left ..
 rw[e]at h
 rw[h,Sw]
theorem abs_if(i:Int):(if i<0 then -i else i)=(i.natAbs:Int):=by split<;>lia
theorem num_mul(q:Rat):((q.num:Int):Rat)=q*((q.den:Int):Rat):=by
 have hd:((q.den:Nat):Int)≠0:=by have:=q.den_pos;lia
 have h1:q=(q.num:Rat) / ((q.den:Int):Rat):=by
  have:=SA q
  rw[SD]at this
  exact this.symm
 have h0:(((q.den:Int)):Rat)≠0:=fun z=>hd (by exact_mod_cast z)
 conv=>rhs;lhs;rw[h1]
 rw[SE h0]
theorem den_ne(q:Rat):((q.den:Nat):Int)≠0:=by have:=q.den_pos;lia
theorem cast_ne{a:Int}(h:a≠0):(a:Rat)≠0:=fun z=>h (by exact_mod_cast z)
theorem div_eq{t b:Int}{q:Rat}(hb:b≠0)(h:(t:Rat)=q*(b:Rat)):Sv t b=q:=by
 rw[SD,h,Rat.mul_div_cancel (cast_ne hb)]
theorem plus_eq(p q:Rat):Sv (p.num*q.den+q.num*p.den) (p.den*q.den)=p+q :=
 div_eq (SF (den_ne p) (den_ne q)) (by rw[SG,SH,SH,SH,num_mul p,num_mul q];grind)
theorem minus_eq(p q:Rat):Sv (p.num*q.den-q.num*p.den) (p.den*q.den)=p-q :=
 div_eq (SF (den_ne p) (den_ne q)) (by rw[SI,SH,SH,SH,num_mul p,num_mul q];grind)
theorem times_eq(p q:Rat):Sv (p.num*q.num) (p.den*q.den)=p*q :=
 div_eq (SF (den_ne p) (den_ne q)) (by rw[SH,SH,num_mul p,num_mul q];grind)
theorem pow_add(x:Rat)(m:Nat):∀n:Nat,x ^ (m+n)=x ^ m*x ^ n
 | 0=>by rw[SJ,SK];grind
 | n+1=>by rw[<- Nat.add_assoc,SM,SM,pow_add x m n];grind
end Nm
namespace Cv
def ev:List Rat->Rat->Rat
 | [],_=>0
 | q::r,x=>q+x*ev r x
def strip:List Rat->List Rat
 | []=>[]
 | q::r=>if strip r=[]/\q=0 then [] else q::strip r
theorem ev_strip(x:Rat):∀qs,ev (strip qs) x=ev qs x
 | []=>rfl
 | q::r=>by
   have ih:=ev_strip x r
   unfold strip
   split
   ·rename_i h
    rw[h.1]at ih
    show(0:Rat)=q+x*ev r x
    rw[<- ih,h.2];show(0:Rat)=0+x*0;grind
   ·show q+x*ev (strip r) x=_
    rw[ih];rfl
theorem strip_length:∀qs,(strip qs).length<=qs.length
 | []=>RK _
 | q::r=>by
   have ih:=strip_length r
   unfold strip
   split
   ·exact RM _
   ·exact Nat.succ_le_succ ih
theorem strip_last:∀qs,strip qs≠[]->(strip qs)[(strip qs).length-1]? ≠ some 0
 | [],h=>absurd rfl h
 | q::r,h=>by
   have ih:=strip_last r
   unfold strip at h ⊢
   split at h
   ·exact absurd rfl h
   ·rename_i hc
    rw[if_neg hc]
    by_cases e:strip r=[]
    ·rw[e]
     intro z
     have z':q=0:=by simpa using z
     exact hc ⟨e,z'⟩
    ·have hl:0<(strip r).length:=SN.mpr e
     rw[SO,show(strip r).length+1-1=((strip r).length-1)+1 by lia,SQ]
     exact ih e
theorem strip_mem:∀qs q,q∈strip qs->q∈qs
 | [],_,h=>h
 | p::r,q,h=>by
   unfold strip at h
   split at h
   ·cases h
   ·rcases RC.mp h with e | e
    ·exact e ▸ Rz
    ·exact RA _ (strip_mem r q e)
theorem take_strip:∀(qs:List Rat) (w:Nat),(∀j q,w<=j->qs[j]? = some q->q=0)->(w=0\/∃q,qs[w-1]? = some q/\q≠0)->qs.take w=strip qs
 | [],w,_,_=>by simp[strip]
 | p::r,0,h,_=>by
   have ih:=take_strip r 0 (fun j q _ e=>h (j+1) q (by lia) (by simpa using e)) (.inl rfl)
   have hp:p=0:=h 0 p (RK _) rfl
   unfold strip
   rw[<- ih,if_pos ⟨rfl,hp⟩];rfl
 | p::r,w+1,h,h2=>by
   have hz:∀j q,w<=j->r[j]? = some q->q=0:=fun j q hj e=>h (j+1) q (by lia) (by simpa using e)
   by_cases hw:w=0
   ·subst hw
    have ih:=take_strip r 0 hz (.inl rfl)
    rcases h2 with z | ⟨q,e,hq⟩
    ·exact absurd z (by lia)
    ·have e':p=q:=by simpa using e
     subst e'
     unfold strip
     rw[<- ih,if_neg (fun z=>hq z.2)];rfl
   ·have ih:=take_strip r w hz (by
     rcases h2 with z | ⟨q,e,hq⟩
     ·exact absurd z (by lia)
     ·refine .inr ⟨q,?_,hq⟩
      rw[show w+1-1=(w-1)+1 by lia,SQ]at e
      exact e)
    have hne:strip r≠[]:=by
     rw[<- ih]
     rcases h2 with z | ⟨q,e,hq⟩
     ·exact absurd z (by lia)
     ·rw[show w+1-1=(w-1)+1 by lia,SQ]at e
      intro z
      have hl:0<(r.take w).length:=by
       rw[RY]
       have:=(RF.mp e).1
       lia
      rw[z]at hl;simp at hl
    unfold strip
    rw[<- ih,if_neg (fun z=>hne (by rw[<- ih];exact z.1))];rfl
def pw:List Rat->Rat->Rat->Rat
 | [],_,_=>0
 | q::r,x,p=>q*p+pw r x (p*x)
theorem ev_scale(c x:Rat):∀qs,ev (qs.map (· * c)) x=ev qs x*c
 | []=>by show(0:Rat)=0*c;grind
 | q::r=>by
   show q*c+x*ev (r.map (· * c)) x=(q+x*ev r x)*c
   rw[ev_scale c x r];grind
theorem ev_snoc(x q:Rat):∀l:List Rat,ev (l++[q]) x=ev l x+q*x ^ l.length
 | []=>by show q+x*0=0+q*x ^ 0;rw[SK];grind
 | p::r=>by
   show p+x*ev (r++[q]) x=(p+x*ev r x)+q*x ^ (r.length+1)
   rw[ev_snoc x q r,SM];grind
theorem strip_zeros:∀(qs:List Rat) (n:Nat),strip (qs++RX n 0)=strip qs
 | [],0=>rfl
 | [],n+1=>by
   have ih:=strip_zeros [] n
   show strip (0::RX n 0)=[]
   unfold strip
   have e:strip (RX n 0)=[]:=by simpa [strip] using ih
   rw[if_pos ⟨e,rfl⟩]
 | q::r,n=>by
   have ih:=strip_zeros r n
   show strip (q::(r++RX n 0))=strip (q::r)
   unfold strip
   rw[ih]
theorem ev_set(x d:Rat):∀(l:List Rat) (i:Nat) (v:Rat),l[i]? = some v->ev (l.set i (v+d)) x=ev l x+d*x ^ i
 | [],_,_,h=>by simp at h
 | q::r,0,v,h=>by
   have e:q=v:=by simpa using h
   subst e
   show(q+d)+x*ev r x=(q+x*ev r x)+d*x ^ 0
   rw[SK];grind
 | q::r,i+1,v,h=>by
   show q+x*ev (r.set i (v+d)) x=(q+x*ev r x)+d*x ^ (i+1)
   rw[ev_set x d r i v (by simpa using h),SM];grind
theorem ev_zeros(x:Rat):∀n,ev (RX n 0) x=0
 | 0=>rfl
 | n+1=>by
   show(0:Rat)+x*ev (RX n 0) x=0
   rw[ev_zeros x n];grind
def evI(ts:List Int)(x:Rat):Rat:=ev (ts.map fun t:Int=>(t:Rat)) x
theorem evI_set(x:Rat)(l:List Int)(i:Nat)(v d:Int)(h:l[i]? = some v):evI (l.set i (v+d)) x=evI l x+(d:Rat)*x ^ i:=by
 unfold evI
 rw[SR,SG]
 exact ev_set x _ _ i _ (by rw[S3,h];rfl)
theorem evI_zeros(x:Rat)(n:Nat):evI (RX n 0) x=0:=by
 unfold evI
 rw[SS]
 exact ev_zeros x n
theorem evI_take_succ(x:Rat)(l:List Int)(i:Nat)(v:Int)(h:l[i]? = some v):evI (l.take (i+1)) x=evI (l.take i) x+(v:Rat)*x ^ i:=by
 have hi:i<l.length:=(RF.mp h).1
 unfold evI
 rw[SU,h]
 show ev ((l.take i++[v]).map _) x=_
 rw[SV]
 show ev (_++[(v:Rat)]) x=_
 rw[ev_snoc,S7,RY,Sd (by lia)]
theorem evI_cons(x:Rat)(t:Int)(l:List Int):evI (t::l) x=(t:Rat)+x*evI l x:=rfl
theorem evI_scale(x:Rat)(c:Int)(l:List Int):evI (l.map (c * ·)) x=(c:Rat)*evI l x:=by
 induction l with
 | nil=>show(0:Rat)=_*0;grind
 | cons t l ih=>rw[Sn,evI_cons,evI_cons,ih,SH];grind
theorem evI_last(x:Rat)(l:List Int)(t:Int)(h:l[l.length-1]? = some t):evI l x=evI (l.take (l.length-1)) x+(t:Rat)*x ^ (l.length-1):=by
 have hl:l.length-1<l.length:=(RF.mp h).1
 have:=evI_take_succ x l (l.length-1) t h
 rw[show l.length-1+1=l.length by lia,SW]at this
 exact this
def quot(c:Rat):List Rat->List Rat
 | []=>[]
 | [_]=>[]
 | _::b::l=>ev (b::l) c::quot c (b::l)
theorem quot_ev(c x:Rat):∀l:List Rat,ev l x=ev l c+(x-c)*ev (quot c l) x
 | []=>by show(0:Rat)=0+_*0;grind
 | [a]=>by show a+x*0=a+c*0+(x-c)*0;grind
 | a::b::l=>by
   have h:=quot_ev c x (b::l)
   show a+x*ev (b::l) x=a+c*ev (b::l) c+(x-c)*(ev (b::l) c+x*ev (quot c (b::l)) x)
   rw[h];grind
theorem quot_length(c:Rat):∀l:List Rat,(quot c l).length=l.length-1
 | []=>rfl
 | [_]=>rfl
 | _::b::l=>by
   show(quot c (b::l)).length+1=_
   rw[quot_length c (b::l)]
   simp
theorem ev_none(x:Rat):∀l:List Rat,(∀q∈l,q=0)->ev l x=0
 | [],_=>rfl
 | a::l,h=>by
   show a+x*ev l x=0
   rw[h a Rz,ev_none x l fun q hq=>h q (RA _ hq)]
   grind
theorem ident:∀(n:Nat) (l:List Rat),l.length<=n->∀s:Nat,(∀k:Nat,s<=k->ev l (k:Rat)=0)->∀q∈l,q=0
 | 0,l,hl,_,_=>by
   have e:l=[]:=SX (by lia)
   rw[e]
   exact fun q h=>nomatch h
 | n+1,[],_,_,_=>fun q h=>nomatch h
 | n+1,a::t,hl,s,h=>by
   have hs:=h s (RK _)
   have hq:∀q∈quot (s:Rat) (a::t),q=0:=ident n _ (by rw[quot_length];simp at hl ⊢;lia) (s+1) fun k hk=>by
    have e:=quot_ev (s:Rat) (k:Rat) (a::t)
    rw[h k (by lia),hs]at e
    have e2:((k:Rat)-(s:Rat))*ev (quot (s:Rat) (a::t)) (k:Rat)=0:=by grind
    rcases SY.mp e2 with z | z
    ·have z2:(k:Rat)=(s:Rat):=by grind
     have z3:k=s:=by exact_mod_cast z2
     lia
    ·exact z
   have hall:∀x,ev (a::t) x=0:=fun x=>by
    rw[quot_ev (s:Rat) x (a::t),hs,ev_none x _ hq];grind
   have ha:a=0:=by
    have:=hall 0
    show a=0
    have e:ev (a::t) 0=a+0*ev t 0:=rfl
    rw[e]at this
    grind
   have ht:∀q∈t,q=0:=ident n t (by simp at hl;lia) 1 fun k hk=>by
    have e:=hall (k:Rat)
    have e1:ev (a::t) (k:Rat)=a+(k:Rat)*ev t (k:Rat):=rfl
    rw[e1,ha]at e
    have e2:(k:Rat)*ev t (k:Rat)=0:=by grind
    rcases SY.mp e2 with z | z
    ·have z3:k=0:=by exact_mod_cast z
     lia
    ·exact z
   intro q hq'
   rcases RC.mp hq' with z | z
   ·rw[z];exact ha
   ·exact ht q z
def dif:List Rat->List Rat->List Rat
 | [],m=>m.map (· * (-1))
 | a::l,m=>(a-m.headD 0)::dif l m.tail
theorem ev_head(x:Rat)(m:List Rat):ev m x=m.headD 0+x*ev m.tail x:=by
 cases m with
 | nil=>show(0:Rat)=0+x*0;grind
 | cons b m=>rfl
theorem dif_ev(x:Rat):∀l m:List Rat,ev (dif l m) x=ev l x-ev m x
 | [],m=>by
   show ev (m.map (· * (-1))) x=0-ev m x
   rw[ev_scale];grind
 | a::l,m=>by
   show(a-m.headD 0)+x*ev (dif l m.tail) x=(a+x*ev l x)-ev m x
   rw[dif_ev x l m.tail,ev_head x m];grind
theorem dif_none:∀l m:List Rat,l.length=m.length->(∀q∈dif l m,q=0)->l=m
 | [],[],_,_=>rfl
 | [],_::_,e,_=>nomatch e
 | _::_,[],e,_=>nomatch e
 | a::l,b::m,e,h=>by
   have h1:a-b=0:=h _ Rz
   have h2:=dif_none l m (by simpa using e) fun q hq=>h q (RA _ hq)
   rw[h2,show a=b by grind]
theorem same_of(l m:List Rat)(e:l.length=m.length)(h:∀x,ev l x=ev m x):l=m :=
 dif_none l m e (ident _ _ (RK _) 0 fun k _=>by rw[dif_ev,h];grind)
end Cv
namespace L2
open PySem PySem.Spec PyProof.Rows
theorem Dj{env:Env}:∀(names:List (Str×NameKind)) (acc:List (Str×Addr)),(∀x∈names,x.2 = .free->∃c,env.cells.lookup x.1=some c) ->
 ∃cl:List (Str×Addr),(forIn (m:=Sem) names acc fun x r=>do
  if x.2 == .free then pure (ForInStep.yield ((x.1,<- cellOf env x.1)::r)) else pure (ForInStep.yield r))=pure cl /\
  (∀p∈cl,p∈acc\/env.cells.lookup p.1=some p.2)/\(∀p∈acc,p∈cl)/\∀x∈names,x.2 = .free->∃c,(x.1,c)∈cl
 | [],acc,_=>⟨acc,rfl,fun _ h=>.inl h,fun _ h=>h,fun _ h=>nomatch h⟩
 | x::r,acc,h=>by
   by_cases hk:x.2 = .free
   ·obtain⟨c,hc⟩:=h x Rz hk
    obtain⟨cl,e,h1,h2,h3⟩:=Dj r ((x.1,c)::acc) fun y hy=>h y (RA _ hy)
    refine⟨cl,?_,fun p hp=>?_,fun p hp=>h2 p (RA _ hp),fun y hy hf=>?_⟩
    ·rw[List.forIn_cons]
     have z:(x.2 == NameKind.free)=true:=by rw[hk];rfl
     have cell:cellOf env x.1=pure c:=by unfold cellOf;rw[hc]
     simp only[z,if_true,cell]
     exact e
    ·rcases h1 p hp with q | q
     ·rcases RC.mp q with rfl | q
      ·exact .inr hc
      ·exact .inl q
     ·exact .inr q
    ·rcases RC.mp hy with rfl | hy
     ·exact⟨c,h2 _ Rz⟩
     ·exact h3 y hy hf
   ·obtain⟨cl,e,h1,h2,h3⟩:=Dj r acc fun y hy=>h y (RA _ hy)
    refine⟨cl,?_,h1,h2,fun y hy hf=>?_⟩
    ·rw[List.forIn_cons]
     have z:(x.2 == NameKind.free)=false:=by
      cases e:x.2<;>first | rfl | exact absurd e hk
     simp only[z,Bool.false_eq_true,if_false]
     exact e
    ·rcases RC.mp hy with rfl | hy
     ·exact absurd hf hk
     ·exact h3 y hy hf
theorem DP{x:Str}{c:Addr}:∀{cl:List (Str×Addr)},(x,c)∈cl->∃c',cl.lookup x=some c'
 | [],h=>nomatch h
 | (y,d)::r,h=>by
   by_cases e:x=y
   ·subst e;exact⟨d,by simp⟩
   ·rcases RC.mp h with q | q
    ·cases q;exact absurd rfl e
    ·obtain⟨c',q'⟩:=DP q
     refine⟨c',?_⟩
     have:(x == y)=false:=by simpa using e
     rw[T3,this]
     exact q'
theorem DQ{scope:Scope}{env:Env}(h:∀x∈scope.names,x.2 = .free->∃c,env.cells.lookup x.1=some c) :
 ∃cl:List (Str×Addr),closureFor scope env=pure cl/\(∀x c,cl.lookup x=some c->env.cells.lookup x=some c)/\∀x∈scope.names,x.2 = .free->∃c,cl.lookup x.1=some c:=by
 obtain⟨cl,e,h1,_,h3⟩:=Dj scope.names [] h
 refine⟨cl,?_,fun x c q=>?_,fun x hx hf=>?_⟩
 ·unfold closureFor
  simp only[bind_pure]
  exact e
 ·rcases h1 _ (PySem.mem_of_lookup q) with z | z
  ·exact nomatch z
  ·exact z
 ·obtain⟨c,hc⟩:=h3 x hx hf
  exact DP hc
theorem Cj{env:Env}:∀{names:List (Str×NameKind)} {x:Str},names.lookup x=some .free ->
 (names.map fun(n,k)=>if (k == NameKind.free&&env.scope.kind == .function&&env.kindOf n == some .cell) then (n,NameKind.cell) else (n,k)).lookup x=some .cell \/
 (names.map fun(n,k)=>if (k == NameKind.free&&env.scope.kind == .function&&env.kindOf n == some .cell) then (n,NameKind.cell) else (n,k)).lookup x=some .free
 | [],_,h=>by simp at h
 | (n,k)::r,x,h=>by
   have ih:=@Cj env r x
   show T4 x ((if (k == NameKind.free&&env.scope.kind == .function&&env.kindOf n == some .cell)=true then (n,NameKind.cell) else (n,k))::_)=_\/T4 x ((if (k == NameKind.free&&env.scope.kind == .function&&env.kindOf n == some .cell)=true then (n,NameKind.cell) else (n,k))::_)=_
   cases hx:x == n with
   | true =>
     simp only[T3,hx]at h
     cases h
     by_cases hc:(NameKind.free == NameKind.free&&env.scope.kind == .function&&env.kindOf n == some .cell)=true
     ·rw[if_pos hc];simp[T3,hx]
     ·rw[if_neg hc];simp[T3,hx]
   | false =>
     simp only[T3,hx]at h
     by_cases hc:(k == NameKind.free&&env.scope.kind == .function&&env.kindOf n == some .cell)=true
     ·rw[if_pos hc];simp only[T3,hx];exact ih h
     ·rw[if_neg hc];simp only[T3,hx];exact ih h
theorem E6{env:Env}{x:Str}:∀{names:List (Str×NameKind)},(∀y∈names,y.2 ≠ .cell) ->
 ((names.map fun(n,k)=>if (k == NameKind.free&&env.scope.kind == .function&&env.kindOf n == some .cell) then (n,NameKind.cell) else (n,k)).lookup x=some .cell \/
  (names.map fun(n,k)=>if (k == NameKind.free&&env.scope.kind == .function&&env.kindOf n == some .cell) then (n,NameKind.cell) else (n,k)).lookup x=some .free)->(x,NameKind.free)∈names
 | [],_,h=>by simp at h
 | (n,k)::r,hc,h=>by
   have ih:=@E6 env x r fun y hy=>hc y (RA _ hy)
   have hk:k ≠ .cell:=hc (n,k) Rz
   change T4 x ((if (k == NameKind.free&&env.scope.kind == .function&&env.kindOf n == some .cell)=true then (n,NameKind.cell) else (n,k))::_)=_\/T4 x ((if (k == NameKind.free&&env.scope.kind == .function&&env.kindOf n == some .cell)=true then (n,NameKind.cell) else (n,k))::_)=_ at h
   cases hx:x == n with
   | true =>
     have e:x=n:=by simpa using hx
     subst e
     by_cases hq:(k == NameKind.free&&env.scope.kind == .function&&env.kindOf x == some .cell)=true
     ·have:k = .free:=by
       cases k<;>first | rfl | (simp at hq)
      subst this;exact Rz
     ·rw[if_neg hq]at h
      simp only[T3,hx]at h
      rcases h with h | h
      ·cases h;exact absurd rfl hk
      ·cases h;exact Rz
   | false =>
     refine RA _ (ih ?_)
     by_cases hq:(k == NameKind.free&&env.scope.kind == .function&&env.kindOf n == some .cell)=true
     ·rw[if_pos hq]at h;simpa only[T3,hx] using h
     ·rw[if_neg hq]at h;simpa only[T3,hx] using h
def BG(X:Cx)(N:List Str)(scope:Scope)(cl:List (Str×Addr))(C:Addr)(s:Shared)(H:Hp)(fp:List Addr):Cx :=
 { prog:=X.prog,w:=X.w,K:=X.K,mg:=X.mg,base:=X.base,A:=X.A,N:=N,s₀:=s,H₀:=H,env:=compEnvC scope cl C X.env,outer:=X.stack,stack:=X.stack,ex:=fp,
   fn:=fun _=>false,calm:=X.calm,pn:=[],xe:=fun _ _=>False }
def cS(nt:Nat)(js:List Nat)(σ:St):St:=RX nt none++js.map fun i=>σ.getD i none
abbrev Ee(ys:List Value):Obj:={ cls:=.type "list",data:=.seq ys.toArray ys.length }
theorem HA{prog:Program}{w:World}{A:Around}{R:Result->Shared->Prop}{s:Shared}{elt target iter:Expr}{ifs:List Expr}{scope:Scope}{pos:Pos}{it acc:Value}{env:Env}(I:Nat->Shared->Prop)
 (turn:∀n s,I n s->wpAny (model prog w) A (pyNext it) (fun r s₁=>match r with
  | none=>R (.ok .next) s₁
  | some v=>wpAny (model prog w) A (letOwnedTupleGo target it v) (fun _ s₁'=>wpAny (model prog w) A (assign target env v) (fun _ s₂ =>
   wpAny (model prog w) A (forIn ifs true fun c r=>if r=true then do let ok <- isTrue c env (eval c env);pure (ForInStep.yield ok) else pure (ForInStep.yield r)) (fun ok s₃ =>
    if ok=true then wpAny (model prog w) A (eval elt env) (fun x s₄ =>
     wpAny (model prog w) A (call (.builtin "list.append") [acc,x]) (fun _ s₅=>∃m,m<n/\I m s₅) (fun _ _=>False) s₄) (fun _ _=>False) s₃
    else ∃m,m<n/\I m s₃) (fun _ _=>False) s₂) (fun _ _=>False) s₁') (fun _ _=>False) s₁) (fun _ _=>False) s)
 (n:Nat) (h:I n s) :
 codeAny (model prog w) A (.compLoop (.ListComp elt [⟨target,iter,ifs,0⟩] scope pos) 0 it acc env) R s:=by
 refine codeAny_loop rfl I (fun n s hI=>?_) n h
 show wpAny _ A ((compTurn (.ListComp elt [⟨target,iter,ifs,0⟩] scope pos) 0 it acc env).onRaise (fun x=>do noteFrame x env;theTreesLotGoes x)) _ _ s
 refine wpAny_noted ?_
 rw[compTurn_list]
 refine wpAny_bind (wpAny_standAt (wpAny_bind (wpAny_mono (turn n s hI) (fun r s₁ h₁=>?_) fun _ _ h'=>h'.elim)))
 cases r with
 | none=>exact wpAny_pure h₁
 | some v =>
   refine wpAny_bind (wpAny_mono h₁ (fun _ s₁' h₁'=>?_) fun _ _ h'=>h'.elim)
   refine wpAny_bind (wpAny_mono h₁' (fun _ s₂ h₂=>wpAny_bind (wpAny_mono h₂ (fun ok s₃ h₃=>?_) fun _ _ h'=>h'.elim)) fun _ _ h'=>h'.elim)
   cases ok with
   | false=>exact wpAny_pure ⟨rfl,h₃⟩
   | true =>
     exact wpAny_bind (wpAny_bind (wpAny_mono h₃ (fun x s₄ h₄=>wpAny_bind (wpAny_mono h₄ (fun _ s₅ h₅=>wpAny_pure (wpAny_pure ⟨rfl,h₅⟩)) fun _ _ h'=>h'.elim)) fun _ _ h'=>h'.elim))
def PTs(X:Cx)(ifs:List Expr)(t:TT):Prop :=
 ∀ (pins:List (Addr×Obj)) (s:Shared) (σ:St) (H:Hp) (Q:Bool->Hp->Prop),Inv X pins σ H s->t σ H Q ->
   wpAny (model X.prog X.w) X.A (forIn ifs true fun c r=>if r=true then do let ok <- isTrue c X.env (eval c X.env);pure (ForInStep.yield ok) else pure (ForInStep.yield r)) (TP X pins σ Q) X.xe s
def JZ:TT:=fun _ H Q=>Q true H
theorem Bq{X:Cx}:PTs X [] JZ:=fun _ _ _ H _ I h=>wpAny_tests_nil ⟨H,I,h⟩
theorem GX{X:Cx}{c:Expr}{t:TT}(h:PT X c t):PTs X [c] t:=fun pins s σ H Q I q=>wpAny_tests_one (h pins s σ H Q I q)
structure LcW(J:It)(n nt:Nat)(js:List Nat)(σ:St)(g:TG)(tc:TT)(te:TE)(Fin:List V->Hp->Prop)(W:Nat->List V->Hp->Prop):Prop where
 go:∀i zs H,i<n->W i zs H->J.go i H/\zs.length<sizeLine
 step:∀i zs H x H',i<n->W i zs H->J.yld i H x H'->g x (cS nt js σ) H' fun σ2 H2=>tc σ2 H2 fun b H3=>if b=true then te σ2 H3 fun y H4=>W (i+1) (zs++[y]) H4 else W (i+1) zs H3
 stop:∀zs H,W n zs H->J.stop n H/\zs.length<=sizeLine/\Fin zs H
@[irreducible] def tLC(wi:TI)(nt:Nat)(js:List Nat)(g:TG)(tc:TT)(te:TE):TE:=fun σ H Q=>wi σ H fun J H1 =>
 ∃(n:Nat) (W:Nat->List V->Hp->Prop),W 0 [] H1/\LcW J n nt js σ g tc te (fun zs H'=>∀p,H' p=none->Q (.ref p) (upd H' p (.lst zs))) W
theorem C3{wi:TI}{nt:Nat}{js:List Nat}{g:TG}{tc:TT}{te:TE}{σ:St}{H:Hp}{Q:VK}
 (h:wi σ H fun J H1=>∃(n:Nat) (W:Nat->List V->Hp->Prop),W 0 [] H1/\LcW J n nt js σ g tc te (fun zs H'=>∀p,H' p=none->Q (.ref p) (upd H' p (.lst zs))) W):tLC wi nt js g tc te σ H Q:=by
 unfold tLC;exact h
theorem MU{wi:TI}{nt:Nat}{js:List Nat}{g:TG}{tc:TT}{te:TE}{σ:St}{H:Hp}{Q:VK}(h:tLC wi nt js g tc te σ H Q) :
 wi σ H fun J H1=>∃(n:Nat) (W:Nat->List V->Hp->Prop),W 0 [] H1/\LcW J n nt js σ g tc te (fun zs H'=>∀p,H' p=none->Q (.ref p) (upd H' p (.lst zs))) W:=by
 unfold tLC at h;exact h
structure Be(X:Cx)(N:List Str)(nt:Nat)(js:List Nat)(scope:Scope):Prop where
 kind:scope.kind = .function
 nocell:∀y∈scope.names,y.2 ≠ .cell
 names:∀y∈scope.names,y.2 = .local->scope.names.lookup y.1=some .local
 free:∀y∈scope.names,y.2 = .free->X.env.kindOf y.1=some .cell\/X.env.kindOf y.1=some .free
 len:N.length=nt+js.length
 outer:∀j i,js[j]? = some i->∃x,N[nt+j]? = some x/\X.N[i]? = some x/\scope.names.lookup x=some .free
def JO(NX:List Str)(sc:Scope)(N:List Str)(nt:Nat)(js:List Nat)(scope:Scope):Bool :=
 decide (scope.kind = .function)&&scope.names.all (fun y=>decide (y.2 ≠ .cell))&&scope.names.all (fun y=>decide (y.2 ≠ .local)||decide (scope.names.lookup y.1=some .local)) &&
 scope.names.all (fun y=>decide (y.2 ≠ .free)||(decide (sc.names.lookup y.1=some .cell)||decide (sc.names.lookup y.1=some .free)))&&decide (N.length=nt+js.length) &&
 (Rr js.length).all fun j=>match js[j]?,N[nt+j]? with
  | some i,some x=>decide (NX[i]? = some x)&&decide (scope.names.lookup x=some .free)
  | _,_=>false
theorem Be.look{X:Cx}{NX N:List Str}{sc scope:Scope}{nt:Nat}{js:List Nat}(hN:X.N=NX)(hs:X.env.scope=sc)(h:JO NX sc N nt js scope=true):Be X N nt js scope:=by
 unfold JO at h
 simp only[Bool.and_eq_true,T5,Bool.or_eq_true,decide_eq_true_eq]at h
 obtain⟨⟨⟨⟨⟨h1,h2⟩,h3⟩,h4⟩,h5⟩,h6⟩:=h
 refine⟨h1,h2,fun y hy hl=>(h3 y hy).resolve_left fun z=>z hl,fun y hy hf=>?_,h5,fun j i e=>?_⟩
 ·have q:=(h4 y hy).resolve_left fun z=>z hf
  rw[<- hs]at q
  exact q
 ·have hj:j<js.length:=(RF.mp e).1
  have q:=h6 j (Ru.mpr hj)
  rw[e]at q
  cases en:N[nt+j]? with
  | none=>rw[en]at q;cases q
  | some x =>
    rw[en]at q
    simp only[Bool.and_eq_true,decide_eq_true_eq]at q
    exact⟨x,rfl,by rw[hN];exact q.1,q.2⟩
section
variable {X:Cx}{N:List Str}{nt:Nat}{js:List Nat}{scope:Scope}{cl:List (Str×Addr)}
theorem HOk.track{P:Program}{w:World}{H:Hp}{h:Heap}{a:Addr}{o:HO}(x:HOk P w H h)(hn:H a=none)(new:BP P w (upd H a o) h a o):HOk P w (upd H a o) h:=fun b u e=>by
 by_cases hb:b=a
 ·subst hb;rw[Ac]at e;cases e;exact new
 ·rw[Aw hb]at e
  exact(x b u e).stay (fun c v _ q=>q) (fun c q=>by rw[Aw (Ay q hn)];exact q) fun c xs q=>by rw[Aw (Ay q hn)];exact q
theorem LA{pins:List (Addr×Obj)}{σ:St}{H:Hp}{s:Shared}{C D:Addr}{h':Heap}{tk:Nat}{fp:List Addr}{m:Str->Option Value}(I:Inv X pins σ H s)(ok:Be X N nt js scope)
 (hcl:∀x c,cl.lookup x=some c->X.env.cells.lookup x=some c) (hcl2:∀x∈scope.names,x.2 = .free->∃c,cl.lookup x.1=some c)
 (hf:∀b∈fp,DM X pins H b) (ho:∀b∈fp,∃o,s.heap.get? b=some o/\∀v,o.data ≠ .cell v)
 (hD:s.heap.objs.size<=D) (hC:s.heap.objs.size<=C) (hDC:D≠C) (k:∀b o,s.heap.get? b=some o->h'.get? b=some o) (hn:h'.Ns C m) (hd:h'.get? D=some (Ee [])) :
 Inv (BG X N scope cl C s H fp) [(D,Ee [])] (cS nt js σ) H { s with heap:=h',toks:=tk }:=by
 have lt:∀b∈fp,b<s.heap.objs.size:=fun b hb=>by obtain⟨o,e,_⟩:=ho b hb;exact Heap.lt_size e
 have frlt:∀b∈frs X.stack,b<s.heap.objs.size:=fun b hb=>by
  obtain⟨_,o,e,_⟩:=I.stack.mem hb
  exact Heap.lt_size e
 refine⟨⟨I.ok.mod,ok.kind,I.ok.glob,I.ok.blt,hC,fun x y c h1 h2=>I.ok.inj x y c (hcl x c h1) (hcl y c h2),fun x hx=>?_,fun x c hx=>absurd hx Bool.false_ne_true,I.ok.hd,I.ok.frames,.inl rfl,fun b hb=>⟨?_,fun x c e=>(hf b hb).2.2.2.2.1 x c (hcl x c e)⟩,I.bs,
  Rw I.ok.bsz I.sz,fun b o e hb=>?_,fun b hb hs=>?_,I.stack,I.stkFree⟩,rfl,I.bare,Un.kept k,⟨m,hn,fun j x v h1 h2 h3=>?_⟩,fun x c e=>?_,I.hok.fresh hC,fun x c e=>I.freeC x c (hcl x c e),fun p hp=>?_,I.hok.kept k,?_⟩
 ·obtain⟨c,hc⟩:=hcl2 (x,.free) (E6 ok.nocell hx) rfl
  exact⟨c,hc⟩
 ·exact Rq (Ro (lt b hb) hC)
 ·rcases(hf b hb).2.2.2.1 with z | z
  ·exact I.ok.noex b o e z
  ·exact absurd (Ro (Heap.lt_size e) (Rw I.ok.bsz z)) (Rp _)
 ·rcases RC.mp (I.stkSub b hs) with z | z
  ·exact(hf b hb).2.1 z
  ·exact(hf b hb).2.2.1 z
 ·change N[j]? = some x at h1
  unfold cS at h2
  by_cases hj:j<nt
  ·rw[S2 (by simpa using hj),S1]at h2
   rw[if_pos hj]at h2;cases h2
  ·rw[RZ (by simpa using Nat.not_lt.mp hj),S8,S3]at h2
   cases ei:js[j-nt]? with
   | none=>rw[ei]at h2;cases h2
   | some i =>
     rw[ei]at h2
     obtain⟨y,e1,e2,e3⟩:=ok.outer _ i ei
     rw[show nt+(j-nt)=j by lia,h1]at e1
     cases e1
     have hv:σ[i]? = some (some v):=by
      simp only[Option.map_some,Rl.injEq]at h2
      rw[T6]at h2
      cases eσ:σ[i]? with
      | none=>rw[eσ]at h2;cases h2
      | some z=>rw[eσ]at h2;simp at h2;rw[h2]
     obtain⟨m₀,_,hl⟩:=I.loc
     have kf:=ok.free (x,.free) (PySem.mem_of_lookup e3) rfl
     obtain⟨u,r,l⟩:=hl i x v e2 hv (kf.elim (fun z=>.inr (.inl z)) fun z=>.inr (.inr z))
     refine⟨u,r,.inr ⟨Cj e3,?_⟩⟩
     rcases l with ⟨kl,_⟩ | ⟨_,c,ec,⟨oc,hoc,hod⟩⟩
     ·rcases kf with z | z<;>(rw[z]at kl;cases kl)
     ·obtain⟨c',hc'⟩:=hcl2 (x,.free) (PySem.mem_of_lookup e3) rfl
      have e':=hcl x c' hc'
      rw[ec]at e'
      cases e'
      exact⟨c,hc',oc,k _ _ hoc,hod⟩
 ·obtain⟨v,oc,hoc,hod⟩:=I.cell x c (hcl x c e)
  exact⟨v,oc,k _ _ hoc,hod⟩
 ·have e:p=(D,Ee []):=by
   have hp':p∈[(D,Ee [])]:=hp
   simpa using hp'
  subst e
  refine⟨hd,I.hok.fresh hD,hDC,fun hb=>absurd (Ro (frlt D hb) hD) (Rp _),fun v z=>by cases z⟩
 ·show(cS nt js σ).length=N.length
  unfold cS
  rw[S6,S8,S7,ok.len]
end
end L2
namespace L2
open PySem PySem.Spec PyProof.Rows
def IF(g:TG)(nt:Nat):Prop:=∀x σ H Q,g x σ H Q->g x σ H fun σ2 H2=>(σ2.length=σ.length/\σ2.drop nt=σ.drop nt)/\Q σ2 H2
theorem AK{i nt:Nat}(h:i<nt):IF (Ck i) nt:=fun x σ H Q q=>⟨⟨Sh,by
 apply T7
 intro k
 rw[T8,T8,RH (by lia)]⟩,q⟩
section
variable {X:Cx}{N:List Str}{nt:Nat}{js:List Nat}{scope:Scope}{elt iter tg:Expr}{ifs:List Expr}{pos:Pos}{g:TG}{tc:TT}{te:TE}{wi:TI}
theorem JP{σ σ2:St}(hl:σ2.length=(cS nt js σ).length)(hd:σ2.drop nt=(cS nt js σ).drop nt):∀(i:Nat) v,(cS nt js σ)[i]? = some (some v)->σ2[i]? = some (some v):=fun i v e=>by
 by_cases hi:i<nt
 ·unfold cS at e
  rw[S2 (by simpa using hi),S1,if_pos hi]at e
  cases e
 ·have q:((cS nt js σ).drop nt)[i-nt]? = some (some v):=by rw[T8,show nt+(i-nt)=i by lia];exact e
  rw[<- hd,T8,show nt+(i-nt)=i by lia]at q
  exact q
set_option maxHeartbeats 4000000 in
theorem Iy{pins:List (Addr×Obj)}{σ:St}{H:Hp}{s₂:Shared}{cl:List (Str×Addr)}{J:It}{fp:List Addr}{it:Addr}{tn:Nat->Heap->Prop}{E:Value->Shared->Prop}{Fin:List V->Hp->Prop}{W:Nat->List V->Hp->Prop}{nn:Nat}
 {RR:Value->Addr->Result->Shared->Prop} (hcalm:X.calm=true) (ok:Be X N nt js scope)
 (hcl:∀x c,cl.lookup x=some c->X.env.cells.lookup x=some c) (hcl2:∀x∈scope.names,x.2 = .free->∃c,cl.lookup x.1=some c)
 (hg:∀cl C s H fp,PG (BG X N scope cl C s H fp) tg g) (hk:IF g nt) (hc:∀cl C s H fp,PTs (BG X N scope cl C s H fp) ifs tc) (he:∀cl C s H fp,PE (BG X N scope cl C s H fp) elt te)
 (I:Inv X pins σ H s₂) (T:IE X.prog X.w X.K tg J fp it tn) (st:tn 0 s₂.heap) (hf:∀b∈fp,DM X pins H b) (w0:W 0 [] H) (lw:LcW J nn nt js σ g tc te Fin W)
 (hRR:∀D C s' H' zs m,Inv X pins σ (upd H' D (.lst zs)) s'->s'.heap.Ns C m->H' D=none->(upd H' D (.lst zs)) C=none->C≠X.env.locals->X.s₀.heap.objs.size<=C->(∀x c,X.env.cells.lookup x=some c->c≠C) ->
  (∀p∈X.pn++pins,p.1≠C)->Fin zs H'->RR (.ref D) C (.ok .next) s') :
 wpAny (model X.prog X.w) X.A (newList []) (fun acc s₃=>wpAny (model X.prog X.w) X.A (newFunctionEnv scope X.env.globals cl [] X.env.qual none .none (some X.env)) (fun cenv s₄ =>
  codeAny (model X.prog X.w) X.A (.compStart (.ListComp elt [⟨tg,iter,ifs,0⟩] scope pos) 0 (.ref it) acc { cenv with scope:=relabel scope X.env }) (RR acc cenv.locals) s₄) E s₃) E s₂:=by
 refine wpAny_newObj_type (wpAny_newFunctionEnv ok.nocell (by intro y hy;simp at hy) (fun h₁ hns₁ hsb₁=>?_) ok.kind)
 dsimp only at hns₁ hsb₁ ⊢
 generalize hH2:s₂.heap.push { cls:=.type "list",dict:=none,data:=.seq ([]:List Value).toArray }=H2 at hns₁ hsb₁ ⊢
 have hC:H2.objs.size=s₂.heap.objs.size+1:=by rw[<- hH2,Heap.size_push]
 have hDC:s₂.heap.objs.size≠H2.objs.size:=by rw[hC];exact Rq (T9 _)
 have hCle:s₂.heap.objs.size<=H2.objs.size:=by rw[hC];exact Nat.le_succ _
 have below:∀b,b<s₂.heap.objs.size->b≠H2.objs.size/\b≠s₂.heap.objs.size:=fun b hb=>⟨by rw[hC];exact Rq (Tc hb),Rq hb⟩
 have old:∀b o,s₂.heap.get? b=some o->h₁.get? b=some o:=fun b o e=>hsb₁.extBut b o (below b (Heap.lt_size e)).1 (Heap.get?_push_of_some _ (hH2 ▸ Heap.get?_push_of_some _ e))
 have hacc:h₁.get? s₂.heap.objs.size=some (Ee []):=hsb₁.extBut _ _ hDC (Heap.get?_push_of_some _ (hH2 ▸ Heap.get?_push_size _ rfl))
 have ho:=T.obj 0 _ st
 have lt:∀b∈fp,b<s₂.heap.objs.size:=fun b hb=>by obtain⟨o,e,_⟩:=ho b hb;exact Heap.lt_size e
 have loop:∀s₃:Shared,s₃={ s₂ with heap:=h₁,toks:=s₂.toks+([]:List (Str×Value)).length } ->
  codeAny (model X.prog X.w) X.A (.compLoop (.ListComp elt [⟨tg,iter,ifs,0⟩] scope pos) 0 (.ref it) (.ref s₂.heap.objs.size) (compEnvC scope cl H2.objs.size X.env)) (RR (.ref s₂.heap.objs.size) H2.objs.size) s₃:=by
  rintro s₃ rfl
  have I0:Inv (BG X N scope cl H2.objs.size s₂ H fp) [(s₂.heap.objs.size,Ee [])] (cS nt js σ) H { s₂ with heap:=h₁,toks:=s₂.toks+([]:List (Str×Value)).length } :=
   LA I ok hcl hcl2 hf ho (RK _) hCle hDC old hns₁ hacc
  have fpy:∀{H':Hp} {ys:List Value},(∀b∈fp,H' b=none)->∀b∈fp,DM (BG X N scope cl H2.objs.size s₂ H fp) [(s₂.heap.objs.size,Ee ys)] H' b:=fun{H' ys} hn b hb =>
   ⟨hn b hb,(below b (lt b hb)).1,I0.ok.exfs b hb,.inl hb,(I0.ok.exf b hb).2,fun p hp=>by
    have hp':p∈[(s₂.heap.objs.size,Ee ys)]:=hp
    have e:p=(s₂.heap.objs.size,Ee ys):=by simpa using hp'
    rw[e];exact Ne.symm (below b (lt b hb)).2⟩
  refine HA (fun n s'=>∃i zs ys H',n=nn-i/\i<=nn/\Inv (BG X N scope cl H2.objs.size s₂ H fp) [(s₂.heap.objs.size,Ee ys)] (cS nt js σ) H' s'/\AJ zs ys/\tn i s'.heap/\(∀b∈fp,H' b=none)/\W i zs H') ?_ nn
   ⟨0,[],[],H,rfl,RM _,I0,.nil,T.keep 0 _ _ st (fun b _ o e=>old b o e),fun b hb=>(hf b hb).1,w0⟩
  rintro n s' ⟨i,zs,ys,H',hn0,hile,I',rv,st',fr',w'⟩
  by_cases hlt:i<nn
  case neg =>
   have hie:i=nn:=Nat.le_antisymm hile (Nat.not_lt.mp hlt)
   rw[hie]at w' st'
   obtain⟨stop,zl,fin⟩:=lw.stop zs H' w'
   refine thn (T.done (BG X N scope cl H2.objs.size s₂ H fp) rfl rfl rfl hcalm nn _ s' _ H' (fun _ _=>False) I' (fpy fr') st' stop) fun r s4 ⟨hr,I4⟩=>?_
   subst hr
   have zD:=(I4.pin (s₂.heap.objs.size,Ee ys) (RL _ (Td.mpr rfl)))
   have u:=I4.base
   have u2:Un (frs X.stack) fp H (upd H' s₂.heap.objs.size (.lst zs)) s₂.heap s4.heap :=
    ⟨u.keep,u.slot,fun b o q n hx=>by rw[Aw (Rq (Heap.lt_size q))];exact u.free b o q n hx,u.there,fun b xs q=>by rw[Aw (Ay (u.tups b xs q) zD.2.1)];exact u.tups b xs q,
     fun b o xs q=>by rw[Aw (Ay (u.frzs b o xs q) zD.2.1)];exact u.frzs b o xs q,fun b ps q=>by
      obtain⟨more,e⟩:=u.tbls b ps q
      exact⟨more,by rw[Aw (Ay e zD.2.1)];exact e⟩⟩
   have hok2:HOk X.prog X.w (upd H' s₂.heap.objs.size (.lst zs)) s4.heap:=HOk.track I4.hok zD.2.1 ⟨zl,ys,_,rv,zD.1⟩
   have I5:Inv X pins σ (upd H' s₂.heap.objs.size (.lst zs)) s4:=I.call' I4.os u2 hok2 I4.bare fun b hb=>⟨(hf b hb).2.2.2.1,(hf b hb).2.1,(hf b hb).2.2.2.2.1,(hf b hb).2.2.2.2.2⟩
   obtain⟨m,hn,_⟩:=I4.loc
   refine hRR _ _ s4 H' zs m I5 hn zD.2.1 ?_ ?_ (Rw I.sz hCle) ?_ ?_ fin
   ·rw[Aw (Ne.symm hDC)];exact I4.free
   ·exact RJ (Ro I.lt hCle)
   ·intro x c e z
    obtain⟨v,q⟩:=I.cell x c e
    exact absurd (Ro q.lt (by rw[z];exact hCle)) (Rp _)
   ·intro p hp z
    exact absurd (Ro (Heap.lt_size (I.pin p hp).1) (by rw[z];exact hCle)) (Rp _)
  case pos =>
   obtain⟨go,zl⟩:=lw.go i zs H' hlt w'
   have step:=lw.step i zs H'
   refine thn (T.item (BG X N scope cl H2.objs.size s₂ H fp) rfl rfl rfl hcalm i _ s' _ H' (fun _ _=>False) I' (fpy fr') st' go) fun r s4 ⟨u,hr,h4⟩=>?_
   subst hr
   refine thn h4 fun _ s5 ⟨x,H5,I5,r5,y5,st5,fr5⟩=>?_
   have I5':=I5.pinned (fpy fr5) (T.obj _ _ st5)
   refine thn (hg cl _ s₂ H fp _ s5 _ H5 x u _ I5' r5 (hk _ _ _ _ (step x H5 hlt w' y5))) fun _ s6 ⟨σ6,H6,I6,⟨hl6,hd6⟩,q6⟩=>?_
   refine thn (hc cl _ s₂ H fp _ s6 σ6 H6 _ I6 q6) fun okb s7 ⟨H7,I7,q7⟩=>?_
   have frs':∀{H8:Hp} {σ8:St} {s8:Shared},Inv (BG X N scope cl H2.objs.size s₂ H fp) ([(s₂.heap.objs.size,Ee ys)]++FC fp s5.heap) σ8 H8 s8->tn (i+1) s8.heap/\∀b∈fp,H8 b=none:=fun{H8 σ8 s8} I8 =>
    ⟨T.keep _ _ _ st5 fun b hb o e=>(I8.pin (b,o) (RL _ (RL _ (Dg hb e)))).1,fun b hb=>by
     obtain⟨o,e,d⟩:=T.obj _ _ st5 b hb
     exact(I8.pin (b,o) (RL _ (RL _ (Dg hb e)))).2.1⟩
   cases okb with
   | false =>
     rw[if_neg Bool.false_ne_true]at q7 ⊢
     obtain⟨a1,a2⟩:=frs' I7
     exact⟨nn-(i+1),by rw[hn0];exact Nat.sub_lt_sub_left hlt (T9 i),i+1,zs,ys,H7,rfl,hlt,I7.unpinned.weak (by rw[hl6]) (JP hl6 hd6),rv,a1,a2,q7⟩
   | true =>
     rw[if_pos rfl]at q7 ⊢
     refine thn (he cl _ s₂ H fp _ s7 σ6 H7 _ I7 q7) fun v s8 ⟨y,H8,I8,r8,q8⟩=>?_
     have zD:=(I8.pin (s₂.heap.objs.size,Ee ys) (RL _ (RE _ (Td.mpr rfl))))
     have ylen:ys.length<sizeLine:=by rw[<- rv.length];exact zl
     obtain⟨a1,a2⟩:=frs' I8
     refine append_at (hsz:=by rw[Sg];exact Rx ylen) zD.1 fun h9 hs9 hD9=>?_
     have I8u:Inv (BG X N scope cl H2.objs.size s₂ H fp) [] (cS nt js σ) H8 s8:=(I8.pins_of (pins':=[]) fun p hp=>nomatch hp).weak (by rw[hl6]) (JP hl6 hd6)
     have I9:Inv (BG X N scope cl H2.objs.size s₂ H fp) [] (cS nt js σ) H8 { s8 with heap:=h9 }:=I8u.turned (t':=s8.toks) (it:=s₂.heap.objs.size) (fun b o hb e=>hs9.extBut b o hb e) zD.2.1 hDC (.inr (RK _))
      (fun x c e z=>by
       obtain⟨v,q⟩:=I.cell x c (hcl x c e)
       exact absurd (Ro q.lt (by rw[z];exact RK _)) (Rp _)) (fun p hp=>nomatch hp)
     refine⟨nn-(i+1),by rw[hn0];exact Nat.sub_lt_sub_left hlt (T9 i),i+1,zs++[y],ys++[v],H8,rfl,hlt,I9.pins_of (fun p hp=>?_),rv.snoc r8,T.keep _ _ _ a1 fun b hb o e=>hs9.extBut b o (below b (lt b hb)).2 e,a2,q8⟩
     have e:p=(s₂.heap.objs.size,Ee (ys++[v])):=by simpa using hp
     subst e
     refine⟨?_,zD.2.1,hDC,zD.2.2.2.1,fun v z=>by cases z⟩
     rw[hD9]
     show some ({ cls:=.type "list",data:=.seq (ys.toArray.push v) (ys.length+1) }:Obj)=some { cls:=.type "list",data:=.seq (ys++[v]).toArray (ys++[v]).length }
     rw[S6,Sk,List.push_toArray]
 exact codeAny_compStart_list (loop _ rfl) (T.self _ 0 _ _ _ (T.keep 0 _ _ st (fun b _ o e=>old b o e)) (loop _ rfl))
theorem CT(hcalm:X.calm=true)(ok:Be X N nt js scope)(hi:PI X tg iter wi)(hg:∀cl C s H fp,PG (BG X N scope cl C s H fp) tg g)(hk:IF g nt)(hc:∀cl C s H fp,PTs (BG X N scope cl C s H fp) ifs tc)
 (he:∀cl C s H fp,PE (BG X N scope cl C s H fp) elt te) (hs:∀x,foldedSetIterable iter X.env x=pure x:=by intro _;rfl):PE X (.ListComp elt [⟨tg,iter,ifs,0⟩] scope pos) (tLC wi nt js g tc te):=by
 intro pins s σ H Q I h
 obtain⟨cl,hclos,hcl,hcl2⟩:=DQ (scope:=scope) (env:=X.env) fun x hx hf=>I.ok.has x.1 (ok.free x hx hf)
 rw[eval_ListComp]
 refine wpAny_comprehension_free (use:=none) rfl hs hclos ok.kind ok.names ?_
 refine thn (hi pins s σ H _ I (MU h)) fun v s1 h1=>thn h1 fun itv s2 h2=>?_
 obtain⟨it,fp,tn,J,H2,e,I2,T,st2,f2,nn,W,w0,lw⟩:=h2
 subst e
 refine Iy (RR:=fun acc C=>compPost (model X.prog X.w) X.A X.xe none (EP X pins σ Q) acc C) hcalm ok hcl hcl2 hg hk hc he I2 T st2 f2 w0 lw ?_
 intro D C s' H' zs m I3 hn hDn hCn hCL hC0 hCc hCp fin
 exact⟨m,hn,fun h'' hs''=>⟨.ref D,_,I3.turned (t':=s'.toks) (it:=C) (fun b o hb e=>hs''.extBut b o hb e) hCn hCL (.inr hC0) hCc hCp,rfl,fin D hDn⟩⟩
theorem Fy{i:Nat}{y:Str}{py spos:Pos}(hcalm:X.calm=true)(hN:X.N.Nodup)(hi':X.N[i]? = some y)(hy:X.env.kindOf y=some .local)(ok:Be X N nt js scope)(hi:PI X tg iter wi)(hg:∀cl C s H fp,PG (BG X N scope cl C s H fp) tg g)(hk:IF g nt)
 (hc:∀cl C s H fp,PTs (BG X N scope cl C s H fp) ifs tc) (he:∀cl C s H fp,PE (BG X N scope cl C s H fp) elt te)
 (hsw:swapsWith (.ListComp elt [⟨tg,iter,ifs,0⟩] scope pos) (some (.Name y py)) spos.line X.env=pure true) (hs:∀x,foldedSetIterable iter X.env x=pure x:=by intro _;rfl) :
 PS X (.Assign [.Name y py] (.ListComp elt [⟨tg,iter,ifs,0⟩] scope pos) spos) (N4 (tLC wi nt js g tc te) (Ck i)):=by
 intro pins s σ H D₀ I h
 obtain⟨cl,hclos,hcl,hcl2⟩:=DQ (scope:=scope) (env:=X.env) fun x hx hf=>I.ok.has x.1 (ok.free x hx hf)
 rw[exec_Assign_Name_used _ _ _ _ hsw]
 refine wpAny_bind (wpAny_standAt (wpAny_bind ?_))
 show wpAny _ X.A (do let _ <- comprehension (.ListComp elt [⟨tg,iter,ifs,0⟩] scope pos) scope X.env _ (newList []) false (eval iter X.env) (some (assign (.Name y py) X.env))) _ _ s
 refine wpAny_bind (wpAny_mono (wpAny_comprehension_free (use:=some (assign (.Name y py) X.env)) (Q:=fun _ s'=>SP X pins D₀ .next s') rfl hs hclos ok.kind ok.names
  (thn (hi pins s σ H _ I (MU (show tLC wi nt js g tc te σ H fun x H1=>Ck i x σ H1 D₀.nx from h))) fun v s1 h1=>thn h1 fun itv s2 h2=>?_)) (fun _ s' hq=>wpAny_pure (wpAny_pure hq)) fun _ _ e=>e)
 obtain⟨it,fp,tn,J,H2,e,I2,T,st2,f2,nn,W,w0,lw⟩:=h2
 subst e
 refine Iy (RR:=fun acc C=>compPost (model X.prog X.w) X.A X.xe (some (assign (.Name y py) X.env)) (fun _ s'=>SP X pins D₀ .next s') acc C) hcalm ok hcl hcl2 hg hk hc he I2 T st2 f2 w0 lw ?_
 intro D C s' H' zs m I3 hn hDn hCn hCL hC0 hCc hCp fin
 show wpAny _ X.A (assign (.Name y py) X.env (.ref D)) _ _ _
 refine wpAny_assign_Name (Gn (v:=.ref D) I3 hN hi' (.inl hy) rfl (fun s3 I4 hsb=>?_) (.inr hy))
 obtain⟨a,hsb,ha⟩:=hsb
 have haC:C≠a:=by
  rcases ha with z | z
  ·rw[z];exact hCL
  ·exact Ne.symm (hCc y a z)
 refine⟨m,hn.sameBut hsb haC,fun h'' hs''=>?_⟩
 exact⟨_,_,I4.turned (t':=s3.toks) (it:=C) (fun b o hb e=>hs''.extBut b o hb e) hCn hCL (.inr hC0) hCc hCp,fin D hDn⟩
end
end L2
namespace L2
open PySem PySem.Spec PyProof.Rows
def Bd(n:Nat)(x:Int):Prop:=x.natAbs<2 ^ n
theorem Bd.bits{n:Nat}{x:Int}(h:Bd n x):Builtin.Int.intBits x<=n:=PySem.intBits_le_iff.mpr h
def M4(i j:Int):Prop:=∃m n,Bd m i/\Bd n j/\m+n<=134217728
theorem M4.ok{i j:Int}(h:M4 i j):IntMulOk i j:=by
 obtain⟨m,n,h1,h2,h3⟩:=h
 exact PySem.IntMulOk.of_le h1.bits h2.bits h3
section
variable {X:Cx}
theorem Bw{k:Nat}(hr:Ca k X.A)(hT:X.prog.given.tree=none)(hk:32<=k:=by decide)
 (hst:∃(env:Env) (l:List Env),X.stack=env::l/\env.scope.isGenerator=false/\env.scope.isCoroutine=false/\env.builtins=builtinsNs/\env.globals=mainGlobals:=by exact⟨_,_,rfl,rfl,rfl,rfl,rfl⟩) :
 OpR X (binaryOp .FloorDiv) (rI (fun _ j=>j≠0) fun i j=>.int (i.fdiv j)):=by
 intro pins s σ H x y v u Q I rx ry h
 obtain⟨i,j,rfl,rfl,hc,q⟩:=h
 obtain⟨t,rfl⟩:=rx
 obtain⟨t',rfl⟩:=ry
 obtain⟨env,l,e1,e2,e3,e4,e5⟩:=hst
 have hd:X.A.depth+Builtin.pylongFrames<recursionLimit:=by
  have:=hr.dp
  have e:Builtin.pylongFrames<=101:=by decide
  lia
 refine floordiv_int hc ⟨.int (i.fdiv j),H,I.tok _,⟨_,rfl⟩,q⟩ (.inr (PySem.PylongRoom.of I.nolimit hd (PySem.SeerAt.of (I.ok.mod.seer.keeps I.bk) hT (by rw[I.ok.frames,e1]) e2 e3 e4 e5)))
end
structure Fd(P:Program)(w:World)(K:Rv)(mg:Str->Option Value)(base:Heap)(n:Nat)(x:Str)(ps:List Str)(sp:Sp):Prop where
 ex:∃(f:Addr) (fd:FuncData),AO P w K mg base CX0 n f fd ps sp/\Cc K fd ps []/\RP K (.ref f)=true/\mg x=some (.ref f)
theorem Ak{X:Cx}{n k:Nat}{x:Str}{ps:List Str}{sp:Sp}{e:Expr}{es:List Expr}{t:TA}{p pos:Pos}(F:Fd X.prog X.w X.K X.mg X.base n x ps sp)(hr:Ca k X.A)(hg:Gl X x)(ha:PA X (e::es) t)(hn:n<=k:=by decide)
 (hdb:(x == ("__debug__" : Str))=false:=by decide) (he:starEach (e::es) X.env=(false,eval e X.env)::starEach es X.env:=by rfl) (hpl:(backTo pos (starEach es X.env)).any (·.1)=false:=by rfl) :
 PE X (.Call (.Name x p) (e::es) [] pos) (MP sp [] E0 t):=by
 obtain⟨f,fd,F1,F2,F3,F4⟩:=F.ex
 exact Mn F1 (hr.mono hn) hg F4 F3 F2 .nil Oz ha hdb he hpl
inductive Rds(K:Rv)(H:Hp):V->PyData->Prop where
 | non:Rds K H .non .none
 | bl (b:Bool):Rds K H (.bl b) (.bool b)
 | int (i:Int):Rds K H (.int i) (.int i)
 | str (x:Str):Rds K H (.str x) (.str x)
 | lst {a:Addr} {xs:List V} {ds:List PyData}:SqL K H a xs->xs.length=ds.length->(∀(i:Nat) x d,xs[i]? = some x->ds[i]? = some d->Rds K H x d)->Rds K H (.ref a) (.list ds)
 | tup {a:Addr} {xs:List V} {ds:List PyData}:SqT K H a xs->xs.length=ds.length->(∀(i:Nat) x d,xs[i]? = some x->ds[i]? = some d->Rds K H x d)->Rds K H (.ref a) (.tuple ds)
theorem Dr{h:Heap}:∀{us:List Value} {xs:List V} {ds:List PyData},AJ xs us->xs.length=ds.length->(∀(i:Nat) x d u,xs[i]? = some x->ds[i]? = some d->AZ x u->∃as,Reads h u d as)->∃as,ReadsAll h us ds as
 | [],_,[],.nil,_,_=>⟨[],.nil⟩
 | [],_,_::_,.nil,hl,_=>by simp at hl
 | _::_,_,[],.cons _ _,hl,_=>by simp at hl
 | u::us,x::xs,d::ds,.cons r t,hl,hr=>by
   obtain⟨a1,r1⟩:=hr 0 x d u rfl rfl r
   obtain⟨a2,r2⟩:=Dr (us:=us) (xs:=xs) (ds:=ds) t (by simpa using hl) fun i x' d' u' e1 e2 q=>hr (i+1) x' d' u' (by simpa using e1) (by simpa using e2) q
   exact⟨_,.cons r1 r2⟩
theorem CS{X:Cx}{pins:List (Addr×Obj)}{σ:St}{H:Hp}{s:Shared}(I:Inv X pins σ H s){x:V}{d:PyData}(r:Rds X.K H x d):∀{u:Value},AZ x u->∃as,Reads s.heap u d as:=by
 induction r with
 | non=>intro u ru;cases ru;exact⟨_,.none⟩
 | bl b=>intro u ru;cases ru;exact⟨_,.bool b⟩
 | int i=>intro u ru;obtain⟨t,rfl⟩:=ru;exact⟨_,.int i t⟩
 | str z=>intro u ru;obtain⟨t,rfl⟩:=ru;exact⟨_,.str z t⟩
 | lst q hl _ ih =>
   intro u ru
   cases ru
   obtain⟨its,rv,⟨o,n,e,c,_,dd⟩,_⟩:=I.list q
   obtain⟨as,ra⟩:=Dr rv hl fun i x d u e1 e2 rr=>ih i x d e1 e2 rr
   exact⟨_,.list e c dd (by simpa using ra)⟩
 | tup q hl _ ih =>
   intro u ru
   cases ru
   obtain⟨its,rv,⟨o,e,c,n,dd⟩,_⟩:=I.tuple q
   obtain⟨as,ra⟩:=Dr rv hl fun i x d u e1 e2 rr=>ih i x d e1 e2 rr
   exact⟨_,.tuple e c dd (by simpa using ra)⟩
section
variable {X:Cx}
@[irreducible] def ET(K:Rv)(neg:Bool):R2:=fun x y H Q=>∃d e,Rds K H x d/\Rds K H y e/\SeqAt.shaped d=true/\SeqAt.shaped e=true/\Q (.bl (if neg then !PyData.eqv d e else PyData.eqv d e)) H
theorem Hv{K:Rv}{neg:Bool}{x y:V}{H:Hp}{Q:VK}(h:∃d e,Rds K H x d/\Rds K H y e/\SeqAt.shaped d=true/\SeqAt.shaped e=true/\Q (.bl (if neg then !PyData.eqv d e else PyData.eqv d e)) H):ET K neg x y H Q:=by
 unfold ET;exact h
theorem Nr(hu:X.A.units+64<cLine):OpR X (compareOp .Eq) (ET X.K false):=by
 intro pins s σ H x y v u Q I rx ry h
 unfold ET at h
 obtain⟨d,e,r1,r2,h1,h2,q⟩:=h
 obtain⟨as,q1⟩:=CS I r1 rx
 obtain⟨bs,q2⟩:=CS I r2 ry
 exact SeqAt.compareEq_shaped q1 q2 h1 h2 hu ⟨.bl _,H,I,rfl,q⟩
theorem Nq(hu:X.A.units+64<cLine):OpR X (compareOp .NotEq) (ET X.K true):=by
 intro pins s σ H x y v u Q I rx ry h
 unfold ET at h
 obtain⟨d,e,r1,r2,h1,h2,q⟩:=h
 obtain⟨as,q1⟩:=CS I r1 rx
 obtain⟨bs,q2⟩:=CS I r2 ry
 exact SeqAt.compareNe_shaped q1 q2 h1 h2 hu ⟨.bl _,H,I,rfl,q⟩
end
end L2
namespace L2
open PySem PySem.Spec PyProof.Rows
theorem AD:bootBuiltins "len" = some (.builtin "len"):=by decide +kernel
theorem HE:bootBuiltins "abs" = some (.builtin "abs"):=by decide +kernel
theorem BF:bootBuiltins "isinstance" = some (.builtin "isinstance"):=by decide +kernel
theorem O1:bootBuiltins "all" = some (.builtin "all"):=by decide +kernel
theorem Ff:bootBuiltins "list" = some (.type "list"):=by decide +kernel
theorem DA:bootBuiltins "tuple" = some (.type "tuple"):=by decide +kernel
theorem O0:bootBuiltins "int" = some (.type "int"):=by decide +kernel
theorem MI:bootBuiltins "bool" = some (.type "bool"):=by decide +kernel
theorem IB:bootBuiltins "reversed" = some (.type "reversed"):=by decide +kernel
def Fx(H:Hp)(L:List (Addr×HO)):Prop:=∀p∈L,H p.1=some p.2
def Mv(a:Addr)(H H':Hp):Prop:=∀b o,b≠a->H b=some o->H' b=some o
theorem Mv.refl(a:Addr)(H:Hp):Mv a H H:=fun _ _ _ h=>h
theorem Mv.trans{a:Addr}{H H1 H2:Hp}(x:Mv a H H1)(y:Mv a H1 H2):Mv a H H2:=fun b o n h=>y b o n (x b o n h)
theorem Mv.new{a p:Addr}{H:Hp}{o:HO}(h:H p=none):Mv a H (upd H p o):=fun b u _ q=>by rw[Aw (Ay q h)];exact q
theorem JS{ns:List Int}{k:Int}(h0:0<=k)(h:k<(ns.length:Int)):∃v:Int,atI (ns.map V.int) k=some (.int v):=by
 have hk:k.toNat<ns.length:=by lia
 have ek:k=((k.toNat:Nat):Int):=by lia
 have q:atI (ns.map V.int) ((k.toNat:Nat):Int)=some (.int ns[k.toNat]):=C9 (by rw[S3,Te hk]<;>rfl)
 rw[<- ek]at q
 exact⟨_,q⟩
def nT(q:Rat):HO:=.tup [.int q.num,.int q.den]
def Pen(H:Hp)(a:Addr):Prop:=∃c0 c1 c2:Int,H a=some (.lst [.int c0,.int c1,.int c2])
theorem Pen.same{H:Hp}{a p:Addr}{o:HO}(x:Pen H a)(h:H p=none):Pen (upd H p o) a:=by
 obtain⟨c0,c1,c2,e⟩:=x
 exact⟨c0,c1,c2,by rw[Aw (Ay e h)];exact e⟩
theorem Pen.put{H:Hp}{a:Addr}{c0 c1 c2:Int}:Pen (upd H a (.lst [.int c0,.int c1,.int c2])) a:=⟨c0,c1,c2,Ac⟩
def Bk(i j:Int):Prop:=(-(2 ^ 64)<i/\i<2 ^ 64)\/(-(2 ^ 64)<j/\j<2 ^ 64)\/M4 i j
theorem Bk.ok{i j:Int}(h:Bk i j):IntMulOk i j:=by
 rcases h with ⟨h1,h2⟩ | ⟨h1,h2⟩ | h
 ·exact .of_left (intBits_le_64 h1 h2)
 ·exact .of_right (intBits_le_64 h1 h2)
 ·exact h.ok
theorem Au{X:Cx}:OpR X (binaryOp .Mult) (rI Bk fun i j=>.int (i*j)):=opI fun _ _ _ _ _ _ _ hc q=>mul_int q hc.ok
def BW(a:Addr)(H H':Hp):Prop:=∀b,b≠a->H' b=H b
theorem BW.mv{a:Addr}{H H':Hp}(x:BW a H H'):Mv a H H':=fun b o n h=>by rw[x b n];exact h
theorem BW.put{a:Addr}{H:Hp}{o:HO}:BW a H (upd H a o):=fun b n=>Aw n
theorem Pen.ne{H:Hp}{a p:Addr}{o:HO}(x:Pen H a)(h:H p=some o)(hd:∀c0 c1 c2:Int,o ≠ .lst [.int c0,.int c1,.int c2]):p≠a:=by
 obtain⟨c0,c1,c2,e⟩:=x
 exact ER h e (hd c0 c1 c2)
structure Lg(a:Addr)(H:Hp)(L:List (Addr×HO)):Prop where
 fx:Fx H L
 ne:∀x∈L,x.1≠a
 pen:Pen H a
theorem OC(q:Rat):∀c0 c1 c2:Int,nT q ≠ .lst [.int c0,.int c1,.int c2]:=fun _ _ _ z=>by cases z
theorem MJ{xs:List Int}{i:Int}(h0:0<=i)(h:i<(xs.length:Int)):∃v:Int,atI (xs.map V.int) i=some (.int v)/\v∈xs:=by
 have hk:i.toNat<xs.length:=by lia
 have ek:i=((i.toNat:Nat):Int):=by lia
 have q:atI (xs.map V.int) ((i.toNat:Nat):Int)=some (.int xs[i.toNat]):=C9 (by rw[S3,Te hk]<;>rfl)
 rw[<- ek]at q
 exact⟨_,q,Tf hk⟩
theorem KL{K:Rv}{H:Hp}{a p:Addr}{xs:List V}{o:HO}(hS:SqL K H a xs)(hp:H p=none):SqL K (upd H p o) a xs:=by
 have st:∀u,H a=some u->upd H p o a=some u:=fun u e=>by rw[Aw (Ay e hp)];exact e
 rcases hS with (h | ⟨o,h⟩) | h
 ·exact .inl (.inl (st _ h))
 ·exact .inl (.inr ⟨o,st _ h⟩)
 ·exact .inr h
inductive Eo(vs:List V)(H:Hp)(Q:VK)(E_3:XK):Prop
 | mk (a:Addr) (m:Int) (h1:vs=[.ref a,.int m]) (h2:Pen H a) (h3:1<=m) (h4:m<1073741824) (h5:∀(d:Int) (H':Hp),0<=d->d<m->BW a H H'->Pen H' a->Q (.int d) H'):Eo vs H Q E_3
inductive KQ(K:Rv)(vs:List V)(H:Hp)(Q:VK)(E_3:XK):Prop
 | mk (a:Addr) (ns:List Int) (k:Int) (h1:vs=[.ref a,.int k]) (h2:SqL K H a (ns.map V.int)) (h3:ns.length<=63) (h4:0<=k) (h5:k<2 ^ 62) (h6:∀(p:Addr) (c0 c1:Int),H p=none->Q (.ref p) (upd H p (.lst [.int c0,.int c1,.int 0]))):KQ K vs H Q E_3
inductive CP(vs:List V)(H:Hp)(Q:VK)(E_3:XK):Prop
 | mk (t b:Int) (h1:vs=[.int t,.int b]) (h2:b≠0) (h3:∀p,H p=none->Q (.ref p) (upd H p (nT (Sv t b)))):CP vs H Q E_3
inductive HP(vs:List V)(H:Hp)(Q:VK)(E_3:XK):Prop
 | mk (a b:Int) (h1:vs=[.int a,.int b]) (h2:Q (.int (Sr a b)) H):HP vs H Q E_3
inductive HN(n:Nat)(vs:List V)(H:Hp)(Q:VK)(E_3:XK):Prop
 | mk (a:_) (h1:vs=[.ref a]) (h2:Pen H a) (h3:∀(q:Rat) (r:Addr) (H':Hp),Mv a H H'->Pen H' a->H' r=some (nT q)->Bd n q.num->Bd n q.den->Q (.ref r) H'):HN n vs H Q E_3
def mu(i:Nat)(σ:St):Nat:=match σ[i]? with | some (some (.int y))=>y.toNat | _=>0
theorem Bd.mono{m n:Nat}{x:Int}(h:Bd m x)(hmn:m<=n):Bd n x:=Ro h (Tg (by decide) hmn)
theorem Bd.num{n:Nat}{t b:Int}(h:Bd n t):Bd n (Sv t b).num:=by
 unfold Bd at *
 by_cases hb:b=0
 ·subst hb;simp;exact Ss (by simp)
 ·rw[<- Nm.top_msr hb]
  exact So (PySem.natAbs_fdiv_le t _) h
theorem Bd.den{n:Nat}{t b:Int}(hb:b≠0)(h:Bd n b):Bd n (Sv t b).den:=by
 unfold Bd at *
 rw[<- Nm.bottom_msr hb]
 exact So (PySem.natAbs_fdiv_le b _) h
end L2
namespace L2
open PySem PySem.Spec PyProof.Rows
def GK(K:Rv)(a:Addr)(xs:List V):It :=
 ⟨fun i H=>SqL K H a xs/\i<xs.length,fun i H x H'=>H'=H/\xs[xs.length-1-i]? = some x,fun i _=>xs.length=i⟩
theorem KC{P:Program}{w:World}{K:Rv}{tg:Expr}(a it:Addr)(xs:List V):IE P w K tg (GK K a xs) [it] it (fun i h=>i<=xs.length/\h.IsRevIter it a ((xs.length:Int)-1-(i:Int))) where
 mem:=by simp
 obj:=fun i h st b hb=>by
  have e:b=it:=by simpa using hb
  subst e
  obtain⟨_,o,e,c,d⟩:=st
  exact⟨o,e,fun v z=>by rw[d]at z;cases z⟩
 keep:=fun i h h' st k=>⟨st.1,st.2.at fun o e=>k it (by simp) o e⟩
 item:=by
  intro X hP hw hK hc i pins s σ H E I hf st hg
  subst hP hw hK
  obtain⟨hq,hi⟩:=hg
  obtain⟨its,rv,p,hz⟩:=I.list hq
  have hl:=rv.length
  have hx:xs[xs.length-1-i]? = some (xs[xs.length-1-i]'(by lia)):=Te (by lia)
  obtain⟨u,hu,ru⟩:=rv.get hx
  obtain⟨f0,f1,f2,f3,f4,f5⟩:=hf it (by simp)
  have e:(xs.length:Int)-1-(i:Int)=((xs.length-1-i:Nat):Int):=by lia
  have st2:=st.2
  rw[e]at st2
  refine wpAny_pyNext_rev_item st2 p.isList (x:=u) (by simpa using hu) fun h' st' sb=>?_
  have I1:Inv X pins σ H { s with heap:=h' }:=I.turned (t':=s.toks) (fun b o hb e=>(sb.2 b hb).trans e) f0 f1 f3 f4 f5
  obtain⟨o,e',c,d⟩:=id st'
  have e2:((xs.length-1-i:Nat):Int)-1=(xs.length:Int)-1-((i+1:Nat):Int):=by lia
  rw[e2]at st'
  exact⟨u,rfl,Io (s:={ s with heap:=h' }) e' c d (by decide) ⟨_,H,I1,ru,⟨rfl,hx⟩,⟨hi,st'⟩,fun b hb=>(hf b hb).1⟩⟩
 done:=by
  intro X hP hw hK hc i pins s σ H E I hf st hg
  subst hP hw hK
  obtain⟨f0,f1,f2,f3,f4,f5⟩:=hf it (by simp)
  have hg':xs.length=i:=hg
  have st2:=st.2
  rw[show(xs.length:Int)-1-(i:Int) = -1 by lia]at st2
  exact wpAny_pyNext_rev_end (I.ok.hd hc) st2 fun h' eb=>⟨rfl,I.turned (t':=s.toks) (fun b o hb e=>eb b o hb e) f0 f1 f3 f4 f5⟩
 self:=fun _ _ _ _ _ st h=>wpAny_pyIter_revIter st.2 h
section
variable {X:Cx}{tg:Expr}
def OH(K:Rv)(tl:TE):TI:=fun σ H R=>tl σ H fun x H1=>∃v,[x]=[v]/\∃a xs,v = .ref a/\SqL K H1 a xs/\R (GK K a xs) H1
theorem Nh{l:Expr}{tl:TE}{p pos:Pos}(hg:Gl X "reversed")(hm:X.mg "reversed" = none)(hl:PE X l tl)(hs:starEach [l] X.env=[(false,eval l X.env)]:=by rfl):PI X tg (.Call (.Name "reversed" p) [l] [] pos) (OH X.K tl):=by
 intro pins s σ H R I h
 have ha:PA X [l] (MO tl Oe):=A0 hl Ab (by rw[hs];rfl)
 refine Call_ (Dw I hg hm IB (PyProof.Rows.callWith_type1 (thn (ha pos pins s σ H (fun vs H1=>∃x,vs=[x]/\∃a xs,x = .ref a/\SqL X.K H1 a xs/\R (GK X.K a xs) H1) I h) fun us s1 ⟨vs,H1,I1,r1,q1⟩=>?_) hs rfl))
 obtain⟨x,e0,a,xs,e,hq,q⟩:=q1
 subst e0
 subst e
 cases r1 with
 | cons r rr =>
   cases rr
   cases r
   obtain⟨its,rv,p,hz⟩:=I1.list hq
   refine call_reversed_list p.isList ?_
   have I2:Inv X pins σ H1 { s1 with heap:=s1.heap.push (revObj a ((its.toArray.size:Int)-1)) }:=I1.kept (t':=s1.toks) fun b o e=>Heap.get?_push_of_some _ e
   have st:({ s1 with heap:=s1.heap.push (revObj a ((its.toArray.size:Int)-1)) }:Shared).heap.IsRevIter s1.heap.objs.size a ((xs.length:Int)-1-((0:Nat):Int)):=by
    refine⟨_,Heap.get?_push_size _ rfl,rfl,?_⟩
    have e:((its.toArray.size:Nat):Int)-1=(xs.length:Int)-1-((0:Nat):Int):=by rw[Sg,<- rv.length];simp
    show Data.fields #[.ref a,rawInt _]=_
    rw[e]
   refine wpAny_pyIter_revIter st ?_
   refine⟨s1.heap.objs.size,[s1.heap.objs.size],_,_,H1,rfl,I2,KC a _ xs,⟨RM _,st⟩,fun b hb=>?_,q⟩
   have e:b=s1.heap.objs.size:=by simpa using hb
   subst e
   exact I1.fpOk (RK _) (I1.hok.fresh (RK _))
end
theorem MH{K:Rv}{a:Addr}{xs:List V}{g:TG}{tb:TS}{D:CZ}{σ:St}{H:Hp}(Pv:Nat->St->Hp->Prop)(h0:Pv 0 σ H)(hl:∀i σ H,i<=xs.length->Pv i σ H->SqL K H a xs)
 (hs:∀i x σ H,i<xs.length->xs[xs.length-1-i]? = some x->Pv i σ H->g x σ H fun σ2 H2=>tb { D with nx:=Pv (i+1),ct:=Pv (i+1),bk:=D.nx } σ2 H2) (hd:∀σ H,Pv xs.length σ H->D.nx σ H) :
 ∃ W:Nat->Nat->St->Hp->Prop,(∃m,W 0 m σ H)/\∀i m σ H,W i m σ H ->
   ((GK K a xs).stop i H/\D.nx σ H)\/((GK K a xs).go i H/\∃N:St->Hp->Prop,(∀σ' H',N σ' H'->∃m',m'<m/\W (i+1) m' σ' H')/\∀x H',(GK K a xs).yld i H x H'->g x σ H' fun σ2 H2=>tb { D with nx:=N,ct:=N,bk:=D.nx } σ2 H2):=by
 refine⟨fun i m σ H=>m=xs.length-i/\i<=xs.length/\Pv i σ H,⟨xs.length,by simp,RM _,h0⟩,?_⟩
 rintro i m σ H ⟨rfl,hi,p⟩
 have q:=hl i σ H hi p
 by_cases hlt:i<xs.length
 ·refine .inr ⟨⟨q,hlt⟩,Pv (i+1),fun σ' H' p'=>⟨xs.length-(i+1),by lia,rfl,hlt,p'⟩,fun x H' y=>?_⟩
  obtain⟨e,y⟩:=y
  subst e
  exact hs i x σ _ hlt y p
 ·have e:i=xs.length:=by lia
  subst e
  exact .inl ⟨rfl,hd σ H p⟩
theorem Kt{X:Cx}(hc:X.calm=true):CD X (.builtin "all") (fun xs H Q=>∃(a:Addr) (bs:List Bool),xs=[.ref a]/\SqL X.K H a (bs.map V.bl)/\Q (.bl (bs.all id)) H):=by
 intro pins s σ H xs us Q I r h
 obtain⟨a,bs,rfl,hq,q⟩:=h
 obtain⟨u,rfl,rfl⟩:=Fg r
 obtain⟨its,rv,p,hz⟩:=I.list hq
 have hl:=rv.length
 rw[S7]at hl
 have hlt:a<s.heap.objs.size:=by obtain⟨_,e,_⟩:=p.isList;exact Heap.lt_size e
 refine call_all_walk (wpAny_pyIter_list p.isList ?_)
 refine⟨s.heap.objs.size,[s.heap.objs.size,a],[s.heap.objs.size],its.toArray.size,_,_,fun i=>(bs[i]?).getD true,rfl,Walks.list (A:=X.A.in1) (I.ok.hd hc) _ a (Rq hlt) its.toArray,
  ⟨⟨_,Heap.get?_push_size _ rfl,rfl,rfl⟩,p.isList.push _⟩,fun i v s' Q' E' hP hQ=>?_,fun h' tk hk=>?_⟩
 ·have hP':its[i]? = some v:=by simpa using hP
  have hi:i<bs.length:=by rw[hl];exact(RF.mp hP').1
  obtain⟨u',hu',ru⟩:=rv.get (i:=i) (x:=.bl bs[i]) (by rw[S3,Te hi];rfl)
  rw[hP']at hu'
  cases hu'
  cases ru
  dsimp only at hQ
  rw[Te hi,Th]at hQ
  exact wpAny_truthy_bool hQ
 ·have e:((Rr its.toArray.size).all fun i=>(bs[i]?).getD true)=bs.all id:=by
   rw[Sg,<- hl,Bool.eq_iff_iff,T5,T5]
   constructor
   ·intro z b hb
    obtain⟨i,hi,rfl⟩:=Ti hb
    have:=z i (Ru.mpr hi)
    rw[Te hi,Th]at this
    exact this
   ·intro z i hi
    have hi':=Ru.mp hi
    rw[Te hi',Th]
    exact z _ (Tf hi')
  rw[e]
  exact⟨.bl _,H,I.kept (fun b o e=>hk b o (fun hm=>by rw[Td.mp hm]at e;exact Rp _ (Heap.lt_size e)) (Heap.get?_push_of_some _ e)),rfl,q⟩
end L2
namespace L2
open PySem PySem.Spec PyProof.Rows
theorem SqT.same{K:Rv}{H H':Hp}{a:Addr}{xs:List V}(h:SqT K H a xs)(e:Af H H'):SqT K H' a xs:=by
 rcases h with (h | ⟨o,h⟩) | h
 ·exact .inl (.inl (e _ _ h))
 ·exact .inl (.inr ⟨o,e _ _ h⟩)
 ·exact .inr h
theorem Af.new{H:Hp}{p:Addr}{o:HO}(h:H p=none):Af H (upd H p o):=fun b u q=>by rw[Aw (Ay q h)];exact q
theorem Af.mv{H H':Hp}{a:Addr}(h:Af H H'):Mv a H H':=fun b o _ q=>h b o q
theorem Paired.get{α β:Type}{F:α->β->Prop}:∀{l₁:List α} {l₂:List β} {i:Nat} {a:α},Paired F l₁ l₂->l₁[i]? = some a->∃b,l₂[i]? = some b/\F a b
 | _,_,_,_,.nil,e=>by simp at e
 | _,_,0,_,.cons h _,e=>by simp at e;subst e;exact⟨_,rfl,h⟩
 | _,_,i+1,_,.cons _ t,e=>by
   obtain⟨b,h1,h2⟩:=Paired.get (i:=i) t (by simpa using e)
   exact⟨b,by simpa using h1,h2⟩
theorem Paired.get'{α β:Type}{F:α->β->Prop}:∀{l₁:List α} {l₂:List β} {i:Nat} {b:β},Paired F l₁ l₂->l₂[i]? = some b->∃a,l₁[i]? = some a/\F a b
 | _,_,_,_,.nil,e=>by simp at e
 | _,_,0,_,.cons h _,e=>by simp at e;subst e;exact⟨_,rfl,h⟩
 | _,_,i+1,_,.cons _ t,e=>by
   obtain⟨b,h1,h2⟩:=Paired.get' (i:=i) t (by simpa using e)
   exact⟨b,by simpa using h1,h2⟩
theorem Paired.take{α β:Type}{F:α->β->Prop}:∀{l₁:List α} {l₂:List β} (n:Nat),Paired F l₁ l₂->Paired F (l₁.take n) (l₂.take n)
 | _,_,0,_=>by simp;exact .nil
 | _,_,_+1,.nil=>.nil
 | _,_,n+1,.cons h t=>.cons h (Paired.take n t)
theorem Paired.append{α β:Type}{F:α->β->Prop}{l₁ l₁':List α}{l₂ l₂':List β}(a:Paired F l₁ l₂)(b:Paired F l₁' l₂'):Paired F (l₁++l₁') (l₂++l₂'):=by
 induction a with
 | nil=>exact b
 | cons h t ih=>exact .cons h ih
theorem Paired.set{α β:Type}{F:α->β->Prop}{a:α}{b:β}(q:F a b):∀{l₁:List α} {l₂:List β} (i:Nat),Paired F l₁ l₂->Paired F (l₁.set i a) (l₂.set i b)
 | _,_,_,.nil=>.nil
 | _,_,0,.cons _ t=>.cons q t
 | _,_,i+1,.cons h t=>.cons h (Paired.set q i t)
def Az(K:Rv)(H:Hp)(x:V)(q:Rat):Prop:=∃r,x = .ref r/\SqT K H r [.int q.num,.int q.den]
abbrev Ar(K:Rv)(H:Hp):List V->List Rat->Prop:=Paired (Az K H)
theorem Az.of{K:Rv}{H:Hp}{r:Addr}{q:Rat}(h:H r=some (nT q)):Az K H (.ref r) q:=⟨r,rfl,SqT.of h⟩
theorem Az.same{K:Rv}{H H':Hp}{x:V}{q:Rat}(h:Az K H x q)(e:Af H H'):Az K H' x q:=by
 obtain⟨r,rfl,h⟩:=h
 exact⟨r,rfl,h.same e⟩
theorem Ar.same{K:Rv}{H H':Hp}{xs:List V}{qs:List Rat}(h:Ar K H xs qs)(e:Af H H'):Ar K H' xs qs:=Paired.mapP h fun _ _ z=>z.same e
theorem SqT.mv{K:Rv}{H H':Hp}{a p:Addr}{xs:List V}(h:SqT K H a xs)(pn:Pen H p)(m:Mv p H H'):SqT K H' a xs:=by
 obtain⟨c0,c1,c2,e⟩:=pn
 rcases h with (h | ⟨o,h⟩) | h
 ·exact .inl (.inl (m _ _ (ER h e (fun z=>by cases z)) h))
 ·exact .inl (.inr ⟨o,m _ _ (ER h e (fun z=>by cases z)) h⟩)
 ·exact .inr h
theorem Az.mv{K:Rv}{H H':Hp}{x:V}{q:Rat}{p:Addr}(h:Az K H x q)(pn:Pen H p)(m:Mv p H H'):Az K H' x q:=by
 obtain⟨r,rfl,h⟩:=h
 exact⟨r,rfl,h.mv pn m⟩
theorem Ar.mv{K:Rv}{H H':Hp}{xs:List V}{qs:List Rat}{p:Addr}(h:Ar K H xs qs)(pn:Pen H p)(m:Mv p H H'):Ar K H' xs qs:=Paired.mapP h fun _ _ z=>z.mv pn m
theorem SqT.put{K:Rv}{H:Hp}{a p:Addr}{xs ys:List V}{o:HO}(h:SqT K H a xs)(hp:H p=some (.lst ys)):SqT K (upd H p o) a xs:=by
 rcases h with (h | ⟨u,h⟩) | h
 ·exact .inl (.inl (by rw[Aw (ER h hp (fun z=>by cases z))];exact h))
 ·exact .inl (.inr ⟨u,by rw[Aw (ER h hp (fun z=>by cases z))];exact h⟩)
 ·exact .inr h
theorem Az.put{K:Rv}{H:Hp}{x:V}{q:Rat}{p:Addr}{ys:List V}{o:HO}(h:Az K H x q)(hp:H p=some (.lst ys)):Az K (upd H p o) x q:=by
 obtain⟨r,rfl,h⟩:=h
 exact⟨r,rfl,h.put hp⟩
theorem Ar.put{K:Rv}{H:Hp}{xs:List V}{qs:List Rat}{p:Addr}{ys:List V}{o:HO}(h:Ar K H xs qs)(hp:H p=some (.lst ys)):Ar K (upd H p o) xs qs:=Paired.mapP h fun _ _ z=>z.put hp
def Crv(K:Rv)(H:Hp)(r:Addr)(qs:List Rat):Prop:=∃xs,SqT K H r xs/\Ar K H xs qs
theorem Crv.same{K:Rv}{H H':Hp}{r:Addr}{qs:List Rat}(h:Crv K H r qs)(e:Af H H'):Crv K H' r qs:=let ⟨xs,a,b⟩:=h;⟨xs,a.same e,b.same e⟩
theorem Crv.mv{K:Rv}{H H':Hp}{r p:Addr}{qs:List Rat}(h:Crv K H r qs)(pn:Pen H p)(m:Mv p H H'):Crv K H' r qs:=let ⟨xs,a,b⟩:=h;⟨xs,a.mv pn m,b.mv pn m⟩
def nD(q:Rat):PyData:=.tuple [.int q.num,.int q.den]
theorem Az.rds{K:Rv}{H:Hp}{x:V}{q:Rat}(h:Az K H x q):Rds K H x (nD q):=by
 obtain⟨r,rfl,h⟩:=h
 refine .tup h rfl fun i x d e1 e2=>?_
 match i with
 | 0=>simp at e1 e2;subst e1;subst e2;exact .int _
 | 1=>simp at e1 e2;subst e1;subst e2;exact .int _
 | i+2=>simp at e1
theorem J7(p q:Rat):PyData.eqv (nD p) (nD q)=decide (p=q):=by
 show(p.num == q.num&&(((p.den:Int) == (q.den:Int))&&true))=_
 rw[Bool.and_true,Bool.eq_iff_iff]
 simp only[Bool.and_eq_true,beq_iff_eq,decide_eq_true_eq]
 constructor
 ·rintro⟨h1,h2⟩
  exact Rat.ext h1 (Int.ofNat.inj h2)
 ·rintro rfl
  exact⟨rfl,rfl⟩
theorem Fe:∀ps qs:List Rat,PyData.eqvAll (ps.map nD) (qs.map nD)=decide (ps=qs)
 | [],[]=>rfl
 | [],_::_=>rfl
 | _::_,[]=>rfl
 | p::ps,q::qs=>by
   show(PyData.eqv (nD p) (nD q)&&PyData.eqvAll (ps.map nD) (qs.map nD))=_
   rw[J7,Fe ps qs,Bool.eq_iff_iff]
   simp
theorem ED(q:Rat):SeqAt.shaped (nD q)=true:=by rfl
theorem Ar.rds{K:Rv}{H:Hp}{xs:List V}{qs:List Rat}(h:Ar K H xs qs):∀(i:Nat) x d,xs[i]? = some x->(qs.map nD)[i]? = some d->Rds K H x d:=fun i x d e1 e2=>by
 obtain⟨q,hq,hn⟩:=Paired.get h e1
 rw[S3,hq]at e2
 cases e2
 exact hn.rds
theorem Ar.rdsT{K:Rv}{H:Hp}{r:Addr}{xs:List V}{qs:List Rat}(h:Ar K H xs qs)(s:SqT K H r xs):Rds K H (.ref r) (.tuple (qs.map nD)):=.tup s (by rw[h.length,S7]) h.rds
theorem Ar.rdsL{K:Rv}{H:Hp}{r:Addr}{xs:List V}{qs:List Rat}(h:Ar K H xs qs)(s:SqL K H r xs):Rds K H (.ref r) (.list (qs.map nD)):=.lst s (by rw[h.length,S7]) h.rds
theorem Hn:∀qs:List Rat,PyData.canLayAll0 (qs.map nD)=true
 | []=>rfl
 | q::r=>by
   show(PyData.canLay0 (nD q)&&PyData.canLayAll0 (r.map nD))=true
   rw[Hn r];rfl
theorem EC:∀qs:List Rat,PyData.depthAll (qs.map nD)<=1
 | []=>RM _
 | q::r=>by
   have ih:=EC r
   show max (PyData.depth (nD q)) (PyData.depthAll (r.map nD))<=1
   exact Nat.max_le.mpr ⟨RK _,ih⟩
theorem Fc(qs:List Rat):SeqAt.shaped (.list (qs.map nD))=true:=by
 show(PyData.canLayAll0 (qs.map nD)&&decide (PyData.depthAll (qs.map nD)+1<=64))=true
 rw[Hn,Bool.true_and]
 exact decide_eq_true (by have:=EC qs;lia)
theorem Jx(qs:List Rat):SeqAt.shaped (.tuple (qs.map nD))=true:=Fc qs
theorem eqN{K:Rv}{H:Hp}{x y:V}{p q:Rat}{Q:VK}{neg:Bool}(h1:Az K H x p)(h2:Az K H y q)(h:Q (.bl (if neg then !decide (p=q) else decide (p=q))) H):ET K neg x y H Q :=
 Hv ⟨_,_,h1.rds,h2.rds,ED _,ED _,by rw[J7];exact h⟩
theorem eqT{K:Rv}{H:Hp}{a b:Addr}{ps qs:List Rat}{Q:VK}{neg:Bool}(h1:Crv K H a ps)(h2:Crv K H b qs)(h:Q (.bl (if neg then !decide (ps=qs) else decide (ps=qs))) H):ET K neg (.ref a) (.ref b) H Q:=by
 obtain⟨xs,s1,n1⟩:=h1
 obtain⟨ys,s2,n2⟩:=h2
 refine Hv ⟨_,_,n1.rdsT s1,n2.rdsT s2,Jx _,Jx _,?_⟩
 have e:PyData.eqv (.tuple (ps.map nD)) (.tuple (qs.map nD))=decide (ps=qs):=Fe ps qs
 rw[e];exact h
theorem eqL{K:Rv}{H:Hp}{a b:Addr}{xs ys:List V}{ps qs:List Rat}{Q:VK}{neg:Bool}(s1:SqL K H a xs)(n1:Ar K H xs ps)(s2:SqL K H b ys)(n2:Ar K H ys qs)(h:Q (.bl (if neg then !decide (ps=qs) else decide (ps=qs))) H):ET K neg (.ref a) (.ref b) H Q:=by
 refine Hv ⟨_,_,n1.rdsL s1,n2.rdsL s2,Fc _,Fc _,?_⟩
 have e:PyData.eqv (.list (ps.map nD)) (.list (qs.map nD))=decide (ps=qs):=Fe ps qs
 rw[e];exact h
theorem Jj{c:TT}{tb:TS}{D:CZ}{σ:St}{H:Hp}(Pv:St->Hp->Prop)(μ:St->Hp->Nat)(h0:Pv σ H)
 (hs:∀σ H,Pv σ H->c σ H fun b H1=>if b=true then ∃N:St->Hp->Prop,(∀σ' H',N σ' H'->∃m',m'<μ σ H/\(m'=μ σ' H'/\Pv σ' H'))/\tb { D with nx:=N,ct:=N,bk:=D.nx } σ H1 else D.nx σ H1):IM c tb D σ H:=by
 refine⟨fun m σ H=>m=μ σ H/\Pv σ H,⟨_,rfl,h0⟩,?_⟩
 rintro m σ H ⟨rfl,p⟩
 exact hs σ H p
theorem Ji{tb:TS}{D:CZ}{σ:St}{H1:Hp}{m:Nat}{Pv:St->Hp->Prop}{μ:St->Hp->Nat}
 (h:tb { D with nx:=fun σ' H'=>Pv σ' H'/\μ σ' H'<m,ct:=fun σ' H'=>Pv σ' H'/\μ σ' H'<m,bk:=D.nx } σ H1) :
 ∃N:St->Hp->Prop,(∀σ' H',N σ' H'->∃m',m'<m/\(m'=μ σ' H'/\Pv σ' H'))/\tb { D with nx:=N,ct:=N,bk:=D.nx } σ H1 :=
 ⟨_,fun _ _ ⟨p,l⟩=>⟨_,l,rfl,p⟩,h⟩
def RB(n:Nat)(q:Rat):Prop:=Bd n q.num/\Bd n (q.den:Int)
theorem Bd.mul{m n:Nat}{x y:Int}(h1:Bd m x)(h2:Bd n y):Bd (m+n) (x*y):=by
 unfold Bd at *
 rw[Tj,Tn]
 exact Nat.mul_lt_mul'' h1 h2
theorem Bd.add{n:Nat}{x y:Int}(h1:Bd n x)(h2:Bd n y):Bd (n+1) (x+y):=by
 unfold Bd at *
 rw[Nat.pow_succ,Nat.mul_two]
 exact So (To x y) (Nat.add_lt_add h1 h2)
theorem Bd.sub{n:Nat}{x y:Int}(h1:Bd n x)(h2:Bd n y):Bd (n+1) (x-y):=by
 rw[Tp]
 exact Bd.add h1 (by unfold Bd;rw[Int.natAbs_neg];exact h2)
theorem Bd.fdiv{n:Nat}{x y:Int}(h:Bd n x):Bd n (x.fdiv y):=So (PySem.natAbs_fdiv_le x y) h
theorem Bk.bd{m n:Nat}{x y:Int}(h1:Bd m x)(h2:Bd n y)(h:m+n<=134217728:=by lia):Bk x y:=.inr (.inr ⟨m,n,h1,h2,h⟩)
theorem RB.mono{m n:Nat}{q:Rat}(h:RB m q)(hmn:m<=n):RB n q:=⟨h.1.mono hmn,h.2.mono hmn⟩
theorem RB.div{m n:Nat}{t b:Int}(h1:Bd n t)(h2:Bd n b)(hb:b≠0):RB n (Sv t b):=⟨Bd.num h1,Bd.den hb h2⟩
theorem HL:∀{us:List Value} {xs:List V},us.map Kv=xs.map some->(∀u∈us,∀x,Kv u=some x->AZ x u)->AJ xs us
 | [],[],_,_=>.nil
 | [],_::_,e,_=>by simp at e
 | _::_,[],e,_=>by simp at e
 | u::us,x::xs,e,h=>by
   simp only[Sn,List.cons.injEq]at e
   exact .cons (h u Rz x e.1) (HL e.2 fun v hv=>h v (RA _ hv))
theorem LZ{u:Value}{x:V}(h:Kv u=some x):AZ x u:=by
 cases u<;>first | (cases h;rfl) | (cases h;exact⟨_,rfl⟩) | cases h
theorem Kp{K:Rv}{H:Hp}{a:Addr}{o:Obj}{vs:Array Value}{n:Nat}{q:Rat}(hk:K.lookup a=some o)(hc:o.cls = .type "tuple")(hd:o.data = .seq vs n)(e:vs.toList.map Kv=[some (.int q.num),some (.int (q.den:Int))]):SqT K H a [.int q.num,.int q.den]:=by
 refine .inr ⟨o,vs,n,hk,hc,hd,?_,HL e fun u _ x h=>LZ h⟩
 have hl:=congrArg List.length e
 simp at hl
 rw[hl];decide
theorem RB.plus{m n:Nat}{p q:Rat}(h1:RB m p)(h2:RB n q):RB (m+n+1) (p+q):=by
 rw[<- Nm.plus_eq]
 refine⟨Bd.num (Bd.add (h1.1.mul h2.2) ((h2.1.mul h1.2).mono (by lia))),Bd.den (SF (Nm.den_ne p) (Nm.den_ne q)) ((h1.2.mul h2.2).mono (by lia))⟩
theorem RB.times{m n:Nat}{p q:Rat}(h1:RB m p)(h2:RB n q):RB (m+n) (p*q):=by
 rw[<- Nm.times_eq]
 exact⟨Bd.num (h1.1.mul h2.1),Bd.den (SF (Nm.den_ne p) (Nm.den_ne q)) (h1.2.mul h2.2)⟩
theorem RB.zero{n:Nat}(h:1<=n):RB n 0:=⟨(show Bd 1 0 by unfold Bd;decide).mono h,(show Bd 1 1 by unfold Bd;decide).mono h⟩
theorem RB.one{n:Nat}(h:1<=n):RB n 1:=⟨(show Bd 1 1 by unfold Bd;decide).mono h,(show Bd 1 1 by unfold Bd;decide).mono h⟩
inductive Cs(K:Rv)(g:Rat->Rat->Rat)(vs:List V)(H:Hp)(Q:VK)(E_3:XK):Prop
 | mk (x y:V) (p q:Rat) (m n:Nat) (h1:vs=[x,y]) (h2:Az K H x p) (h3:Az K H y q) (h4:RB m p) (h5:RB n q) (h6:m+n<=100000000) (h7:∀r,H r=none->Q (.ref r) (upd H r (nT (g p q)))):Cs K g vs H Q E_3
end L2
namespace L2
open PySem PySem.Spec PyProof.Rows
def Sq(b:Bool)(K:Rv)(H:Hp)(a:Addr)(xs:List V):Prop:=match b with
 | true=>SqL K H a xs
 | false=>SqT K H a xs
theorem Sq.same{b:Bool}{K:Rv}{H H':Hp}{a:Addr}{xs:List V}(h:Sq b K H a xs)(e:Af H H'):Sq b K H' a xs:=by
 cases b
 ·exact SqT.same h e
 ·exact e.seq h
theorem K3{X:Cx}{tg l:Expr}{w1 w2:TI}(h1:PI X tg l w1)(h2:PI X tg l w2):PI X tg l (fun σ H R=>w1 σ H R\/w2 σ H R):=fun pins s σ H R I h=>by
 rcases h with h | h
 ·exact h1 pins s σ H R I h
 ·exact h2 pins s σ H R I h
abbrev NT(K:Rv)(tl:TE):TI:=fun σ H R=>LD K tl σ H R\/NS K tl σ H R
theorem JH{K:Rv}{b:Bool}{a:Addr}{n:Nat}{xs:List V}{g:TG}{tb:TS}{D:CZ}{σ:St}{H:Hp}(hσ:σ[n]? = some (some (.ref a)))(Pv:Nat->St->Hp->Prop)(h0:Pv 0 σ H)(hl:∀i σ H,i<=xs.length->Pv i σ H->Sq b K H a xs)
 (hs:∀i x σ H,xs[i]? = some x->Pv i σ H->g x σ H fun σ2 H2=>tb { D with nx:=Pv (i+1),ct:=Pv (i+1),bk:=D.nx } σ2 H2) (hd:∀σ H,Pv xs.length σ H->D.nx σ H) :
 N3 (NT K (KH n)) g tb D σ H:=by
 have q:=hl 0 σ H (RM _) h0
 cases b with
 | true=>exact .inl ⟨_,hσ,a,rfl,⟨xs,q⟩,FQ Pv h0 hl hs hd⟩
 | false=>exact .inr ⟨_,hσ,a,rfl,⟨xs,q⟩,MG Pv h0 hl hs hd⟩
theorem Ja{K:Rv}{b:Bool}{a:Addr}{n:Nat}{js:List Nat}{xs:List V}{te:TE}{σ:St}{H:Hp}{Q:VK}(hσ:σ[n]? = some (some (.ref a)))(Pv:Nat->List V->Hp->Prop)(h0:Pv 0 [] H)
 (hl:∀i zs H,i<=xs.length->Pv i zs H->Sq b K H a xs/\zs.length=i) (hz:xs.length<=sizeLine)
 (hs:∀i x zs H,xs[i]? = some x->Pv i zs H->te ((cS 1 js σ).set 0 (some x)) H fun y H4=>Pv (i+1) (zs++[y]) H4) (fin:∀zs H',Pv xs.length zs H'->∀p,H' p=none->Q (.ref p) (upd H' p (.lst zs))) :
 tLC (NT K (KH n)) 1 js (Ck 0) JZ te σ H Q:=by
 have q:=(hl 0 [] H (RM _) h0).1
 cases b with
 | true =>
   refine C3 (.inl ⟨_,hσ,a,rfl,⟨xs,q⟩,xs.length,Pv,h0,⟨?_,?_,?_⟩⟩)
   ·intro i zs H' hi p
    have hle:=Rx hi
    obtain⟨h1,h2⟩:=hl i zs H' hle p
    exact⟨⟨xs,xs[i],h1,by simp[hi]⟩,by lia⟩
   ·rintro i zs H' x H1 hi p ⟨rfl,y⟩
    have hle:=Rx hi
    have hx:=y xs (hl i zs _ hle p).1
    exact hs i x zs _ hx p
   ·intro zs H' p
    have hle:=RK xs.length
    obtain⟨h1,h2⟩:=hl _ zs H' hle p
    exact⟨⟨xs,h1,RK _⟩,by lia,fin zs H' p⟩
 | false =>
   refine C3 (.inr ⟨_,hσ,a,rfl,⟨xs,q⟩,xs.length,Pv,h0,⟨?_,?_,?_⟩⟩)
   ·intro i zs H' hi p
    have hle:=Rx hi
    obtain⟨h1,h2⟩:=hl i zs H' hle p
    exact⟨⟨xs,xs[i],h1,by simp[hi]⟩,by lia⟩
   ·rintro i zs H' x H1 hi p ⟨rfl,y⟩
    have hle:=Rx hi
    have hx:=y xs (hl i zs _ hle p).1
    exact hs i x zs _ hx p
   ·intro zs H' p
    have hle:=RK xs.length
    obtain⟨h1,h2⟩:=hl _ zs H' hle p
    exact⟨⟨xs,h1,RK _⟩,by lia,fin zs H' p⟩
section
variable {X:Cx}(K:Rv)
theorem ixT(e:X.K=K:=by rfl):IxR X (Na K):=by subst e;exact NO
theorem ixL(e:X.K=K:=by rfl):IxR X (Nb K):=by subst e;exact MB
theorem eqD(hu:X.A.units+64<cLine)(e:X.K=K:=by rfl):OpR X (compareOp .Eq) (ET K false):=by subst e;exact Nr hu
theorem neD(hu:X.A.units+64<cLine)(e:X.K=K:=by rfl):OpR X (compareOp .NotEq) (ET K true):=by subst e;exact Nq hu
theorem slL(e:X.K=K:=by rfl):SlR X (N9 K):=by subst e;exact Md
inductive TyX(K:Rv)(H:Hp):V->Value->Prop where
 | of {x:V} {t:Value} (h:EH K H x t):TyX K H x t
 | tup {a:Addr} {xs:List V} (h:SqT K H a xs):TyX K H (.ref a) (.type "tuple")
 | lst {a:Addr} {xs:List V} (h:SqL K H a xs):TyX K H (.ref a) (.type "list")
inductive OL(xs:List V)(H:Hp)(Q:VK):Prop
 | mk (x:_) (T:_) (t:_) (b:_) (h1:xs=[x,.ty T]) (h2:TyX K H x t) (h3:RQ K t (.type T)=some b) (h4:Q (.bl b) H):OL xs H Q
theorem Kj(e:X.K=K:=by rfl):CD X (.builtin "isinstance") (OL K):=by
 subst e
 intro pins s σ H xs us Q I r h
 obtain⟨x,T,t,b,rfl,ty,e,q⟩:=h
 obtain⟨u,w',rfl,rx,rT⟩:=O9 r
 cases rT
 cases ty with
 | of ty=>exact Ki I rx ty e fun tk=>⟨.bl b,H,I.tok _,rfl,q⟩
 | tup hq =>
   cases rx
   obtain⟨its,rv,⟨o,e1,c,_⟩,_⟩:=I.tuple hq
   exact RS PySem.W.kitx_tuple I.kIn ⟨o,e1,c⟩ e (fun z=>nomatch z) fun tk=>⟨.bl b,H,I.tok _,rfl,q⟩
 | lst hq =>
   cases rx
   obtain⟨its,rv,⟨o,n,e1,c,_⟩,_⟩:=I.list hq
   exact RS RT I.kIn ⟨o,e1,c⟩ e (fun z=>nomatch z) fun tk=>⟨.bl b,H,I.tok _,rfl,q⟩
inductive OK(xs:List V)(H:Hp)(Q:VK):Prop
 | mk (p:_) (ys:_) (h1:xs=[.ref p]) (h2:(SqL K H p ys\/SqT K H p ys)) (h3:Q (.int ys.length) H):OK xs H Q
theorem Bs(e:X.K=K:=by rfl):CD X (.builtin "len") (OK K):=by subst e;exact fun pins s σ H xs us Q I r ⟨p,ys,h1,h2,h3⟩=>HD pins s σ H xs us Q I r ⟨p,ys,h1,h2,h3⟩
inductive MX(xs:List V)(H:Hp)(Q:VK):Prop
 | mk (p:_) (ys:_) (h1:xs=[.ref p]) (h2:(SqL K H p ys\/SqT K H p ys)) (h3:∀l,H l=none->Q (.ref l) (upd H l (.lst ys))):MX xs H Q
theorem Ls(e:X.K=K:=by rfl):CD X (.type "list") (MX K):=by subst e;exact fun pins s σ H xs us Q I r ⟨p,ys,h1,h2,h3⟩=>HC pins s σ H xs us Q I r ⟨p,ys,h1,h2,h3⟩
inductive LW(xs:List V)(H:Hp)(Q:VK):Prop
 | mk (p:_) (ys:_) (h1:xs=[.ref p]) (h2:((SqL K H p ys/\∀l,H l=none->Q (.ref l) (upd H l (.tup ys)))\/(SqT K H p ys/\Q (.ref p) H))):LW xs H Q
theorem KD(e:X.K=K:=by rfl):CD X (.type "tuple") (LW K):=by subst e;exact fun pins s σ H xs us Q I r ⟨p,ys,h1,h2⟩=>Gm pins s σ H xs us Q I r ⟨p,ys,h1,h2⟩
inductive OM(xs:List V)(H:Hp)(Q:VK):Prop
 | mk (a:Addr) (bs:List Bool) (h1:xs=[.ref a]) (h2:SqL K H a (bs.map V.bl)) (h3:Q (.bl (bs.all id)) H):OM xs H Q
theorem Ph(hc:X.calm=true)(e:X.K=K:=by rfl):CD X (.builtin "all") (OM K):=by subst e;exact fun pins s σ H xs us Q I r ⟨a,bs,h1,h2,h3⟩=>Kt hc pins s σ H xs us Q I r ⟨a,bs,h1,h2,h3⟩
variable {tg l:Expr}{tl:TE}
theorem piL(hl:PE X l tl)(e:X.K=K:=by rfl):PI X tg l (LD K tl):=by subst e;exact Ju hl
theorem piT(hl:PE X l tl)(e:X.K=K:=by rfl):PI X tg l (NS K tl):=by subst e;exact Li hl
theorem piS(hl:PE X l tl)(e:X.K=K:=by rfl):PI X tg l (NT K tl):=by subst e;exact K3 (Ju hl) (Li hl)
theorem Ow{p pos:Pos}(hg:Gl X "reversed")(hm:X.mg "reversed" = none)(hl:PE X l tl)(hs:starEach [l] X.env=[(false,eval l X.env)]:=by rfl)(e:X.K=K:=by rfl):PI X tg (.Call (.Name "reversed" p) [l] [] pos) (OH K tl):=by subst e;exact Nh hg hm hl hs
theorem pgT{es:List Expr}{k:Nat}{t:TGs}{n:Nat}{pos:Pos}(hc:X.calm=true)(h:PGs X es t)(hn:(assignEach es X.env).length=n:=by rfl)(hst:(assignEach es X.env).findIdx? (·.1)=none:=by rfl)(e:X.K=K:=by rfl):PG X (.Tuple es k pos) (Km K n t):=by subst e;exact Ni hc h hn hst
end
end L2
namespace L2
open PySem PySem.Spec PyProof.Rows
inductive JV(K:Rv)(H:Hp):V->Bool->Prop where
 | int (i:Int):JV K H (.int i) true
 | bl (b:Bool):JV K H (.bl b) false
 | oth {x:V} {t:Value} (ty:TyX K H x t) (h:RQ K t (.type "int")=some false):JV K H x false
inductive GL(K:Rv)(vs:List V)(H:Hp)(Q:VK)(E_3:XK):Prop
 | mk (x:_) (b:_) (h1:vs=[x]) (h2:JV K H x b) (h3:Q (.bl b) H):GL K vs H Q E_3
theorem NF(K:Rv):RQ K (.type "int") (.type "int")=some true:=by kernel_rfl
theorem NG(K:Rv):RQ K (.type "int") (.type "bool")=some false:=by kernel_rfl
theorem NH(K:Rv):RQ K (.type "bool") (.type "int")=some true:=by kernel_rfl
theorem NI(K:Rv):RQ K (.type "bool") (.type "bool")=some true:=by kernel_rfl
theorem Jc(K:Rv):RQ K (.type "tuple") (.type "tuple")=some true:=by kernel_rfl
theorem Jb{lo:Int}{n:Nat}{js:List Nat}{te:TE}{σ:St}{H:Hp}{Fin:List V->Hp->Prop}(Pv:Nat->List V->Hp->Prop)(h0:Pv 0 [] H)(hl:∀i zs H,i<=n->Pv i zs H->zs.length=i)(hz:n<=sizeLine)
 (hs:∀i zs H,i<n->Pv i zs H->te ((cS 1 js σ).set 0 (some (.int (lo+i)))) H fun y H4=>Pv (i+1) (zs++[y]) H4) (fin:∀zs H',Pv n zs H'->Fin zs H') :
 ∃(n':Nat) (W:Nat->List V->Hp->Prop),W 0 [] H/\LcW (Itr lo n) n' 1 js σ (Ck 0) JZ te Fin W:=by
 refine⟨n,Pv,h0,⟨?_,?_,?_⟩⟩
 ·intro i zs H' hi p
  have:=hl i zs H' (Rx hi) p
  exact⟨hi,by lia⟩
 ·rintro i zs H' x H1 hi p ⟨rfl,rfl⟩
  exact hs i zs _ hi p
 ·intro zs H' p
  have:=hl n zs H' (RK _) p
  exact⟨RK _,by lia,fin zs H' p⟩
theorem BY{α:Type}{xs:List α}{v:α}(h:xs[xs.length-1]? = some v):atI xs (-1)=some v:=by
 have hl:xs.length-1<xs.length:=(RF.mp h).1
 have e:ixN xs.length (-1)=some (xs.length-1):=by
  unfold ixN
  rw[if_neg (by decide),if_pos (by lia)]
  congr 1
  lia
 unfold atI
 rw[e]
 exact h
inductive KR(K:Rv)(vs:List V)(H:Hp)(Q:VK)(E_3:XK):Prop
 | mk (x:_) (q:_) (h1:vs=[x]) (h2:Az K H x q) (h3:∀H',Af H H'->Q (.bl true) H'):KR K vs H Q E_3
def B0(qs:List Rat):Prop:=qs=[]\/∃q,qs[qs.length-1]? = some q/\q≠0
inductive KS(K:Rv)(vs:List V)(H:Hp)(Q:VK)(E_3:XK):Prop
 | mk (r:_) (qs:_) (h1:vs=[.ref r]) (h2:Crv K H r qs) (h3:qs.length<=1000) (h4:B0 qs) (h5:∀H',Af H H'->Q (.bl true) H'):KS K vs H Q E_3
theorem AL(qs:List Rat):B0 (Cv.strip qs):=by
 by_cases h:Cv.strip qs=[]
 ·exact .inl h
 ·have hl:0<(Cv.strip qs).length:=SN.mpr h
  have e:=Te (l:=Cv.strip qs) (i:=(Cv.strip qs).length-1) (by lia)
  refine .inr ⟨_,e,fun z=>Cv.strip_last qs h ?_⟩
  rw[e,z]
theorem ML(n:Nat):(RX n true).all id=true:=by
 rw[T5]
 intro b hb
 exact(List.mem_replicate.mp hb).2
theorem Pen.sm{H H':Hp}{p:Addr}(h:Pen H p)(e:Af H H'):Pen H' p:=let ⟨c0,c1,c2,z⟩:=h;⟨c0,c1,c2,e _ _ z⟩
theorem CM{ns:List Int}{i:Nat}{t:Int}{k:Int}(h:ns[i]? = some t)(e:k=(i:Int)):atI (ns.map V.int) k=some (.int t):=by
 subst e
 exact C9 (by rw[S3,h];rfl)
theorem FK{n i:Nat}{k:Int}(h:i<n)(e:k=(i:Int)):ixN n k=some i:=by
 subst e
 unfold ixN
 rw[if_pos (by lia),if_pos (by lia),Sb]
theorem Af.put{H H':Hp}{p:Addr}{o:HO}(h:Af H H')(hp:H p=none):Af H (upd H' p o):=fun b u q=>by rw[Aw (Ay q hp)];exact h b u q
def Up(c M:Nat)(t:Int):Prop:=t.natAbs<=c*2 ^ M
theorem Up.bd{c k M:Nat}{t:Int}(h:Up c M t)(hc:c<2 ^ k):Bd (M+k) t:=by
 unfold Up at h
 unfold Bd
 rw[Tn,Sm (2 ^ M)]
 exact So h (Nat.mul_lt_mul_of_pos_right hc (Tq (by decide)))
theorem Up.add{c M:Nat}{t d:Int}(h:Up c M t)(hd:Bd M d):Up (c+1) M (t+d):=by
 unfold Up at *
 unfold Bd at hd
 rw[Tr,Ts]
 exact Rw (To t d) (Nat.add_le_add h (Rx hd))
theorem Up.mono{c c' M:Nat}{t:Int}(h:Up c M t)(hc:c<=c'):Up c' M t:=Rw h (Tt _ hc)
end L2
namespace L2
open PySem PySem.Spec PyProof.Rows
def CX1(P:Program)(w:World):CXT:=fun outer H s E e s'=>∃(ea:Addr) (cls a0:Value) (B:Heap) (H':Hp),e = .ref ea/\s'.os=s.os/\AllBare s'.gens/\Un (frs outer) [] H H' s.heap s'.heap/\HOk P w H' s'.heap /\
 Heap.FlyingW B outer ea cls a0 s'.heap/\(∀b o,s.heap.get? b=some o->b∉frs outer->∃o',B.get? b=some o')/\(∀b u,H' b=some u->∃o',B.get? b=some o')/\E cls none H'
section
variable {X:Cx}{pins:List (Addr×Obj)}{σ:St}{H H':Hp}{s s':Shared}{B:Heap}
end
section
variable {P:Program}{w:World}{K:Rv}{mg:Str->Option Value}{base:Heap}{N:List Str}{qual:Str}{scope:Scope}{f:Addr}{cd:Value}{A:Around}{outer:List Env}{s:Shared}{H:Hp}{E:XK}
end
structure XCls(K:Rv)(x:Str)(C:Addr):Prop where
 ns:Tu K mainGlobals x=some (some (.ref C))
 ob:∃bm N nm q bs hdct sn sub ab col dd k0 k1 k2 k3 k5,K.lookup C=some (excClassObj nm q C N bs bm hdct sn sub ab col dd k0 k1 k2 k3 k5 "ValueError.__new__")
 ex:PySem.W.excIn K C [.type "ValueError",.type "Exception",.type "BaseException",.type "object"] "ValueError.__new__" = true
section
variable {X:Cx}{pins:List (Addr×Obj)}{σ:St}{H H':Hp}{s s':Shared}{B:Heap}
end
section
open PySem.W PySem.Builtin PySem.Builtin.ObjectAttr PySem.Builtin.Getset_descriptor
variable {prog:Program}{w:World}{A:Around}{E:Value->Shared->Prop}{s:Shared}{K:Rv}{x D:Addr}
structure XTy(K:Rv)(D:Addr):Prop where
 ga:findIn K (.ref D) "__getattribute__" = some (some (.builtin "BaseException.__getattribute__"))
 gt:findIn K (.ref D) "__getattr__" = some none
 ca:findIn K (.ref D) "__class__" = some (some (.builtin "object.__class__"))
 gg:specialIn K (.builtin "object.__class__") "__get__" = some (some (.builtin "getset_descriptor.__get__"))
 tk:takesIn K (.builtin "object.__class__")=some true
 ob:mroIn K D (.type "object")=some true
 be:mroIn K D (.type "BaseException")=some true
 cl:∃c d cd sl,K.lookup D=some ⟨c,d,.cls cd,sl⟩
end
section
open PySem.W
variable {X:Cx}(K:Rv)
end
section
variable {P:Program}{w:World}{K:Rv}{mg:Str->Option Value}{base:Heap}
end
structure FdX(P:Program)(w:World)(K:Rv)(mg:Str->Option Value)(base:Heap)(n:Nat)(x:Str)(ps:List Str)(sp:Sp):Prop where
 ex:∃(f:Addr) (fd:FuncData),AO P w K mg base (CX1 P w) n f fd ps sp/\Cc K fd ps []/\RP K (.ref f)=true/\mg x=some (.ref f)
end L2
namespace L2
open PySem PySem.Spec PyProof.Rows
def Itd(lo:Int)(n:Nat):It:=⟨fun i _=>i<n,fun i H x H'=>H'=H/\x = .int (lo-i),fun i _=>n<=i⟩
theorem JY{P:Program}{w:World}{K:Rv}{tg:Expr}(it:Addr)(lo:Int)(n:Nat):IE P w K tg (Itd lo n) [it] it (fun i h=>IsRangeIter h it (lo+(i:Nat)*(-1)) ((n:Int)-(i:Nat)) (-1)) where
 mem:=by simp
 obj:=fun i h st b hb=>by
  have e:b=it:=by simpa using hb
  subst e
  exact⟨_,st,fun v z=>by
   have z':Data.fields _=Data.cell v:=z
   cases z'⟩
 keep:=fun i h h' st k=>k it (by simp) _ st
 item:=by
  intro X hP hw hK hc i pins s σ H E I hf st hg
  subst hP hw hK
  obtain⟨f0,f1,f2,f3,f4,f5⟩:=hf it (by simp)
  refine(Walks.range (prog:=X.prog) (w:=X.w) (I.ok.hd hc) it lo (-1) n).item i s _ _ hg st fun v h' tk hv st' kk=>?_
  obtain⟨t,rfl⟩:=hv
  have I1:Inv X pins σ H { s with heap:=h',toks:=tk }:=I.turned (fun b o hb e=>kk b o (by simpa using hb) e) f0 f1 f3 f4 f5
  refine⟨_,rfl,Io (s:={ s with heap:=h',toks:=tk }) (n:="range_iterator") st' rfl rfl (by decide) ⟨.int (lo-i),H,I1,⟨t,?_⟩,⟨rfl,rfl⟩,st',fun b hb=>(hf b hb).1⟩⟩
  rw[show lo+(i:Int) * -1=lo-i by lia]
 done:=by
  intro X hP hw hK hc i pins s σ H E I hf st hg
  subst hP hw hK
  obtain⟨f0,f1,f2,f3,f4,f5⟩:=hf it (by simp)
  exact wpAny_pyNext_range_end (I.ok.hd hc) st (by have:n<=i:=hg;lia) fun h' eb=>⟨rfl,I.turned (t':=s.toks) (fun b o hb e=>eb b o hb e) f0 f1 f3 f4 f5⟩
 self:=fun _ _ _ _ _ st h=>wpAny_pyIter_rangeiter st h
theorem Gq(a b:Int):Builtin.Range.rangeSize a b (-1)=(((a-b).toNat:Nat):Int):=by
 unfold Builtin.Range.rangeSize
 rw[if_neg (by decide)]
 split
 ·rw[show -(-1:Int)=1 by decide,Int.ediv_one];lia
 ·lia
section
variable {X:Cx}{tg:Expr}
def OI(ta:TA):TI:=fun σ H R=>ta σ H fun vs H1=>∃i j:Int,vs=[.int i,.int j,.int (-1)]/\(-1000000<=i/\i<=1000000 /\ -1000000<=j/\j<=1000000)/\R (Itd i (i-j).toNat) H1
theorem Jv{a b c:Expr}{ta:TA}{p pos:Pos}(hg:Gl X "range")(hm:X.mg "range" = none)(ha:PA X [a,b,c] ta)(hs:starEach [a,b,c] X.env=[(false,eval a X.env),(false,eval b X.env),(false,eval c X.env)]:=by rfl)
 (hs2:starEach [b,c] X.env=[(false,eval b X.env),(false,eval c X.env)]:=by rfl):PI X tg (.Call (.Name "range" p) [a,b,c] [] pos) (OI ta):=by
 intro pins s σ H R I h
 refine Call_ (Dw I hg hm boot_range (PyProof.Rows.callWith_type1 (thn (ha pos pins s σ H _ I h) fun us s1 ⟨vs,H1,I1,r1,q1⟩=>?_) (by rw[hs,hs2]) (by rw[hs2];rfl)))
 obtain⟨i,j,e,⟨q1,q2,q3,q4⟩,q⟩:=q1
 subst e
 cases r1 with
 | cons r rr =>
   cases rr with
   | cons r' rr =>
     cases rr with
     | cons r3 rr =>
       cases rr
       obtain⟨t,rfl⟩:=r
       obtain⟨t',rfl⟩:=r'
       obtain⟨t3,rfl⟩:=r3
       have sm:Builtin.Range.small i j (-1)=true:=by
        unfold Builtin.Range.small
        rw[Gq]
        simp only[Builtin.Range.rangeFitsLong,Bool.and_eq_true,Bool.or_eq_true,decide_eq_true_eq,beq_iff_eq]
        rw[if_neg (by decide)]
        simp only[Bool.and_eq_true,decide_eq_true_eq]
        lia
       refine call_range_3 (by decide) ?_ (.inl (PyProof.noPylong_small (by lia)))
       refine wpAny_pyIter_range (IsRange.new ..) sm ?_
       have I2:Inv X pins σ H1 { s1 with heap:=s1.heap.push { cls:=.type "range",data:=.fields #[.int i t,.int j t',.int (-1) t3] },toks:=s1.toks }:=I1.kept fun b o e=>Heap.get?_push_of_some _ e
       refine⟨_,[_],_,_,H1,rfl,I2.kept (t':=s1.toks) fun b o e=>Heap.get?_push_of_some _ e,JY _ i (i-j).toNat,?_,fun b hb=>?_,q⟩
       ·show IsRangeIter _ _ (i+((0:Nat):Int)*(-1)) ((((i-j).toNat:Nat):Int)-((0:Nat):Int)) (-1)
        rw[show i+((0:Nat):Int)*(-1)=i by lia,show(((i-j).toNat:Nat):Int)-((0:Nat):Int)=Builtin.Range.rangeSize i j (-1) by rw[Gq];lia]
        exact Heap.get?_push_size _ rfl
       ·have e:=Td.mp hb
        subst e
        exact I2.fpOk (RK _) (I2.hok.fresh (RK _))
end
theorem Iq{lo:Int}{n:Nat}{g:TG}{tb:TS}{D:CZ}{σ:St}{H:Hp}(Pv:Nat->St->Hp->Prop)(h0:Pv 0 σ H)
 (hs:∀i σ H,i<n->Pv i σ H->g (.int (lo-i)) σ H fun σ2 H2=>tb { D with nx:=Pv (i+1),ct:=Pv (i+1),bk:=D.nx } σ2 H2) (hd:∀σ H,Pv n σ H->D.nx σ H) :
 ∃ W:Nat->Nat->St->Hp->Prop,(∃m,W 0 m σ H)/\∀i m σ H,W i m σ H ->
   ((Itd lo n).stop i H/\D.nx σ H)\/((Itd lo n).go i H/\∃N:St->Hp->Prop,(∀σ' H',N σ' H'->∃m',m'<m/\W (i+1) m' σ' H')/\∀x H',(Itd lo n).yld i H x H'->g x σ H' fun σ2 H2=>tb { D with nx:=N,ct:=N,bk:=D.nx } σ2 H2):=by
 refine⟨fun i m σ H=>m=n-i/\i<=n/\Pv i σ H,⟨n,by simp,RM _,h0⟩,?_⟩
 rintro i m σ H ⟨rfl,hi,p⟩
 by_cases hlt:i<n
 ·refine .inr ⟨hlt,Pv (i+1),fun σ' H' p'=>⟨n-(i+1),by lia,rfl,hlt,p'⟩,fun x H' y=>?_⟩
  obtain⟨rfl,rfl⟩:=y
  exact hs i σ _ hlt p
 ·have e:i=n:=by lia
  subst e
  exact .inl ⟨RK _,hd σ H p⟩
theorem Dh{K:Rv}{a:Addr}{js:List Nat}{xs:List V}{te:TE}{σ:St}{H:Hp}{Fin:List V->Hp->Prop}(Pv:Nat->List V->Hp->Prop)(h0:Pv 0 [] H)
 (hl:∀i zs H,i<=xs.length->Pv i zs H->SqL K H a xs/\zs.length=i) (hz:xs.length<=sizeLine)
 (hs:∀i x zs H,xs[i]? = some x->Pv i zs H->te ((cS 1 js σ).set 0 (some x)) H fun y H4=>Pv (i+1) (zs++[y]) H4) (fin:∀zs H',Pv xs.length zs H'->Fin zs H') :
 ∃(n':Nat) (W:Nat->List V->Hp->Prop),W 0 [] H/\LcW (Itl K a) n' 1 js σ (Ck 0) JZ te Fin W:=by
 refine⟨xs.length,Pv,h0,⟨?_,?_,?_⟩⟩
 ·intro i zs H' hi p
  obtain⟨h1,h2⟩:=hl i zs H' (Rx hi) p
  exact⟨⟨xs,xs[i],h1,by simp[hi]⟩,by lia⟩
 ·rintro i zs H' x H1 hi p ⟨rfl,y⟩
  exact hs i x zs _ (y xs (hl i zs _ (Rx hi) p).1) p
 ·intro zs H' p
  obtain⟨h1,h2⟩:=hl _ zs H' (RK _) p
  exact⟨⟨xs,h1,RK _⟩,by lia,fin zs H' p⟩
theorem LS(xs:List V):Cp xs none (some (-1))=xs.take (xs.length-1):=by
 unfold Cp
 have e1:HT.sIx xs.length 0 none=0:=rfl
 have e2:HT.sIx xs.length xs.length (some (-1))=xs.length-1:=by
  show(if (-1:Int)<0 then ((-1:Int)+(xs.length:Int)).toNat else min (-1:Int).toNat xs.length)=xs.length-1
  rw[if_pos (by decide)]
  lia
 rw[e1,e2,Tv,Tw]
theorem Bd.pow{L:Nat}{b:Int}(h:Bd L b):∀n:Nat,Bd (L*n+1) (b ^ n)
 | 0=>by rw[Tx];exact(show Bd 1 1 by unfold Bd;decide).mono (by lia)
 | n+1=>by
   rw[Tz]
   exact((Bd.pow h n).mul h).mono (by rw[TC];lia)
theorem FL{lead:Int}{ts:List Int}(i:Nat){t:Int}(h:ts[i]? = some t):(((ts.take i).map (lead * ·)).map V.int)++[V.int (lead*t)]=((ts.take (i+1)).map (lead * ·)).map V.int:=by
 rw[SU,h,SV,SV]
 rfl
end L2
namespace L2
open PySem PySem.Spec PyProof.Rows
theorem HQ{s BV:TS}{D:CZ}{σ:St}{H:Hp}(Pv:St->Hp->Prop)(h:∀nx:St->Hp->Prop,(∀σ' H',Pv σ' H'->nx σ' H')->s { D with nx:=nx } σ H)(k:∀σ' H',Pv σ' H'->BV D σ' H'):M8 s BV D σ H:=h _ k
theorem Er{i:Nat}{v:V}{c:TT}{t u BV:TS}{D:CZ}{σ:St}{H:Hp}(Pv:St->Hp->Prop)(h:∀nx:St->Hp->Prop,(∀σ' H',Pv σ' H'->nx σ' H')->K0 c t u { D with nx:=nx } (σ.set i (some v)) H)(k:∀σ' H',Pv σ' H'->BV D σ' H'):Ck i v σ H (M8 (K0 c t u) BV D):=h _ k
theorem Bd.neg{n:Nat}{x:Int}(h:Bd n x):Bd n (-x):=by unfold Bd at *;rw[Int.natAbs_neg];exact h
theorem Mj{a c b:Rat}(hb:b≠0)(h:a*b=c*b):a=c:=by
 have h2:a*b*b⁻¹=c*b*b⁻¹:=by rw[h]
 rw[TF,TF,TH _ hb,TJ,TJ]at h2
 exact h2
theorem LM{b:Int}(hb:b≠0)(t:Int):Sv t b*(b:Rat)=(t:Rat):=by
 rw[SD]
 exact SE (Nm.cast_ne hb)
theorem JI{b:Int}(hb:b≠0)(x:Rat):∀ts:List Int,Cv.ev (ts.map fun t=>Sv t b) x*(b:Rat)=Cv.evI ts x
 | []=>by show(0:Rat)*_=0;grind
 | t::ts=>by
   have ih:=JI hb x ts
   have e:=LM hb t
   show(Sv t b+x*Cv.ev (ts.map fun t=>Sv t b) x)*(b:Rat)=(t:Rat)+x*Cv.evI ts x
   rw[<- ih,<- e]
   grind
theorem Hw{α:Type}{l:List α}{n i:Nat}{v:α}(hn:l.length=n)(hi:i<n)(h:l[n-1-i]? = some v):l.drop (n-(i+1))=v::l.drop (n-i):=by
 have hlt:n-(i+1)<l.length:=by rw[hn];exact Nat.sub_lt (So (RM _) hi) (TK i)
 rw[List.drop_eq_getElem_cons hlt,show n-(i+1)+1=n-i from Nat.succ_pred_eq_of_pos (Nat.sub_pos_of_lt hi)]
 congr 1
 have e:l[n-(i+1)]? = some v:=by rw[show n-(i+1)=n-1-i by rw[Nat.sub_sub,Nat.add_comm]];exact h
 rw[Te hlt]at e
 exact Rl.inj e
theorem Mv.put'{a l:Addr}{H H':Hp}{o:HO}(m:Mv a H H')(hl:H l=none):Mv a H (upd H' l o):=fun b u n q=>by rw[Aw (Ay q hl)];exact m b u n q
theorem Mv.free{a l:Addr}{H H':Hp}(m:Mv a H H')(la:l≠a)(h:H' l=none):H l=none:=by
 cases z:H l with
 | none=>rfl
 | some u=>rw[m l u la z]at h;cases h
theorem Pen.put'{H:Hp}{a l:Addr}{o:HO}(h:Pen H a)(la:l≠a):Pen (upd H l o) a:=let ⟨x0,x1,x2,ex⟩:=h;⟨x0,x1,x2,by rw[Aw (Ne.symm la)];exact ex⟩
theorem Pen.ne'{H:Hp}{a l:Addr}(h:Pen H a)(hl:H l=none):l≠a:=let ⟨_,_,_,ex⟩:=h;(Ay ex hl).symm
def O5(K:Rv)(H:Hp)(x:V)(rs:List Rat):Prop:=∃a ys,x = .ref a/\SqL K H a ys/\Ar K H ys rs
abbrev Rows(K:Rv)(H:Hp):List V->List (List Rat)->Prop:=Paired (O5 K H)
def rD(rs:List Rat):PyData:=.list (rs.map nD)
theorem O5.rds{K:Rv}{H:Hp}{x:V}{rs:List Rat}(h:O5 K H x rs):Rds K H x (rD rs):=by
 obtain⟨a,ys,rfl,s,n⟩:=h
 exact n.rdsL s
theorem Js:∀ps qs:List (List Rat),PyData.eqvAll (ps.map rD) (qs.map rD)=decide (ps=qs)
 | [],[]=>rfl
 | [],_::_=>rfl
 | _::_,[]=>rfl
 | p::ps,q::qs=>by
   show(PyData.eqv (rD p) (rD q)&&PyData.eqvAll (ps.map rD) (qs.map rD))=_
   have e:PyData.eqv (rD p) (rD q)=decide (p=q):=Fe p q
   rw[e,Js ps qs,Bool.eq_iff_iff]
   simp
theorem Jr:∀qs:List (List Rat),PyData.canLayAll0 (qs.map rD)=true
 | []=>rfl
 | q::r=>by
   show(PyData.canLayAll0 (q.map nD)&&PyData.canLayAll0 (r.map rD))=true
   rw[Hn q,Jr r];rfl
theorem Gw:∀qs:List (List Rat),PyData.depthAll (qs.map rD)<=2
 | []=>RM _
 | q::r=>by
   have ih:=Gw r
   have iq:=EC q
   show max (PyData.depthAll (q.map nD)+1) (PyData.depthAll (r.map rD))<=2
   exact Nat.max_le.mpr ⟨by lia,ih⟩
theorem Jq(qs:List (List Rat)):SeqAt.shaped (.list (qs.map rD))=true:=by
 show(PyData.canLayAll0 (qs.map rD)&&decide (PyData.depthAll (qs.map rD)+1<=64))=true
 rw[Jr,Bool.true_and]
 exact decide_eq_true (by have:=Gw qs;lia)
theorem Rows.rds{K:Rv}{H:Hp}{xs:List V}{rss:List (List Rat)}(h:Rows K H xs rss):∀(i:Nat) x d,xs[i]? = some x->(rss.map rD)[i]? = some d->Rds K H x d:=fun i x d e1 e2=>by
 obtain⟨q,hq,hn⟩:=Paired.get h e1
 rw[S3,hq]at e2
 cases e2
 exact hn.rds
theorem Pd{K:Rv}{H:Hp}{a b:Addr}{xs ys:List V}{ps qs:List (List Rat)}{Q:VK}{neg:Bool}(s1:SqL K H a xs)(n1:Rows K H xs ps)(s2:SqL K H b ys)(n2:Rows K H ys qs)(h:Q (.bl (if neg then !decide (ps=qs) else decide (ps=qs))) H):ET K neg (.ref a) (.ref b) H Q:=by
 refine Hv ⟨_,_,.lst s1 (by rw[n1.length,S7]) n1.rds,.lst s2 (by rw[n2.length,S7]) n2.rds,Jq _,Jq _,?_⟩
 have e:PyData.eqv (.list (ps.map rD)) (.list (qs.map rD))=decide (ps=qs):=Js ps qs
 rw[e];exact h
end L2
namespace L2
open PySem PySem.Spec PyProof.Rows
section
variable {X:Cx}
@[irreducible] def Lc(K:Rv)(neg:Bool):R2:=fun x y H Q=>∃p ds d,y = .ref p/\Rds K H (.ref p) (.list ds)/\Rds K H x d/\SeqAt.shaped (.list ds)=true/\SeqAt.shaped d=true/\Q (.bl (if neg then !(ds.any fun y=>PyData.eqv y d) else ds.any fun y=>PyData.eqv y d)) H
theorem NR{K:Rv}{neg:Bool}{x y:V}{H:Hp}{Q:VK}(h:∃p ds d,y = .ref p/\Rds K H (.ref p) (.list ds)/\Rds K H x d/\SeqAt.shaped (.list ds)=true/\SeqAt.shaped d=true/\Q (.bl (if neg then !(ds.any fun y=>PyData.eqv y d) else ds.any fun y=>PyData.eqv y d)) H):Lc K neg x y H Q:=by
 unfold Lc;exact h
theorem inD(K:Rv){k:Nat}(hr:Ca k X.A)(e:X.K=K:=by rfl):OpR X (compareOp .In) (Lc K false):=by
 subst e
 intro pins s σ H x y v u Q I rx ry h
 unfold Lc at h
 obtain⟨p,ds,d,rfl,r1,r2,h1,h2,q⟩:=h
 cases ry
 obtain⟨as,q1⟩:=CS I r1 (u:=.ref p) rfl
 obtain⟨bs,q2⟩:=CS I r2 rx
 exact SeqAt.in_list_reads q1 q2 (SeqAt.canLay_of_shaped h1) (SeqAt.canLay_of_shaped h2) (PyProof.Rows.room_in_shaped h2 (by have:=hr.un;lia)) ⟨.bl _,H,I,rfl,q⟩
end
theorem LX(q:Rat):∀qs:List Rat,((qs.map nD).any fun y=>PyData.eqv y (nD q))=decide (q∈qs)
 | []=>by simp
 | c::r=>by
   rw[Sn,List.any_cons,J7,LX q r,Bool.eq_iff_iff]
   simp only[Bool.or_eq_true,decide_eq_true_eq,RC]
   constructor
   ·rintro(h | h)
    ·exact .inl h.symm
    ·exact .inr h
   ·rintro(h | h)
    ·exact .inl h.symm
    ·exact .inr h
theorem inN{K:Rv}{H:Hp}{x:V}{a:Addr}{xs:List V}{q:Rat}{qs:List Rat}{Q:VK}{neg:Bool}(h1:Az K H x q)(s2:SqL K H a xs)(n2:Ar K H xs qs)(h:Q (.bl (if neg then !decide (q∈qs) else decide (q∈qs))) H):Lc K neg x (.ref a) H Q :=
 NR ⟨a,_,_,rfl,n2.rdsL s2,h1.rds,Fc _,ED _,by rw[LX];exact h⟩
structure OS where
 x:Rat
 k:Int
 n:Rat
deriving DecidableEq
end L2
namespace L2
open PySem PySem.Spec PyProof.Rows
section
variable {X:Cx}{e:Expr}{te:TE}
end
def HH(t:TGs)(nt:Nat):Prop:=∀(vs:List V) (σ:St) (H:Hp) (Q:St->Hp->Prop) (σ0:St),(σ.length=σ0.length/\σ.drop nt=σ0.drop nt)->t vs σ H Q->t vs σ H fun σ2 H2=>(σ2.length=σ0.length/\σ2.drop nt=σ0.drop nt)/\Q σ2 H2
theorem Fi{nt:Nat}:HH MF nt:=fun _ _ _ _ _ r ⟨e,q⟩=>⟨e,r,q⟩
theorem CG{i nt:Nat}{u:TGs}(h:i<nt)(hu:HH u nt):HH (FP (Ck i) u) nt:=fun vs σ H Q σ0 r ⟨v,rs,e,q⟩=>⟨v,rs,e,hu rs (σ.set i (some v)) H Q σ0 ⟨by rw[Sh];exact r.1,by
 rw[<- r.2]
 apply T7
 intro k
 rw[T8,T8,RH (by lia)]⟩ q⟩
theorem Gp{K:Rv}{n nt:Nat}{t:TGs}(h:HH t nt):IF (Km K n t) nt:=fun _ σ H Q ⟨a,xs,e,s,l,q⟩=>⟨a,xs,e,s,l,h xs σ H Q σ ⟨rfl,rfl⟩ q⟩
end L2
namespace L2
def AY:List Rat->List Rat->List Rat
 | [],m=>m
 | a::l,[]=>a::l
 | a::l,b::m=>(a+b)::AY l m
theorem IC(l:List Rat):AY l []=l:=by cases l<;>rfl
theorem Bc(x:Rat):∀l m,Cv.ev (AY l m) x=Cv.ev l x+Cv.ev m x
 | [],m=>by show _=0+_;grind [AY]
 | a::l,[]=>by show _=_+0;rw[AY];grind
 | a::l,b::m=>by
   have ih:=Bc x l m
   show(a+b)+x*Cv.ev (AY l m) x=(a+x*Cv.ev l x)+(b+x*Cv.ev m x)
   rw[ih];grind
theorem Bz:∀l m,(AY l m).length=max l.length m.length
 | [],m=>by show m.length=max 0 m.length;lia
 | a::l,[]=>by show l.length+1=max (l.length+1) 0;lia
 | a::l,b::m=>by
   have ih:=Bz l m
   show(AY l m).length+1=max (l.length+1) (m.length+1)
   lia
theorem ID:∀(l m:List Rat) (i:Nat),l.length<=i->(AY l m)[i]? = m[i]?
 | [],m,i,_=>rfl
 | a::l,[],i,h=>by rw[IC,TL h];rfl
 | a::l,b::m,0,h=>by simp at h
 | a::l,b::m,i+1,h=>by
   have ih:=ID l m i (by simpa using h)
   show(AY l m)[i]? = m[i]?
   exact ih
def BB:List Rat->List Rat->List Rat
 | [],_=>[]
 | a::l,m=>AY (m.map (· * a)) (0::BB l m)
theorem AE(x:Rat)(m:List Rat):∀l,Cv.ev (BB l m) x=Cv.ev l x*Cv.ev m x
 | []=>by show(0:Rat)=0*_;grind
 | a::l=>by
   have ih:=AE x m l
   show Cv.ev (AY (m.map (· * a)) (0::BB l m)) x=(a+x*Cv.ev l x)*_
   rw[Bc,Cv.ev_scale]
   show _+(0+x*Cv.ev (BB l m) x)=_
   rw[ih];grind
theorem By(m:List Rat)(hm:1<=m.length):∀l,1<=l.length->(BB l m).length=l.length+m.length-1
 | [],h=>by simp at h
 | [a],_=>by
   show(AY (m.map (· * a)) [0]).length=1+m.length-1
   rw[Bz,S7]
   show max m.length 1=_
   lia
 | a::b::l,_=>by
   have ih:=By m hm (b::l) (by simp)
   show(AY (m.map (· * a)) (0::BB (b::l) m)).length=l.length+1+1+m.length-1
   rw[Bz,S7]
   show max m.length ((BB (b::l) m).length+1)=_
   rw[ih]
   show max m.length (l.length+1+m.length-1+1)=_
   lia
theorem DI(m:List Rat)(u:Rat)(hu:m[m.length-1]? = some u):∀(l:List Rat) (v:Rat),l[l.length-1]? = some v->(BB l m)[l.length+m.length-2]? = some (u*v)
 | [],v,h=>by simp at h
 | [a],v,h=>by
   have hm:m.length-1<m.length:=(RF.mp hu).1
   have e:a=v:=by simpa using h
   subst e
   show(AY (m.map (· * a)) [0])[1+m.length-2]? = _
   cases m with
   | nil=>simp at hm
   | cons b m' =>
     rw[show 1+(b::m').length-2=m'.length by simp only[SO];lia]
     have hu':(b::m')[m'.length]? = some u:=hu
     cases m' with
     | nil =>
       have e:b=u:=by simpa using hu'
       subst e
       show some (b*a+0)=some (b*a)
       congr 1;grind
     | cons c m'' =>
       show(AY ((c::m'').map (· * a)) [])[m''.length]? = _
       rw[IC,S3]
       have hu2:(c::m'')[m''.length]? = some u:=hu'
       rw[hu2];rfl
 | a::b::l,v,h=>by
   have hm:m.length-1<m.length:=(RF.mp hu).1
   have ih:=DI m u hu (b::l) v h
   show(AY (m.map (· * a)) (0::BB (b::l) m))[l.length+1+1+m.length-2]? = _
   rw[ID _ _ _ (by rw[S7];lia)]
   rw[show l.length+1+1+m.length-2=(l.length+1+m.length-2)+1 by lia]
   exact ih
theorem Dy{l m:List Rat}(hl:B0 l)(hm:B0 m)(nl:l≠[])(nm:m≠[]):B0 (BB l m):=by
 rcases hl with h | ⟨v,hv,v0⟩
 ·exact absurd h nl
 rcases hm with h | ⟨u,hu,u0⟩
 ·exact absurd h nm
 have l1:1<=l.length:=SN.mpr nl
 have m1:1<=m.length:=SN.mpr nm
 refine .inr ⟨u*v,?_,fun z=>?_⟩
 ·rw[By m m1 l l1,show l.length+m.length-1-1=l.length+m.length-2 by lia]
  exact DI m u hu l v hv
 ·rcases SY.mp z with z | z
  ·exact u0 z
  ·exact v0 z
theorem JF{l m:List Rat}(hm:B0 m)(hle:l.length<=m.length)(h:∀x,Cv.ev l x=Cv.ev m x):l=m:=by
 have e:l++RX (m.length-l.length) 0=m:=by
  refine Cv.same_of _ _ (by rw[S6,S8];lia) fun x=>?_
  rw[<- Cv.ev_strip,Cv.strip_zeros,Cv.ev_strip]
  exact h x
 by_cases hlt:l.length<m.length
 ·rcases hm with hm | ⟨q,hq,q0⟩
  ·rw[hm]at hlt;simp at hlt
  ·exfalso
   rw[<- e,S6,S8,RZ (by lia),S1,if_pos (by lia)]at hq
   exact q0 (Rl.inj hq).symm
 ·rw[show m.length-l.length=0 by lia,List.replicate_zero,RU]at e
  exact e
theorem BD{l m:List Rat}(hl:B0 l)(hm:B0 m)(h:∀x,Cv.ev l x=Cv.ev m x):l=m:=by
 by_cases hle:l.length<=m.length
 ·exact JF hm hle h
 ·exact(JF hl (by lia) fun x=>(h x).symm).symm
theorem div_one{ps os rs os' rs':List Rat}(hp:B0 ps)(np:ps≠[])(ho:B0 os)(ho':B0 os')(hr:B0 rs)(hr':B0 rs')(l:rs.length<ps.length)(l':rs'.length<ps.length)
 (h:∀x,Cv.ev os x*Cv.ev ps x+Cv.ev rs x=Cv.ev os' x*Cv.ev ps x+Cv.ev rs' x):os=os'/\rs=rs':=by
 have key:Cv.strip (AY os (os'.map (· * (-1))))=[]:=by
  by_cases hD:Cv.strip (AY os (os'.map (· * (-1))))=[]
  ·exact hD
  exfalso
  have gD:=AL (AY os (os'.map (· * (-1))))
  have gM:=Dy gD hp hD np
  have gE:=AL (AY rs' (rs.map (· * (-1))))
  have e:=BD gM gE fun x=>by
   rw[AE,Cv.ev_strip,Cv.ev_strip,Bc,Bc,Cv.ev_scale,Cv.ev_scale]
   have:=h x
   grind
  have p1:1<=ps.length:=SN.mpr np
  have d1:1<=(Cv.strip (AY os (os'.map (· * (-1))))).length:=SN.mpr hD
  have len:=By ps p1 _ d1
  rw[e]at len
  have le:=Cv.strip_length (AY rs' (rs.map (· * (-1))))
  rw[Bz,S7]at le
  lia
 have eo:os=os':=BD ho ho' fun x=>by
  have z:Cv.ev (Cv.strip (AY os (os'.map (· * (-1))))) x=0:=by rw[key];rfl
  rw[Cv.ev_strip,Bc,Cv.ev_scale]at z
  grind
 subst eo
 refine⟨rfl,BD hr hr' fun x=>?_⟩
 have:=h x
 grind
open PySem PySem.Spec PyProof.Rows
theorem NA{K:Rv}{a:Addr}{js:List Nat}{xs:List V}{te:TE}{σ:St}{H:Hp}{Fin:List V->Hp->Prop}(Pv:Nat->List V->Hp->Prop)(h0:Pv 0 [] H)
 (hl:∀i zs H,i<=xs.length->Pv i zs H->SqT K H a xs/\zs.length=i) (hz:xs.length<=sizeLine)
 (hs:∀i x zs H,xs[i]? = some x->Pv i zs H->te ((cS 1 js σ).set 0 (some x)) H fun y H4=>Pv (i+1) (zs++[y]) H4) (fin:∀zs H',Pv xs.length zs H'->Fin zs H') :
 ∃(n':Nat) (W:Nat->List V->Hp->Prop),W 0 [] H/\LcW (Itt K a) n' 1 js σ (Ck 0) JZ te Fin W:=by
 refine⟨xs.length,Pv,h0,⟨?_,?_,?_⟩⟩
 ·intro i zs H' hi p
  obtain⟨h1,h2⟩:=hl i zs H' (Rx hi) p
  exact⟨⟨xs,xs[i],h1,by simp[hi]⟩,by lia⟩
 ·rintro i zs H' x H1 hi p ⟨rfl,y⟩
  exact hs i x zs _ (y xs (hl i zs _ (Rx hi) p).1) p
 ·intro zs H' p
  obtain⟨h1,h2⟩:=hl _ zs H' (RK _) p
  exact⟨⟨xs,h1,RK _⟩,by lia,fin zs H' p⟩
end L2
namespace L2
def ch:Nat->Nat->Nat
 | _,0=>1
 | 0,_+1=>0
 | n+1,k+1=>ch n k+ch n (k+1)
def goL(a b:Rat):Rat->List Rat->List Rat
 | p,[]=>[a*p]
 | p,c::r=>(a*p+b*c)::goL a b c r
def MW(a b:Rat):List Rat->List Rat
 | []=>[]
 | q::r=>match MW a b r with
   | []=>[q]
   | c::s=>(q+b*c)::goL a b c s
end L2
namespace L2
def sd:List Rat->List Rat
 | []=>[]
 | [_]=>[]
 | _::p::r=>AY (0::sd (p::r)) (MW 1 1 (p::r))
end L2
namespace L2
open PySem PySem.Spec PyProof.Rows PySem.SeqAt
end L2
namespace L2
def dL:List Rat->List Rat
 | []=>[]
 | _::r=>AY r (0::dL r)
def ty(x:Rat):List Rat->List Rat
 | []=>[]
 | q::r=>AY (q::ty x r) ((ty x r).map (· * x))
theorem Bo:∀(l m:List Rat) (k:Nat),(AY l m).getD k 0=l.getD k 0+m.getD k 0
 | [],m,k=>by show m.getD k 0=0+m.getD k 0;grind
 | a::l,[],k=>by show(a::l).getD k 0=(a::l).getD k 0+0;grind
 | a::l,b::m,0=>rfl
 | a::l,b::m,k+1=>Bo l m k
theorem AW(y:Rat)(l:List Rat)(k:Nat):(l.map (· * y)).getD k 0=l.getD k 0*y:=by
 rw[T6,T6,S3]
 cases l[k]? with
 | none=>show(0:Rat)=0*y;grind
 | some t=>rfl
theorem Ei{l m:List Rat}(h:∀k:Nat,Cv.ev l ((k:Nat):Rat)=Cv.ev m ((k:Nat):Rat))(k:Nat):l.getD k 0=m.getD k 0:=by
 have z:=Cv.ident _ (AY l (m.map (· * (-1)))) (RK _) 0 fun k _=>by
  rw[Bc,Cv.ev_scale,h k];grind
 have e:(AY l (m.map (· * (-1)))).getD k 0=0:=by
  rw[T6]
  cases q:(AY l (m.map (· * (-1))))[k]? with
  | none=>rfl
  | some t=>exact z t (S5 q)
 rw[Bo,AW]at e
 grind
def quo(c:Rat):List Rat->List Rat
 | []=>[]
 | _::r=>AY r ((quo c r).map (· * c))
theorem DU(c x:Rat):∀l,Cv.ev l x=Cv.ev l c+(x-c)*Cv.ev (quo c l) x
 | []=>by show(0:Rat)=0+_*0;grind
 | q::r=>by
   have ih:=DU c x r
   show q+x*Cv.ev r x=(q+c*Cv.ev r c)+(x-c)*Cv.ev (AY r ((quo c r).map (· * c))) x
   rw[Bc,Cv.ev_scale]
   have h:(x-c)*(Cv.ev r x+Cv.ev (quo c r) x*c)=x*Cv.ev r x-c*(Cv.ev r x-(x-c)*Cv.ev (quo c r) x):=by grind
   rw[h,show Cv.ev r x-(x-c)*Cv.ev (quo c r) x=Cv.ev r c by grind]
   grind
theorem D7(c:Rat):∀l,(quo c l).length=l.length-1
 | []=>rfl
 | q::r=>by
   have ih:=D7 c r
   show(AY r ((quo c r).map (· * c))).length=r.length
   rw[Bz,S7,ih]
   lia
end L2
namespace L2
def prL:List Rat->List Rat
 | []=>[1]
 | o::os=>BB [-o,1] (prL os)
def prV(x:Rat):List Rat->Rat
 | []=>1
 | o::os=>(x-o)*prV x os
theorem C7(x:Rat):∀os,Cv.ev (prL os) x=prV x os
 | []=>by show(1:Rat)+x*0=1;grind
 | o::os=>by
   show Cv.ev (BB [-o,1] (prL os)) x=_
   rw[AE,C7 x os]
   show(-o+x*(1+x*0))*prV x os=(x-o)*prV x os
   grind
theorem Lh{x:Rat}:∀{os:List Rat},x∈os->prV x os=0
 | o::os,h=>by
   show(x-o)*prV x os=0
   rcases RC.mp h with e | e
   ·rw[e];grind
   ·rw[Lh e];grind
end L2
namespace L2
open PySem PySem.Spec PyProof.Rows
theorem Hq{K:Rv}{a:Addr}{js:List Nat}{xs:List V}{tc:TT}{te:TE}{σ:St}{H:Hp}{Fin:List V->Hp->Prop}(Pv:Nat->List V->Hp->Prop)(h0:Pv 0 [] H)
 (hl:∀i zs H,i<=xs.length->Pv i zs H->SqL K H a xs/\zs.length<=i) (hz:xs.length<=sizeLine)
 (hs:∀i x zs H,xs[i]? = some x->Pv i zs H->tc ((cS 1 js σ).set 0 (some x)) H fun b H3=>if b=true then te ((cS 1 js σ).set 0 (some x)) H3 fun y H4=>Pv (i+1) (zs++[y]) H4 else Pv (i+1) zs H3) (fin:∀zs H',Pv xs.length zs H'->Fin zs H') :
 ∃(n':Nat) (W:Nat->List V->Hp->Prop),W 0 [] H/\LcW (Itl K a) n' 1 js σ (Ck 0) tc te Fin W:=by
 refine⟨xs.length,Pv,h0,⟨?_,?_,?_⟩⟩
 ·intro i zs H' hi p
  obtain⟨h1,h2⟩:=hl i zs H' (Rx hi) p
  exact⟨⟨xs,xs[i],h1,by simp[hi]⟩,by lia⟩
 ·rintro i zs H' x H1 hi p ⟨rfl,y⟩
  exact hs i x zs _ (y xs (hl i zs _ (Rx hi) p).1) p
 ·intro zs H' p
  obtain⟨h1,h2⟩:=hl _ zs H' (RK _) p
  exact⟨⟨xs,h1,RK _⟩,by lia,fin zs H' p⟩
end L2
namespace PySem
open Sem (wp)
open Builtin
set_option maxRecDepth 100000
end PySem
namespace L2
open PySem PySem.Spec PyProof.Rows
variable {X:Cx}
end L2
namespace L2
open PySem PySem.Spec PyProof.Rows
end L2
namespace L2
open PySem PySem.Spec PyProof.Rows
def kQ(q:Rat):List Key:=[.inl q.num,.inl (q.den:Int)]
theorem NN{p q:Rat}(h:kQ p=kQ q):p=q:=by
 unfold kQ at h
 injection h with h1 h2
 injection h2 with h2 _
 injection h1 with h1
 injection h2 with h2
 exact Rat.ext h1 (Int.ofNat.inj h2)
def EI(H:Hp)(x:V)(q:Rat):Prop:=∃r,x = .ref r/\H r=some (nT q)
abbrev AV(H:Hp):List V->List Rat->Prop:=Paired (EI H)
theorem EI.num{K:Rv}{H:Hp}{x:V}{q:Rat}(h:EI H x q):Az K H x q:=let ⟨r,e,h⟩:=h;⟨r,e,SqT.of h⟩
theorem EI.same{H H':Hp}{x:V}{q:Rat}(h:EI H x q)(e:Af H H'):EI H' x q:=let ⟨r,z,h⟩:=h;⟨r,z,e _ _ h⟩
theorem EI.mv{H H':Hp}{x:V}{q:Rat}{p:Addr}(h:EI H x q)(pn:Pen H p)(m:Mv p H H'):EI H' x q:=let ⟨r,z,h⟩:=h;⟨r,z,m r _ (pn.ne h (OC q)) h⟩
theorem EI.put{H:Hp}{x:V}{q:Rat}{p:Addr}{ys:List V}{o:HO}(h:EI H x q)(hp:H p=some (.lst ys)):EI (upd H p o) x q:=let ⟨r,z,h⟩:=h;⟨r,z,by rw[Aw (ER h hp (fun z=>by cases z))];exact h⟩
theorem AV.nums{K:Rv}{H:Hp}{xs:List V}{qs:List Rat}(h:AV H xs qs):Ar K H xs qs:=Paired.mapP h fun _ _ z=>z.num
theorem AV.same{H H':Hp}{xs:List V}{qs:List Rat}(h:AV H xs qs)(e:Af H H'):AV H' xs qs:=Paired.mapP h fun _ _ z=>z.same e
theorem AV.mv{H H':Hp}{xs:List V}{qs:List Rat}{p:Addr}(h:AV H xs qs)(pn:Pen H p)(m:Mv p H H'):AV H' xs qs:=Paired.mapP h fun _ _ z=>z.mv pn m
theorem AV.put{H:Hp}{xs:List V}{qs:List Rat}{p:Addr}{ys:List V}{o:HO}(h:AV H xs qs)(hp:H p=some (.lst ys)):AV (upd H p o) xs qs:=Paired.mapP h fun _ _ z=>z.put hp
section
variable {K:Rv}{H H':Hp}{x:V}{ps:List Rat}{xs:List V}{pss:List (List Rat)}{p:Addr}{ys:List V}{o:HO}
end
section
variable {K:Rv}{H H':Hp}{x:V}{t:OS}{xs:List V}{ts:List OS}{p:Addr}{ys:List V}{o:HO}
end
end L2
namespace L2
theorem BN:∀os,(prL os).length=os.length+1
 | []=>rfl
 | o::os=>by
   have ih:=BN os
   show(AY ((prL os).map (· * -o)) (0::AY ((prL os).map (· * 1)) (0::BB [] (prL os)))).length=_
   have e:BB [] (prL os)=[]:=rfl
   rw[Bz,S7,SO,Bz,S7,e,ih]
   simp only[SO,TM]
   lia
end L2
namespace HT
open PySem PyProof.Rows
open PySem.SeqAt
open PySem.AutoSeq1 (wpAny_loadPart')
open PySem.MeetsSeq PySem.MeetsSeq2 PySem.MeetsSeq3
end HT
namespace L2
open PySem PySem.Spec PyProof.Rows
section
variable {X:Cx}{K:Rv}
end
theorem Hy(xs:List V)(v:Nat):Cp xs none (some (v:Int))=xs.take v:=by
 unfold Cp
 have e1:HT.sIx xs.length 0 none=0:=rfl
 have e2:HT.sIx xs.length xs.length (some (v:Int))=min v xs.length:=HT.sIx_nat _ _ v
 rw[e1,e2,Tv,Tw]
 by_cases h:v<=xs.length
 ·rw[Sd h]
 ·rw[Se (by lia),TN (RK _),TN (by lia)]
end L2
namespace L2
open PySem PySem.Spec PyProof.Rows PySem.SeqAt
section
variable {X:Cx}
end
theorem FV(xs:List V)(v:Nat):Cp xs (some (v:Int)) none=xs.drop v:=by
 unfold Cp
 have e1:HT.sIx xs.length 0 (some (v:Int))=min v xs.length:=HT.sIx_nat _ _ v
 have e2:HT.sIx xs.length xs.length none=xs.length:=rfl
 rw[e1,e2]
 by_cases h:v<=xs.length
 ·rw[Sd h,TN (by rw[Sf];exact RK _)]
 ·rw[Se (by lia),TQ,TR,TU (by lia)]
end L2
namespace L2
open PySem PySem.Spec PyProof.Rows
theorem NY:bootBuiltins "zip" = some (.type "zip"):=by decide +kernel
section
variable {X:Cx}{pins:List (Addr×Obj)}{σ:List (Option V)}{H:Hp}{s:Shared}{h':Heap}
theorem Inv.turnedL{t':Nat}{ch:List Addr}(I:Inv X pins σ H s)(k:∀b o,b∉ch->s.heap.get? b=some o->h'.get? b=some o)(hf:∀b∈ch,DM X pins H b):Inv X pins σ H { s with heap:=h',toks:=t' }:=by
 have nit:∀b u,H b=some u->b∉ch:=fun b u e z=>by rw[(hf b z).1]at e;cases e
 refine I.step (g':=s.gens) (d':=s.drawn) (ch:=ch) (fun b hb=>?_) (fun b o _ _ hc e _=>k b o hc e) (fun b o _ _ hc e _=>⟨o.slots,k b o hc e⟩) (fun _ _ _ _ n=>n)
  (fun b o hc e=>⟨o,k b o hc e⟩) (fun _ _ e=>e) (fun _ _ _ e=>e) (fun b ps e=>⟨#[],by rw[e];simp⟩) (fun m hm=>?_) (fun b u e=>?_) I.bare
 ·obtain⟨_,hL,_,h1,h2,h3⟩:=hf b hb
  exact⟨h1,hL,h2,h3⟩
 ·obtain⟨o,es,ep,ho,r⟩:=hm
  exact⟨o,es,ep,k _ o (fun z=>(hf _ z).2.1 rfl) ho,r⟩
 ·refine(I.hok b u e).stay (fun c v hc q=>k c v ?_ q) (fun _ q=>q) fun _ _ q=>q
  rcases hc with z | z
  ·rw[z];exact nit b u e
  ·exact nit c _ z
end
def Itz(K:Rv)(a b:Addr)(xs ys:List V):It :=
 ⟨fun i H=>SqL K H a xs/\SqL K H b ys/\i<min xs.length ys.length,
  fun i H x H'=>∃T x1 y1,xs[i]? = some x1/\ys[i]? = some y1/\H T=none/\x = .ref T/\H'=upd H T (.tup [x1,y1]),
  fun i H=>SqL K H a xs/\SqL K H b ys/\min xs.length ys.length<=i⟩
theorem KA{P:Program}{w:World}{K:Rv}{elts:List Expr}{kk}{pos:Pos}{a b z TI TO i1 i2:Addr}(D:ZipApart z TI TO i1 i2 a b)(xs ys:List V) :
 IE P w K (.Tuple elts kk pos) (Itz K a b xs ys) [z,TI,TO,i1,i2] z (fun i h=>IsZip h z TI TO .none/\IsPair h TI (.ref i1) (.ref i2)/\(∃u v,IsPair h TO u v)/\h.IsListIter i1 a i/\h.IsListIter i2 b i) where
 mem:=by simp
 obj:=fun i h st c hc=>by
  obtain⟨hz,hTI,⟨u,v,hTO⟩,⟨o1,e1,_,d1⟩,⟨o2,e2,_,d2⟩⟩:=st
  have hc':c=z\/c=TI\/c=TO\/c=i1\/c=i2:=by simpa using hc
  rcases hc' with rfl | rfl | rfl | rfl | rfl
  ·exact⟨_,hz,fun v z=>by cases z⟩
  ·exact⟨_,hTI,fun v z=>by cases z⟩
  ·exact⟨_,hTO,fun v z=>by cases z⟩
  ·exact⟨o1,e1,fun v z=>by rw[d1]at z;cases z⟩
  ·exact⟨o2,e2,fun v z=>by rw[d2]at z;cases z⟩
 keep:=fun i h h' st k=>by
  obtain⟨hz,hTI,⟨u,v,hTO⟩,h1,h2⟩:=st
  exact⟨k z (by simp) _ hz,k TI (by simp) _ hTI,⟨u,v,k TO (by simp) _ hTO⟩,h1.at fun o e=>k i1 (by simp) o e,h2.at fun o e=>k i2 (by simp) o e⟩
 item:=by
  intro X hP hw hK hc i pins s σ H E I hf st hg
  subst hP hw hK
  obtain⟨hq1,hq2,hi⟩:=hg
  obtain⟨its1,rv1,p1,_⟩:=I.list hq1
  obtain⟨its2,rv2,p2,_⟩:=I.list hq2
  have hx:xs[i]? = some (xs[i]'(by lia)):=Te (by lia)
  have hy:ys[i]? = some (ys[i]'(by lia)):=Te (by lia)
  obtain⟨u1,hu1,ru1⟩:=rv1.get hx
  obtain⟨u2,hu2,ru2⟩:=rv2.get hy
  generalize xs[i]'(by lia)=x1 at hx ru1
  generalize ys[i]'(by lia)=y1 at hy ru2
  obtain⟨hz,hTI,⟨ta,tb,hTO⟩,h1,h2⟩:=st
  refine wpAny_pyNext_zip_item D hz hTI hTO h1 h2 p1.isList p2.isList (x:=u1) (y:=u2) (by simpa using hu1) (by simpa using hu2) fun h' a1 a2 a3 a4 a5 a6 a7=>?_
  refine⟨_,rfl,wpAny_letOwnedTupleGo_zip (s:={ s with heap:=h' }) a1 fun h'' b1 b2=>?_⟩
  have lz:z<s.heap.objs.size:=Heap.lt_size hz
  have lTI:TI<s.heap.objs.size:=Heap.lt_size hTI
  have lTO:TO<s.heap.objs.size:=Heap.lt_size hTO
  have l1:i1<s.heap.objs.size:=by obtain⟨_,e,_⟩:=h1;exact Heap.lt_size e
  have l2:i2<s.heap.objs.size:=by obtain⟨_,e,_⟩:=h2;exact Heap.lt_size e
  have I1:Inv X pins σ (upd H s.heap.objs.size (.tup [x1,y1])) { s with heap:=s.heap.push { cls:=.type "tuple",data:=.seq #[u1,u2] } } :=
   I.laid (t':=s.toks) (o:=.tup [x1,y1]) (fun b ob q=>Heap.get?_push_of_some _ q) (RK _) ⟨by show 2<=sizeLine;decide,[u1,u2],.cons ru1 (.cons ru2 .nil),IsTup.new _ _⟩
  have hfp:∀c∈[z,TI,TO,i1,i2],DM X pins (upd H s.heap.objs.size (.tup [x1,y1])) c:=fun c hc=>by
   obtain⟨f0,fr⟩:=hf c hc
   have hlt:c<s.heap.objs.size:=by
    have hc':c=z\/c=TI\/c=TO\/c=i1\/c=i2:=by simpa using hc
    rcases hc' with rfl | rfl | rfl | rfl | rfl<;>assumption
   exact⟨by rw[Aw (Rq hlt)];exact f0,fr⟩
  have I2:=I1.turnedL (h':=h'') (t':=s.toks) (ch:=[z,TO,i1,i2]) (fun c o hcn e=>by
   have hcn':c≠z/\c≠TO/\c≠i1/\c≠i2:=by simpa using hcn
   obtain⟨c1,c2,c3,c4⟩:=hcn'
   refine b2.extBut _ _ c1 ?_
   by_cases hcs:c=s.heap.objs.size
   ·subst hcs
    have e':(s.heap.push { cls:=.type "tuple",data:=.seq #[u1,u2] }).get? s.heap.objs.size=some o:=e
    rw[Heap.get?_push_size _ rfl]at e'
    cases e'
    exact a5
   ·have e':(s.heap.push { cls:=.type "tuple",data:=.seq #[u1,u2] }).get? c=some o:=e
    refine a7 c o c1 c2 c3 c4 ?_
    rw[Heap.get?_push_ne _ _ _ hcs]at e'
    exact e') (fun c hc=>hfp c (by
     have hc':c=z\/c=TO\/c=i1\/c=i2:=by simpa using hc
     rcases hc' with rfl | rfl | rfl | rfl<;>simp))
  refine⟨.ref s.heap.objs.size,upd H s.heap.objs.size (.tup [x1,y1]),I2,rfl,⟨_,x1,y1,hx,hy,I.hok.fresh (RK _),rfl,rfl⟩,⟨b1,?_,⟨_,_,b2.extBut _ _ D.TOz a2⟩,a3.extBut b2.extBut D.i1z,a4.extBut b2.extBut D.i2z⟩,fun c hc=>(hfp c hc).1⟩
  exact b2.extBut _ _ D.TIz (a7 _ _ D.TIz D.TITO D.TIi1 D.TIi2 hTI)
 done:=by
  intro X hP hw hK hc i pins s σ H E I hf st hg
  subst hP hw hK
  obtain⟨hq1,hq2,hi⟩:=hg
  obtain⟨its1,rv1,p1,_⟩:=I.list hq1
  obtain⟨its2,rv2,p2,_⟩:=I.list hq2
  have e1:=rv1.length
  have e2:=rv2.length
  obtain⟨hz,hTI,⟨ta,tb,hTO⟩,h1,h2⟩:=st
  refine wpAny_pyNext_zip_end (I.ok.hd hc) D hz hTI hTO h1 h2 p1.isList p2.isList ?_ fun h' k=>⟨rfl,I.turnedL (t':=s.toks) (ch:=[z,TO,i1,i2]) (fun c o hcn e=>by
   have hcn':c≠z/\c≠TO/\c≠i1/\c≠i2:=by simpa using hcn
   exact k c o hcn'.1 hcn'.2.1 hcn'.2.2.1 hcn'.2.2.2 e) fun c hc=>hf c (by
    have hc':c=z\/c=TO\/c=i1\/c=i2:=by simpa using hc
    rcases hc' with rfl | rfl | rfl | rfl<;>simp)⟩
  by_cases h:xs.length<=i
  ·exact .inl (by rw[TV];simp;lia)
  ·exact .inr (by rw[TV];simp;lia)
 self:=fun _ _ _ _ _ st h=>wpAny_pyIter_zip st.1 h
section
variable {X:Cx}
def OF(K:Rv)(ta:TA):TI:=fun σ H R=>ta σ H fun vs H1=>∃a b xs ys,vs=[.ref a,.ref b]/\SqL K H1 a xs/\SqL K H1 b ys/\R (Itz K a b xs ys) H1
theorem Ng{elts:List Expr}{kk}{pos':Pos}{e1 e2:Expr}{ta:TA}{p pos:Pos}(hg:Gl X "zip")(hm:X.mg "zip" = none)(ha:PA X [e1,e2] ta)(hs:starEach [e1,e2] X.env=[(false,eval e1 X.env),(false,eval e2 X.env)]:=by rfl)(hs2:starEach [e2] X.env=[(false,eval e2 X.env)]:=by rfl) :
 PI X (.Tuple elts kk pos') (.Call (.Name "zip" p) [e1,e2] [] pos) (OF X.K ta):=by
 intro pins s σ H R I h
 refine Call_ (Dw I hg hm NY (PyProof.Rows.callWith_type1 (thn (ha pos pins s σ H _ I h) fun us s1 ⟨vs,H1,I1,r1,q1⟩=>?_) (by rw[hs,hs2]) (by rw[hs2];rfl)))
 obtain⟨a,b,xs,ys,e,hq1,hq2,q⟩:=q1
 subst e
 cases r1 with
 | cons r rr =>
   cases rr with
   | cons r' rr =>
     cases rr
     cases r
     cases r'
     obtain⟨its1,rv1,p1,_⟩:=I1.list hq1
     obtain⟨its2,rv2,p2,_⟩:=I1.list hq2
     have la:a<s1.heap.objs.size:=by obtain⟨_,e,_⟩:=p1.isList;exact Heap.lt_size e
     have lb:b<s1.heap.objs.size:=by obtain⟨_,e,_⟩:=p2.isList;exact Heap.lt_size e
     refine call_zip_2 p1.isList p2.isList fun h' hz hTI hTO hi1 hi2 hsz hk=>?_
     refine wpAny_pyIter_zip (s:={ s1 with heap:=h' }) hz ?_
     have D:=zipApart_new la lb
     refine⟨s1.heap.objs.size+4,[s1.heap.objs.size+4,s1.heap.objs.size+2,s1.heap.objs.size+3,s1.heap.objs.size,s1.heap.objs.size+1],_,_,H1,rfl,I1.kept (t':=s1.toks) hk,KA D xs ys,⟨hz,hTI,⟨_,_,hTO⟩,hi1,hi2⟩,fun c hc=>?_,q⟩
     have hge:s1.heap.objs.size<=c:=by
      have hc':c=s1.heap.objs.size+4\/c=s1.heap.objs.size+2\/c=s1.heap.objs.size+3\/c=s1.heap.objs.size\/c=s1.heap.objs.size+1:=by simpa using hc
      rcases hc' with rfl | rfl | rfl | rfl | rfl
      ·exact TX _ _
      ·exact TX _ _
      ·exact TX _ _
      ·exact RK _
      ·exact TX _ _
     exact I1.fpOk hge (I1.hok.fresh hge)
theorem Lj(K:Rv){elts:List Expr}{kk}{pos':Pos}{e1 e2:Expr}{ta:TA}{p pos:Pos}(hg:Gl X "zip")(hm:X.mg "zip" = none)(ha:PA X [e1,e2] ta)(hs:starEach [e1,e2] X.env=[(false,eval e1 X.env),(false,eval e2 X.env)]:=by rfl)(hs2:starEach [e2] X.env=[(false,eval e2 X.env)]:=by rfl)(e:X.K=K:=by rfl) :
 PI X (.Tuple elts kk pos') (.Call (.Name "zip" p) [e1,e2] [] pos) (OF K ta):=by subst e;exact Ng hg hm ha hs hs2
end
theorem JG{K:Rv}{a b:Addr}{xs ys:List V}{g:TG}{tb:TS}{D:CZ}{σ:St}{H:Hp}(Pv:Nat->St->Hp->Prop)(h0:Pv 0 σ H)(hl:∀i σ H,i<=min xs.length ys.length->Pv i σ H->SqL K H a xs/\SqL K H b ys)
 (hs:∀i x y T σ H,xs[i]? = some x->ys[i]? = some y->H T=none->Pv i σ H->g (.ref T) σ (upd H T (.tup [x,y])) fun σ2 H2=>tb { D with nx:=Pv (i+1),ct:=Pv (i+1),bk:=D.nx } σ2 H2) (hd:∀σ H,Pv (min xs.length ys.length) σ H->D.nx σ H) :
 ∃ W:Nat->Nat->St->Hp->Prop,(∃m,W 0 m σ H)/\∀i m σ H,W i m σ H ->
   ((Itz K a b xs ys).stop i H/\D.nx σ H)\/((Itz K a b xs ys).go i H/\∃N:St->Hp->Prop,(∀σ' H',N σ' H'->∃m',m'<m/\W (i+1) m' σ' H')/\∀x H',(Itz K a b xs ys).yld i H x H'->g x σ H' fun σ2 H2=>tb { D with nx:=N,ct:=N,bk:=D.nx } σ2 H2):=by
 refine⟨fun i m σ H=>m=min xs.length ys.length-i/\i<=min xs.length ys.length/\Pv i σ H,⟨min xs.length ys.length,by simp,RM _,h0⟩,?_⟩
 rintro i m σ H ⟨rfl,hi,p⟩
 obtain⟨q1,q2⟩:=hl i σ H hi p
 by_cases hlt:i<min xs.length ys.length
 ·refine .inr ⟨⟨q1,q2,hlt⟩,Pv (i+1),fun σ' H' p'=>⟨min xs.length ys.length-(i+1),by lia,rfl,hlt,p'⟩,fun x H' y=>?_⟩
  obtain⟨T,x1,y1,hx,hy,hT,rfl,rfl⟩:=y
  exact hs i x1 y1 T σ _ hx hy hT p
 ·have e:i=min xs.length ys.length:=by lia
  subst e
  exact .inl ⟨⟨q1,q2,RK _⟩,hd σ H p⟩
end L2
namespace L2
open PySem PySem.Spec PyProof.Rows
namespace St
open SetTable
def it(mask:Nat):Nat->Nat->Nat
 | 0,i=>i
 | n+1,i=>it mask n ((i*5+1) % (mask+1))
theorem cover7:∀i:Fin 8,∀e:Fin 8,∃m:Fin 8,it 7 m.val i.val=e.val:=by decide +kernel
theorem cover31:∀i:Fin 32,∀e:Fin 32,∃m:Fin 32,it 31 m.val i.val=e.val:=by decide +kernel
theorem cover{mask:Nat}(hm:mask=7\/mask=31){i e:Nat}(hi:i<mask+1)(he:e<mask+1):∃m,m<=mask/\it mask m i=e:=by
 rcases hm with rfl | rfl
 ·obtain⟨m,h⟩:=cover7 ⟨i,hi⟩ ⟨e,he⟩
  exact⟨m.val,by lia,h⟩
 ·obtain⟨m,h⟩:=cover31 ⟨i,hi⟩ ⟨e,he⟩
  exact⟨m.val,by lia,h⟩
def bs(mask:Nat)(b:Nat):Nat->Nat×Nat
 | 0=>(b % (mask+1),b)
 | n+1=>leap mask (bs mask b n).1 (bs mask b n).2
theorem bs_pert(mask b:Nat):∀n,(bs mask b n).2=b / 32 ^ n
 | 0=>by show b=b / 1;rw[Nat.div_one]
 | n+1=>by
   show(bs mask b n).2 / 32=_
   rw[bs_pert mask b n,Nat.div_div_eq_div_mul,Nat.pow_succ]
theorem bs_lt(mask b:Nat):∀n,(bs mask b n).1<mask+1
 | 0=>Nat.mod_lt _ (TK _)
 | _+1=>Nat.mod_lt _ (TK _)
theorem bits_lt(h:Int):bits h<2 ^ 64:=by
 unfold bits
 have h1:(0:Int)<=h % 2 ^ 64:=TY _ (by decide)
 have h2:h % 2 ^ 64<2 ^ 64:=TZ _ (by decide)
 lia
theorem bs_late{mask b n:Nat}(hb:b<2 ^ 64)(hn:13<=n):(bs mask b n).2=0:=by
 rw[bs_pert]
 refine Nat.div_eq_of_lt (Ro hb ?_)
 exact Rw (by decide:2 ^ 64<=32 ^ 13) (Tg (by decide) hn)
theorem bs_cyc{mask b:Nat}(hb:b<2 ^ 64):∀m n,13<=n->(bs mask b (n+m)).1=it mask m (bs mask b n).1
 | 0,n,_=>rfl
 | m+1,n,hn=>by
   have ih:=bs_cyc (mask:=mask) hb m (n+1) (by lia)
   rw[show n+(m+1)=n+1+m by lia,ih]
   show it mask m (leap mask (bs mask b n).1 (bs mask b n).2).1=it mask m (((bs mask b n).1*5+1) % (mask+1))
   rw[bs_late hb hn]
   rfl
theorem bs_hits{mask b e:Nat}(hm:mask=7\/mask=31)(hb:b<2 ^ 64)(he:e<mask+1):∃n,n<=13+mask/\(bs mask b n).1=e:=by
 obtain⟨m,h1,h2⟩:=cover hm (bs_lt mask b 13) he
 exact⟨13+m,by lia,by rw[bs_cyc hb m 13 (RK _)];exact h2⟩
def base(mask i pert:Nat):Probe:={ j:=i,more:=runEnd mask i-i,i,perturb:=pert,dummy:=none }
def advs(t:SetTable):Nat->Probe->Probe
 | 0,p=>p
 | n+1,p=>advs t n (t.advance p)
theorem advs_add(t:SetTable):∀m n p,advs t (m+n) p=advs t n (advs t m p)
 | 0,n,p=>by rw[U0];rfl
 | m+1,n,p=>by rw[show m+1+n=(m+n)+1 by lia];exact advs_add t m n _
theorem run_le(mask i:Nat):runEnd mask i-i<=9:=by unfold runEnd;split<;>lia
theorem advs_run(t:SetTable):∀(r j i pert:Nat),advs t (r+1) { j:=j,more:=r,i:=i,perturb:=pert,dummy:=none }=base t.mask (leap t.mask i pert).1 (leap t.mask i pert).2
 | 0,j,i,pert=>rfl
 | r+1,j,i,pert=>by
   have ih:=advs_run t r (j+1) i pert
   show advs t (r+1) (t.advance { j:=j,more:=r+1,i:=i,perturb:=pert,dummy:=none })=_
   rw[<- ih]
   rfl
theorem reach(t:SetTable)(h:Int):∀n,∃k,k<=10*n/\advs t k (t.probeStart h)=base t.mask (bs t.mask (bits h) n).1 (bs t.mask (bits h) n).2
 | 0=>⟨0,RK _,rfl⟩
 | n+1=>by
   obtain⟨k,hk,e⟩:=reach t h n
   refine⟨k+(runEnd t.mask (bs t.mask (bits h) n).1-(bs t.mask (bits h) n).1+1),?_,?_⟩
   ·have:=run_le t.mask (bs t.mask (bits h) n).1
    lia
   ·rw[advs_add,e]
    exact advs_run t _ _ _ _
theorem slot_empty{t:SetTable}(hd:t.dummies = #[]){e:Nat}(he:∀i:Nat,t.place[i]? ≠ some e):t.slot e = .empty:=by
 unfold slot
 have h1:(t.place[below t.place e]? == some e)=false:=by
  rw[beq_eq_false_iff_ne];exact he _
 have h2:has t.dummies e=false:=by
  rw[hd];unfold has;rfl
 simp only[h1,h2]
 rfl
theorem slot_cases{t:SetTable}(hd:t.dummies = #[])(j:Nat):t.slot j = .empty\/∃i,t.slot j = .live i/\t.place[i]? = some j:=by
 by_cases h:t.place[below t.place j]? = some j
 ·refine .inr ⟨below t.place j,?_,h⟩
  unfold slot
  have h1:(t.place[below t.place j]? == some j)=true:=by rw[h];exact beq_self_eq_true _
  simp only[h1]
  rfl
 ·refine .inl ?_
  unfold slot
  have h1:(t.place[below t.place j]? == some j)=false:=by rw[beq_eq_false_iff_ne];exact h
  have h2:has t.dummies j=false:=by rw[hd];unfold has;rfl
  simp only[h1,h2]
  rfl
def Hit(t:SetTable)(k:Nat)(p:Probe):Prop:=t.slot (advs t k p).j = .empty
theorem adv_dummy(t:SetTable){p:Probe}(h:p.dummy=none):(t.advance p).dummy=none:=by
 unfold advance
 split
 ·exact h
 ·exact h
theorem go_hit{t:SetTable}(hd:t.dummies = #[]){ha:Nat->Int}{h:Int}:∀(fuel k:Nat) (p:Probe),k<fuel->p.dummy=none->Hit t k p ->
 (∃j,probe.go t ha h fuel p=some (.empty j none))\/∃j i next k',probe.go t ha h fuel p=some (.candidate j i next)/\t.slot j = .live i/\t.place[i]? = some j/\next.dummy=none/\Hit t k' next/\k'<k
 | fuel+1,k,p,hk,hp,hh=>by
   unfold probe.go
   rcases slot_cases hd p.j with z | ⟨i,z,zp⟩
   ·rw[z]
    exact .inl ⟨p.j,by simp only[hp]⟩
   ·rw[z]
    have hk0:∃k',k=k'+1:=by
     cases k with
     | zero=>unfold Hit at hh;rw[show advs t 0 p=p from rfl,z]at hh;cases hh
     | succ k'=>exact⟨k',rfl⟩
    obtain⟨k',rfl⟩:=hk0
    have hh':Hit t k' (t.advance p):=hh
    by_cases hq:(ha i == h)=true
    ·refine .inr ⟨p.j,i,t.advance p,k',?_,z,zp,adv_dummy t hp,hh',by lia⟩
     simp only[hq]
     rfl
    ·have hq':(ha i == h)=false:=by simpa using hq
     simp only[hq']
     rcases go_hit hd fuel k' (t.advance p) (by lia) (adv_dummy t hp) hh' with ⟨j,e⟩ | ⟨j,i',nx,k2,e,r1,r2,r3,r4,r5⟩
     ·exact .inl ⟨j,e⟩
     ·exact .inr ⟨j,i',nx,k2,e,r1,r2,r3,r4,by lia⟩
theorem nd_le:∀{l m:List Nat},l.Nodup->(∀x,x∈l->x∈m)->l.length<=m.length
 | [],m,_,_=>RM _
 | a::l,m,hn,hs=>by
   rw[RV]at hn
   have ha:=hs a Rz
   have ih:=nd_le (l:=l) (m:=m.erase a) hn.2 fun x hx=>(List.mem_erase_of_ne (fun e:x=a=>hn.1 (e ▸ hx))).mpr (hs x (RA _ hx))
   rw[List.length_erase_of_mem ha]at ih
   have:=List.length_pos_of_mem ha
   rw[SO];lia
theorem start_hit{t:SetTable}(hm:t.mask=7\/t.mask=31)(hd:t.dummies = #[])(hs:t.place.size<=t.mask)(h:Int):∃k,k<10*turns t.mask/\Hit t k (t.probeStart h):=by
 have he:∃e,e<t.mask+1/\∀i:Nat,t.place[i]? ≠ some e:=by
  refine Classical.byContradiction fun hn=>?_
  have hall:∀e,e<t.mask+1->e∈t.place.toList:=fun e he=>by
   refine Classical.byContradiction fun hne=>hn ⟨e,he,fun i hi=>hne ?_⟩
   exact S5 (by rw[Sl];exact hi)
  have hsub:(Rr (t.mask+1)).Subset t.place.toList:=fun e he=>hall e (Ru.mp he)
  have hlen:=nd_le (List.nodup_range (n:=t.mask+1)) hsub
  rw[U1,RI]at hlen
  lia
 obtain⟨e,he1,he2⟩:=he
 obtain⟨n,hn,hb⟩:=bs_hits (b:=bits h) hm (bits_lt h) he1
 obtain⟨k,hk,hr⟩:=reach t h n
 refine⟨k,?_,?_⟩
 ·unfold turns;lia
 ·unfold Hit
  rw[hr]
  show t.slot (bs t.mask (bits h) n).1=_
  rw[hb]
  exact slot_empty hd he2
end St
end L2
namespace L2
open PySem PySem.Spec PyProof.Rows
namespace St
open SetTable
section
variable {prog:Program}{w:World}{K:Type}[DecidableEq K](knd:KeyKind prog w K)
def IsN(h:Heap)(ks:List K)(a:Addr):Prop:=∃o items n,h.get? a=some o/\o.cls = .type "tuple" /\ o.data = .seq items n/\ItemsAre knd ks items.toList/\∀v∈items.toList,∃k t,v = .int k t
variable {knd}
theorem IsN.key{h:Heap}{ks:List K}{a:Addr}(x:IsN knd h ks a):IsTupleKey knd h ks a:=let ⟨o,i,n,h1,h2,h3,h4,_⟩:=x;⟨o,i,n,h1,h2,h3,h4⟩
theorem IsN.keep{h h':Heap}{ks:List K}{a:Addr}(x:IsN knd h ks a)(k:∀o,h.get? a=some o->h'.get? a=some o):IsN knd h' ks a:=let ⟨o,i,n,h1,h2⟩:=x;⟨o,i,n,k o h1,h2⟩
variable {A:Around}{E:Value->Shared->Prop}{s:Shared}
theorem wpAny_seqItemsQ{M:Model}{a:Addr}{o:Obj}{items n}{Q:Option (Array Value)->Shared->Prop}(ho:s.heap.get? a=some o)(hd:o.data = .seq items n)(h:Q (some items) s):wpAny M A (seqItems? (.ref a)) Q E s:=by
 unfold seqItems?
 refine wpAny_bind (wpAny_load ho ?_)
 rw[hd]
 exact wpAny_pure h
theorem hashByValue_n{ks:List K}{a:Addr}{Q:Bool->Shared->Prop}(hk:IsN knd s.heap ks a)(h:Q true s):wpAny (model prog w) A (hashByValue 8 (.ref a)) Q E s:=by
 have hT:=hk.key.typeIs
 obtain⟨o,items,n,ho,_,hd,hi,hall⟩:=hk
 unfold hashByValue
 refine wpAny_bind (wpAny_specialOf hT F.slot_tuple_hash.lookup ?_)
 show wpAny _ _ (seqItems? (.ref a) >>= _) _ _ s
 refine wpAny_bind (wpAny_seqItemsQ ho hd ?_)
 refine wpAny_bind ?_
 show wpAny _ _ (forIn items _ _) _ _ s
 rw[<- U2]
 refine wpAny_forIn_list _ (fun BV r s'=>r.1=none/\s'=s/\∀v∈BV,∃k t,v=Value.int k t) _ ?_ ?_ _ _ ⟨rfl,rfl,hall⟩
 ·rintro v BV r s' ⟨hr,rfl,hall⟩
  obtain⟨k,t,rfl⟩:=hall v Rz
  refine wpAny_bind (m:=hashByValue 7 (.int k t)) (wpAny_pure ?_)
  simp only[Bool.not_true,Bool.false_eq_true,if_false]
  exact wpAny_pure ⟨rfl,rfl,fun u hu'=>hall u (RA _ hu')⟩
 ·rintro⟨r1,r2⟩ s' ⟨hr,rfl,_⟩
  simp only at hr
  subst hr
  exact wpAny_pure h
theorem ofClass_n{ks:List K}{a:Addr}{Q:Bool->Shared->Prop}(hk:IsN knd s.heap ks a)(h:Q false s):wpAny (model prog w) A (ofAClassStatement 8 (.ref a)) Q E s:=by
 have hT:=hk.key.typeIs
 obtain⟨o,items,n,ho,_,hd,hi,hall⟩:=hk
 unfold ofAClassStatement
 refine wpAny_bind (wpAny_typeOf hT ?_)
 refine wpAny_bind (m:=pure true) (wpAny_pure ?_)
 simp only[Bool.not_true,Bool.false_eq_true,if_false]
 refine wpAny_bind (wpAny_seqItemsQ ho hd ?_)
 refine wpAny_bind ?_
 show wpAny _ _ (forIn items _ _) _ _ s
 rw[<- U2]
 refine wpAny_forIn_list _ (fun BV r s'=>r.1=none/\s'=s/\∀v∈BV,∃k t,v=Value.int k t) _ ?_ ?_ _ _ ⟨rfl,rfl,hall⟩
 ·rintro v BV r s' ⟨hr,rfl,hall⟩
  obtain⟨k,t,rfl⟩:=hall v Rz
  refine wpAny_bind (m:=ofAClassStatement 7 (.int k t)) (wpAny_pure ?_)
  simp only[Bool.false_eq_true,if_false]
  exact wpAny_pure ⟨rfl,rfl,fun u hu'=>hall u (RA _ hu')⟩
 ·rintro⟨r1,r2⟩ s' ⟨hr,rfl,_⟩
  simp only at hr
  subst hr
  exact wpAny_pure h
def Ns(knd:KeyKind prog w K)(h:Heap)(l:List Value)(ks:List K):Prop:=∀v∈l,∃b k',v = .ref b/\IsN knd h k' b/\k'≠ks
theorem unseen{ks:List K}{x:Addr}{Q:Bool->Shared->Prop}(hx:IsN knd s.heap ks x){l:List Value}(hl:Ns knd s.heap l ks)(h:Q false s):wpAny (model prog w) A (searchCouldBeSeen (.ref x) l) Q E s:=by
 unfold searchCouldBeSeen
 refine wpAny_bind ?_
 refine wpAny_forIn_list _ (fun BV r s'=>r.1=none/\s'=s/\Ns knd s.heap BV ks) _ ?_ ?_ _ _ ⟨rfl,rfl,hl⟩
 ·rintro v BV r s' ⟨hr,rfl,hall⟩
  obtain⟨b,k',rfl,hb,hne⟩:=hall v Rz
  have hrest:Ns knd s'.heap BV ks:=fun u hu'=>hall u (RA _ hu')
  have hxb:(x == b)=false:=by
   rw[beq_eq_false_iff_ne]
   intro e
   subst e
   exact hne (hb.key.inj hx.key)
  have hc:((match (Value.ref x),(Value.ref b) with | .ref a,.ref b=>a == b | _,_=>false)||(carriedByValue (.ref x)&&carriedByValue (.ref b)))=false:=by
   show((x == b)||(false&&false))=false
   rw[hxb];rfl
  show wpAny _ _ (if ((match (Value.ref x),(Value.ref b) with | .ref a,.ref b=>a == b | _,_=>false)||(carriedByValue (.ref x)&&carriedByValue (.ref b)))=true then _ else _) _ _ _
  rw[if_neg (by rw[hc];exact Bool.false_ne_true)]
  refine wpAny_bind (wpAny_eqIsQuiet_tuple hx.key ?_)
  simp only[Bool.not_true,Bool.false_eq_true,if_false]
  refine wpAny_bind (wpAny_eqIsQuiet_tuple hb.key ?_)
  simp only[Bool.not_true,Bool.false_eq_true,if_false]
  refine wpAny_bind (ofClass_n hx ?_)
  simp only[Bool.false_eq_true,if_false]
  refine wpAny_bind (ofClass_n hb ?_)
  simp only[Bool.false_eq_true,if_false]
  exact wpAny_pure ⟨rfl,rfl,hrest⟩
 ·rintro⟨r1,r2⟩ s' ⟨hr,rfl,_⟩
  simp only at hr
  subst hr
  exact wpAny_pure h
theorem search_free{S:Addr}{o:Obj}{es:Array (Int×Value)}{ep:Nat}{t:SetTable}(ho:s.heap.get? S=some o)(hd:o.data = .set es ep t)(hf:t.fits es.size=true)(hm:t.mask=7\/t.mask=31)(hdm:t.dummies = #[])
 {x:Addr} {ks:List K} (hx:IsN knd s.heap ks x) (hes:∀e∈es.toList,∃b k',e.2=Value.ref b/\IsN knd s.heap k' b/\k'≠ks) (hu:A.units<cLine) {h:Int} {Q:SetFound->Shared->Prop} (hQ:∀j,Q (.free j false) s) :
 ∀(k F:Nat) (stand:Option Probe),k<F->k<10*turns t.mask->(stand.getD (t.probeStart h)).dummy=none->Hit t k (stand.getD (t.probeStart h))->wpAny (model prog w) A (setSearchFrom S (.ref x) h true F stand) Q E s:=by
 intro k
 induction k using Nat.strongRecOn with
 | ind k ih =>
   intro F stand hF hk hdn hh
   obtain⟨F',rfl⟩:∃F',F=F'+1:=⟨F-1,by lia⟩
   unfold setSearchFrom
   refine wpAny_bind (wpAny_setState_of ho hd hf ?_)
   dsimp only
   have hgw:t.gaveWay=false:=by
    unfold gaveWay
    rcases hm with z | z<;>rw[z]<;>rfl
   rw[hgw]
   simp only[Bool.false_eq_true,if_false]
   have bad:∀{ha:Nat->Int},(∀met,t.probe ha h (stand.getD (t.probeStart h))=some met->False)->False:=fun{ha} hn=>by
    rcases go_hit (ha:=ha) (h:=h) hdm (10*turns t.mask) k _ hk hdn hh with ⟨j,e⟩ | ⟨j,i,next,k',e,_⟩
    ·exact hn _ e
    ·exact hn _ e
   split
   ·next met heq =>
    rcases go_hit hdm (10*turns t.mask) k _ hk hdn hh with ⟨j,e⟩ | ⟨j,i,next,k',e,r1,r2,r3,r4,r5⟩
    ·have e2:=Rl.inj (e.symm.trans heq)
     subst e2
     exact wpAny_pure (hQ j)
    ·have e2:=Rl.inj (e.symm.trans heq)
     subst e2
     dsimp only
     have hps:t.place.size=es.size:=by
      unfold fits at hf
      rw[Bool.and_eq_true]at hf
      exact eq_of_beq hf.1
     have hil:i<es.size:=by
      have:=(Array.getElem?_eq_some_iff.mp r2).1
      lia
     obtain⟨h0,y,hei⟩:∃h0 y,es[i]? = some (h0,y):=⟨es[i].1,es[i].2,U3 hil⟩
     obtain⟨b,kb,eb,hb,hne⟩:=hes (h0,y) (S5 (by rw[Sl];exact hei))
     have eb:y = .ref b:=eb
     subst eb
     have hNs:Ns knd s.heap (List.map (fun x=>x.snd) (Array.filter (fun x=>x.fst == h) es).toList) ks:=fun v hv=>by
      obtain⟨e0,he0,rfl⟩:=U4.mp hv
      rw[Array.toList_filter]at he0
      obtain⟨b',k2,q1,q2,q3⟩:=hes e0 (Rt.mp he0).1
      exact⟨b',k2,q1,q2,q3⟩
     have hsm:t.sameMemory t.moves t.mask=some true:=by unfold sameMemory;rw[if_pos (beq_self_eq_true _)]
     rcases Bool.eq_false_or_eq_true t.led with hl | hl
     ·simp only[hl,Bool.not_true,Bool.false_eq_true,if_false]
      rw[hei]
      dsimp only
      refine wpAny_bind (wpAny_holding (wpAny_eqBool_tuple hu hb.key hx.key ?_))
      rw[decide_eq_false hne]
      refine wpAny_bind (wpAny_setState_of ho hd hf ?_)
      simp only[Bool.and_false,Bool.false_eq_true,if_false,hsm,if_true,r1,hei]
      refine wpAny_bind (wpAny_isSame_ref_self ?_)
      simp only[if_true]
      refine wpAny_bind (wpAny_pure ?_)
      simp only[Bool.false_eq_true,if_false]
      exact ih k' r5 F' (some next) (by lia) (by lia) r3 r4
     ·simp only[hl,Bool.not_false,if_true]
      refine wpAny_bind (unseen hx hNs ?_)
      simp only[Bool.false_eq_true,if_false]
      rw[hei]
      dsimp only
      refine wpAny_bind (wpAny_holding (wpAny_eqBool_tuple hu hb.key hx.key ?_))
      rw[decide_eq_false hne]
      refine wpAny_bind (wpAny_setState_of ho hd hf ?_)
      simp only[Bool.and_false,Bool.false_eq_true,if_false,hsm,if_true,r1,hei]
      refine wpAny_bind (wpAny_isSame_ref_self ?_)
      simp only[if_true]
      refine wpAny_bind (wpAny_pure ?_)
      simp only[Bool.false_eq_true,if_false]
      exact ih k' r5 F' (some next) (by lia) (by lia) r3 r4
   ·next heq=>exact(bad heq).elim
end
end St
end L2
namespace L2
open PySem PySem.Spec PyProof.Rows
namespace St
open SetTable
theorem free_ok{owner:Array (Option Nat)}{b e:Nat}(he:owner.getD e (some 0)=none):∀(fuel m n:Nat),m<fuel->(bs 31 b (n+m)).1=e ->
 ∃j,layClean.free 31 owner fuel (bs 31 b n).1 (bs 31 b n).2=some j/\owner.getD j (some 0)=none
 | fuel+1,m,n,hm,hb=>by
   unfold layClean.free
   split
   ·next k hk =>
    have:=List.find?_some hk
    exact⟨_,rfl,Option.isNone_iff_eq_none.mp this⟩
   ·next hk =>
    cases m with
    | zero =>
      exfalso
      rw[List.find?_eq_none]at hk
      have h0:(0:Nat)∈Rr (runEnd 31 (bs 31 b n).1+1-(bs 31 b n).1):=Ru.mpr (by unfold runEnd;split<;>lia)
      have h1:=hk 0 h0
      rw[SJ]at hb h1
      rw[hb,he]at h1
      exact h1 rfl
    | succ m =>
      obtain⟨j,h1,h2⟩:=free_ok he fuel m (n+1) (by lia) (by rw[show n+1+m=n+(m+1) by lia];exact hb)
      exact⟨j,h1,h2⟩
def lv(owner:Array (Option Nat))(j:Nat):Option (Nat×Nat):=(owner.getD j none).map (j,·)
theorem lv_set{owner:Array (Option Nat)}{j k:Nat}(hj:owner.getD j (some 0)=none)(hs:owner.size=32):(((Rr 32).filterMap (lv (owner.setIfInBounds j (some k)))).map (·.2)).Perm (k::((Rr 32).filterMap (lv owner)).map (·.2))/\j<32:=by
 have hjl:j<32:=by
  refine Nat.lt_of_not_le fun hle=>?_
  rw[U5,TV (by lia)]at hj
  cases hj
 refine⟨?_,hjl⟩
 have hsplit:Rr 32=Rr j++j::(Rr 32).drop (j+1):=by
  have h1:(Rr 32)[j]? = some j:=U6 hjl
  obtain⟨hlt,hg⟩:=RF.mp h1
  have h2:=(List.take_append_drop j (Rr 32)).symm
  rw[List.drop_eq_getElem_cons hlt,hg,List.take_range,Sd (by lia)]at h2
  exact h2
 have hne1:∀a∈Rr j,lv (owner.setIfInBounds j (some k)) a=lv owner a:=fun a ha=>by
  have:a≠j:=by have:=Ru.mp ha;lia
  unfold lv
  rw[U5,U5,U7 (Ne.symm this)]
 have hne2:∀a∈(Rr 32).drop (j+1),lv (owner.setIfInBounds j (some k)) a=lv owner a:=fun a ha=>by
  have:a≠j:=by
   obtain⟨i,hi⟩:=U8 ha
   rw[T8]at hi
   have hi2:=(RF.mp hi)
   obtain⟨hl,hi3⟩:=hi2
   rw[List.getElem_range]at hi3
   lia
  unfold lv
  rw[U5,U5,U7 (Ne.symm this)]
 have hnew:lv (owner.setIfInBounds j (some k)) j=some (j,k):=by
  unfold lv
  rw[U5,Array.getElem?_setIfInBounds_self_of_lt (by lia)];rfl
 have hold:lv owner j=none:=by
  unfold lv
  rw[U5]at hj ⊢
  have hlt:j<owner.size:=by lia
  rw[U3 hlt]at hj ⊢
  show(owner[j]).map _=none
  have hj':owner[j]=none:=hj
  rw[hj'];rfl
 have hcong:∀{l:List Nat},(∀a∈l,lv (owner.setIfInBounds j (some k)) a=lv owner a)->l.filterMap (lv (owner.setIfInBounds j (some k)))=l.filterMap (lv owner):=fun{l} h=>by
  induction l with
  | nil=>rfl
  | cons a l ih =>
    rw[Ry,Ry,h a Rz,ih fun b hb=>h b (RA _ hb)]
 rw[hsplit,List.filterMap_append,List.filterMap_append,List.filterMap_cons_some hnew,List.filterMap_cons_none hold,hcong hne1,hcong hne2,SV,SV,Sn]
 exact List.perm_middle
def Own(owner:Array (Option Nat))(k:Nat):Prop:=owner.size=32/\(((Rr 32).filterMap (lv owner)).map (·.2)).Perm (Rr k)
theorem own_free{owner:Array (Option Nat)}{k:Nat}(ho:Own owner k)(hk:k<32):∃e,e<32/\owner.getD e (some 0)=none:=by
 refine Classical.byContradiction fun hn=>?_
 have hall:∀e,e<32->owner.getD e (some 0)≠none:=fun e he z=>hn ⟨e,he,z⟩
 have hlen:=ho.2.length_eq
 rw[S7,U1]at hlen
 have hall2:∀a∈Rr 32,(lv owner a).isSome=true:=fun a ha=>by
  have ha':=Ru.mp ha
  have h1:=hall a ha'
  unfold lv
  rw[U5]at h1 ⊢
  have hlt:a<owner.size:=by rw[ho.1];exact ha'
  rw[U3 hlt]at h1 ⊢
  cases hc:owner[a] with
  | none=>rw[hc]at h1;exact absurd rfl h1
  | some v=>show((some v).map (fun x=>(a,x))).isSome=true;rfl
 have hfl:∀{l:List Nat},(∀a∈l,(lv owner a).isSome=true)->(l.filterMap (lv owner)).length=l.length:=fun{l} h=>by
  induction l with
  | nil=>rfl
  | cons a l ih =>
    obtain⟨v,hv⟩:=Option.isSome_iff_exists.mp (h a Rz)
    rw[List.filterMap_cons_some hv,SO,SO,ih fun b hb=>h b (RA _ hb)]
 rw[hfl hall2,U1]at hlen
 lia
def stp(acc:Option (Array (Option Nat)×Nat))(h:Int):Option (Array (Option Nat)×Nat):=do
 let (owner,k) <- acc
 let j <- layClean.free 31 owner (turns 31) (bits h % (31+1)) (bits h)
 pure (owner.setIfInBounds j (some k),k+1)
theorem stp_ok{owner:Array (Option Nat)}{k:Nat}(ho:Own owner k)(hk:k<32)(h:Int):∃owner',stp (some (owner,k)) h=some (owner',k+1)/\Own owner' (k+1):=by
 obtain⟨e,he,hn⟩:=own_free ho hk
 obtain⟨n,hn1,hn2⟩:=bs_hits (mask:=31) (b:=bits h) (.inr rfl) (bits_lt h) (show e<31+1 by lia)
 obtain⟨j,hj1,hj2⟩:=free_ok (owner:=owner) (b:=bits h) hn (turns 31) n 0 (by unfold turns;lia) (by rw[U0];exact hn2)
 have hp:=lv_set (k:=k) hj2 ho.1
 refine⟨owner.setIfInBounds j (some k),?_,?_,?_⟩
 ·have hj1':layClean.free 31 owner (turns 31) (bits h % (31+1)) (bits h)=some j:=hj1
  show(do let j <- layClean.free 31 owner (turns 31) (bits h % (31+1)) (bits h);pure (owner.setIfInBounds j (some k),k+1))=_
  rw[hj1'];rfl
 ·rw[Array.size_setIfInBounds];exact ho.1
 ·refine hp.1.trans ?_
  rw[show Rr (k+1)=Rr k++[k] from U9]
  exact(List.Perm.cons k ho.2).trans (Ua (l₁:=[k]))
theorem fold_ok:∀(hs:List Int) {owner:Array (Option Nat)} {k:Nat},Own owner k->k+hs.length<=32->∃owner',hs.foldl stp (some (owner,k))=some (owner',k+hs.length)/\Own owner' (k+hs.length)
 | [],owner,k,ho,_=>⟨owner,rfl,ho⟩
 | h::hs,owner,k,ho,hl=>by
   rw[SO]at hl
   obtain⟨o1,e1,ho1⟩:=stp_ok ho (by lia) h
   obtain⟨o2,e2,ho2⟩:=fold_ok hs ho1 (by lia)
   refine⟨o2,?_,?_⟩
   ·rw[List.foldl_cons,e1,e2,SO,show k+1+hs.length=k+(hs.length+1) by lia]
   ·rw[SO,show k+(hs.length+1)=k+1+hs.length by lia];exact ho2
theorem own_none:Own (Ub 32 none) 0:=by
 refine⟨Array.size_replicate,?_⟩
 have:(Rr 32).filterMap (lv (Ub 32 none))=[]:=by decide +kernel
 rw[this];exact List.Perm.refl _
theorem laid_ok(hashes:Array Int)(hn:hashes.size<=32)(finger moves:Nat)(led plain:Bool):∃t order,laid 31 finger moves led plain hashes=some (t,order)/\t.mask=31/\t.dummies = #[]/\t.place.size=hashes.size/\order.toList.Perm (Rr hashes.size):=by
 obtain⟨owner,e,ho⟩:=fold_ok hashes.toList own_none (by rw[RI];lia)
 have hc:layClean 31 hashes=some owner:=by
  unfold layClean
  have e':hashes.foldl stp (some (Ub 32 none,0))=some (owner,0+hashes.toList.length):=by rw[<- Array.foldl_toList];exact e
  have e2:hashes.foldl (init:=some (Ub (31+1) none,0)) (fun acc h=>do
   let (owner,k) <- acc
   let j <- layClean.free 31 owner (turns 31) (bits h % (31+1)) (bits h)
   pure (owner.setIfInBounds j (some k),k+1))=some (owner,0+hashes.toList.length):=e'
  rw[e2];rfl
 have hp:=ho.2
 rw[U0,RI]at hp
 refine⟨{ mask:=31,place:=(((Rr 32).filterMap (lv owner)).map (·.1)).toArray,dummies:=#[],finger,led,moves,plain },(((Rr 32).filterMap (lv owner)).map (·.2)).toArray,?_,rfl,rfl,?_,?_⟩
 ·unfold laid
  rw[hc]
  rfl
 ·have:=hp.length_eq
  rw[S7,U1]at this
  show(((Rr 32).filterMap (lv owner)).map (·.1)).toArray.size=_
  rw[Sg,S7];exact this
 ·exact hp
end St
end L2
namespace L2
open PySem PySem.Spec PyProof.Rows
namespace St
open SetTable
section
variable {prog:Program}{w:World}{K:Type}[DecidableEq K](knd:KeyKind prog w K)(G:Addr->Prop)
def SetN(h:Heap)(S:Addr)(keys:List (List K)):Prop:=∃o es ep t,h.get? S=some o/\o.ExactSet/\o.data = .set es ep t/\(t.mask=7/\es.size<=4\/t.mask=31)/\t.dummies = #[]/\t.place.size=es.size/\es.size=keys.length /\
 ∀e∈es.toList,∃b k,e.2=Value.ref b/\IsN knd h k b/\k∈keys/\G b
variable {knd}{G}
theorem SetN.keep{h h':Heap}{S:Addr}{keys:List (List K)}(x:SetN knd G h S keys)(k:∀b o,b=S\/G b->h.get? b=some o->h'.get? b=some o):SetN knd G h' S keys:=by
 obtain⟨o,es,ep,t,h1,h2,h3,h4,h5,h6,h7,h8⟩:=x
 refine⟨o,es,ep,t,k _ _ (.inl rfl) h1,h2,h3,h4,h5,h6,h7,fun e he=>?_⟩
 obtain⟨b,k',q1,q2,q3,q4⟩:=h8 e he
 exact⟨b,k',q1,q2.keep fun o e=>k _ o (.inr q4) e,q3,q4⟩
variable {A:Around}{E:Value->Shared->Prop}{s:Shared}
theorem insert_size{α:Type}(xs:Array α)(p:Nat)(x:α):(insertAt xs p x).size=xs.size+1:=by
 have h:=(SetTable.insertAt_perm xs p x).length_eq
 rw[RI,RI,Array.size_push]at h
 exact h
theorem keep_but{h h':Heap}{S:Addr}(sb:Heap.SameBut S h h'){ks:List K}{b:Addr}{o:Obj}{es ep t}(hS:h.get? S=some o)(hd:o.data = .set es ep t)(x:IsN knd h ks b):IsN knd h' ks b:=by
 obtain⟨o',items,n,h1,h2,h3,h4⟩:=id x
 have hne:b≠S:=by
  rintro rfl
  rw[hS]at h1
  cases h1
  rw[hd]at h3
  cases h3
 exact x.keep fun o'' e=>(sb.2 b hne).trans e
theorem add_tail{S:Addr}{o:Obj}{es:Array (Int×Value)}{ep:Nat}{t:SetTable}(ho:s.heap.get? S=some o)(hcl:o.ExactSet)(hd:o.data = .set es ep t){es1:Array (Int×Value)}{t1:SetTable}{keys:List (List K)}
 (hmk:t1.mask=7/\es1.size<=5\/t1.mask=31) (hdm:t1.dummies = #[]) (hps:t1.place.size=es1.size) (hn:es1.size=keys.length) (h17:es1.size<=17) (hel:∀e∈es1.toList,∃b k,e.2=Value.ref b/\IsN knd s.heap k b/\k∈keys/\G b) {m:Nat} (hm:m=es1.size) {Q:Bool->Shared->Prop}
 (h:∀h',Heap.SameBut S s.heap h'->SetN knd G h' S keys->Q true { s with heap:=h' }) :
 wpAny (model prog w) A (do storeSet S es1 t1;if (!false&&t1.tooFull)=true then do { setRelay S (grown m);pure true } else pure true) Q E s:=by
 refine wpAny_bind (wpAny_storeSet_of ho hd ?_ (Rw h17 (by decide)))
 have hg1:(s.heap.update S (Obj.putSet es1 t1)).get? S=some { o with data:=.set es1 (ep+1) t1 }:=by
  have:=Heap.get?_update_self (Obj.putSet es1 t1) ho (by rw[putSet_of _ _ hd];rfl)
  rw[putSet_of _ _ hd]at this;exact this
 have sb1:Heap.SameBut S s.heap (s.heap.update S (Obj.putSet es1 t1)):=Heap.SameBut.update ..
 generalize s.heap.update S (Obj.putSet es1 t1)=h1 at hg1 sb1 ⊢
 have hel1:∀e∈es1.toList,∃b k,e.2=Value.ref b/\IsN knd h1 k b/\k∈keys/\G b:=fun e he=>by
  obtain⟨b,k,q1,q2,q3,q4⟩:=hel e he
  exact⟨b,k,q1,keep_but sb1 ho hd q2,q3,q4⟩
 have hfl:SetTable.fill t1=es1.size:=by unfold SetTable.fill;rw[hdm,hps];rfl
 by_cases hfull:t1.tooFull=true
 ·have hf5:es1.size*5 ≥ t1.mask*3:=by
   unfold tooFull at hfull
   rw[hfl]at hfull
   exact of_decide_eq_true hfull
  have hm7:t1.mask=7/\es1.size=5:=by
   rcases hmk with z | z
   ·rw[z.1]at hf5;exact⟨z.1,by lia⟩
   ·rw[z]at hf5;lia
  simp only[hfull,Bool.not_false,Bool.and_self,if_true]
  refine wpAny_bind ?_
  unfold setRelay
  have hfit1:t1.fits es1.size=true:=by
   unfold fits
   rw[hfl,hps,hm7.1,hm7.2];rfl
  refine wpAny_bind (wpAny_setState_of (s:={ s with heap:=h1 }) (o:={ o with data:=.set es1 (ep+1) t1 }) hg1 rfl hfit1 ?_)
  dsimp only
  have hgr:grown m=20:=by rw[hm,hm7.2];rfl
  have hsa:sizeAbove 20=32:=by decide
  rw[hgr,hsa,if_neg (by decide)]
  have hrl:t1.relaid (es1.map (·.1)) 20=laid 31 t1.finger (t1.movedTo 31) t1.led t1.plain (es1.map (·.1)):=by
   unfold relaid
   rw[hsa]
  obtain⟨t2,order,el,et1,et2,et3,eo⟩:=laid_ok (es1.map (·.1)) (by rw[Array.size_map];lia) t1.finger (t1.movedTo 31) t1.led t1.plain
  rw[Array.size_map]at et3 eo
  have hperm:(order.filterMap (es1[·]?)).toList.Perm es1.toList:=by
   rw[Array.toList_filterMap]
   have:=eo.filterMap (fun i=>es1[i]?)
   rw[filterMap_getElem?_range]at this
   exact this
  have hsz2:(order.filterMap (es1[·]?)).size=es1.size:=by
   have:=hperm.length_eq
   rw[RI,RI]at this
   exact this
  rw[hrl,el]
  refine wpAny_bind ?_
  show wpAny _ _ (if ((order.filterMap (es1[·]?)).size != es1.size)=true then _ else pure (order.filterMap (es1[·]?),t2)) _ _ _
  rw[if_neg (by rw[hsz2];simp)]
  refine wpAny_pure ?_
  generalize order.filterMap (es1[·]?)=es2 at hperm hsz2 ⊢
  refine wpAny_storeSet_of (s:={ s with heap:=h1 }) (o:={ o with data:=.set es1 (ep+1) t1 }) hg1 rfl ?_ (by rw[hsz2];exact Rw h17 (by decide))
  have hg2:(h1.update S (Obj.putSet es2 t2)).get? S=some { o with data:=.set es2 (ep+1+1) t2 }:=by
   have:=Heap.get?_update_self (Obj.putSet es2 t2) hg1 (by rw[putSet_of (es:=es1) (ep:=ep+1) (t:=t1) _ _ rfl];rfl)
   rw[putSet_of (es:=es1) (ep:=ep+1) (t:=t1) _ _ rfl]at this;exact this
  have sb2:Heap.SameBut S h1 (h1.update S (Obj.putSet es2 t2)):=Heap.SameBut.update ..
  have hel2:∀e∈es2.toList,∃b k,e.2=Value.ref b/\IsN knd (h1.update S (Obj.putSet es2 t2)) k b/\k∈keys/\G b:=fun e he=>by
   obtain⟨b,k,q1,q2,q3,q4⟩:=hel1 e (hperm.mem_iff.mp he)
   exact⟨b,k,q1,keep_but (es:=es1) (ep:=ep+1) (t:=t1) sb2 hg1 rfl q2,q3,q4⟩
  refine wpAny_pure (h (h1.update S (Obj.putSet es2 t2)) ⟨sb2.1.trans sb1.1,fun b hb=>(sb2.2 b hb).trans (sb1.2 b hb)⟩ ⟨_,_,_,_,hg2,hcl,rfl,.inr et1,et2,by rw[et3,hsz2],by rw[hsz2];exact hn,hel2⟩)
 ·have hfull':t1.tooFull=false:=by simpa using hfull
  simp only[hfull',Bool.and_false,Bool.false_eq_true,if_false]
  refine wpAny_pure (h h1 sb1 ⟨_,_,_,_,hg1,hcl,rfl,?_,hdm,hps,hn,hel1⟩)
  rcases hmk with z | z
  ·refine .inl ⟨z.1,?_⟩
   unfold tooFull at hfull'
   rw[hfl,z.1]at hfull'
   have hf':=of_decide_eq_false hfull'
   lia
  ·exact .inr z
theorem add_n{S x:Addr}{ks:List K}{keys:List (List K)}{hsh:Int}{Q:Bool->Shared->Prop}(hS:SetN knd G s.heap S keys)(hx:IsN knd s.heap ks x)(hGx:G x)(hne:ks∉keys)(hl:keys.length<=16)(hu:A.units<cLine)
 (h:∀h',Heap.SameBut S s.heap h'->SetN knd G h' S (ks::keys)->Q true { s with heap:=h' }):wpAny (model prog w) A (setAddHashed S (.ref x) hsh) Q E s:=by
 obtain⟨o,es,ep,t,ho,hcl,hd,hmk,hdm,hps,hn,hel⟩:=hS
 have hm:t.mask=7\/t.mask=31:=hmk.elim (fun z=>.inl z.1) .inr
 have hsz:es.size<=t.mask:=by rcases hmk with z | z<;>lia
 have hfl:SetTable.fill t=es.size:=by unfold SetTable.fill;rw[hdm,hps];rfl
 have hfit:t.fits es.size=true:=by
  unfold fits
  rw[hfl,hps]
  simp
  exact hsz
 have hes:∀e∈es.toList,∃b k',e.2=Value.ref b/\IsN knd s.heap k' b/\k'≠ks:=fun e he=>by
  obtain⟨b,k,q1,q2,q3,_⟩:=hel e he
  exact⟨b,k,q1,q2,fun z=>hne (z ▸ q3)⟩
 unfold setAddHashed setAddHashedIn
 refine wpAny_holding (wpAny_bind (wpAny_setState_of ho hd hfit ?_))
 dsimp only
 have hbs:byScan (.ref x) es=false:=rfl
 rw[hbs]
 simp only[Bool.false_eq_true,if_false]
 obtain⟨k,hk1,hk2⟩:=start_hit hm hdm (by rw[hps];exact hsz) hsh
 have hkF:k<100000:=by
  unfold turns at hk1
  rcases hm with z | z<;>rw[z]at hk1<;>lia
 refine wpAny_bind (m:=setSearch S (.ref x) hsh true) (search_free ho hd hfit hm hdm hx hes hu (fun j=>?_) k 100000 none hkF hk1 rfl hk2)
 dsimp only
 refine wpAny_bind (wpAny_setState_of ho hd hfit ?_)
 dsimp only
 have hput:(t.put j).1={ t with place:=insertAt t.place (t.put j).2 j }:=by
  unfold put
  have hz:has t.dummies j=false:=by rw[hdm];unfold has;rfl
  simp only[hz,Bool.false_eq_true,if_false]
 have hpl1:(t.put j).1.place.size=es.size+1:=by rw[hput];show(insertAt _ _ _).size=_;rw[insert_size,hps]
 have hdm1:(t.put j).1.dummies = #[]:=by rw[hput];exact hdm
 have hmk1:(t.put j).1.mask=t.mask:=by rw[hput]
 generalize(t.put j).1=t1 at hpl1 hdm1 hmk1 ⊢
 generalize(t.put j).2=p
 have hsz1:(insertAt es p (hsh,Value.ref x)).size=es.size+1:=insert_size _ _ _
 have hel1:∀e∈(insertAt es p (hsh,Value.ref x)).toList,∃b k,e.2=Value.ref b/\IsN knd s.heap k b/\k∈ks::keys/\G b:=fun e he=>by
  have he':=(SetTable.insertAt_perm es p (hsh,Value.ref x)).mem_iff.mp he
  rw[Array.toList_push]at he'
  rcases RD.mp he' with z | z
  ·obtain⟨b,k,q1,q2,q3,q4⟩:=hel e z
   exact⟨b,k,q1,q2,RA _ q3,q4⟩
  ·rw[Td.mp z]
   exact⟨x,ks,rfl,hx,Rz,hGx⟩
 have tail:=add_tail (knd:=knd) (G:=G) (A:=A) (E:=E) (Q:=Q) ho hcl hd (es1:=insertAt es p (hsh,Value.ref x)) (t1:=t1) (keys:=ks::keys) (by rw[hmk1,hsz1];rcases hmk with z | z;exact .inl ⟨z.1,by lia⟩;exact .inr z) hdm1 (by rw[hpl1,hsz1]) (by rw[hsz1,hn];rfl) (by rw[hsz1];lia) hel1 (m:=es.size+1) (by rw[hsz1]) h
 split
 ·refine wpAny_bind (hashByValue_n hx ?_)
  simp only[if_true]
  exact tail
 ·refine wpAny_bind (wpAny_pure ?_)
  simp only[if_true]
  exact tail
end
end St
end L2
namespace L2
open PySem PySem.Spec PyProof.Rows
namespace St
section
variable {prog:Program}{w:World}{K:Type}[DecidableEq K]{knd:KeyKind prog w K}{G:Addr->Prop}{A:Around}{R:Result->Shared->Prop}{I:Addr}{fp wr:List Addr}{GG:Array GenState->Array GenState->Prop}{n:Nat}{P:Nat->Value->Prop}{St:Nat->Shared->Prop}
def ksAt(key:Nat->List K):Nat->List (List K)
 | 0=>[]
 | i+1=>key i::ksAt key i
theorem ksAt_length(key:Nat->List K):∀i,(ksAt key i).length=i
 | 0=>rfl
 | i+1=>by show(ksAt key i).length+1=i+1;rw[ksAt_length key i]
theorem ksAt_mem{key:Nat->List K}{k:List K}:∀{i},k∈ksAt key i->∃j,j<i/\key j=k
 | i+1,h=>by
   rcases RC.mp h with z | z
   ·exact⟨i,T9 _,z.symm⟩
   ·obtain⟨j,h1,h2⟩:=ksAt_mem z
    exact⟨j,Tc h1,h2⟩
theorem turn_of{S:Addr}{s:Shared} (hz:wpAny (model prog w) A.in1 (Builtin.«set.update.loop» ⟨[.ref S,.ref I],[]⟩)
 (fun fin s'=>match fin with | .done f=>R (.ok f) s' | .again c'=>c'.quiet=true/\codeAny (model prog w) A c' R s') (fun e s'=>R (.error e) s') s) :
 codeAny (model prog w) A (.builtin "set.update.loop" ⟨[.ref S,.ref I],[]⟩) R s :=
 codeAny_builtin F.entry_set_update_loop ((Around.under_plainId F.plain_set_update_loop (A:=A) ⟨[.ref S,.ref I],[]⟩).symm ▸ hz)
theorem loop_n(W:WalksS prog w A.in1 I fp wr GG n P St)(S:Addr)(hSf:S∉fp)(key:Nat->List K)(adr:Nat->Addr)(hval:∀i v,P i v->v=Value.ref (adr i))(hG:∀i,i<n->G (adr i))(hGw:∀b,G b->b∉wr/\b≠S)
 (hinj:∀i j,i<n->j<n->key i=key j->i=j) (hn:n<=17) (hu:A.units+1<cLine) (left i:Nat) (s:Shared) (hk:i+left=n) (hst:St i s) (hN:∀j,j<n->IsN knd s.heap (key j) (adr j)) (hS:SetN knd G s.heap S (ksAt key i))
 (hR:∀s',Moved (S::wr) GG s s'->SetN knd G s'.heap S (ksAt key n)->R (.ok (.ret .none)) s'):codeAny (model prog w) A (.builtin "set.update.loop" ⟨[.ref S,.ref I],[]⟩) R s:=by
 have grow:∀{a b:Shared},Moved wr GG a b->Moved (S::wr) GG a b:=fun m=>m.mono fun _=>RA _
 have stay:∀{a b:Shared},Moved wr GG a b->∀c o,c=S\/G c->a.heap.get? c=some o->b.heap.get? c=some o:=fun m c o hc=>m.heap c o (hc.elim (fun z=>z ▸ mt (W.sub _) hSf) fun z=>(hGw c z).1)
 induction left generalizing i s with
 | zero =>
   obtain rfl:i=n:=by lia
   refine turn_of (show wpAny (model prog w) A.in1 (pyNext (Value.ref I) >>= _) _ _ s from wpAny_bind (W.done s _ _ hst fun s' m=>?_))
   exact wpAny_pure (hR s' (grow m) (hS.keep (stay m)))
 | succ left ih =>
   have hlt:i<n:=by lia
   refine turn_of (show wpAny (model prog w) A.in1 (pyNext (Value.ref I) >>= _) _ _ s from wpAny_bind (W.item i s _ _ hlt hst fun v s' hP hst' m=>?_))
   obtain rfl:=hval i v hP
   have hN':∀j,j<n->IsN knd s'.heap (key j) (adr j):=fun j hj=>(hN j hj).keep fun o e=>stay m _ o (.inr (hG j hj)) e
   have hS':SetN knd G s'.heap S (ksAt key i):=hS.keep (stay m)
   refine wpAny_bind (m:=holding [Value.ref (adr i)] (setAdd S (Value.ref (adr i)))) (wpAny_holding ?_)
   unfold setAdd
   refine wpAny_holding (wpAny_bind (wpAny_pyHash_tuple hu (hN' i hlt).key ?_))
   refine add_n (knd:=knd) (G:=G) (s:={ s' with toks:=s'.toks+((key i).length+1) }) hS' (hN' i hlt) (hG i hlt) (fun z=>?_) (by rw[ksAt_length];lia) hu fun h' sb hS2=>?_
   ·obtain⟨j,j1,j2⟩:=ksAt_mem z
    have:=hinj j i (by lia) hlt j2
    lia
   have other:∀c o,c≠S->s'.heap.get? c=some o->h'.get? c=some o:=fun c o hc e=>(sb.2 c hc).trans e
   refine wpAny_pure ⟨plainId_quiet F.plain_set_update_loop _,ih (i+1) _ (by lia) (W.frame _ s' _ _ hst' (TX _ _) fun b hb o e=>other b o (fun z=>hSf (z ▸ hb)) e) (fun j hj=>(hN' j hj).keep fun o e=>other _ o (hGw _ (hG j hj)).2 e) hS2 fun s'' m2 hS3=>?_⟩
   exact hR s'' (((grow m).then_heap (TX _ _) fun b o hb e=>other b o (fun z=>hb (z ▸ Rz)) e).trans W.gtrans m2) hS3
end
section
variable {prog:Program}{w:World}{K:Type}[DecidableEq K]{knd:KeyKind prog w K}{A:Around}{E:Value->Shared->Prop}{s:Shared}
abbrev nS(led:Bool):Obj:={ cls:=.type "set",dict:=none,data:=.set #[] 0 (.fresh 0 0 led) }
abbrev nI(l:Addr):Obj:={ cls:=.type "list_iterator",data:=.fields #[.ref l,.int 0 0] }
theorem init_n{l:Addr}{items:Array Value}(led:Bool)(key:Nat->List K)(adr:Nat->Addr)(hh:A.handled=none)(hl:s.heap.IsList l items)(hv:∀(i:Nat) (v:Value),items[i]? = some v->v=Value.ref (adr i))(hN:∀j,j<items.size->IsN knd s.heap (key j) (adr j))
 (hinj:∀i j,i<items.size->j<items.size->key i=key j->i=j) (hb:items.size<=17) (hu:A.units+20<cLine) {Q:Fin->Shared->Prop} {E':Value->Shared->Prop}
 (h:∀(h':Heap) (tk:Nat),SetN knd (fun b=>b<s.heap.objs.size) h' s.heap.objs.size (ksAt key items.size)->(∀b o,s.heap.get? b=some o->h'.get? b=some o)->Q (.done (.ret .none)) { s with heap:=h',toks:=tk }) :
 wpAny (model prog w) A (Builtin.«set.__init__» ⟨[.ref s.heap.objs.size,.ref l],[]⟩) Q E' { s with heap:=s.heap.push (nS led) }:=by
 have lS:l<s.heap.objs.size:=by obtain⟨_,e,_⟩:=hl;exact Heap.lt_size e
 obtain⟨⟨_,od,_,osl⟩,el,hc,nl,hd⟩:=id hl
 simp only at hc hd;subst hc hd
 have el1:(s.heap.push (nS led)).get? l=some { cls:=.type "list",dict:=od,data:=.seq items nl,slots:=osl }:=Heap.get?_push_of_some _ el
 have eS:(s.heap.push (nS led)).get? s.heap.objs.size=some (nS led):=Heap.get?_push_size _ rfl
 have hl1:(s.heap.push (nS led)).IsList l items:=⟨_,el1,rfl,nl,rfl⟩
 have t1:=F.sub_list_set;have t2:=F.sub_list_frozenset;have t3:(Value.type "list" == Value.type "dict")=false:=by decide
 unfold Builtin.«set.__init__» noKeywords Builtin.Frozenset.updateFrom
 generalize hPI:pyIter=PI;wp_walk;subst hPI
 have zS:(s.heap.push (nS led)).objs.size=s.heap.objs.size+1:=Heap.size_push ..
 refine wpAny_pyIter_list hl1 (wpAny_bind (wpAny_runValue ?_))
 have up:∀b o,s.heap.get? b=some o->((s.heap.push (nS led)).push (nI l)).get? b=some o:=fun b o e=>Heap.get?_push_of_some _ (Heap.get?_push_of_some _ e)
 have lI:l≠(s.heap.push (nS led)).objs.size:=by rw[zS];exact Rq (Tc lS)
 refine loop_n (knd:=knd) (G:=fun b=>b<s.heap.objs.size) ((Walks.list (A:=A.in1) hh _ l lI items).toS) s.heap.objs.size ?_ key adr (fun i v hP=>hv i v hP) (fun i hi=>?_) (fun b hb=>⟨?_,Rq hb⟩) hinj hb (by lia) items.size 0 _ (U0 _)
  ⟨⟨_,Heap.get?_push_size _ rfl,rfl,rfl⟩,hl1.push _⟩ (fun j hj=>(hN j hj).keep fun o e=>up _ _ e) ⟨_,_,_,_,Heap.get?_push_of_some _ eS,⟨rfl,rfl,rfl⟩,rfl,.inl ⟨rfl,RM _⟩,rfl,rfl,rfl,(fun e he=>by simp at he)⟩ ?_
 ·rw[zS];intro hm
  rcases RC.mp hm with z | z
  ·exact absurd z (Rq (T9 _))
  ·exact absurd (Td.mp z) (RJ lS)
 ·obtain⟨_,_,_,e,_⟩:=hN i hi;exact Heap.lt_size e
 ·rw[zS];intro hm
  exact absurd (Td.mp hm) (Rq (Tc hb))
 rintro⟨h',g',d',tk',os'⟩ m hS'
 obtain rfl:g'=s.gens:=m.gens
 obtain rfl:d'=s.drawn:=m.drawn
 obtain rfl:os'=s.os:=m.os
 refine wpAny_pure (wpAny_pure (h h' tk' hS' fun b o e=>?_))
 have lb:=Heap.lt_size e
 refine m.heap b o (fun hm=>?_) (up b o e)
 rw[zS]at hm
 rcases RC.mp hm with z | z
 ·exact absurd z (Rq lb)
 ·exact absurd (Td.mp z) (Rq (Tc lb))
theorem call_setN{l:Addr}{items:Array Value}{Q:Value->Shared->Prop}(key:Nat->List K)(adr:Nat->Addr)(hh:A.handled=none)(hl:s.heap.IsList l items)(hv:∀(i:Nat) (v:Value),items[i]? = some v->v=Value.ref (adr i))(hN:∀j,j<items.size->IsN knd s.heap (key j) (adr j))
 (hinj:∀i j,i<items.size->j<items.size->key i=key j->i=j) (hb:items.size<=17) (hu:A.units+40<cLine)
 (h:∀(h':Heap) (tk:Nat),SetN knd (fun b=>b<s.heap.objs.size) h' s.heap.objs.size (ksAt key items.size)->(∀b o,s.heap.get? b=some o->h'.get? b=some o)->Q (.ref s.heap.objs.size) { s with heap:=h',toks:=tk }) :
 wpAny (model prog w) A (call (.type "set") [.ref l]) Q E s:=by
 obtain⟨_,_,hmro⟩:=F.called_set.mro
 have m1:=F.called_set.made;have m2:=F.called_set.sub;have m3:=F.called_set.notType;have m4:=F.called_set.canCreate;have m5:=F.typeCall_set_1 (.ref l)
 refine wpAny_call (codeAny_of_tree (show wpAny _ _ (callAny (.type "set") _) _ _ _ from wpAny_pure ⟨Code.quiet_builtin _ (by decide +kernel),codeAny_builtin F.entry_type_call ?_⟩))
 rw[Around.under_plain (weight_type_call_type "set" [.ref l] []) rfl]
 repeat any_goals first | assumption | wp_step
 refine codeAny_mono (code_set_new_1 (.ref l) (E:=E) (Q₁:=fun v s₁=>v = .ref s.heap.objs.size/\∃led,s₁={ s with heap:=s.heap.push (nS led) }) fun led=>⟨rfl,led,rfl⟩) fun r s₁ hr=>?_
 rcases r with e | fl
 ·exact hr
 cases fl with
 | ret v =>
   obtain⟨e1,led,e2⟩:=hr
   subst e1 e2
   have hT:Shared.TypeIs { s with heap:=s.heap.push (nS led) } (.ref s.heap.objs.size) "set":=⟨_,Heap.get?_push_size _ rfl,rfl⟩
   have m6:=F.called_set.init.lookup;have m7:=F.called_set.init.bind (.ref s.heap.objs.size)
   repeat any_goals first | assumption | wp_step
   refine codeAny_mono (codeAny_call_builtin (R:=wants (fun r s₂=>r = .none/\Q (.ref s.heap.objs.size) s₂) E) F.called_set.init.plain F.entry_set_init (check_set_init_1 hT ?_)) fun r₂ s₂ hr₂=>?_
   ·refine init_n (knd:=knd) led key adr ?_ hl hv hN hinj hb ?_ fun h' tk hS hk=>?_
    ·simp[hh]
    ·simp only[Around.in1];lia
    ·exact⟨rfl,h h' tk hS hk⟩
   ·rcases r₂ with e | fl₂
    ·exact hr₂
    cases fl₂ with
    | ret _ =>
      obtain⟨e3,q⟩:=hr₂
      subst e3
      repeat any_goals first | assumption | wp_step
    | _=>exact hr₂.elim
 | _=>exact hr.elim
end
end St
end L2
namespace L2
open PySem PySem.Spec PyProof.Rows
theorem NZ:bootBuiltins "set" = some (.type "set"):=by decide +kernel
def M0(p:Addr)(n:Nat):HO:=.ext fun h=>∃o es ep t,h.get? p=some o/\o.ExactSet/\o.data = .set es ep t/\SetTable.fits t es.size=true/\es.size=n
theorem NP{P:Program}{w:World}{H:Hp}{h:Heap}{a:Addr}{q:Rat}(ok:HOk P w H h)(e:H a=some (nT q)):St.IsN (CJ P w) h (kQ q) a:=by
 obtain⟨_,its,rv,o,ho,hc,n,hd⟩:=ok a _ e
 refine⟨o,its.toArray,n,ho,hc,hd,Gz (ks:=kQ q) rv,fun v hv=>?_⟩
 have hv':v∈its:=by simpa using hv
 cases rv with
 | cons r1 rr =>
   cases rr with
   | cons r2 rr =>
     cases rr
     obtain⟨t1,rfl⟩:=r1
     obtain⟨t2,rfl⟩:=r2
     rcases RC.mp hv' with z | z
     ·exact⟨_,_,z⟩
     ·exact⟨_,_,Td.mp z⟩
section
variable {X:Cx}
inductive Lb(K:Rv)(xs:List V)(H:Hp)(Q:VK):Prop
 | mk (l:Addr) (ys:List V) (qs:List Rat) (h1:xs=[.ref l]) (h2:SqL K H l ys) (h3:AV H ys qs) (h4:qs.Nodup) (h5:qs.length<=17) (h6:∀p,H p=none->Q (.ref p) (upd H p (M0 p qs.length))):Lb K xs H Q
theorem Kr(hc:X.calm=true)(hu:X.A.units+64<cLine):CD X (.type "set") (Lb X.K):=by
 intro pins s σ H xs us Q I r h
 obtain⟨l,ys,qs,rfl,hq,hn,hnd,h17,q⟩:=h
 obtain⟨u,rfl,rfl⟩:=Fg r
 obtain⟨its,rv,p,hz⟩:=I.list hq
 have hl:=rv.length
 have hyl:=hn.length
 have hsz:its.toArray.size=qs.length:=by rw[Sg];lia
 let adr:Nat->Addr:=fun j=>match ys[j]? with | some (.ref r)=>r | _=>0
 have had:∀j,j<qs.length->∃r,ys[j]? = some (.ref r)/\adr j=r/\H r=some (nT (qs.getD j 0)):=fun j hj=>by
  have g:qs[j]? = some (qs.getD j 0):=by rw[T6,Te hj];rfl
  obtain⟨y,hy,r,rfl,hr⟩:=Paired.get' hn g
  exact⟨r,hy,by show(match ys[j]? with | some (.ref r)=>r | _=>0)=r;rw[hy],hr⟩
 refine St.call_setN (knd:=CJ X.prog X.w) (fun j=>kQ (qs.getD j 0)) adr (I.ok.hd hc) p.isList (fun i v hv=>?_) (fun j hj=>?_) (fun i j hi hj e=>?_) (by lia) (by lia) fun h' tk hS hk=>?_
 ·have hv':its[i]? = some v:=by simpa using hv
  have hi:i<its.length:=(RF.mp hv').1
  obtain⟨r,hy,hr,_⟩:=had i (by lia)
  obtain⟨u,hu1,ru⟩:=rv.get hy
  rw[hv']at hu1
  cases hu1
  rw[hr];exact ru
 ·rw[hsz]at hj
  obtain⟨r,_,hr,hH⟩:=had j hj
  rw[hr]
  exact NP I.hok hH
 ·rw[hsz]at hi hj
  have e':=NN e
  have g1:qs[i]? = some (qs.getD i 0):=by rw[T6,Te hi];rfl
  have g2:qs[j]? = some (qs.getD j 0):=by rw[T6,Te hj];rfl
  exact(List.getElem?_inj hi hnd).mp (by rw[g1,g2,e'])
 ·obtain⟨o,es,ep,t,h1,h2,h3,h4,h5,h6,h7,_⟩:=hS
  rw[St.ksAt_length,hsz]at h7
  have hfit:SetTable.fits t es.size=true:=by
   unfold SetTable.fits SetTable.fill
   rw[h5,h6]
   rcases h4 with z | z<;>simp<;>lia
  have new:BP X.prog X.w (upd H s.heap.objs.size (M0 s.heap.objs.size qs.length)) h' s.heap.objs.size (M0 s.heap.objs.size qs.length):=by
   refine⟨⟨o,es,ep,t,h1,h2,h3,hfit,h7⟩,⟨o,h1⟩,fun g1 g2 hg hk=>?_⟩
   obtain⟨o,es,ep,t,k1,k2,k3,k4,k5⟩:=hg
   exact⟨o,es,ep,t,hk o k1,k2,k3,k4,k5⟩
  exact⟨.ref s.heap.objs.size,_,I.laid (t':=tk) hk (RK _) new,rfl,q _ (I.hok.fresh (RK _))⟩
theorem P8(K:Rv)(hc:X.calm=true)(hu:X.A.units+64<cLine)(e:X.K=K:=by rfl):CD X (.type "set") (Lb K):=by subst e;exact Kr hc hu
theorem Ks:CD X (.builtin "len") (fun xs H Q=>∃(p:Addr) (n:Nat),xs=[.ref p]/\H p=some (M0 p n)/\n<=1000/\Q (.int (n:Int)) H):=by
 intro pins s σ H xs us Q I r h
 obtain⟨p,n,rfl,hp,hn,q⟩:=h
 obtain⟨u,rfl,rfl⟩:=Fg r
 obtain⟨⟨o,es,ep,t,h1,h2,h3,h4,h5⟩,_⟩:=I.hok p _ hp
 subst h5
 exact call_len_set h1 h2 h3 h4 (by lia) ⟨.int _,H,I.tok _,⟨_,rfl⟩,q⟩
end
end L2
namespace L2
open PySem PySem.Spec PyProof.Rows
section
open PySem.W
variable {X:Cx}(K:Rv)
end
end L2
namespace L2
open PySem PySem.Spec PyProof.Rows
structure OV(X:Cx)(N:List Str)(nt:Nat)(js:List Nat)(scope:Scope)(x:Str):Prop where
 kind:scope.kind = .function
 split:∃pre post,scope.names=pre++(x,.cell)::post/\(∀y∈pre,y.2 ≠ .cell)/\∀y∈post,y.2 ≠ .cell
 only:∀y∈scope.names,y.2 = .cell->y.1=x
 lx:scope.names.lookup x=some .cell
 names:∀y∈scope.names,y.2 = .local->scope.names.lookup y.1=some .local
 free:∀y∈scope.names,y.2 = .free->X.env.kindOf y.1=some .cell\/X.env.kindOf y.1=some .free
 len:N.length=nt+js.length
 outer:∀j i,js[j]? = some i->∃x,N[nt+j]? = some x/\X.N[i]? = some x/\scope.names.lookup x=some .free
section
variable {X:Cx}{N:List Str}{nt:Nat}{js:List Nat}{scope:Scope}{cl:List (Str×Addr)}{x:Str}{c:Addr}
end
section
variable {X:Cx}{N:List Str}{nt:Nat}{js:List Nat}{scope:Scope}{elt iter tg:Expr}{ifs:List Expr}{pos:Pos}{g:TG}{tc:TT}{te:TE}{wi:TI}{xn:Str}
end
end L2
namespace L2
open PySem PySem.Spec PyProof.Rows
@[reducible] def Cl(u:Rv->TS)(K:Rv):TS:=u K
theorem Ad{X:Cx}{st:Stmt}{BV:List Stmt}{t v:TS}{K:Rv}{u:Rv->TS}(h1:PS X st t)(h2:PSs X BV v)(e:v=u K):PSs X (st::BV) (M8 t (Cl u K)):=by
 subst e;exact Le h1 h2
section
variable {X:Cx}{o e:Expr}{es:List Expr}{to:TE}{t:TA}{name:Str}{apos cpos:Pos}{T id:String}{r:V->List V->Hp->VK->Prop}
theorem Mo(K:Rv)(pa:PlainAttrs T)(slot:Slot T name id)(hty:typeOf (.builtin id)=pure (.type "method_descriptor"))(hm:MtR X id r)(ho:PE X o to)
 (hbase:attributeBase o name X.env (eval o X.env)=eval o X.env:=by rfl) (hline:(apos.endLine == cpos.line)=true:=by rfl) (eK:X.K=K:=by rfl):PE X (.Call (.Attribute o name apos) [] [] cpos) (Oi K T r to):=Nn pa slot hty hm ho hbase hline eK
theorem GZ(K:Rv)(pa:PlainAttrs T)(slot:Slot T name id)(hty:typeOf (.builtin id)=pure (.type "method_descriptor"))(hm:MtR X id r)(ho:PE X o to)(ha:PA X (e::es) t)
 (hbase:attributeBase o name X.env (eval o X.env)=eval o X.env:=by rfl)
 (hfew:((backTo cpos (starEach (e::es) X.env)).all (fun x=>!x.1)&&(backToKw cpos (keywordEach [] X.env)).all (fun x=>x.1.isSome)
  && decide ((e::es).length+([]:List Keyword).length+(if ([]:List Keyword).isEmpty then 0 else 1)<30))=true:=by rfl)
 (hline:(apos.endLine == cpos.line)=true:=by rfl) (hs:starEach (e::es) X.env=(false,eval e X.env)::starEach es X.env:=by rfl) (hplain:(backTo cpos (starEach es X.env)).any (·.1)=false:=by rfl) (eK:X.K=K:=by rfl) :
 PE X (.Call (.Attribute o name apos) (e::es) [] cpos) (tBM K T r to t):=Oy pa slot hty hm ho ha hbase hfew hline hs hplain eK
end
theorem AU{c:Bool}{A B:Prop}(e:c=true)(h:A):if c=true then A else B:=by
 rw[if_pos e];exact h
theorem AH{c:Bool}{A B:Prop}(e:c=false)(h:B):if c=true then A else B:=by
 rw[if_neg (by rw[e];decide)];exact h
theorem BC{α:Type}{l:List α}{n:Nat}(h:l.length=n+1):∃a r,l=a::r/\r.length=n:=by
 cases l with
 | nil=>cases h
 | cons a r=>exact⟨a,r,rfl,Nat.succ.inj h⟩
theorem Fun.binds1{K:Rv}{x qual:Str}{st:Stmt}{f:Addr}{fd:FuncData}(p1:Str)(F:Fun K x qual st f fd)
 (h:∀(kV doc pm:Value) (an:Option Addr) (cdv ct a1:Value),bindArgs (S9 x qual (Ao st) (Am st) (Ae st) .none kV doc pm an cdv ct) ⟨[a1],[]⟩=pure [(p1,a1)]):Cc K fd [p1] [] :=
 F.binds fun kV doc pm an cdv ct us l0=>by
  obtain⟨a1,r1,rfl,l1⟩:=BC l0
  cases Uc.mp l1
  exact h kV doc pm an cdv ct a1
theorem Fun.binds2{K:Rv}{x qual:Str}{st:Stmt}{f:Addr}{fd:FuncData}(p1 p2:Str)(F:Fun K x qual st f fd)
 (h:∀(kV doc pm:Value) (an:Option Addr) (cdv ct a1 a2:Value),bindArgs (S9 x qual (Ao st) (Am st) (Ae st) .none kV doc pm an cdv ct) ⟨[a1,a2],[]⟩=pure [(p1,a1),(p2,a2)]):Cc K fd [p1,p2] [] :=
 F.binds fun kV doc pm an cdv ct us l0=>by
  obtain⟨a1,r1,rfl,l1⟩:=BC l0
  obtain⟨a2,r2,rfl,l2⟩:=BC l1
  cases Uc.mp l2
  exact h kV doc pm an cdv ct a1 a2
theorem Fun.binds3{K:Rv}{x qual:Str}{st:Stmt}{f:Addr}{fd:FuncData}(p1 p2 p3:Str)(F:Fun K x qual st f fd)
 (h:∀(kV doc pm:Value) (an:Option Addr) (cdv ct a1 a2 a3:Value),bindArgs (S9 x qual (Ao st) (Am st) (Ae st) .none kV doc pm an cdv ct) ⟨[a1,a2,a3],[]⟩=pure [(p1,a1),(p2,a2),(p3,a3)]):Cc K fd [p1,p2,p3] [] :=
 F.binds fun kV doc pm an cdv ct us l0=>by
  obtain⟨a1,r1,rfl,l1⟩:=BC l0
  obtain⟨a2,r2,rfl,l2⟩:=BC l1
  obtain⟨a3,r3,rfl,l3⟩:=BC l2
  cases Uc.mp l3
  exact h kV doc pm an cdv ct a1 a2 a3
theorem Fun.binds4{K:Rv}{x qual:Str}{st:Stmt}{f:Addr}{fd:FuncData}(p1 p2 p3 p4:Str)(F:Fun K x qual st f fd)
 (h:∀(kV doc pm:Value) (an:Option Addr) (cdv ct a1 a2 a3 a4:Value),bindArgs (S9 x qual (Ao st) (Am st) (Ae st) .none kV doc pm an cdv ct) ⟨[a1,a2,a3,a4],[]⟩=pure [(p1,a1),(p2,a2),(p3,a3),(p4,a4)]):Cc K fd [p1,p2,p3,p4] [] :=
 F.binds fun kV doc pm an cdv ct us l0=>by
  obtain⟨a1,r1,rfl,l1⟩:=BC l0
  obtain⟨a2,r2,rfl,l2⟩:=BC l1
  obtain⟨a3,r3,rfl,l3⟩:=BC l2
  obtain⟨a4,r4,rfl,l4⟩:=BC l3
  cases Uc.mp l4
  exact h kV doc pm an cdv ct a1 a2 a3 a4
@[reducible] def L1{α1:Type}{δ:Type}(x1:α1)(u:α1->δ):δ:=u x1
@[reducible] def L2{α1 α2:Type}{δ:Type}(x1:α1)(x2:α2)(u:α1->α2->δ):δ:=u x1 x2
@[reducible] def L3{α1 α2 α3:Type}{δ:Type}(x1:α1)(x2:α2)(x3:α3)(u:α1->α2->α3->δ):δ:=u x1 x2 x3
@[reducible] def L4{α1 α2 α3 α4:Type}{δ:Type}(x1:α1)(x2:α2)(x3:α3)(x4:α4)(u:α1->α2->α3->α4->δ):δ:=u x1 x2 x3 x4
@[reducible] def L5{α1 α2 α3 α4 α5:Type}{δ:Type}(x1:α1)(x2:α2)(x3:α3)(x4:α4)(x5:α5)(u:α1->α2->α3->α4->α5->δ):δ:=u x1 x2 x3 x4 x5
@[reducible] def L6{α1 α2 α3 α4 α5 α6:Type}{δ:Type}(x1:α1)(x2:α2)(x3:α3)(x4:α4)(x5:α5)(x6:α6)(u:α1->α2->α3->α4->α5->α6->δ):δ:=u x1 x2 x3 x4 x5 x6
@[reducible] def L7{α1 α2 α3 α4 α5 α6 α7:Type}{δ:Type}(x1:α1)(x2:α2)(x3:α3)(x4:α4)(x5:α5)(x6:α6)(x7:α7)(u:α1->α2->α3->α4->α5->α6->α7->δ):δ:=u x1 x2 x3 x4 x5 x6 x7
@[reducible] def L8{α1 α2 α3 α4 α5 α6 α7 α8:Type}{δ:Type}(x1:α1)(x2:α2)(x3:α3)(x4:α4)(x5:α5)(x6:α6)(x7:α7)(x8:α8)(u:α1->α2->α3->α4->α5->α6->α7->α8->δ):δ:=u x1 x2 x3 x4 x5 x6 x7 x8
@[reducible] def L9{α1 α2 α3 α4 α5 α6 α7 α8 α9:Type}{δ:Type}(x1:α1)(x2:α2)(x3:α3)(x4:α4)(x5:α5)(x6:α6)(x7:α7)(x8:α8)(x9:α9)(u:α1->α2->α3->α4->α5->α6->α7->α8->α9->δ):δ:=u x1 x2 x3 x4 x5 x6 x7 x8 x9
@[reducible] def L10{α1 α2 α3 α4 α5 α6 α7 α8 α9 α10:Type}{δ:Type}(x1:α1)(x2:α2)(x3:α3)(x4:α4)(x5:α5)(x6:α6)(x7:α7)(x8:α8)(x9:α9)(x10:α10)(u:α1->α2->α3->α4->α5->α6->α7->α8->α9->α10->δ):δ:=u x1 x2 x3 x4 x5 x6 x7 x8 x9 x10
@[reducible] def L11{α1 α2 α3 α4 α5 α6 α7 α8 α9 α10 α11:Type}{δ:Type}(x1:α1)(x2:α2)(x3:α3)(x4:α4)(x5:α5)(x6:α6)(x7:α7)(x8:α8)(x9:α9)(x10:α10)(x11:α11)(u:α1->α2->α3->α4->α5->α6->α7->α8->α9->α10->α11->δ):δ:=u x1 x2 x3 x4 x5 x6 x7 x8 x9 x10 x11
@[reducible] def L12{α1 α2 α3 α4 α5 α6 α7 α8 α9 α10 α11 α12:Type}{δ:Type}(x1:α1)(x2:α2)(x3:α3)(x4:α4)(x5:α5)(x6:α6)(x7:α7)(x8:α8)(x9:α9)(x10:α10)(x11:α11)(x12:α12)(u:α1->α2->α3->α4->α5->α6->α7->α8->α9->α10->α11->α12->δ):δ:=u x1 x2 x3 x4 x5 x6 x7 x8 x9 x10 x11 x12
@[reducible] def L13{α1 α2 α3 α4 α5 α6 α7 α8 α9 α10 α11 α12 α13:Type}{δ:Type}(x1:α1)(x2:α2)(x3:α3)(x4:α4)(x5:α5)(x6:α6)(x7:α7)(x8:α8)(x9:α9)(x10:α10)(x11:α11)(x12:α12)(x13:α13)(u:α1->α2->α3->α4->α5->α6->α7->α8->α9->α10->α11->α12->α13->δ):δ:=u x1 x2 x3 x4 x5 x6 x7 x8 x9 x10 x11 x12 x13
@[reducible] def L14{α1 α2 α3 α4 α5 α6 α7 α8 α9 α10 α11 α12 α13 α14:Type}{δ:Type}(x1:α1)(x2:α2)(x3:α3)(x4:α4)(x5:α5)(x6:α6)(x7:α7)(x8:α8)(x9:α9)(x10:α10)(x11:α11)(x12:α12)(x13:α13)(x14:α14)(u:α1->α2->α3->α4->α5->α6->α7->α8->α9->α10->α11->α12->α13->α14->δ):δ:=u x1 x2 x3 x4 x5 x6 x7 x8 x9 x10 x11 x12 x13 x14
@[reducible] def L15{α1 α2 α3 α4 α5 α6 α7 α8 α9 α10 α11 α12 α13 α14 α15:Type}{δ:Type}(x1:α1)(x2:α2)(x3:α3)(x4:α4)(x5:α5)(x6:α6)(x7:α7)(x8:α8)(x9:α9)(x10:α10)(x11:α11)(x12:α12)(x13:α13)(x14:α14)(x15:α15)(u:α1->α2->α3->α4->α5->α6->α7->α8->α9->α10->α11->α12->α13->α14->α15->δ):δ:=u x1 x2 x3 x4 x5 x6 x7 x8 x9 x10 x11 x12 x13 x14 x15
@[reducible] def L16{α1 α2 α3 α4 α5 α6 α7 α8 α9 α10 α11 α12 α13 α14 α15 α16:Type}{δ:Type}(x1:α1)(x2:α2)(x3:α3)(x4:α4)(x5:α5)(x6:α6)(x7:α7)(x8:α8)(x9:α9)(x10:α10)(x11:α11)(x12:α12)(x13:α13)(x14:α14)(x15:α15)(x16:α16)(u:α1->α2->α3->α4->α5->α6->α7->α8->α9->α10->α11->α12->α13->α14->α15->α16->δ):δ:=u x1 x2 x3 x4 x5 x6 x7 x8 x9 x10 x11 x12 x13 x14 x15 x16
@[reducible] def L17{α1 α2 α3 α4 α5 α6 α7 α8 α9 α10 α11 α12 α13 α14 α15 α16 α17:Type}{δ:Type}(x1:α1)(x2:α2)(x3:α3)(x4:α4)(x5:α5)(x6:α6)(x7:α7)(x8:α8)(x9:α9)(x10:α10)(x11:α11)(x12:α12)(x13:α13)(x14:α14)(x15:α15)(x16:α16)(x17:α17)(u:α1->α2->α3->α4->α5->α6->α7->α8->α9->α10->α11->α12->α13->α14->α15->α16->α17->δ):δ:=u x1 x2 x3 x4 x5 x6 x7 x8 x9 x10 x11 x12 x13 x14 x15 x16 x17
@[reducible] def L18{α1 α2 α3 α4 α5 α6 α7 α8 α9 α10 α11 α12 α13 α14 α15 α16 α17 α18:Type}{δ:Type}(x1:α1)(x2:α2)(x3:α3)(x4:α4)(x5:α5)(x6:α6)(x7:α7)(x8:α8)(x9:α9)(x10:α10)(x11:α11)(x12:α12)(x13:α13)(x14:α14)(x15:α15)(x16:α16)(x17:α17)(x18:α18)(u:α1->α2->α3->α4->α5->α6->α7->α8->α9->α10->α11->α12->α13->α14->α15->α16->α17->α18->δ):δ:=u x1 x2 x3 x4 x5 x6 x7 x8 x9 x10 x11 x12 x13 x14 x15 x16 x17 x18
@[reducible] def L19{α1 α2 α3 α4 α5 α6 α7 α8 α9 α10 α11 α12 α13 α14 α15 α16 α17 α18 α19:Type}{δ:Type}(x1:α1)(x2:α2)(x3:α3)(x4:α4)(x5:α5)(x6:α6)(x7:α7)(x8:α8)(x9:α9)(x10:α10)(x11:α11)(x12:α12)(x13:α13)(x14:α14)(x15:α15)(x16:α16)(x17:α17)(x18:α18)(x19:α19)(u:α1->α2->α3->α4->α5->α6->α7->α8->α9->α10->α11->α12->α13->α14->α15->α16->α17->α18->α19->δ):δ:=u x1 x2 x3 x4 x5 x6 x7 x8 x9 x10 x11 x12 x13 x14 x15 x16 x17 x18 x19
@[reducible] def L20{α1 α2 α3 α4 α5 α6 α7 α8 α9 α10 α11 α12 α13 α14 α15 α16 α17 α18 α19 α20:Type}{δ:Type}(x1:α1)(x2:α2)(x3:α3)(x4:α4)(x5:α5)(x6:α6)(x7:α7)(x8:α8)(x9:α9)(x10:α10)(x11:α11)(x12:α12)(x13:α13)(x14:α14)(x15:α15)(x16:α16)(x17:α17)(x18:α18)(x19:α19)(x20:α20)(u:α1->α2->α3->α4->α5->α6->α7->α8->α9->α10->α11->α12->α13->α14->α15->α16->α17->α18->α19->α20->δ):δ:=u x1 x2 x3 x4 x5 x6 x7 x8 x9 x10 x11 x12 x13 x14 x15 x16 x17 x18 x19 x20
@[reducible] def L21{α1 α2 α3 α4 α5 α6 α7 α8 α9 α10 α11 α12 α13 α14 α15 α16 α17 α18 α19 α20 α21:Type}{δ:Type}(x1:α1)(x2:α2)(x3:α3)(x4:α4)(x5:α5)(x6:α6)(x7:α7)(x8:α8)(x9:α9)(x10:α10)(x11:α11)(x12:α12)(x13:α13)(x14:α14)(x15:α15)(x16:α16)(x17:α17)(x18:α18)(x19:α19)(x20:α20)(x21:α21)(u:α1->α2->α3->α4->α5->α6->α7->α8->α9->α10->α11->α12->α13->α14->α15->α16->α17->α18->α19->α20->α21->δ):δ:=u x1 x2 x3 x4 x5 x6 x7 x8 x9 x10 x11 x12 x13 x14 x15 x16 x17 x18 x19 x20 x21
@[reducible] def L22{α1 α2 α3 α4 α5 α6 α7 α8 α9 α10 α11 α12 α13 α14 α15 α16 α17 α18 α19 α20 α21 α22:Type}{δ:Type}(x1:α1)(x2:α2)(x3:α3)(x4:α4)(x5:α5)(x6:α6)(x7:α7)(x8:α8)(x9:α9)(x10:α10)(x11:α11)(x12:α12)(x13:α13)(x14:α14)(x15:α15)(x16:α16)(x17:α17)(x18:α18)(x19:α19)(x20:α20)(x21:α21)(x22:α22)(u:α1->α2->α3->α4->α5->α6->α7->α8->α9->α10->α11->α12->α13->α14->α15->α16->α17->α18->α19->α20->α21->α22->δ):δ:=u x1 x2 x3 x4 x5 x6 x7 x8 x9 x10 x11 x12 x13 x14 x15 x16 x17 x18 x19 x20 x21 x22
@[reducible] def L23{α1 α2 α3 α4 α5 α6 α7 α8 α9 α10 α11 α12 α13 α14 α15 α16 α17 α18 α19 α20 α21 α22 α23:Type}{δ:Type}(x1:α1)(x2:α2)(x3:α3)(x4:α4)(x5:α5)(x6:α6)(x7:α7)(x8:α8)(x9:α9)(x10:α10)(x11:α11)(x12:α12)(x13:α13)(x14:α14)(x15:α15)(x16:α16)(x17:α17)(x18:α18)(x19:α19)(x20:α20)(x21:α21)(x22:α22)(x23:α23)(u:α1->α2->α3->α4->α5->α6->α7->α8->α9->α10->α11->α12->α13->α14->α15->α16->α17->α18->α19->α20->α21->α22->α23->δ):δ:=u x1 x2 x3 x4 x5 x6 x7 x8 x9 x10 x11 x12 x13 x14 x15 x16 x17 x18 x19 x20 x21 x22 x23
@[reducible] def L24{α1 α2 α3 α4 α5 α6 α7 α8 α9 α10 α11 α12 α13 α14 α15 α16 α17 α18 α19 α20 α21 α22 α23 α24:Type}{δ:Type}(x1:α1)(x2:α2)(x3:α3)(x4:α4)(x5:α5)(x6:α6)(x7:α7)(x8:α8)(x9:α9)(x10:α10)(x11:α11)(x12:α12)(x13:α13)(x14:α14)(x15:α15)(x16:α16)(x17:α17)(x18:α18)(x19:α19)(x20:α20)(x21:α21)(x22:α22)(x23:α23)(x24:α24)(u:α1->α2->α3->α4->α5->α6->α7->α8->α9->α10->α11->α12->α13->α14->α15->α16->α17->α18->α19->α20->α21->α22->α23->α24->δ):δ:=u x1 x2 x3 x4 x5 x6 x7 x8 x9 x10 x11 x12 x13 x14 x15 x16 x17 x18 x19 x20 x21 x22 x23 x24
theorem AQ{X:Cx}{c:Expr}{a b:List Stmt}{pos:Pos}{tc:TT}{v1 v2:TS}{K:Rv}{u1 u2:Rv->TS}(hc:PT X c tc)(ha:PSs X a v1)(hb:PSs X b v2)(e1:v1=u1 K)(e2:v2=u2 K):PS X (.If c a b pos) (K0 tc (Cl u1 K) (Cl u2 K)):=by
 subst e1;subst e2;exact Ou hc ha hb
theorem BA{X:Cx}{tg iter:Expr}{body:List Stmt}{wi:TI}{g:TG}{v:TS}{pos:Pos}{K:Rv}{u:Rv->TS}(hp:PassesOwn (model X.prog X.w) X.A X.env X.xe)(hc:X.calm=true)(hi:PI X tg iter wi)(hg:PG X tg g)(hb:PSs X body v)(e:v=u K)
 (hs:∀x,foldedSetIterable iter X.env x=pure x:=by intro _;rfl):PS X (.For tg iter body [] pos) (N3 wi g (Cl u K)):=by
 subst e;exact Nf hp hc hi hg hb hs
theorem Lp{a b c d:Nat}(h1:a=c)(h2:b=d):((a:Int)-(b:Int)).toNat=c-d:=by rw[h1,h2];exact Int.toNat_sub c d
theorem Ic{a b:Nat}(h:a=b):((a:Int)-1).toNat=b-1:=Lp (b:=1) h rfl
theorem K9{a b c d:Nat}(h1:a=c)(h2:b=d)(_h:1<=d):((a:Int)+(b:Int)-1).toNat=c+d-1:=by
 rw[h1,h2,<- Int.natCast_add]
 exact Ic rfl
theorem Lo{a b:Nat}(h:1<=b):((a:Int)+(b:Int)-1).toNat=a+b-1:=K9 rfl rfl h
theorem K8{a b m:Nat}(h1:a<=m)(h2:b<=m):((a:Int)+(b:Int)-1).toNat<=2*m:=by
 rw[<- Int.natCast_add,Ic rfl,Nat.two_mul]
 exact Rw (Nat.sub_le _ _) (Nat.add_le_add h1 h2)
theorem Lq{a b i:Nat}(h:a=b)(hi:i<b):(a:Int)-1-(i:Int)=((b-1-i:Nat):Int):=by
 rw[h,Int.ofNat_sub (show i<=b-1 from Nat.le_pred_of_lt hi),Int.ofNat_sub (show 1<=b from So (RM i) hi)]
 rfl
theorem Nw{b i:Nat}(hi:i<b):b-1-i<b:=So (Nat.sub_le _ _) (Nat.sub_lt (So (RM i) hi) Nat.one_pos)
theorem Mu{a b:Nat}(h:a=b):((a:Int)-1 - -1).toNat=b:=by
 rw[h,Int.sub_neg,Int.sub_add_cancel]
 exact Sb b
theorem Nx{i j a b n:Nat}(hi:i<a)(hj:j<b)(h:n=a+b-1):i+j<n:=by
 rw[h]
 refine Nat.lt_sub_of_add_lt ?_
 rw[Nat.add_right_comm]
 exact Nat.add_lt_add_of_le_of_lt hi hj
end L2
namespace L2
open PySem PySem.Spec PyProof.Rows
def EZ(f:Addr)(fd:FuncData):HO:=.ext fun h=>h.get? f=some { cls:=.type "function",data:=.func fd }
def EJ(c:Addr)(o:Obj):HO:=.ext fun h=>h.get? c=some o
def HI(c:Addr)(q:Str):HO:=.ext fun h=>h.CodeRec (.ref c) q
def offC(cs:List Addr)(H:Hp):Hp:=fun b=>if b∈cs then none else H b
def onC(cs:List Addr)(H0 H:Hp):Hp:=fun b=>if b∈cs then H0 b else H b
theorem EA{cs:List Addr}{H:Hp}{b:Addr}(h:b∈cs):offC cs H b=none:=if_pos h
theorem BR{cs:List Addr}{H:Hp}{b:Addr}(h:b∉cs):offC cs H b=H b:=if_neg h
theorem MT{cs:List Addr}{H0 H:Hp}{b:Addr}(h:b∈cs):onC cs H0 H b=H0 b:=if_pos h
theorem Du{cs:List Addr}{H0 H:Hp}{b:Addr}(h:b∉cs):onC cs H0 H b=H b:=if_neg h
theorem Dv{cs:List Addr}{H:Hp}{b:Addr}(h:H b=none):offC cs H b=none:=by
 unfold offC;split
 ·rfl
 ·exact h
section
variable {P:Program}{w:World}{fs cs:List Addr}{H H':Hp}{h h':Heap}
theorem Un.onC(u:Un fs [] (offC cs H) H' h h')(hc:∀c∈cs,∃o,H c=some (EJ c o)):Un fs [] H (onC cs H H') h h':=by
 have no:∀{b:Addr} {o:HO},H b=some o->(∀c ob,o≠EJ c ob)->b∉cs:=fun{b o} e hne hb=>by
  obtain⟨ob,q⟩:=hc b hb
  rw[e]at q
  exact hne b ob (Rl.inj q)
 refine⟨fun b o e n hb hx=>u.keep b o e (Dv n) hb hx,fun b o e n hb hx=>u.slot b o e (Dv n) hb hx,fun b o e n hx=>?_,u.there,fun b xs e=>?_,fun b o v e=>?_,fun b ps e=>?_⟩
 ·have hb:b∉cs:=fun z=>by obtain⟨ob,q⟩:=hc b z;rw[n]at q;cases q
  rw[Du hb]
  exact u.free b o e (Dv n) hx
 ·have hb:=no e fun c ob z=>by cases z
  rw[Du hb]
  exact u.tups b xs (by rw[BR hb];exact e)
 ·have hb:=no e fun c ob z=>by cases z
  rw[Du hb]
  exact u.frzs b o v (by rw[BR hb];exact e)
 ·have hb:=no e fun c ob z=>by cases z
  rw[Du hb]
  exact u.tbls b ps (by rw[BR hb];exact e)
theorem HOk.onC(ok:HOk P w H h)(u:Un fs [] (offC cs H) H' h h')(ok':HOk P w H' h')(hc:∀c∈cs,∃o,H c=some (EJ c o))(hn:∀c∈cs,H' c=none)(hf:∀c∈cs,c∉fs):HOk P w (onC cs H H') h':=fun b o e=>by
 by_cases hb:b∈cs
 ·rw[MT hb]at e
  obtain⟨ob,q⟩:=hc b hb
  rw[q]at e
  cases e
  obtain⟨p,_,st⟩:=ok b _ q
  have p':h.get? b=some ob:=p
  have k:=u.keep b ob p' (EA hb) (hf b hb) (by simp)
  exact⟨k,⟨ob,k⟩,st⟩
 ·rw[Du hb]at e
  have nc:∀{c:Addr} {v:HO},H' c=some v->c∉cs:=fun{c v} q z=>by rw[hn c z]at q;cases q
  exact(ok' b o e).stay (fun _ _ _ q=>q) (fun c q=>by rw[Du (nc q)];exact q) fun c xs q=>by rw[Du (nc q)];exact q
theorem HOk.offC(ok:HOk P w H h)(hc:∀c∈cs,∃o,H c=some (EJ c o)):HOk P w (offC cs H) h:=fun b o e=>by
 by_cases hb:b∈cs
 ·rw[EA hb]at e;cases e
 ·rw[BR hb]at e
  have no:∀{c:Addr} {v:HO},H c=some v->(∀d ob,v≠EJ d ob)->c∉cs:=fun{c v} q hne z=>by
   obtain⟨ob,q'⟩:=hc c z
   rw[q]at q'
   exact hne c ob (Rl.inj q')
  exact(ok b o e).stay (fun _ _ _ q=>q) (fun c q=>by rw[BR (no q fun d ob z=>by cases z)];exact q) fun c xs q=>by rw[BR (no q fun d ob z=>by cases z)];exact q
end
def JN(CX:CXT)(P:Program)(w:World)(K:Rv)(mg:Str->Option Value)(base:Heap)(N:List Str)(qual:Str)(scope:Scope)(f:Addr)(cd:Value)(cl:List (Str×Addr))(A:Around)(outer:List Env)(s:Shared)(H:Hp)(E:XK):Cx where
 prog:=P
 w:=w
 K:=K
 mg:=mg
 base:=base
 A:=A.deeper (Ud qual scope s.heap.objs.size f cd cl)
 N:=N
 s₀:=s
 H₀:=H
 env:=Ud qual scope s.heap.objs.size f cd cl
 outer:=outer
 stack:=Ud qual scope s.heap.objs.size f cd cl::outer
 ex:=[]
 calm:=true
 fn:=fun _=>false
 pn:=[]
 xe:=fun e s'=>wpAny (model P w) (A.deeper (Ud qual scope s.heap.objs.size f cd cl)) (leaving (Ud qual scope s.heap.objs.size f cd cl) e) (fun _ s''=>CX outer H s E e s'') (fun e' s''=>CX outer H s E e' s'') s'
structure IH(H:Hp)(scope:Scope)(N ps:List Str)(cl:List (Str×Addr))(σ:St)(vs:List V):Prop where
 kind:scope.kind = .function
 co:scope.isCoroutine=false
 gen:scope.isGenerator=false
 nocell:∀x∈scope.names,x.2 ≠ .cell
 par:∀p∈ps,scope.names.lookup p=some .local
 inj:∀x y c,cl.lookup x=some c->cl.lookup y=some c->x=y
 has:∀x,scope.names.lookup x=some .free->∃c,cl.lookup x=some c
 len:σ.length=N.length
 cel:∀p∈cl,∃(o:Obj) (v:Option Value),H p.2=some (EJ p.2 o)/\o.data = .cell v
 val:∀(i:Nat) (x:Str) (v:V),N[i]? = some x->σ[i]? = some (some v) ->
  (scope.names.lookup x=some .local/\∃j:Nat,ps[j]? = some x/\vs[j]? = some v)\/(scope.names.lookup x=some .free/\∃c o u,cl.lookup x=some c/\H c=some (EJ c o)/\o.data = .cell (some u)/\AZ v u)
theorem IH.cells{H:Hp}{scope:Scope}{N ps:List Str}{cl:List (Str×Addr)}{σ:St}{vs:List V}(S:IH H scope N ps cl σ vs):∀c∈cl.map (·.2),∃o,H c=some (EJ c o):=fun c hc=>by
 obtain⟨p,hp,rfl⟩:=U4.mp hc
 obtain⟨o,v,e,_⟩:=S.cel p hp
 exact⟨o,e⟩
theorem MC{CX:CXT}{P:Program}{w:World}{K:Rv}{mg:Str->Option Value}{base:Heap}{N ps:List Str}{qual:Str}{scope:Scope}{f:Addr}{cd:Value}{cl:List (Str×Addr)}{A:Around}{outer:List Env}{s:Shared}{H:Hp}{E:XK}{us:List Value}{vs:List V}{σ:St}{h1:Heap}
 (S:IH H scope N ps cl σ vs) (hd:A.handled=none) (e0:Kw P w K mg base A outer s H) (r:AJ vs us) (hlk:∀(j:Nat) (x:Str) (u:Value),ps[j]? = some x->us[j]? = some u->(ps.zip us).reverse.lookup x=some u)
 (hns:h1.Ns s.heap.objs.size fun x=>(ps.zip us).reverse.lookup x) (hk:∀b o,s.heap.get? b=some o->h1.get? b=some o) (tk:Nat) :
 Inv (JN CX P w K mg base N qual scope f cd cl A outer s (offC (cl.map (·.2)) H) E) [] σ (offC (cl.map (·.2)) H) { s with heap:=h1,toks:=tk }:=by
 have hcs:=S.cells
 have ok':=e0.hok.offC hcs
 have noA:∀b:Addr,b∉(JN CX P w K mg base N qual scope f cd cl A outer s (offC (cl.map (·.2)) H) E).ex:=fun b z=>absurd (show b∈([]:List Addr) from z) (by simp)
 have mem:∀{x:Str} {c:Addr},cl.lookup x=some c->c∈cl.map (·.2):=fun h=>Ue (f:=(·.2)) (PySem.mem_of_lookup h)
 have cellOf:∀{x:Str} {c:Addr},cl.lookup x=some c->∀o,H c=some (EJ c o)->h1.get? c=some o:=fun{x c} h o q=>by
  obtain⟨p,_,_⟩:=e0.hok c _ q
  exact hk c o p
 refine⟨⟨e0.mod,S.kind,rfl,rfl,RK _,S.inj,fun y hy=>?_,fun y c h=>?_,fun _=>hd,Around.frames_deeper e0.frames,.inr ⟨rfl,rfl⟩,fun b z=>absurd z (noA b),fun b o e=>⟨(e0.bs b o e).1,Dv (e0.bs b o e).2⟩,e0.bsz,fun b _ _=>noA b,fun b z=>absurd z (noA b),e0.funs,fun b hb=>Dv (e0.frf b hb)⟩,
  rfl,e0.bare,Un.kept hk,⟨_,hns,fun i y v h1 h2 h3=>?_⟩,fun y c h=>?_,ok'.fresh (RK _),fun y c h=>EA (mem h),fun p hp=>absurd (show p∈([]:List (Addr×Obj)) from hp) (by simp),ok'.kept hk,S.len⟩
 ·rcases hy with hy | hy
  ·exact absurd rfl (S.nocell _ (PySem.mem_of_lookup hy))
  ·exact S.has y hy
 ·cases h
 ·rcases S.val i y v h1 h2 with ⟨hl,j,hp,hv⟩ | ⟨hl,c,o,u,hc,ho,hd,rv⟩
  ·obtain⟨u,hu,rv⟩:=r.get hv
   exact⟨u,rv,.inl ⟨hl,hlk j y u hp hu⟩⟩
  ·exact⟨u,rv,.inr ⟨.inr hl,c,hc,o,cellOf hc o ho,hd⟩⟩
 ·obtain⟨o,v,ho,hd⟩:=S.cel (y,c) (PySem.mem_of_lookup h)
  exact⟨v,o,cellOf h o ho,hd⟩
theorem NB{CX:CXT}{P:Program}{w:World}{K:Rv}{mg:Str->Option Value}{base:Heap}{k:Nat}{f c':Addr}{name qual:Str}{params:Arguments}{body:Expr}{scope:Scope}{cl:List (Str×Addr)}{pm ctv:Value}{N ps:List Str}{sp:Sp}
 (len:∀vs H Q E,sp vs H Q E->vs.length=ps.length)
 (hlk:∀us:List Value,us.length=ps.length->∀(j:Nat) (x:Str) (u:Value),ps[j]? = some x->us[j]? = some u->(ps.zip us).reverse.lookup x=some u)
 (hbody:∀(A:Around) (outer:List Env) (s:Shared) (H:Hp) (vs:List V) (Q:VK) (E:XK),Ca k (A.deeper (Ud qual scope s.heap.objs.size f (.ref c') cl))->sp vs H Q E ->
  H f=some (EZ f (Ug name qual params body scope cl pm (.ref c') ctv))/\H c'=some (HI c' qual)/\∃σ,IH H scope N ps cl σ vs /\
  ∃t,PE (JN CX P w K mg base N qual scope f (.ref c') cl A outer s (offC (cl.map (·.2)) H) E) body t/\t σ (offC (cl.map (·.2)) H) (fun v H'=>(∀c∈cl.map (·.2),H' c=none)->Q v (onC (cl.map (·.2)) H H')) /\
  ∀e s',CX outer (offC (cl.map (·.2)) H) s E e s'->CX outer H s E e s') :
 AO P w K mg base CX (k+1) f (Ug name qual params body scope cl pm (.ref c') ctv) ps sp:=by
 refine⟨len,fun A outer s H args us vs Q E hr e0 hb r hsp=>?_⟩
 have hl:=len _ _ _ _ hsp
 obtain⟨hf,hcode,σ,S,t,ht,hq,hCX⟩:=hbody A outer s H vs Q E (hr.deeper _) hsp
 have lim:s.heap.NoLimit:=e0.mod.nolimit.keeps fun b o e=>(e0.bs b o e).1
 obtain⟨hfo,_,_⟩:=e0.hok f _ hf
 obtain⟨hco,_,_⟩:=e0.hok c' _ hcode
 have hlu:us.length=ps.length:=by rw[<- r.length];exact hl
 refine PySem.W.kla_callFunE hr.depth hfo rfl S.co S.gen rfl hco (hb _ _ _ _ ?_)
 refine wpAny_newFunctionEnv S.nocell (fun y hy=>S.par _ (RW hy).1) (fun h1 hns hsb=>?_) S.kind
 have hk:∀b o,s.heap.get? b=some o->h1.get? b=some o:=fun b o e=>hsb.extBut b o (Rq (Heap.lt_size e)) (Heap.get?_push_of_some _ e)
 refine⟨lim.keeps hk,?_⟩
 show codeAny _ _ (.expr body (Ud qual scope s.heap.objs.size f (.ref c') cl)) _ _
 have I:=MC (CX:=CX) (qual:=qual) (f:=f) (cd:=.ref c') (E:=E) S hr.hd e0 r (hlk us hlu) hns hk (s.toks+(ps.zip us).length)
 refine PySem.W.kla_codeExpr (wpAny_mono (ht [] _ _ _ _ I hq) (fun u s' hs=>?_) fun e s' hs=>?_)
 ·obtain⟨v,H',J,rv,q⟩:=hs
  have hn:∀c∈cl.map (·.2),H' c=none:=fun c hc=>by
   obtain⟨p,hp,rfl⟩:=U4.mp hc
   obtain⟨o,v,e,_⟩:=S.cel p hp
   obtain⟨p',_,_⟩:=e0.hok _ _ e
   exact J.base.free _ o p' (EA hc) (by intro z;cases z)
  have ub:Un (frs outer) [] (offC (cl.map (·.2)) H) H' s.heap s'.heap:=J.base
  refine⟨v,onC (cl.map (·.2)) H H',J.os,J.bare,Un.onC ub S.cells,HOk.onC e0.hok ub J.hok S.cells hn fun c hc hz=>?_,rv,q hn⟩
  obtain⟨o,e⟩:=S.cells c hc
  have z:H c=none:=e0.frf c hz
  rw[z]at e;cases e
 ·exact wpAny_mono hs (fun _ s'' h=>hCX _ _ h) fun _ s'' h=>hCX _ _ h
section
variable {X:Cx}{CX:CXT}{k i:Nat}{E:XK}{x:Str}{p pos:Pos}{e:Expr}{es:List Expr}{t:TA}
end
def DR(cs:List Addr)(os:Addr->Obj)(H:Hp):Hp:=fun b=>if b∈cs then some (EJ b (os b)) else H b
theorem IK{cs:List Addr}{os:Addr->Obj}{H:Hp}{b:Addr}(h:b∈cs):DR cs os H b=some (EJ b (os b)):=if_pos h
theorem BH{cs:List Addr}{os:Addr->Obj}{H:Hp}{b:Addr}(h:b∉cs):DR cs os H b=H b:=if_neg h
structure HJ(env:Env)(cl:List (Str×Addr)):Prop where
 sub:∀x c,(x,c)∈cl->env.cells.lookup x=some c
 inj:∀x y c,(x,c)∈cl->(y,c)∈cl->x=y
def Kx(N:List Str)(σ:St)(sc:Scope)(cl:List (Str×Addr))(os:Addr->Obj):Prop:=∀x c,(x,c)∈cl->(∃v,(os c).data = .cell v) /\
 ∀(i:Nat) (v:V),N[i]? = some x->σ[i]? = some (some v)->sc.names.lookup x=some .cell->∃u,(os c).data = .cell (some u)/\AZ v u
theorem HJ.look{env:Env}{cl:List (Str×Addr)}(C:HJ env cl){x:Str}{c:Addr}(h:(x,c)∈cl):cl.lookup x=some c:=by
 cases e:cl.lookup x with
 | none =>
   have:=List.lookup_eq_none_iff.mp e (x,c) h
   simp at this
 | some d =>
   have h2:=C.sub x d (PySem.mem_of_lookup e)
   rw[C.sub x c h]at h2
   exact congrArg some (Rl.inj h2).symm
section
variable {X:Cx}{CX:CXT}{k:Nat}{f:Addr}{fd:FuncData}{ps:List Str}{sp:Sp}{E:XK}{x:Str}{p pos:Pos}{e:Expr}{es:List Expr}{t:TA}
theorem Mg{pins:List (Addr×Obj)}{σ:St}{H:Hp}{s:Shared}{Q:VK}{us:List Value}{vs:List V}{cl:List (Str×Addr)}(F:AO X.prog X.w X.K X.mg X.base CX k f fd ps sp)(hr:Ca k X.A)(hb:Cc X.K fd ps [])
 (hfn:∀y,X.fn y=true) (hx:∀(e:Value) (H':Hp) (s':Shared),Inv X pins σ H s->CX X.stack H' s E e s'->X.xe e s') (I:Inv X pins σ H s) (r:AJ vs us) (C:HJ X.env cl)
 (h:∀os,(∀c∈cl.map (·.2),H c=none)->Kx X.N σ X.env.scope cl os->sp vs (DR (cl.map (·.2)) os H) (fun v H2=>(∀c∈cl.map (·.2),H2 c=some (EJ c (os c)))/\Q v (offC (cl.map (·.2)) H2)) E) :
 wpAny (model X.prog X.w) X.A (call (.ref f) us) (EP X pins σ Q) X.xe s:=by
 obtain⟨os,hos⟩:∃os:Addr->Obj,∀c∈cl.map (·.2),s.heap.get? c=some (os c)/\∃v,(os c).data = .cell v:=by
  refine⟨fun c=>(s.heap.get? c).getD { cls:=.none,data:=.plain },fun c hc=>?_⟩
  obtain⟨⟨y,c⟩,hp,rfl⟩:=U4.mp hc
  obtain⟨v,o,ho,hd⟩:=I.cell y c (C.sub y c hp)
  have e:((s.heap.get? c).getD { cls:=.none,data:=.plain })=o:=by rw[ho];rfl
  exact⟨by show s.heap.get? c=some ((s.heap.get? c).getD { cls:=.none,data:=.plain });rw[e];exact ho,v,by show((s.heap.get? c).getD { cls:=.none,data:=.plain }).data=_;rw[e];exact hd⟩
 have hcn:∀c∈cl.map (·.2),H c=none:=fun c hc=>by
  obtain⟨⟨y,c⟩,hp,rfl⟩:=U4.mp hc
  exact I.freeC y c (C.sub y c hp)
 have hab:∀c∈cl.map (·.2),X.s₀.heap.objs.size<=c:=fun c hc=>by
  obtain⟨⟨y,c⟩,hp,rfl⟩:=U4.mp hc
  exact I.ok.cab y c (hfn y) (C.sub y c hp)
 have hfr:∀b∈frs X.stack,b∉cl.map (·.2):=fun b hb hc=>by
  rcases RC.mp (I.stkSub b hb) with z | z
  ·obtain⟨⟨y,c⟩,hp,e⟩:=U4.mp hc
   exact I.cne y c (C.sub y c hp) (by rw[<- z];exact e)
  ·obtain⟨_,o,ho,_⟩:=I.ok.funs.mem z
   exact absurd (Ro (Heap.lt_size ho) (hab b hc)) (Rp _)
 have hci:Kx X.N σ X.env.scope cl os:=fun y c hp=>by
  obtain⟨h1,v0,h2⟩:=hos c (Ue (f:=(·.2)) hp)
  refine⟨⟨v0,h2⟩,fun i v hN hσ hk=>?_⟩
  obtain⟨m,hn,hl⟩:=I.loc
  obtain⟨u,ru,lk⟩:=hl i y v hN hσ (.inr (.inl hk))
  rcases lk with ⟨hk',_⟩ | ⟨_,c2,hc2,o,ho,hd⟩
  ·rw[show X.env.kindOf y=some .cell from hk]at hk';cases hk'
  ·rw[C.sub y c hp]at hc2
   cases hc2
   rw[h1]at ho
   cases ho
   exact⟨u,hd,ru⟩
 have q:=h os hcn hci
 have e0:=I.env0
 have hokT:HOk X.prog X.w (DR (cl.map (·.2)) os H) s.heap:=fun b o e=>by
  by_cases hb:b∈cl.map (·.2)
  ·rw[IK hb]at e
   cases e
   have g:=(hos b hb).1
   exact⟨g,⟨_,g⟩,fun h1 h2 z st=>st _ z⟩
  ·rw[BH hb]at e
   have no:∀{c:Addr} {v:HO},H c=some v->c∉cl.map (·.2):=fun{c v} q z=>by rw[hcn c z]at q;cases q
   exact(I.hok b o e).stay (fun _ _ _ q=>q) (fun c q=>by rw[BH (no q)];exact q) fun c xs q=>by rw[BH (no q)];exact q
 have eT:Kw X.prog X.w X.K X.mg X.base X.A X.stack s (DR (cl.map (·.2)) os H):=⟨e0.frames,e0.mod,fun b o e=>⟨(e0.bs b o e).1,by
  have hb:b∉cl.map (·.2):=fun hc=>absurd (Ro (Heap.lt_size e) (Rw I.ok.bsz (hab b hc))) (Rp _)
  rw[BH hb];exact(e0.bs b o e).2⟩,e0.bsz,e0.funs,fun b hb=>by rw[BH (hfr b hb)];exact e0.frf b hb,hokT,e0.bare⟩
 have hl:us.length=ps.length:=by rw[<- r.length];exact F.len _ _ _ _ q
 have hb':=hb s us I.kIn (by rw[RU];exact hl)
 rw[RU]at hb'
 refine wpAny_call (codeAny_mono (F.run X.A X.stack s _ ⟨us,[]⟩ us vs _ E hr eT hb' r q) fun rr s' hq=>?_)
 cases rr with
 | error e=>exact hx e _ s' I hq
 | ok fl =>
   cases fl with
   | next=>exact False.elim hq
   | brk=>exact False.elim hq
   | cont=>exact False.elim hq
   | ret u =>
     obtain⟨v,H2,hos',bare,un,hok2,rv,hc2,qv⟩:=hq
     refine I.after ⟨v,offC (cl.map (·.2)) H2,hos',bare,⟨fun b o e n hb hx'=>?_,fun b o e n hb hx'=>?_,fun b o e n hx'=>?_,un.there,fun b xs e=>?_,fun b o w' e=>?_,fun b pp e=>?_⟩,HOk.offC hok2 (fun c hc=>⟨_,hc2 c hc⟩),rv,qv⟩
     ·by_cases hbc:b∈cl.map (·.2)
      ·obtain⟨g,_,_⟩:=hok2 b _ (hc2 b hbc)
       have g':s'.heap.get? b=some (os b):=g
       rw[(hos b hbc).1]at e
       cases e
       exact g'
      ·exact un.keep b o e (by rw[BH hbc];exact n) hb hx'
     ·exact un.slot b o e (by rw[BH (hfr b hb)];exact n) hb hx'
     ·by_cases hbc:b∈cl.map (·.2)
      ·exact EA hbc
      ·rw[BR hbc];exact un.free b o e (by rw[BH hbc];exact n) hx'
     ·have hbc:b∉cl.map (·.2):=fun z=>by rw[hcn b z]at e;cases e
      rw[BR hbc];exact un.tups b xs (by rw[BH hbc];exact e)
     ·have hbc:b∉cl.map (·.2):=fun z=>by rw[hcn b z]at e;cases e
      rw[BR hbc];exact un.frzs b o w' (by rw[BH hbc];exact e)
     ·have hbc:b∉cl.map (·.2):=fun z=>by rw[hcn b z]at e;cases e
      rw[BR hbc];exact un.tbls b pp (by rw[BH hbc];exact e)
end
section
variable {K:Rv}{cs:List Addr}{H H':Hp}
theorem Af.trk{os:Addr->Obj}(hn:∀c∈cs,H c=none):Af H (DR cs os H):=fun b o e=>by
 have hb:b∉cs:=fun z=>by rw[hn b z]at e;cases e
 rw[BH hb];exact e
theorem Af.untrk{os:Addr->Obj}(s:Af (DR cs os H) H')(hn:∀c∈cs,H c=none):Af H (offC cs H'):=fun b o e=>by
 have hb:b∉cs:=fun z=>by rw[hn b z]at e;cases e
 rw[BR hb];exact s b o (by rw[BH hb];exact e)
end
end L2
namespace L2
open PySem PySem.Spec PyProof.Rows
def Bm(mg:Str->Option Value)(base:Heap):Prop:=∃bm ob,mg "__builtins__" = some (.ref bm)/\bm≠builtinsNs/\base.get? bm=some ob/\ob.cls = .type "module" /\ ob.dict=some builtinsNs/\ob.data = .plain
def D0(Pt:Addr)(q:Str)(H:Hp):Prop:=∃ps:Array Value,H Pt=some (.tbl ps)/\TriplesOk ps.toList/\∀pos cv,codeAmong pos ps.toList=some cv->∃c',cv = .ref c'/\H c'=some (HI c' q)
theorem Gk{pos:Pos}{a b:Int}{c cv:Value}(l:List Value)(h:TriplesOk l)(e:codeAmong pos (l++[rawInt a,rawInt b,c])=some cv):codeAmong pos l=some cv\/cv=c:=by
 fun_induction TriplesOk l with
 | case1 =>
   simp only[List.nil_append,rawInt,codeAmong]at e
   split at e
   ·exact .inr (Rl.inj e).symm
   ·cases e
 | case2 a' t b' u x BV ih =>
   simp only[List.cons_append,codeAmong]at e ⊢
   split at e
   ·rename_i hc;rw[if_pos hc];exact .inl e
   ·rename_i hc;rw[if_neg hc];exact ih h e
 | case3 l h1 h2=>exact h.elim
structure M5(H H':Hp)(Pt:Addr)(q:Str)(f c':Addr)(fd:FuncData):Prop where
 new:H f=none
 lam:H' f=some (EZ f fd)
 cod:H' c'=some (HI c' q)
 tab:D0 Pt q H'
 old:∀b o,b≠Pt->H b=some o->H' b=some o
def Og(env:Env)(mg:Str->Option Value)(Pt:Addr)(q:Str)(params:Arguments)(body:Expr)(scope:Scope):TE:=fun _ H Q=>D0 Pt q H/\∀f c' cl ctv H',HJ env cl->(∀x∈scope.names,x.2 = .free->∃c,(x.1,c)∈cl) ->
 M5 H H' Pt q f c' (Ug "<lambda>" q params body scope cl ((mg "__name__").getD .none) (.ref c') ctv)->Q (.ref f) H'
theorem Nl{X:Cx}{params:Arguments}{body:Expr}{scope:Scope}{pos:Pos}{c Pt:Addr}(hc:X.env.code = .ref c)(hcd:Uh X.K c Pt=true)(hbm:Bm X.mg X.base)
 (hdef:defaultsOf params X.env=([],[]):=by rfl) (hfree:∀x∈scope.names,x.2 = .free->X.env.kindOf x.1=some .cell\/X.env.kindOf x.1=some .free) :
 PE X (.Lambda params body scope pos) (Og X.env X.mg Pt (X.env.qual ++ "<lambda>") params body scope):=by
 intro pins s σ H Q I h
 obtain⟨⟨ps,hP,ht,hcodes⟩,h⟩:=h
 have hPo:s.heap.get? Pt=some (Ui ps):=I.hok Pt _ hP
 have hcells:∀x∈scope.names,x.2 = .free->∃c,X.env.cells.lookup x.1=some c:=fun x hx hf=>I.ok.has _ (hfree x hx hf)
 obtain⟨cl,e1,h1,_,h3⟩:=Dj scope.names [] hcells
 have hcl:closureFor scope X.env=pure cl:=by
  unfold closureFor
  simp only[bind_pure]
  exact e1
 have C:HJ X.env cl:=⟨fun x c hp=>by
  rcases h1 _ hp with z | z
  ·exact nomatch z
  ·exact z,fun x y c hx hy=>I.ok.inj x y c (by
   rcases h1 _ hx with z | z
   ·exact nomatch z
   ·exact z) (by
   rcases h1 _ hy with z | z
   ·exact nomatch z
   ·exact z)⟩
 have hgs:s.heap.Ns mainGlobals X.mg:=I.mod.glob.keeps I.bk
 obtain⟨bm,ob,b1,b2,b3,b4,b5,b6⟩:=hbm
 have b3':s.heap.get? bm=some ob:=I.bk _ _ b3
 have hgP:mainGlobals≠Pt:=fun q=>by
  obtain⟨o,es,ep,e,hd,_⟩:=hgs
  rw[q,hPo]at e;cases e;cases hd
 have hbP:bm≠Pt:=fun q=>by rw[q,hPo]at b3';cases b3';cases b4
 have hbG:bm≠mainGlobals:=fun q=>by
  obtain⟨o,es,ep,e,hd,_⟩:=hgs
  rw[q,e]at b3';cases b3';rw[hd]at b6;cases b6
 refine PySem.W.kla_eval hdef ?_
 have hB:s.heap.BuiltinsAt X.mg Pt:=⟨bm,ob,b1,b2,hbG,hbP,b3',b4,b5,b6⟩
 cases hf:codeAmong pos ps.toList with
 | none =>
   refine PySem.W.kla_makeFunction (mg:=X.mg) hcl I.ok.glob hgs hc (Uj I.kIn hcd) hPo ht hf hgP hB fun c' ctv h' tk hx hge hlt hrec htb=>?_
   have hcn:H c'=none:=I.hok.fresh hge
   have hsz:s.heap.objs.size<=h'.objs.size:=Rw hge (Rx hlt)
   have hfn:H h'.objs.size=none:=I.hok.fresh hsz
   have hcf:c'≠h'.objs.size:=Rq hlt
   have hPc:Pt≠c':=Ay hP hcn
   have hPf:Pt≠h'.objs.size:=Ay hP hfn
   have at_:∀b,b≠Pt->b≠c'->b≠h'.objs.size->upd (upd (upd H Pt (.tbl (ps ++ #[rawInt pos.line,rawInt pos.col,.ref c']))) c' (HI c' (X.env.qual ++ "<lambda>"))) h'.objs.size (EZ h'.objs.size (Ug "<lambda>" (X.env.qual ++ "<lambda>") params body scope cl ((X.mg "__name__").getD .none) (.ref c') ctv)) b=H b:=fun b n1 n2 n3=>by rw[Aw n3,Aw n2,Aw n1]
   have aP:upd (upd (upd H Pt (.tbl (ps ++ #[rawInt pos.line,rawInt pos.col,.ref c']))) c' (HI c' (X.env.qual ++ "<lambda>"))) h'.objs.size (EZ h'.objs.size (Ug "<lambda>" (X.env.qual ++ "<lambda>") params body scope cl ((X.mg "__name__").getD .none) (.ref c') ctv)) Pt=some (.tbl (ps ++ #[rawInt pos.line,rawInt pos.col,.ref c'])):=by rw[Aw hPf,Aw hPc];exact Ac
   have aC:upd (upd (upd H Pt (.tbl (ps ++ #[rawInt pos.line,rawInt pos.col,.ref c']))) c' (HI c' (X.env.qual ++ "<lambda>"))) h'.objs.size (EZ h'.objs.size (Ug "<lambda>" (X.env.qual ++ "<lambda>") params body scope cl ((X.mg "__name__").getD .none) (.ref c') ctv)) c'=some (HI c' (X.env.qual ++ "<lambda>")):=by rw[Aw hcf];exact Ac
   have aF:upd (upd (upd H Pt (.tbl (ps ++ #[rawInt pos.line,rawInt pos.col,.ref c']))) c' (HI c' (X.env.qual ++ "<lambda>"))) h'.objs.size (EZ h'.objs.size (Ug "<lambda>" (X.env.qual ++ "<lambda>") params body scope cl ((X.mg "__name__").getD .none) (.ref c') ctv)) h'.objs.size=some (EZ h'.objs.size (Ug "<lambda>" (X.env.qual ++ "<lambda>") params body scope cl ((X.mg "__name__").getD .none) (.ref c') ctv)):=Ac
   generalize upd (upd (upd H Pt (.tbl (ps ++ #[rawInt pos.line,rawInt pos.col,.ref c']))) c' (HI c' (X.env.qual ++ "<lambda>"))) h'.objs.size (EZ h'.objs.size (Ug "<lambda>" (X.env.qual ++ "<lambda>") params body scope cl ((X.mg "__name__").getD .none) (.ref c') ctv))=H' at at_ aP aC aF
   have old:∀b o,b≠Pt->H b=some o->H' b=some o:=fun b o n e=>by rw[at_ b n (Ay e hcn) (Ay e hfn)];exact e
   have lts:∀{b:Addr} {o:Obj},s.heap.get? b=some o->b≠c'/\b≠h'.objs.size:=fun e=>⟨Rq (Ro (Heap.lt_size e) hge),Rq (Ro (Heap.lt_size e) hsz)⟩
   have kp:∀b o,b≠Pt->s.heap.get? b=some o->(h'.push (Uk "<lambda>" (X.env.qual ++ "<lambda>") params body scope cl ((X.mg "__name__").getD .none) c' ctv)).get? b=some o:=fun b o n e=>Heap.get?_push_of_some _ (hx b o n e)
   have nP:∀{b:Addr},H b=none->b≠Pt:=fun n z=>by rw[z,hP]at n;cases n
   refine I.after ⟨.ref h'.objs.size,H',rfl,I.bare,⟨fun b o e n _ _=>kp b o (nP n) e,fun b o e n _ _=>⟨o.slots,kp b o (nP n) e⟩,fun b o e n _=>by rw[at_ b (nP n) (lts e).1 (lts e).2];exact n,fun b o e _=>?_,fun b xs e=>old b _ (fun z=>by rw[z,hP]at e;cases e) e,fun b o u e=>old b _ (fun z=>by rw[z,hP]at e;cases e) e,fun b pp e=>?_⟩,fun b o e=>?_,rfl,?_⟩
   ·by_cases n:b=Pt
    ·subst n;exact⟨_,Heap.get?_push_of_some _ htb⟩
    ·exact⟨o,kp b o n e⟩
   ·by_cases n:b=Pt
    ·subst n;rw[hP]at e;cases e;exact⟨_,aP⟩
    ·exact⟨#[],by rw[old b _ n e];simp⟩
   ·by_cases n3:b=h'.objs.size
    ·subst n3;rw[aF]at e;cases e
     have g:(h'.push (Uk "<lambda>" (X.env.qual ++ "<lambda>") params body scope cl ((X.mg "__name__").getD .none) c' ctv)).get? h'.objs.size=some (Uk "<lambda>" (X.env.qual ++ "<lambda>") params body scope cl ((X.mg "__name__").getD .none) c' ctv):=Heap.get?_push_size _ rfl
     exact⟨g,⟨_,g⟩,fun h1 h2 z st=>st _ z⟩
    ·by_cases n2:b=c'
     ·subst n2;rw[aC]at e;cases e
      obtain⟨c2,oc,vs,t,e2,hoc,hd,hv⟩:=hrec
      cases e2
      have g:=Heap.get?_push_of_some (Uk "<lambda>" (X.env.qual ++ "<lambda>") params body scope cl ((X.mg "__name__").getD .none) b ctv) hoc
      exact⟨⟨_,oc,vs,t,rfl,g,hd,hv⟩,⟨_,g⟩,fun h1 h2 ⟨c3,oc3,vs3,t3,e3,hoc3,hd3,hv3⟩ st=>by cases e3;exact⟨_,oc3,vs3,t3,rfl,st _ hoc3,hd3,hv3⟩⟩
     ·by_cases n1:b=Pt
      ·subst n1;rw[aP]at e;cases e
       show(h'.push _).get? b=some _
       exact Heap.get?_push_of_some _ htb
      ·rw[at_ b n1 n2 n3]at e
       exact(I.hok b o e).stay (fun d u hd q=>kp d u (fun z=>by
        rcases hd with hd | hd
        ·exact n1 (by rw[<- hd];exact z)
        ·rw[z,hP]at hd;cases hd) q) (fun d q=>old d _ (fun z=>by rw[z,hP]at q;cases q) q) fun d xs q=>old d _ (fun z=>by rw[z,hP]at q;cases q) q
   ·refine h h'.objs.size c' cl ctv H' C h3 ⟨hfn,aF,aC,⟨_,aP,?_,fun pos' cv q=>?_⟩,old⟩
    ·rw[Array.toList_append];exact TriplesOk_snoc _ _ _ _ ht
    ·rw[Array.toList_append]at q
     rcases Gk _ ht q with z | z
     ·obtain⟨c2,e2,k2⟩:=hcodes pos' cv z
      exact⟨c2,e2,old c2 _ (fun z=>by rw[z,hP]at k2;cases k2) k2⟩
     ·exact⟨c',z,aC⟩
 | some cv =>
   obtain⟨c',rfl,hco⟩:=hcodes pos cv hf
   refine PySem.W.kla_makeFunctionHit (mg:=X.mg) hcl I.ok.glob hgs hc (Uj I.kIn hcd) hPo ht hf hB fun ctv h' tk hk hsz=>?_
   have hfn:H h'.objs.size=none:=I.hok.fresh hsz
   have J:=I.laid (t':=tk) (h':=h'.push { cls:=.type "function",data:=.func (Ug "<lambda>" (X.env.qual ++ "<lambda>") params body scope cl ((X.mg "__name__").getD .none) (.ref c') ctv) }) (a:=h'.objs.size) (o:=EZ h'.objs.size (Ug "<lambda>" (X.env.qual ++ "<lambda>") params body scope cl ((X.mg "__name__").getD .none) (.ref c') ctv)) (fun b ob q=>Heap.get?_push_of_some _ (hk b ob q)) hsz (by
    have g:(h'.push { cls:=.type "function",data:=.func (Ug "<lambda>" (X.env.qual ++ "<lambda>") params body scope cl ((X.mg "__name__").getD .none) (.ref c') ctv) }).get? h'.objs.size=some { cls:=.type "function",data:=.func (Ug "<lambda>" (X.env.qual ++ "<lambda>") params body scope cl ((X.mg "__name__").getD .none) (.ref c') ctv) }:=Heap.get?_push_size _ rfl
    exact⟨g,⟨_,g⟩,fun h1 h2 z st=>st _ z⟩)
   have old:∀b o,H b=some o->upd H h'.objs.size (EZ h'.objs.size (Ug "<lambda>" (X.env.qual ++ "<lambda>") params body scope cl ((X.mg "__name__").getD .none) (.ref c') ctv)) b=some o:=fun b o e=>by rw[Aw (Ay e hfn)];exact e
   exact⟨.ref h'.objs.size,_,J,rfl,h _ c' cl ctv _ C h3 ⟨hfn,Ac,old _ _ hco,⟨ps,old _ _ hP,ht,fun pos' cv q=>by
    obtain⟨c2,e2,k2⟩:=hcodes pos' cv q
    exact⟨c2,e2,old _ _ k2⟩⟩,fun b o _ e=>old b o e⟩⟩
end L2
namespace L2
open PySem PySem.Spec PyProof.Rows
def M3(Pt:Addr)(H:Hp):Prop:=∀b,b≠Pt->H b=none\/∃o xs,H b=some (.frz o (.lst xs))
theorem Ke{P:Program}{w:World}{K:Rv}{mg mb:Str->Option Value}{CX:CXT}{k:Nat}{fa a Pt c:Addr}{fd:FuncData}{x:Str}{sp:Sp}{s₁:Shared}{vs:List Value}{ns:List Int}
 (KX:K.In s₁.heap) (hns:s₁.heap.Ns mainGlobals mg) (hb:s₁.heap.Ns builtinsNs mb) (hbb:∀x:Str,x ≠ "__name__" -> mb x=bootBuiltins x) (hlim:s₁.heap.NoLimit) (hsee:s₁.heap.NoSeer) (hbm:Bm mg s₁.heap) (hg:s₁.gens = #[])
 (hPt:s₁.heap.get? Pt=some (Ui #[])) (hPK:K.lookup Pt=none) (hcd:Uh K c Pt=true)
 (ha:s₁.heap.get? a=some { cls:=.type "list",data:=.seq vs.toArray }) (hi:IntsAre vs ns) (hl:ns.length<=sizeLine) (hr:Ca k callerA)
 (F:∀base:Heap,K.In base->base.Ns mainGlobals mg->Bm mg base->AO P w K mg base CX k fa fd [x] sp) (hbind:∀(s:Shared) (u:Value),BindsTo s fd ⟨[u],[]⟩ [(x,u)])
 (hsp:∀H:Hp,M3 Pt H->SqL K H a (ns.map V.int)->H Pt=some (.tbl #[])->sp [.ref a] H (fun v _=>v = .bl true) fun _ _ _=>False)
 (hCX:∀H e s',CX [] H s₁ (fun _ _ _=>False) e s'->False) :
 codeAny (model P w) callerA (.call (.ref fa) ⟨[.ref a],[]⟩) (fun r s'=>r = .ok (.ret (.bool true))/\OldK s₁.heap s'.heap/\s'.os=s₁.os/\AllBare s'.gens) s₁:=by
 have rv:=JW hi
 have lenV:=hi.length
 have aP:a≠Pt:=fun z=>by rw[z,hPt]at ha;cases ha
 have core:∀H:Hp,M3 Pt H->H Pt=some (.tbl #[])->SqL K H a (ns.map V.int)->HOk P w H s₁.heap->(∀b,H b≠none->b=a\/b=Pt)->(H a≠none->K.lookup a=none) ->
  codeAny (model P w) callerA (.call (.ref fa) ⟨[.ref a],[]⟩) (fun r s'=>r = .ok (.ret (.bool true))/\OldK s₁.heap s'.heap/\s'.os=s₁.os/\AllBare s'.gens) s₁:=by
  intro H hO hHP hS hok hA hK
  have base_of:∀{b:Addr} {o:Obj},s₁.heap.get? b=some o->H b=none->(FO s₁.heap H).get? b=some o:=fun e n=>LF e n
  have noA:∀{b:Addr} {o:Obj} {es:Array DictEntry} {ep:Nat},s₁.heap.get? b=some o->o.data = .dict es ep->H b=none:=fun{b o es ep} e d=>by
   cases q:H b with
   | none=>rfl
   | some u =>
     rcases hA b (by rw[q];simp) with e' | e'
     ·subst e'
      rw[ha]at e;cases e
      have d':Data.seq vs.toArray _=Data.dict es ep:=d
      cases d'
     ·subst e'
      rw[hPt]at e;cases e
      have d':Data.fields #[]=Data.dict es ep:=d
      cases d'
  have nsK:∀{b:Addr} {m:Str->Option Value},s₁.heap.Ns b m->(FO s₁.heap H).Ns b m:=fun{b m} ⟨o,es,ep,e,d,r⟩=>⟨o,es,ep,base_of e (noA e d),d,r⟩
  have hKb:K.In (FO s₁.heap H):=fun b o e=>base_of (KX b o e) (by
   cases q:H b with
   | none=>rfl
   | some u =>
     rcases hA b (by rw[q];simp) with e' | e'
     ·subst e'
      rw[hK (by rw[q];simp)]at e;cases e
     ·subst e'
      rw[hPK]at e;cases e)
  have modN:∀{bm:Addr} {ob:Obj},s₁.heap.get? bm=some ob->ob.cls = .type "module" -> H bm=none:=fun{bm ob} z u=>by
   cases q:H bm with
   | none=>rfl
   | some o =>
     rcases hA bm (by rw[q];simp) with e' | e'
     ·subst e'
      rw[ha]at z;cases z
      have u':Value.type "list" = Value.type "module":=u
      exact absurd u' (by decide)
     ·subst e'
      rw[hPt]at z;cases z;cases u
  have seerK:(FO s₁.heap H).NoSeer:=⟨let ⟨mc,x,y⟩:=hsee.statics;⟨mc,nsK x,y⟩,let ⟨mm,x,y⟩:=hsee.mods;⟨mm,nsK x,y⟩,let ⟨mi,x,y⟩:=hsee.imp;⟨mi,nsK x,y⟩,by
   obtain⟨mg',bm,ob,x,y,z,u,v⟩:=hsee.main
   exact⟨mg',bm,ob,nsK x,y,base_of z (modN z u),u,v⟩⟩
  have bmK:Bm mg (FO s₁.heap H):=by
   obtain⟨bm,ob,x,y,z,u,v,t⟩:=hbm
   exact⟨bm,ob,x,y,base_of z (modN z u),u,v,t⟩
  have hM:Mod K mg (FO s₁.heap H):=⟨hKb,nsK hns,⟨mb,nsK hb,hbb⟩,let ⟨mc,h1,h2⟩:=hlim;⟨mc,nsK h1,h2⟩,seerK⟩
  have e0:Kw P w K mg (FO s₁.heap H) callerA [] s₁ H:=⟨rfl,hM,fun b o e=>Mt e,Ul (Kl _ _),trivial,fun b hb=>absurd (show b∈([]:List Addr) from hb) (by simp),hok,.of_eq hg⟩
  refine codeAny_mono ((F _ hKb (nsK hns) bmK).run callerA [] s₁ H ⟨[.ref a],[]⟩ [.ref a] [.ref a] _ _ hr e0 (hbind s₁ (.ref a)) (.cons rfl .nil) (hsp H hO hS hHP)) fun r s' h=>?_
  cases r with
  | error e=>exact(hCX H e s' h).elim
  | ok fl =>
    cases fl with
    | next=>exact False.elim h
    | brk=>exact False.elim h
    | cont=>exact False.elim h
    | ret u =>
      obtain⟨v,H',os,bare,un,hok',r',q⟩:=h
      have q':v = .bl true:=q
      subst q'
      obtain rfl:u=Value.bool true:=r'
      obtain⟨more,hP'⟩:=un.tbls Pt _ hHP
      have gP:s'.heap.get? Pt=some (Ui (#[]++more)):=hok' Pt _ hP'
      have kp:∀b o,b≠Pt->s₁.heap.get? b=some o->s'.heap.get? b=some o:=fun b o n e=>by
       cases q:H b with
       | none=>exact un.keep b o e q (by intro z;exact absurd (show b∈([]:List Addr) from z) (by simp)) (by simp)
       | some u =>
         rcases hO b n with z | ⟨ob,xs,z⟩
         ·rw[q]at z;cases z
         ·have z2:=un.frzs b ob _ z
          obtain⟨e1,_⟩:=hok b _ z
          obtain⟨e2,_⟩:=hok' b _ z2
          rw[e]at e1;cases e1
          exact e2
      obtain⟨oc,cvs,_,_,_,_,_,_,_,g1,g2,g3,g4,_⟩:=Uj KX hcd
      refine⟨rfl,⟨fun b o e=>?_,fun b o e=>?_⟩,os,bare⟩
      ·by_cases n:b=Pt
       ·subst n
        rw[hPt]at e;cases e
        exact .inr (.inl ⟨⟨c,oc,cvs,g1,g2,g3,g4⟩,rfl,#[],more,rfl,gP⟩)
       ·exact .inl (kp b o n e)
      ·by_cases n:b=Pt
       ·subst n;exact⟨_,gP⟩
       ·exact⟨o,kp b o n e⟩
 cases hk:K.lookup a with
 | some o =>
   have e:=KX a o hk
   rw[ha]at e
   cases e
   refine core (fun b=>if b=Pt then some (.tbl #[]) else none) (fun b n=>.inl (if_neg n)) (if_pos rfl) (.inr ⟨_,vs.toArray,_,hk,rfl,rfl,rfl,by rw[Sg,lenV];exact hl,by simpa using rv⟩) (fun b u z=>?_) (fun b z=>?_) fun z=>absurd (if_neg aP) z
   ·by_cases n:b=Pt
    ·subst n
     have z':=(if_pos rfl).symm.trans z
     cases z'
     exact hPt
    ·have z':=(if_neg n).symm.trans z
     cases z'
   ·by_cases n:b=Pt
    ·exact .inr n
    ·exact absurd (if_neg n) z
 | none =>
   refine core (fun b=>if b=a then some (.frz { cls:=.type "list",data:=.seq vs.toArray } (.lst (ns.map V.int))) else if b=Pt then some (.tbl #[]) else none) (fun b n=>?_) (by show(if Pt=a then _ else if Pt=Pt then some (HO.tbl #[]) else none)=_;rw[if_neg (Ne.symm aP),if_pos rfl]) (.inl (.inr ⟨{ cls:=.type "list",data:=.seq vs.toArray },if_pos rfl⟩)) (fun b u z=>?_) (fun b z=>?_) fun _=>hk
   ·by_cases hb:b=a
    ·exact .inr ⟨_,_,if_pos hb⟩
    ·exact .inl (by show(if b=a then _ else if b=Pt then _ else none)=none;rw[if_neg hb,if_neg n])
   ·by_cases hb:b=a
    ·have z':=(if_pos hb).symm.trans z
     cases z'
     subst hb
     exact⟨ha,by rw[S7];exact hl,vs,_,rv,ha⟩
    ·by_cases n:b=Pt
     ·subst n
      have z':some (HO.tbl #[])=some u:=by rw[<- z];show _=(if b=a then _ else if b=b then some (HO.tbl #[]) else none);rw[if_neg hb,if_pos rfl]
      cases z'
      exact hPt
     ·have z':(none:Option HO)=some u:=by rw[<- z];show _=(if b=a then _ else if b=Pt then some (HO.tbl #[]) else none);rw[if_neg hb,if_neg n]
      cases z'
   ·by_cases hb:b=a
    ·exact .inl hb
    ·by_cases n:b=Pt
     ·exact .inr n
     ·exact absurd (by show(if b=a then _ else if b=Pt then _ else none)=none;rw[if_neg hb,if_neg n]) z
theorem Ky{l:Um}{n k:Nat}{q:Program}{loose:List Str}{XP:(Str->Option Value)->Heap->Prop}{YP:World->Heap->Prop}{d:DefRec}{K:Params->Rv}{CX:World->CXT}{sp:World->Sp}{x:Str}{Pt:Addr}
 (hI:importsNone q=true) (hn:l.most=some n) (hn2:n<=sizeLine) (hdf:d.params.defaults=[]) (hr:Ca k callerA)
 (hY:∀(w:World) (h:Heap),YP w h->(K w.params).In h/\h.get? Pt=some (Ui #[])/\(K w.params).lookup Pt=none)
 (F:∀(w:World) (mg:Str->Option Value) (fa:Addr) (h:Heap),(K w.params).In h->h.Ns mainGlobals mg->mg d.name=some (.ref fa) ->
  ∃ (fd:FuncData) (c:Addr),Uh (K w.params) c Pt=true/\(∀(s:Shared) (u:Value),BindsTo s fd ⟨[u],[]⟩ [(x,u)]) /\
    ∀base:Heap,(K w.params).In base->base.Ns mainGlobals mg->Bm mg base->AO l.prog w (K w.params) mg base (CX w) k fa fd [x] (sp w))
 (hsp:∀(w:World) (H:Hp) (a:Addr) (ns:List Int),ns.length<=n->M3 Pt H->SqL (K w.params) H a (ns.map V.int)->H Pt=some (.tbl #[])->sp w [.ref a] H (fun v _=>v = .bl true) fun _ _ _=>False)
 (hCX:∀(w:World) (H:Hp) (s:Shared) (e:Value) (s':Shared),CX w [] H s (fun _ _ _=>False) e s'->False) :
 PySem.W.WalkO q loose XP YP l.row.toRowW d [] (fun f vs=>PySem.call f vs):=by
 refine Att.attach_call hn hdf fun w s₀ s₁ mg mb fa o pm cd doc a vs ns G Y ho hd hcd hmg hobj hints hlen hg=>?_
 obtain⟨KX,hPt,hPK⟩:=hY w _ Y
 obtain⟨fd,c,hc,hb,hF⟩:=F w mg fa _ KX G.T.g hmg
 exact Ke KX G.T.g G.T.b G.T.builtins G.T.nolimit (G.T.seer hI) G.T.bmain hg hPt hPK hc hobj hints (Rw hlen hn2) hr hF hb (fun H hO hS hP=>hsp w H a ns hlen hO hS hP) fun H e s'=>hCX w H s₁ e s'
def EG(K:Rv)(f Pt:Addr):Bool:=match K.lookup f with
 | some ⟨_,_,.func fd,_⟩=>(match fd.code with | .ref c=>Uh K c Pt | _=>false)
 | _=>false
theorem Fun.okL{P:Program}{w:World}{K:Rv}{mg:Str->Option Value}{base:Heap}{x qual:Str}{st:Stmt}{f Pt:Addr}{fd:FuncData}{N ps:List Str}{k:Nat}{sp:Sp}(F:Fun K x qual st f fd)(hl:EG K f Pt=true)(S:Aq N ps (Ae st))(len:∀vs H Q E,sp vs H Q E->vs.length=ps.length)
 (hbody:∀(c:Addr) (A:Around) (outer:List Env) (s:Shared) (H:Hp) (vs:List V) (Q:VK) (E:XK),Uh K c Pt=true->Ca k (A.deeper (envOfC qual (Ae st) s.heap.objs.size f (.ref c)))->sp vs H Q E ->
  ∃t,PSs (Jf CX0 P w K mg base N qual (Ae st) f (.ref c) A outer s H E).nox (Am st) t/\t { nx:=fun _ H'=>Q .non H',rt:=Q } (E1 N vs) H):AO P w K mg base CX0 (k+1) f fd ps sp:=by
 obtain⟨oc,od,kV,doc,pm,an,cdv,ct,osl,rfl,lk,hcd⟩:=F.ex
 refine MV lk hcd S len fun A outer s H vs Q E hr hsp=>?_
 unfold EG at hl
 rw[lk]at hl
 cases cdv with
 | ref c =>
   obtain⟨t,h,q⟩:=hbody c A outer s H vs Q E hl hr hsp
   exact⟨t,h.nox,q⟩
 | _=>cases hl
def JB(sc scope:Scope):Bool:=scope.names.all fun x=>decide (x.2 ≠ .free)||decide (sc.names.lookup x.1=some .cell)
theorem Mm{X:Cx}{params:Arguments}{body:Expr}{scope sc:Scope}{pos:Pos}{c Pt:Addr}(hcd:Uh X.K c Pt=true)(hbm:Bm X.mg X.base)(hc:X.env.code = .ref c:=by rfl)(hs:X.env.scope=sc:=by rfl)(hf:JB sc scope=true:=by decide +kernel)
 (hdef:defaultsOf params X.env=([],[]):=by rfl):PE X (.Lambda params body scope pos) (Og X.env X.mg Pt (X.env.qual ++ "<lambda>") params body scope) :=
 Nl hc hcd hbm hdef fun x hx hfr=>.inl (by
  unfold JB at hf
  have h:=T5.mp hf x hx
  rw[Bool.or_eq_true,decide_eq_true_eq,decide_eq_true_eq]at h
  rcases h with h | h
  ·exact absurd hfr h
  ·show X.env.scope.names.lookup x.1=_
   rw[hs];exact h)
end L2
namespace L2
open PySem PySem.Spec PyProof.Rows
def spT(ps:List Str)(Pre:List V->Prop)(Ans:List V->V->Hp->Prop)(H0:Hp):Sp:=fun vs H Q _=>vs.length=ps.length/\Pre vs/\Af H0 H/\∀r H',Af H H'->Ans vs r H'->Q r H'
structure Tells(P:Program)(w:World)(K:Rv)(mg:Str->Option Value)(base:Heap)(k:Nat)(H:Hp)(f:Addr)(ps:List Str)(Pre:List V->Prop)(Ans:List V->V->Hp->Prop):Prop where
 ex:∃fd,AO P w K mg base CX0 k f fd ps (spT ps Pre Ans H)/\Cc K fd ps []/\H f=some (EZ f fd)
inductive Cap(sc scope:Scope)(N:List Str)(σ:St):List Str->List V->Prop
 | nil:Cap sc scope N σ [] []
 | cons {y:Str} {v:V} {fr:List Str} {ws:List V} (i:Nat) (h1:scope.names.lookup y=some .free) (h2:sc.names.lookup y=some .cell) (hN:N[i]? = some y) (hσ:σ[i]? = some (some v)) (t:Cap sc scope N σ fr ws):Cap sc scope N σ (y::fr) (v::ws)
theorem Cap.length{sc scope:Scope}{N:List Str}{σ:St}{fr:List Str}{ws:List V}(h:Cap sc scope N σ fr ws):fr.length=ws.length:=by
 induction h with
 | nil=>rfl
 | cons i h1 h2 hN hσ t ih=>exact congrArg (· + 1) ih
theorem Cap.get{sc scope:Scope}{N:List Str}{σ:St}{fr:List Str}{ws:List V}(h:Cap sc scope N σ fr ws):∀{j:Nat} {y:Str} {v:V},fr[j]? = some y->(ws.map some)[j]? = some (some v)->scope.names.lookup y=some .free/\sc.names.lookup y=some .cell/\∃i:Nat,N[i]? = some y/\σ[i]? = some (some v):=by
 induction h with
 | nil=>intro j y v e;cases e
 | cons i h1 h2 hN hσ t ih =>
   intro j y v e1 e2
   cases j with
   | zero=>cases e1;cases e2;exact⟨h1,h2,i,hN,hσ⟩
   | succ j=>exact ih e1 e2
structure MY(scope:Scope)(ps:List Str):Prop where
 kind:scope.kind = .function
 co:scope.isCoroutine=false
 gen:scope.isGenerator=false
 nocell:(scope.names.all fun x=>decide (x.2 ≠ .cell))=true
 par:(ps.all fun p=>decide (scope.names.lookup p=some .local))=true
theorem Lz{env:Env}{N:List Str}{σ:St}{scope:Scope}{cl:List (Str×Addr)}{os:Addr->Obj}{H2 H':Hp}{ps fr:List Str}{vs ws:List V}(S:MY scope ps)(C:HJ env cl)(hfree:∀x∈scope.names,x.2 = .free->∃c,(x.1,c)∈cl)
 (hci:Kx N σ env.scope cl os) (cap:Cap env.scope scope N σ fr ws) (hl:vs.length=ps.length) (hm:Af (DR (cl.map (·.2)) os H2) H'):IH H' scope (ps++fr) ps cl (vs.map some++ws.map some) vs:=by
 have mem:∀{x:Str} {c:Addr},(x,c)∈cl->c∈cl.map (·.2):=fun h=>Ue (f:=(·.2)) h
 have cel:∀{x:Str} {c:Addr},(x,c)∈cl->H' c=some (EJ c (os c)):=fun h=>hm _ _ (IK (mem h))
 refine⟨S.kind,S.co,S.gen,fun x hx=>?_,fun p hp=>?_,fun x y c h1 h2=>C.inj x y c (PySem.mem_of_lookup h1) (PySem.mem_of_lookup h2),fun x hx=>?_,?_,fun p hp=>?_,fun i x v hN hσ=>?_⟩
 ·exact of_decide_eq_true (T5.mp S.nocell x hx)
 ·exact of_decide_eq_true (T5.mp S.par p hp)
 ·obtain⟨c,hc⟩:=hfree _ (PySem.mem_of_lookup hx) rfl
  exact⟨c,C.look hc⟩
 ·rw[S6,S6,S7,S7,hl,cap.length]
 ·obtain⟨⟨v,hv⟩,_⟩:=hci p.1 p.2 hp
  exact⟨os p.2,v,cel (x:=p.1) hp,hv⟩
 ·by_cases hi:i<ps.length
  ·rw[S2 hi]at hN
   rw[S2 (by rw[S7,hl];exact hi),S3]at hσ
   refine .inl ⟨of_decide_eq_true (T5.mp S.par x (S5 hN)),i,hN,?_⟩
   cases e:vs[i]? with
   | none=>rw[e]at hσ;cases hσ
   | some u=>rw[e]at hσ;cases hσ;rfl
  ·have hi':ps.length<=i:=Nat.le_of_not_lt hi
   rw[RZ hi']at hN
   rw[RZ (by rw[S7,hl];exact hi'),S7,hl]at hσ
   obtain⟨h1,h2,j,hj,hs⟩:=cap.get hN hσ
   obtain⟨c,hc⟩:=hfree _ (PySem.mem_of_lookup h1) rfl
   obtain⟨_,hv⟩:=hci x c hc
   obtain⟨u,hu,r⟩:=hv j v hj hs h2
   exact .inr ⟨h1,c,os c,u,C.look hc,cel hc,hu,r⟩
theorem lk1(p:Str)(us:List Value)(h:us.length=[p].length)(j:Nat)(x:Str)(u:Value)(h1:[p][j]? = some x)(h2:us[j]? = some u):([p].zip us).reverse.lookup x=some u:=by
 obtain⟨a,r,rfl,l1⟩:=BC h
 cases Uc.mp l1
 cases j with
 | zero=>cases h1;cases h2;show(match p == p with | true=>some u | false=>none)=some u;rw[beq_self_eq_true]
 | succ j=>cases h1
theorem Kf{K:Rv}{fd:FuncData}{p:Str}(h:∀a:Value,bindArgs fd ⟨[a],[]⟩=pure [(p,a)]):Cc K fd [p] []:=.all fun us l0=>by
 obtain⟨a1,r1,rfl,l1⟩:=BC l0
 cases Uc.mp l1
 exact h a1
def C4(Pt:Addr)(H H':Hp):Prop:=∀b o,b≠Pt->H b=some o->H' b=some o
theorem C4.refl{Pt:Addr}{H:Hp}:C4 Pt H H:=fun _ _ _ e=>e
theorem C4.trans{Pt:Addr}{H H' H'':Hp}(a:C4 Pt H H')(b:C4 Pt H' H''):C4 Pt H H'':=fun c o n e=>b c o n (a c o n e)
theorem Af.b{Pt:Addr}{H H':Hp}(a:Af H H'):C4 Pt H H':=fun b o _ e=>a b o e
theorem D0.same{Pt:Addr}{q:Str}{H H':Hp}(h:D0 Pt q H)(m:Af H H'):D0 Pt q H':=by
 obtain⟨ps,e,t,c⟩:=h
 refine⟨ps,m _ _ e,t,fun pos cv z=>?_⟩
 obtain⟨c',e',z'⟩:=c pos cv z
 exact⟨c',e',m _ _ z'⟩
section
variable {K:Rv}{Pt:Addr}{q:Str}{H H':Hp}
theorem SqT.but{r:Addr}{xs:List V}(h:SqT K H r xs)(c:D0 Pt q H)(m:C4 Pt H H'):SqT K H' r xs:=by
 obtain⟨ps,e,_⟩:=c
 have ne:∀{b:Addr} {o:HO},H b=some o->(∀p,o ≠ .tbl p)->b≠Pt:=fun z n y=>by rw[y,e]at z;exact n _ (Rl.inj z).symm
 rcases h with (h | ⟨o,h⟩) | h
 ·exact .inl (.inl (m _ _ (ne h fun p z=>by cases z) h))
 ·exact .inl (.inr ⟨o,m _ _ (ne h fun p z=>by cases z) h⟩)
 ·exact .inr h
theorem Az.but{x:V}{y:Rat}(h:Az K H x y)(c:D0 Pt q H)(m:C4 Pt H H'):Az K H' x y:=let ⟨r,e,h⟩:=h;⟨r,e,h.but c m⟩
theorem Crv.but{r:Addr}{qs:List Rat}(h:Crv K H r qs)(c:D0 Pt q H)(m:C4 Pt H H'):Crv K H' r qs:=let ⟨xs,a,b⟩:=h;⟨xs,a.but c m,Paired.mapP b fun _ _ z=>z.but c m⟩
end
end L2
namespace L2
open PySem PySem.Spec PyProof.Rows
theorem Mx{K:Rv}{as:List Addr}{b:Addr}(h:as=K.map (·.1))(n:as.contains b=false):K.lookup b=none:=by
 subst h
 refine List.lookup_eq_none_iff.mpr fun p hp=>?_
 have z:b∉K.map (·.1):=fun hm=>by rw[List.contains_iff_mem.mpr hm]at n;cases n
 rw[bne_iff_ne]
 exact fun e=>z (by rw[e];exact Ue (f:=(·.1)) hp)
theorem Kq{K:Rv}{f Pt:Addr}(h:EG K f Pt=true):∃c,Uh K c Pt=true:=by
 unfold EG at h
 split at h
 ·split at h
  ·exact⟨_,h⟩
  ·cases h
 ·cases h
end L2
namespace L2
open PySem PySem.Spec PyProof.Rows
section
variable {P:Program}{w:World}{K:Rv}{mg:Str->Option Value}{base:Heap}{N:List Str}{qual:Str}{scope:Scope}{f:Addr}{cd:Value}{cl:List (Str×Addr)}{A:Around}{outer:List Env}{s:Shared}{H:Hp}{E:XK}
end
end L2
namespace L2
open PySem PySem.Spec PyProof.Rows
section
variable {X:Cx}
end
end L2
namespace L2
open PySem PySem.Spec PyProof.Rows
structure Pj(P:Program)(w:World)(K:Rv)(mg:Str->Option Value)(base:Heap)(k:Nat)(H:Hp)(f C:Addr):Prop where
 ex:∃fd sp,AO P w K mg base (CX1 P w) k f fd [] sp/\Cc K fd [] []/\H f=some (EZ f fd)/\∀(Q:VK) (E:XK),(∀H',Af H H'->E (.ref C) none H')->sp [] H Q E
end L2
namespace Dt
def skip(i a:Nat):Nat:=if a<i then a else a+1
def sg(i:Nat):Int:=if i % 2=0 then 1 else -1
def sumN(f:Nat->Int):Nat->Int
 | 0=>0
 | n+1=>sumN f n+f n
def det:Nat->(Nat->Nat->Int)->Nat->Int
 | 0,M,j=>M 0 j
 | n+1,M,j=>sumN (fun i=>sg i*(M i 0*det n (fun a b=>M (skip i a) (b+1)) j)) (n+2)
theorem sg_succ(i:Nat):sg (i+1) = - sg i:=by
 unfold sg
 rcases Nat.mod_two_eq_zero_or_one i with h | h
 ·rw[if_neg (by lia),if_pos h]
 ·rw[if_pos (by lia),if_neg (by lia)];rfl
theorem sum_congr{f g:Nat->Int}:∀{n},(∀i,i<n->f i=g i)->sumN f n=sumN g n
 | 0,_=>rfl
 | n+1,h=>by
   show sumN f n+f n=sumN g n+g n
   rw[sum_congr (fun i hi=>h i (by lia)),h n (by lia)]
theorem sum_zero{f:Nat->Int}:∀{n},(∀i,i<n->f i=0)->sumN f n=0
 | 0,_=>rfl
 | n+1,h=>by
   show sumN f n+f n=0
   rw[sum_zero (fun i hi=>h i (by lia)),h n (by lia)];rfl
theorem sum_lin{f g h:Nat->Int}{x y:Int}:∀{n},(∀i,i<n->f i=x*g i+y*h i)->sumN f n=x*sumN g n+y*sumN h n
 | 0,_=>by show(0:Int)=x*0+y*0;grind
 | n+1,e=>by
   show sumN f n+f n=x*(sumN g n+g n)+y*(sumN h n+h n)
   rw[sum_lin (fun i hi=>e i (by lia)),e n (by lia)];grind
theorem sum_two{f:Nat->Int}{p:Nat}(h2:f p+f (p+1)=0):∀{n},p+1<n->(∀i,i<n->i≠p->i≠p+1->f i=0)->sumN f n=0
 | 0,h,_=>absurd h (by lia)
 | n+1,h,hz=>by
   show sumN f n+f n=0
   by_cases e:p+1=n
   ·subst e
    show sumN f p+f p+f (p+1)=0
    rw[sum_zero (fun i hi=>hz i (by lia) (by lia) (by lia))];grind
   ·rw[sum_two h2 (n:=n) (by lia) (fun i hi=>hz i (by lia)),hz n (by lia) (by lia) (by lia)];rfl
theorem sum_first{f:Nat->Int}:∀{n},(∀i,1<=i->i<n+1->f i=0)->sumN f (n+1)=f 0
 | 0,_=>by show 0+f 0=f 0;grind
 | n+1,h=>by
   show sumN f (n+1)+f (n+1)=f 0
   rw[sum_first (n:=n) (fun i h1 h2=>h i h1 (by lia)),h (n+1) (by lia) (by lia)];grind
theorem skip_le{i a n:Nat}(h:a<=n):skip i a<=n+1:=by unfold skip;split<;>lia
theorem skip_ne(i a:Nat):skip i a≠i:=by unfold skip;split<;>lia
theorem det_congr:∀{n:Nat} {M M':Nat->Nat->Int} {j:Nat},(∀a,a<=n->∀b,M a b=M' a b)->det n M j=det n M' j
 | 0,M,M',j,h=>h 0 (RK _) j
 | n+1,M,M',j,h=>sum_congr fun i hi=>by
   rw[h i (by lia) 0,det_congr (n:=n) fun a ha b=>h _ (skip_le ha) (b+1)]
def put(M:Nat->Nat->Int)(p:Nat)(u:Nat->Int):Nat->Nat->Int:=fun a b=>if a=p then u b else M a b
theorem put_at(M:Nat->Nat->Int)(p:Nat)(u:Nat->Int)(b:Nat):put M p u p b=u b:=if_pos rfl
theorem put_ne{M:Nat->Nat->Int}{p a:Nat}{u:Nat->Int}(h:a≠p)(b:Nat):put M p u a b=M a b:=if_neg h
def low(i p:Nat):Nat:=if p<i then p else p-1
theorem skip_iff{i p a:Nat}(h:i≠p):skip i a=p↔a=low i p:=by unfold skip low;split<;>split<;>lia
theorem low_le{i p n:Nat}(h:i≠p)(hp:p<=n+1)(hi:i<=n+1):low i p<=n:=by unfold low;split<;>lia
theorem minor_put{M:Nat->Nat->Int}{i p:Nat}{u:Nat->Int}(h:i≠p):(fun a b=>put M p u (skip i a) (b+1))=put (fun a b=>M (skip i a) (b+1)) (low i p) fun b=>u (b+1):=by
 funext a b
 unfold put
 by_cases e:skip i a=p
 ·rw[if_pos e,if_pos ((skip_iff h).mp e)]
 ·rw[if_neg e,if_neg (fun z=>e ((skip_iff h).mpr z))]
theorem minor_own{M:Nat->Nat->Int}{p:Nat}{u:Nat->Int}:(fun a b=>put M p u (skip p a) (b+1))=fun a b=>M (skip p a) (b+1):=by
 funext a b
 exact put_ne (skip_ne p a) _
theorem det_lin:∀{n:Nat} {M:Nat->Nat->Int} {p:Nat} {u v:Nat->Int} {x y:Int} {j:Nat},p<=n->det n (put M p fun b=>x*u b+y*v b) j=x*det n (put M p u) j+y*det n (put M p v) j
 | 0,M,p,u,v,x,y,j,h=>by
   obtain rfl:p=0:=by lia
   rfl
 | n+1,M,p,u,v,x,y,j,h=>sum_lin fun i hi=>by
   by_cases e:i=p
   ·subst e
    rw[put_at,put_at,put_at,minor_own,minor_own,minor_own];grind
   ·rw[put_ne e,put_ne e,put_ne e,minor_put e,minor_put e,minor_put e,det_lin (low_le e h (by lia))];grind
theorem det_adj:∀{n:Nat} {M:Nat->Nat->Int} {p j:Nat},p+1<=n->(∀b,M p b=M (p+1) b)->det n M j=0
 | 0,_,_,_,h,_=>absurd h (by lia)
 | n+1,M,p,j,h,he=>by
   refine sum_two (p:=p) ?_ (by lia) fun i hi h1 h2=>?_
   ·rw[sg_succ,<- he 0]
    have e:det n (fun a b=>M (skip (p+1) a) (b+1)) j=det n (fun a b=>M (skip p a) (b+1)) j:=det_congr fun a ha b=>by
     unfold skip
     by_cases h1:a<p
     ·rw[if_pos h1,if_pos (by lia)]
     ·by_cases h2:a=p
      ·subst h2
       rw[if_pos (by lia),if_neg (by lia)];exact he _
      ·rw[if_neg (by lia),if_neg h1]
    rw[e];grind
   ·have z:det n (fun a b=>M (skip i a) (b+1)) j=0:=by
     by_cases hlt:i<p
     ·obtain⟨q,rfl⟩:∃q,p=q+1:=⟨p-1,by lia⟩
      refine det_adj (p:=q) (by lia) fun b=>?_
      show M (skip i q) _=M (skip i (q+1)) _
      have e1:skip i q=q+1:=by unfold skip;rw[if_neg (by lia)]
      have e2:skip i (q+1)=q+1+1:=by unfold skip;rw[if_neg (by lia)]
      rw[e1,e2];exact he _
     ·refine det_adj (p:=p) (by lia) fun b=>?_
      show M (skip i p) _=M (skip i (p+1)) _
      have e1:skip i p=p:=by unfold skip;rw[if_pos (by lia)]
      have e2:skip i (p+1)=p+1:=by unfold skip;rw[if_pos (by lia)]
      rw[e1,e2];exact he _
    rw[z];grind
def swp(M:Nat->Nat->Int)(p:Nat):Nat->Nat->Int:=put (put M p (M (p+1))) (p+1) (M p)
theorem put_comm(M:Nat->Nat->Int){p q:Nat}(h:p≠q)(u v:Nat->Int):put (put M p u) q v=put (put M q v) p u:=by
 funext a b;unfold put;split<;>split<;>first | rfl | lia
theorem put_self(M:Nat->Nat->Int)(p:Nat):put M p (M p)=M:=by
 funext a b;unfold put;split
 ·subst_vars;rfl
 ·rfl
theorem det_add{n:Nat}{M:Nat->Nat->Int}{p:Nat}{u v:Nat->Int}{j:Nat}(h:p<=n):det n (put M p fun b=>u b+v b) j=det n (put M p u) j+det n (put M p v) j:=by
 have:=det_lin (M:=M) (u:=u) (v:=v) (x:=1) (y:=1) (j:=j) h
 rw[Sy,Sy]at this
 rw[<- this]
 congr 2
 funext b
 rw[Sy,Sy]
theorem det_swp{n:Nat}{M:Nat->Nat->Int}{p j:Nat}(h:p+1<=n):det n (swp M p) j = - det n M j:=by
 have z:∀u:Nat->Int,det n (put (put M p u) (p+1) u) j=0:=fun u=>det_adj h fun b=>by
  rw[put_at,put_ne (by lia),put_at]
 have bi:∀u v u' v':Nat->Int,det n (put (put M p fun b=>u b+v b) (p+1) fun b=>u' b+v' b) j =
  det n (put (put M p u) (p+1) u') j+det n (put (put M p v) (p+1) u') j+(det n (put (put M p u) (p+1) v') j+det n (put (put M p v) (p+1) v') j):=fun u v u' v'=>by
  have c:∀u w,put (put M p u) (p+1) w=put (put M (p+1) w) p u:=fun u w=>put_comm M (by lia) u w
  rw[det_add h,c _ u',c _ v',det_add (by lia),det_add (by lia),c,c,c,c]
 have key:=z fun b=>M p b+M (p+1) b
 rw[bi,z,z]at key
 have e:put (put M p (M p)) (p+1) (M (p+1))=M:=by rw[put_self,put_self]
 rw[e]at key
 unfold swp
 grind
theorem det_two:∀(d:Nat) {n:Nat} {M:Nat->Nat->Int} {p j:Nat},p+1+d<=n->(∀b,M p b=M (p+1+d) b)->det n M j=0
 | 0,n,M,p,j,h,he=>det_adj h he
 | d+1,n,M,p,j,h,he=>by
   have s:=det_swp (M:=M) (p:=p+1+d) (j:=j) (n:=n) (by lia)
   have z:det n (swp M (p+1+d)) j=0:=det_two d (p:=p) (by lia) fun b=>by
    unfold swp
    rw[put_ne (by lia),put_ne (by lia),put_ne (by lia),put_at]
    exact he b
   lia
theorem det_eq{n:Nat}{M:Nat->Nat->Int}{p q j:Nat}(hp:p<=n)(hq:q<=n)(hpq:p≠q)(he:∀b,M p b=M q b):det n M j=0:=by
 rcases Nat.lt_or_gt_of_ne hpq with h | h
 ·obtain⟨d,rfl⟩:∃d,q=p+1+d:=⟨q-p-1,by lia⟩
  exact det_two d hq he
 ·obtain⟨d,rfl⟩:∃d,p=q+1+d:=⟨p-q-1,by lia⟩
  exact det_two d hp fun b=>(he b).symm
theorem det_scale{n:Nat}{M:Nat->Nat->Int}{p:Nat}{u:Nat->Int}{c:Int}{j:Nat}(h:p<=n):det n (put M p fun b=>c*u b) j=c*det n (put M p u) j:=by
 have:=det_lin (M:=M) (u:=u) (v:=u) (x:=c) (y:=0) (j:=j) h
 have e:(fun b=>c*u b+0*u b)=fun b=>c*u b:=by funext b;grind
 rw[e]at this
 rw[this];grind
theorem det_more{n:Nat}{M:Nat->Nat->Int}{p q:Nat}{u:Nat->Int}{c:Int}{j:Nat}(hp:p<=n)(hq:q<=n)(h:p≠q):det n (put M p fun b=>u b+c*M q b) j=det n (put M p u) j:=by
 rw[det_add hp,det_scale hp,det_eq (M:=put M p (M q)) hp hq h (fun b=>by rw[put_at,put_ne (Ne.symm h)])];grind
theorem det_mores{n:Nat}{M:Nat->Nat->Int}{p:Nat}{u:Nat->Int}{c:Nat->Int}{r:Nat->Nat}{j:Nat}(hp:p<=n):∀t,(∀i,i<t->r i<=n/\r i≠p)->det n (put M p fun b=>u b+sumN (fun i=>c i*M (r i) b) t) j=det n (put M p u) j
 | 0,_=>by
   have e:(fun b=>u b+sumN (fun i=>c i*M (r i) b) 0)=u:=by funext b;show u b+0=u b;lia
   rw[e]
 | t+1,h=>by
   have e:(fun b=>u b+sumN (fun i=>c i*M (r i) b) (t+1))=fun b=>(u b+sumN (fun i=>c i*M (r i) b) t)+c t*M (r t) b:=by
    funext b;show u b+(_+_)=_;grind
   rw[e,det_more hp (h t (by lia)).1 (Ne.symm (h t (by lia)).2)]
   exact det_mores hp t fun i hi=>h i (by lia)
theorem det_peel{n:Nat}{M:Nat->Nat->Int}{j:Nat}(h:∀i,1<=i->i<=n+1->M i 0=0):det (n+1) M j=M 0 0*det n (fun a b=>M (a+1) (b+1)) j:=by
 show sumN _ (n+1+1)=_
 rw[sum_first fun i h1 h2=>by rw[h i h1 (by lia)];grind]
 have e:det n (fun a b=>M (skip 0 a) (b+1)) j=det n (fun a b=>M (a+1) (b+1)) j:=rfl
 rw[e]
 show sg 0*_=_
 have:sg 0=1:=rfl
 rw[this];grind
def sh(i:Nat)(v:Nat->Int):Nat->Int:=fun b=>if b<i then 0 else v (b-i)
def syl(p:Nat)(g f:Nat->Int):Nat->Nat->Int:=fun a=>if a<p then sh a g else sh (a-p) f
theorem syl_less{p q:Nat}{g f r:Nat->Int}{c:Int}{e:Nat->Int}{d j:Nat}(hd:d+q<=p+1)(hf:∀b,c*f b=r b+sumN (fun t=>e t*sh t g b) d)(hq:0<q) :
 c ^ q*det (p+q-1) (syl p g f) j=det (p+q-1) (syl p g r) j:=by
 -- the first t rows of f are changed
 have key:∀t,t<=q->c ^ t*det (p+q-1) (syl p g f) j=det (p+q-1) (fun a=>if a<p then sh a g else if a-p<t then sh (a-p) r else sh (a-p) f) j:=by
  intro t
  induction t with
  | zero =>
    intro _
    rw[Tx,Sy]
    refine det_congr fun a _ b=>?_
    unfold syl
    by_cases h:a<p
    ·rw[if_pos h,if_pos h]
    ·rw[if_neg h,if_neg h,if_neg (by lia)]
  | succ t ih =>
    intro ht
    have ih:=ih (by lia)
    rw[Tz,Uo (c ^ t) c,Uq,ih]
    generalize hM:(fun a=>if a<p then sh a g else if a-p<t then sh (a-p) r else sh (a-p) f)=M
    have hMp:M (p+t)=sh t f:=by rw[<- hM];show(if p+t<p then _ else if p+t-p<t then _ else sh (p+t-p) f)=_;rw[if_neg (by lia),if_neg (by lia),Nat.add_sub_cancel_left]
    have hMg:∀i,i<p->M i=sh i g:=fun i hi=>by rw[<- hM];exact if_pos hi
    have e1:det (p+q-1) M j=det (p+q-1) (put M (p+t) (sh t f)) j:=by rw[<- hMp,put_self]
    rw[e1,<- det_scale (by lia)]
    have e2:(fun b=>c*sh t f b)=fun b=>sh t r b+sumN (fun i=>e i*M (i+t) b) d:=by
     funext b
     have e3:sumN (fun i=>e i*M (i+t) b) d=sumN (fun i=>e i*sh (i+t) g b) d:=sum_congr fun i hi=>by rw[hMg _ (by lia)]
     rw[e3]
     unfold sh
     by_cases hb:b<t
     ·rw[if_pos hb,if_pos hb,sum_zero fun i _=>by rw[if_pos (by lia)];grind];grind
     ·rw[if_neg hb,if_neg hb,hf (b-t)]
      congr 1
      refine sum_congr fun i _=>?_
      unfold sh
      by_cases h2:b-t<i
      ·rw[if_pos h2,if_pos (by lia)]
      ·rw[if_neg h2,if_neg (by lia),show b-t-i=b-(i+t) by lia]
    rw[e2,det_mores (r:=fun i=>i+t) (c:=e) (by lia) d fun i hi=>⟨by lia,by lia⟩]
    refine det_congr fun a _ b=>?_
    unfold put
    by_cases ha:a=p+t
    ·rw[if_pos ha,if_neg (by lia),if_pos (by lia),show a-p=t by lia]
    ·rw[if_neg ha,<- hM]
     dsimp only
     by_cases h:a<p
     ·rw[if_pos h,if_pos h]
     ·rw[if_neg h,if_neg h]
      by_cases h2:a-p<t
      ·rw[if_pos h2,if_pos (by lia)]
      ·rw[if_neg h2,if_neg (by lia)]
 rw[key q (RK _)]
 refine det_congr fun a ha b=>?_
 unfold syl
 by_cases h:a<p
 ·rw[if_pos h,if_pos h]
 ·rw[if_neg h,if_neg h,if_pos (by lia)]
theorem syl_peel{p q:Nat}{g f:Nat->Int}{j:Nat}(hf:f 0=0)(hn:1<=p+q):det (p+q) (syl (p+1) g f) j=g 0*det (p+q-1) (syl p g fun b=>f (b+1)) j:=by
 obtain⟨n,hn'⟩:∃n,p+q=n+1:=⟨p+q-1,by lia⟩
 rw[hn',Ur]
 rw[det_peel fun i h1 h2=>?_]
 ·have e0:syl (p+1) g f 0 0=g 0:=by unfold syl;rw[if_pos (by lia)];rfl
  rw[e0]
  congr 1
  refine det_congr fun a _ b=>?_
  unfold syl
  by_cases h:a<p
  ·rw[if_pos h,if_pos (by lia)]
   unfold sh
   by_cases h2:b<a
   ·rw[if_pos h2,if_pos (by lia)]
   ·rw[if_neg h2,if_neg (by lia),show b+1-(a+1)=b-a by lia]
  ·rw[if_neg h,if_neg (by lia),show a+1-(p+1)=a-p by lia]
   unfold sh
   by_cases h2:b<a-p
   ·rw[if_pos h2]
    by_cases h3:b+1<a-p
    ·rw[if_pos h3]
    ·rw[if_neg h3,show b+1-(a-p)=0 by lia];exact hf
   ·rw[if_neg h2,if_neg (by lia),show b+1-(a-p)=b-(a-p)+1 by lia]
 ·unfold syl
  by_cases h:i<p+1
  ·rw[if_pos h];unfold sh;rw[if_pos (by lia)]
  ·rw[if_neg h];unfold sh
   by_cases h3:0<i-(p+1)
   ·rw[if_pos h3]
   ·rw[if_neg h3,Nat.zero_sub];exact hf
theorem syl_peels{q:Nat}{g:Nat->Int}{j:Nat}:∀(t p:Nat) {f:Nat->Int},(∀i,i<t->f i=0)->1<=p+q->det (p+t+q-1) (syl (p+t) g f) j=g 0 ^ t*det (p+q-1) (syl p g fun b=>f (b+t)) j
 | 0,p,f,_,_=>by
   rw[Tx,Sy];rfl
 | t+1,p,f,h,hn=>by
   have e:=syl_peel (p:=p+t) (q:=q) (g:=g) (f:=f) (j:=j) (h 0 (by lia)) (by lia)
   rw[show p+(t+1)+q-1=p+t+q by lia,show p+(t+1)=p+t+1 by lia,e]
   rw[syl_peels t p (f:=fun b=>f (b+1)) (fun i hi=>h (i+1) (by lia)) hn,Tz]
   have e2:(fun b=>f (b+t+1))=fun b=>f (b+(t+1)):=rfl
   rw[e2];grind
theorem det_down{n:Nat}:∀(d:Nat) {M:Nat->Nat->Int} {p:Nat},p+d<=n->∃s:Int,(s=1\/s = -1)/\∀j,det n (fun a=>if a<p then M a else if a<p+d then M (a+1) else if a=p+d then M p else M a) j=s*det n M j
 | 0,M,p,h=>⟨1,.inl rfl,fun j=>by
   rw[Sy]
   refine det_congr fun a _ b=>?_
   by_cases h1:a<p
   ·rw[if_pos h1]
   ·rw[if_neg h1,if_neg (by lia)]
    by_cases h2:a=p+0
    ·rw[if_pos h2,h2];rfl
    ·rw[if_neg h2]⟩
 | d+1,M,p,h=>by
   obtain⟨s,hs,e⟩:=det_down (n:=n) d (M:=M) (p:=p) (by lia)
   refine⟨-s,by lia,fun j=>?_⟩
   have sw:=det_swp (M:=fun a=>if a<p then M a else if a<p+d then M (a+1) else if a=p+d then M p else M a) (p:=p+d) (j:=j) (n:=n) (by lia)
   rw[e]at sw
   rw[Int.neg_mul,<- sw]
   refine det_congr fun a _ b=>?_
   unfold swp put
   dsimp only
   by_cases h1:a=p+d+1
   ·rw[if_pos h1,if_neg (by lia),if_neg (by lia),if_pos (by lia),if_neg (by lia),if_neg (by lia),if_pos rfl]
   ·rw[if_neg h1]
    by_cases h2:a=p+d
    ·rw[if_pos h2,if_neg (by lia),if_pos (by lia),if_neg (by lia),if_neg (by lia),if_neg (by lia),h2]
    ·rw[if_neg h2]
     by_cases h3:a<p
     ·rw[if_pos h3,if_pos h3]
     ·rw[if_neg h3,if_neg h3]
      by_cases h4:a<p+d
      ·rw[if_pos h4,if_pos (by lia)]
      ·rw[if_neg h4,if_neg (by lia),if_neg (by lia),if_neg h2]
theorem det_round{n:Nat}{M:Nat->Nat->Int}:∀t,t<=n+1->∃s:Int,(s=1\/s = -1)/\∀j,det n (fun a=>if a+t<=n then M (a+t) else M (a+t-(n+1))) j=s*det n M j
 | 0,_=>⟨1,.inl rfl,fun j=>by
   rw[Sy]
   refine det_congr fun a ha b=>?_
   rw[if_pos (by lia)];rfl⟩
 | t+1,h=>by
   obtain⟨s,hs,e⟩:=det_round (n:=n) (M:=M) t (by lia)
   obtain⟨s',hs',e'⟩:=det_down n (M:=fun a=>if a+t<=n then M (a+t) else M (a+t-(n+1))) (p:=0) (n:=n) (by lia)
   refine⟨s'*s,by rcases hs with rfl | rfl<;>rcases hs' with rfl | rfl<;>decide,fun j=>?_⟩
   rw[Uq,<- e,<- e']
   refine det_congr fun a ha b=>?_
   rw[if_neg (show ¬a<0 by lia)]
   by_cases h1:a<0+n
   ·rw[if_pos h1]
    by_cases h2:a+(t+1)<=n
    ·rw[if_pos h2,if_pos (by lia),show a+1+t=a+(t+1) by lia]
    ·rw[if_neg h2,if_neg (by lia),show a+1+t=a+(t+1) by lia]
   ·obtain rfl:a=n:=by lia
    rw[if_neg h1,if_pos (show a=0+a by lia),if_pos (show 0+t<=a by lia),if_neg (show ¬a+(t+1)<=a by lia),show a+(t+1)-(a+1)=0+t by lia]
theorem syl_round{p q:Nat}{g f:Nat->Int}(h:1<=p+q):∃s:Int,(s=1\/s = -1)/\∀j,det (p+q-1) (syl q f g) j=s*det (p+q-1) (syl p g f) j:=by
 obtain⟨s,hs,e⟩:=det_round (n:=p+q-1) (M:=syl p g f) p (by lia)
 refine⟨s,hs,fun j=>?_⟩
 rw[<- e]
 refine det_congr fun a ha b=>?_
 unfold syl
 by_cases h1:a<q
 ·rw[if_pos h1,if_pos (by lia),if_neg (by lia),Ur]
 ·rw[if_neg h1,if_neg (by lia),if_pos (by lia),show a+p-(p+q-1+1)=a-q by lia]
def sub(m n k:Nat)(f g:Nat->Int)(j:Nat):Int:=det (m-k+(n-k)-1) (syl (m-k) g f) j
theorem sub_step{m n l k:Nat}{f g r:Nat->Int}{e:Nat->Int}(hnm:n<=m)(hln:l<n)(hkl:k<=l)(hr0:∀i,i<m-l->r i=0)
 (hf:∀b,g 0 ^ (m-n+1)*f b=r b+sumN (fun t=>e t*sh t g b) (m-n+1)) :
 ∃s:Int,(s=1\/s = -1)/\∀j,(g 0 ^ (m-n+1)) ^ (n-k)*sub m n k f g j=s*(g 0 ^ (m-l)*sub n l k g (fun b=>r (b+(m-l))) j):=by
 obtain⟨s,hs,e1⟩:=syl_round (p:=l-k) (q:=n-k) (g:=g) (f:=fun b=>r (b+(m-l))) (by lia)
 refine⟨s,hs,fun j=>?_⟩
 unfold sub
 rw[syl_less (q:=n-k) (by lia) hf (by lia)]
 have e2:=syl_peels (q:=n-k) (g:=g) (j:=j) (m-l) (l-k) (f:=r) hr0 (by lia)
 rw[show l-k+(m-l)+(n-k)-1=m-k+(n-k)-1 by lia,show l-k+(m-l)=m-k by lia]at e2
 rw[e2,show n-k+(l-k)-1=l-k+(n-k)-1 by lia,e1]
 rcases hs with rfl | rfl<;>grind
theorem sub_rest{m n:Nat}{f g r:Nat->Int}{e:Nat->Int}{j:Nat}(hnm:n<=m)(hn:0<n)(hg:g 0≠0)(hr0:∀i,i<m-n+1->r i=0)
 (hf:∀b,g 0 ^ (m-n+1)*f b=r b+sumN (fun t=>e t*sh t g b) (m-n+1)):sub m n (n-1) f g j=r (j+(m-n+1)):=by
 have e1:=syl_less (p:=m-(n-1)) (q:=n-(n-1)) (j:=j) (by lia) hf (by lia)
 have e2:=syl_peels (q:=n-(n-1)) (g:=g) (j:=j) (m-n+1) 0 (f:=r) hr0 (by lia)
 rw[show 0+(m-n+1)=m-(n-1) by lia]at e2
 rw[e2,show n-(n-1)=1 by lia,Int.pow_one]at e1
 have e3:det (0+1-1) (syl 0 g fun b=>r (b+(m-n+1))) j=r (j+(m-n+1)):=rfl
 rw[e3]at e1
 unfold sub
 rw[show n-(n-1)=1 by lia]
 exact Us (Ut hg) e1
theorem sub_one{m n:Nat}{f g:Nat->Int}{j:Nat}(h:n<m):sub m n n f g j=g 0 ^ (m-n-1)*g j:=by
 unfold sub
 rw[TQ,SJ]
 have key:∀t,det t (syl (t+1) g f) j=g 0 ^ t*g j:=by
  intro t
  induction t with
  | zero =>
    rw[Tx,Sy]
    show syl 1 g f 0 j=_
    unfold syl sh
    rw[if_pos (by lia)];rfl
  | succ t ih =>
    rw[det_peel fun i h1 h2=>by unfold syl;rw[if_pos (by lia)];unfold sh;rw[if_pos (by lia)]]
    have e0:syl (t+1+1) g f 0 0=g 0:=by unfold syl;rw[if_pos (by lia)];rfl
    have e1:det t (fun a b=>syl (t+1+1) g f (a+1) (b+1)) j=det t (syl (t+1) g f) j:=det_congr fun a ha b=>by
     unfold syl
     rw[if_pos (by lia),if_pos (by lia)]
     unfold sh
     by_cases h2:b<a
     ·rw[if_pos h2,if_pos (by lia)]
     ·rw[if_neg h2,if_neg (by lia),show b+1-(a+1)=b-a by lia]
    rw[e0,e1,ih,Tz];grind
 have:=key (m-n-1)
 rw[show m-n-1+1=m-n by lia]at this
 exact this
theorem sub_scale{m n k:Nat}{f g:Nat->Int}{c:Int}{j:Nat}(h:k<m):sub m n k f (fun b=>c*g b) j=c ^ (m-k)*sub m n k f g j:=by
 unfold sub
 have key:∀t,t<=m-k->det (m-k+(n-k)-1) (fun a=>if a<t then sh a (fun b=>c*g b) else syl (m-k) g f a) j=c ^ t*det (m-k+(n-k)-1) (syl (m-k) g f) j:=by
  intro t
  induction t with
  | zero =>
    intro _
    rw[Tx,Sy]
    exact det_congr fun a _ b=>by rw[if_neg (by lia)]
  | succ t ih =>
    intro ht
    rw[Tz,Uo (c ^ t) c,Uq,<- ih (by lia)]
    generalize hM:(fun a=>if a<t then sh a (fun b=>c*g b) else syl (m-k) g f a)=M
    have hMt:M t=sh t g:=by rw[<- hM];show(if t<t then _ else syl (m-k) g f t)=_;rw[if_neg (by lia)];exact if_pos (by lia)
    have e1:det (m-k+(n-k)-1) M j=det (m-k+(n-k)-1) (put M t (sh t g)) j:=by rw[<- hMt,put_self]
    rw[e1,<- det_scale (by lia)]
    refine det_congr fun a _ b=>?_
    unfold put
    by_cases h1:a=t
    ·rw[if_pos (by lia),if_pos h1,h1]
     unfold sh;split<;>grind
    ·rw[if_neg h1,<- hM]
     dsimp only
     by_cases h2:a<t
     ·rw[if_pos h2,if_pos (by lia)]
     ·rw[if_neg h2,if_neg (by lia)]
 rw[<- key (m-k) (RK _)]
 refine det_congr fun a _ b=>?_
 unfold syl
 by_cases h1:a<m-k
 ·rw[if_pos h1,if_pos h1]
 ·rw[if_neg h1,if_neg h1,if_neg h1]
end Dt
namespace Dt
structure Srs(S:Nat->Nat->Int)(m n:Nat)(f g:Nat->Int)(lead held:Int):Prop where
 le:n<=m
 g0:g 0≠0
 l0:lead≠0
 h0:held≠0
 one:n<m\/(lead=1/\held=1)
 is:∀k,k<=n->∃s:Int,(s=1\/s = -1)/\∀j,lead ^ (n-k)*held ^ (m-k-1)*S k j=s*sub m n k f g j
theorem Srs.first{m n:Nat}{f g:Nat->Int}(h:n<=m)(hg:g 0≠0):Srs (fun k j=>sub m n k f g j) m n f g 1 1 :=
 ⟨h,hg,by decide,by decide,.inr ⟨rfl,rfl⟩,fun k _=>⟨1,.inl rfl,fun j=>by rw[Uu,Uu];grind⟩⟩
section
variable {S:Nat->Nat->Int}{m n:Nat}{f g r:Nat->Int}{e:Nat->Int}{lead held:Int}
theorem Srs.next{l:Nat}{h:Nat->Int}{held':Int}(I:Srs S m n f g lead held)(hln:l<n)(hr0:∀i,i<m-l->r i=0)
 (hf:∀b,g 0 ^ (m-n+1)*f b=r b+sumN (fun t=>e t*sh t g b) (m-n+1)) (hr:∀b,r (b+(m-l))=lead*held ^ (m-n)*h b) (h00:h 0≠0)
 (hh:(n<m/\g 0 ^ (m-n)=held ^ (m-n-1)*held')\/(m=n/\held'=held)) (hh0:held'≠0):Srs S n l g h (g 0) held':=by
 refine⟨by lia,h00,I.g0,hh0,.inl hln,fun k hk=>?_⟩
 have hle:=I.le
 obtain⟨s1,hs1,e1⟩:=I.is k (by lia)
 obtain⟨s2,hs2,e2⟩:=sub_step hle hln hk hr0 hf
 refine⟨s1*s2,by rcases hs1 with rfl | rfl<;>rcases hs2 with rfl | rfl<;>decide,fun j=>?_⟩
 replace e1:=e1 j
 replace e2:=e2 j
 have er:(fun b=>r (b+(m-l)))=fun b=>lead*held ^ (m-n)*h b:=funext hr
 rw[er,sub_scale (by lia)]at e2
 obtain⟨a,ha⟩:∃a,n-k=a+1:=⟨n-k-1,by lia⟩
 obtain⟨d,hd⟩:∃d,m=n+d:=⟨m-n,by lia⟩
 have e1':lead ^ (a+1)*held ^ (a+d)*S k j=s1*sub m n k f g j:=by
  rw[ha,show m-k-1=a+d by lia]at e1;exact e1
 have e2':(g 0 ^ (d+1)) ^ (a+1)*sub m n k f g j=s2*(g 0 ^ (m-l)*((lead*held ^ d) ^ (a+1)*sub n l k g h j)):=by
  rw[ha,show m-n=d by lia]at e2;exact e2
 generalize sub m n k f g j=D at e1' e2'
 generalize sub n l k g h j=D' at e2'
 generalize S k j=T at e1'
 -- together
 have e3:(g 0 ^ (d+1)) ^ (a+1)*(lead ^ (a+1)*held ^ (a+d)*T)=s1*s2*(g 0 ^ (m-l)*((lead*held ^ d) ^ (a+1)*D')):=by
  rw[e1']
  have:(g 0 ^ (d+1)) ^ (a+1)*(s1*D)=s1*((g 0 ^ (d+1)) ^ (a+1)*D):=by grind
  rw[this,e2'];grind
 rw[show n-k-1=a by lia]
 have z1:lead ^ (a+1)≠0:=Ut I.l0
 have z2:g 0 ^ (m-l)≠0:=Ut I.g0
 have z3:held ^ (d*(a+1))≠0:=Ut I.h0
 have eF:(lead*held ^ d) ^ (a+1)=lead ^ (a+1)*held ^ (d*(a+1)):=by rw[Int.mul_pow,<- Uv]
 rw[eF]at e3
 refine Us (a:=lead ^ (a+1)) z1 (Us (a:=g 0 ^ (m-l)) z2 (Us (a:=held ^ (d*(a+1))) z3 ?_))
 have eG:(g 0 ^ (d+1)) ^ (a+1)=g 0 ^ (m-l)*g 0 ^ (l-k)*g 0 ^ (d*a):=by
  rw[<- Uv,<- Uw,<- Uw]
  congr 1
  have:(d+1)*(a+1)=d*a+d+a+1:=by rw[Tr,TC];lia
  lia
 rw[eG]at e3
 have eH:held ^ (d*(a+1))*held' ^ a=held ^ (a+d)*g 0 ^ (d*a):=by
  rcases hh with ⟨hlt,hh⟩ | ⟨he,hh⟩
  ·obtain⟨d',rfl⟩:∃d',d=d'+1:=⟨d-1,by lia⟩
   rw[show m-n=d'+1 by lia,show d'+1-1=d' by lia]at hh
   rw[Uv (a:=g 0),hh,Int.mul_pow,<- Uv]
   have x1:(d'+1)*(a+1)=(a+(d'+1))+d'*a:=by rw[Tr,TC];lia
   rw[x1,Uw];grind
  ·obtain rfl:d=0:=by lia
   subst hh
   rcases I.one with z | ⟨_,z⟩
   ·lia
   ·rw[z,Uu,Uu,Uu,Nat.zero_mul,Tx]
 have:held ^ (d*(a+1))*(g 0 ^ (m-l)*(lead ^ (a+1)*(g 0 ^ (l-k)*held' ^ a*T)))=g 0 ^ (m-l)*lead ^ (a+1)*g 0 ^ (l-k)*T*(held ^ (d*(a+1))*held' ^ a):=by grind
 rw[this,eH]
 have:held ^ (d*(a+1))*(g 0 ^ (m-l)*(lead ^ (a+1)*(s1*s2*D')))=s1*s2*(g 0 ^ (m-l)*(lead ^ (a+1)*held ^ (d*(a+1))*D')):=by grind
 rw[this,<- e3];grind
end
theorem sum_abs{f:Nat->Int}{X:Nat}:∀{n},(∀i,i<n->(f i).natAbs<=X)->(sumN f n).natAbs<=n*X
 | 0,_=>by show(0:Int).natAbs<=0*X;simp
 | n+1,h=>by
   have ih:=sum_abs (f:=f) (X:=X) (n:=n) fun i hi=>h i (by lia)
   have hn:=h n (by lia)
   show(sumN f n+f n).natAbs<=_
   have:=To (sumN f n) (f n)
   rw[Tr,Ts]
   lia
end Dt
namespace L2
open Dt
theorem Ek(f:Nat->Int):∀n,sumN f (n+1)=f 0+sumN (fun t=>f (t+1)) n
 | 0=>by show 0+f 0=f 0+0;lia
 | n+1=>by
   have ih:=Ek f n
   show sumN f (n+1)+f (n+1)=f 0+(sumN (fun t=>f (t+1)) n+f (n+1))
   rw[ih];lia
theorem Jl(f:Nat->Int):∀n,sumN f n=sumN (fun t=>f (n-1-t)) n
 | 0=>rfl
 | n+1=>by
   have ih:=Jl f n
   rw[Ek (fun t=>f (n+1-1-t)) n]
   show sumN f n+f n=f (n+1-1-0)+_
   rw[ih,show n+1-1-0=n by lia]
   have e:sumN (fun t=>f (n+1-1-(t+1))) n=sumN (fun t=>f (n-1-t)) n:=sum_congr fun t _=>by rw[show n+1-1-(t+1)=n-1-t by lia]
   rw[e];lia
theorem CY(l:List Int)(i:Nat):(l.map fun t:Int=>(t:Rat)).getD i 0=((l.getD i 0:Int):Rat):=by
 rw[T6,T6,S3]
 cases l[i]? <;> rfl
def cvI(l m:List Int)(i:Nat):Int:=sumN (fun t=>l.getD t 0*(if t<=i then m.getD (i-t) 0 else 0)) l.length
theorem LQ(m:List Int):∀(l:List Int) (i:Nat),(BB (l.map fun t:Int=>(t:Rat)) (m.map fun t:Int=>(t:Rat))).getD i 0=((cvI l m i:Int):Rat)
 | [],i=>by
   show([]:List Rat).getD i 0=_
   cases i<;>rfl
 | a::l,i=>by
   have ih:=LQ m l
   have e1:cvI (a::l) m i=a*m.getD i 0+(match i with | 0=>0 | j+1=>cvI l m j):=by
    unfold cvI
    rw[SO,Ek]
    congr 1
    match i with
    | 0=>exact sum_zero fun t _=>by rw[if_neg (by lia)];exact Ux _
    | j+1 =>
      refine sum_congr fun t _=>?_
      show l.getD t 0*_=l.getD t 0*_
      by_cases h:t<=j
      ·rw[if_pos h,if_pos (by lia),show j+1-(t+1)=j-t by lia]
      ·rw[if_neg h,if_neg (by lia)]
   show(AY ((m.map fun t:Int=>(t:Rat)).map (· * (a:Rat))) (0::BB (l.map fun t:Int=>(t:Rat)) (m.map fun t:Int=>(t:Rat)))).getD i 0=_
   rw[Bo,AW,CY,e1,SG,SH]
   match i with
   | 0 =>
     show _+(0:Rat)=_+((0:Int):Rat)
     rw[Uy];grind
   | j+1 =>
     show _+(BB _ _).getD j 0=_+((cvI l m j:Int):Rat)
     rw[ih j];grind
theorem LL{fs gs os rs:List Int}{c:Int}(h:∀x,Cv.evI fs x*((c:Int):Rat)=Cv.evI os x*Cv.evI gs x+Cv.evI rs x)(i:Nat):c*fs.getD i 0=cvI os gs i+rs.getD i 0:=by
 have e:=Ei (l:=(fs.map fun t:Int=>(t:Rat)).map (· * ((c:Int):Rat))) (m:=AY (BB (os.map fun t:Int=>(t:Rat)) (gs.map fun t:Int=>(t:Rat))) (rs.map fun t:Int=>(t:Rat))) (fun k=>by
  rw[Cv.ev_scale,Bc,AE];exact h _) i
 rw[AW,Bo,LQ,CY,CY,<- SH,<- SG]at e
 have:=Uz.mp e
 rw[<- this];exact Uo _ _
def tf(l:List Int):Nat->Int:=fun b=>if b<l.length then l.getD (l.length-1-b) 0 else 0
def rf(m:Nat)(rs:List Int):Nat->Int:=fun b=>if b<=m then rs.getD (m-b) 0 else 0
theorem Iu{fs gs os rs:List Int}{c:Int}{m n:Nat}(hm:fs.length=m+1)(hn:gs.length=n+1)(hnm:n<=m)(ho:os.length=m-n+1)(hr:rs.length=n)
 (h:∀x,Cv.evI fs x*((c:Int):Rat)=Cv.evI os x*Cv.evI gs x+Cv.evI rs x) (b:Nat) :
 c*tf fs b=rf m rs b+sumN (fun t=>os.getD (m-n-t) 0*sh t (tf gs) b) (m-n+1):=by
 by_cases hb:b<=m
 ·have e:=LL h (m-b)
  unfold cvI at e
  rw[ho,Jl]at e
  have e1:tf fs b=fs.getD (m-b) 0:=by unfold tf;rw[if_pos (by lia),hm,show m+1-1-b=m-b by lia]
  have e2:rf m rs b=rs.getD (m-b) 0:=if_pos hb
  rw[e1,e2,e,Int.add_comm]
  congr 1
  refine sum_congr fun t ht=>?_
  rw[show m-n+1-1-t=m-n-t by lia]
  congr 1
  unfold sh tf
  by_cases h1:b<t
  ·rw[if_pos h1,if_pos (by lia),T6,TL (by lia)];rfl
  ·rw[if_neg h1]
   by_cases h2:b-t<gs.length
   ·rw[if_pos h2,if_pos (by lia),show gs.length-1-(b-t)=m-b-(m-n-t) by lia]
   ·rw[if_neg h2,if_neg (by lia)]
 ·have e1:tf fs b=0:=if_neg (by lia)
  have e2:rf m rs b=0:=if_neg hb
  rw[e1,e2,sum_zero fun t ht=>?_]
  ·lia
  ·unfold sh tf
   rw[if_neg (by lia),if_neg (by lia)];lia
theorem N6{m n:Nat}{rs:List Int}(hr:rs.length=n){i:Nat}(hi:i<m-n+1)(hnm:n<=m):rf m rs i=0:=by
 unfold rf
 rw[if_pos (by lia),T6,TL (by lia)];rfl
structure LR(S:Nat->Nat->Int)(fs gs:List Int)(lead held:Int):Prop where
 fp:1<=fs.length
 srs:1<=gs.length->Srs S (fs.length-1) (gs.length-1) (tf fs) (tf gs) lead held
theorem Fh{l:List Int}{t:Int}(h:l[l.length-1]? = some t):tf l 0=t:=by
 have hl:=(RF.mp h).1
 unfold tf
 rw[if_pos (by lia),Tw,T6,h];rfl
theorem LR.first{fs gs:List Int}(hf:1<=fs.length)(hle:gs.length<=fs.length)(hg:∀t,gs[gs.length-1]? = some t->t≠0):LR (fun k j=>sub (fs.length-1) (gs.length-1) k (tf fs) (tf gs) j) fs gs 1 1 :=
 ⟨hf,fun h1=>Srs.first (by lia) (by
  have e:gs[gs.length-1]? = some (gs[gs.length-1]'(by lia)):=Te _
  rw[Fh e];exact hg _ e)⟩
theorem LR.next{S:Nat->Nat->Int}{fs gs os rs hs:List Int}{lead held held' g:Int}{w:Nat}(I:LR S fs gs lead held)(hg:gs[gs.length-1]? = some g)(hle:gs.length<=fs.length)(ho:os.length=fs.length+1-gs.length)(hr:rs.length=gs.length-1)
 (h:∀x,Cv.evI fs x*((g ^ os.length:Int):Rat)=Cv.evI os x*Cv.evI gs x+Cv.evI rs x) (hw:w<=rs.length) (hz:∀j,w<=j->rs.getD j 0=0) (hlast:1<=w->rs.getD (w-1) 0≠0)
 (hh:hs.length=w) (he:∀j,rs.getD j 0=lead*held ^ (fs.length-gs.length)*hs.getD j 0)
 (hd:(gs.length<fs.length/\g ^ (fs.length-gs.length)=held ^ (fs.length-gs.length-1)*held')\/(fs.length=gs.length/\held'=held)) (hd0:held'≠0):LR S gs hs g held':=by
 have hl:=(RF.mp hg).1
 refine⟨by lia,fun h1=>?_⟩
 obtain⟨m,hm⟩:∃m,fs.length=m+1:=⟨fs.length-1,by lia⟩
 obtain⟨n,hn⟩:∃n,gs.length=n+1:=⟨gs.length-1,by lia⟩
 obtain⟨l,hl'⟩:∃l,hs.length=l+1:=⟨hs.length-1,by lia⟩
 have s:=I.srs (by lia)
 rw[hm,hn,Ur,Ur]at s
 rw[hn,hl',Ur,Ur]
 have rows:=Iu hm hn (by lia) (by lia) (by lia) h
 have e0:=Fh hg
 have key:=s.next (l:=l) (h:=tf hs) (held':=held') (r:=rf m rs) (e:=fun t=>os.getD (m-n-t) 0) (by lia) (fun i hi=>?_) (fun b=>?_) (fun b=>?_) ?_ ?_ hd0
 ·rw[e0]at key;exact key
 ·unfold rf
  by_cases him:i<=m
  ·rw[if_pos him,hz _ (by lia)]
  ·exact if_neg him
 ·have:=rows b
  rw[show os.length=m-n+1 by lia]at this
  rw[e0];exact this
 ·rw[hm,hn,show m+1-(n+1)=m-n by lia]at he
  unfold rf tf
  by_cases hb:b<=l
  ·rw[if_pos (by lia),if_pos (by lia),he,show hs.length-1-b=m-(b+(m-l)) by lia]
  ·rw[if_neg (by lia),if_neg (by lia),Ux]
 ·intro z
  unfold tf at z
  rw[if_pos (by lia),Tw]at z
  have:=hlast (by lia)
  rw[he,show w-1=hs.length-1 by lia,z,Ux]at this
  exact this rfl
 ·rw[e0]
  rcases hd with ⟨d1,d2⟩ | ⟨d1,d2⟩
  ·left
   rw[hm,hn,show m+1-(n+1)=m-n by lia]at d2
   exact⟨by lia,d2⟩
  ·exact .inr ⟨by lia,d2⟩
theorem IL{l:List Int}{X:Nat}(h:∀t∈l,t.natAbs<=X)(b:Nat):(tf l b).natAbs<=X:=by
 unfold tf
 split
 ·rw[T6,Te (by lia)];exact h _ (Tf _)
 ·exact RM _
end L2
namespace L2
def Bh(d p:List Rat):Prop:=∃q:List Rat,∀x,Cv.ev p x=Cv.ev q x*Cv.ev d x
theorem Bh.refl(d:List Rat):Bh d d:=⟨[1],fun x=>by show _=(1+x*0)*_;grind⟩
theorem Bh.nil(d:List Rat):Bh d []:=⟨[],fun x=>by show(0:Rat)=0*_;grind⟩
theorem Bh.of{d p q r a b:List Rat}(h1:Bh d p)(h2:Bh d q)(h:∀x,Cv.ev r x=Cv.ev a x*Cv.ev p x+Cv.ev b x*Cv.ev q x):Bh d r:=by
 obtain⟨u,hu⟩:=h1
 obtain⟨v,hv⟩:=h2
 exact⟨AY (BB a u) (BB b v),fun x=>by rw[h,hu,hv,Bc,AE,AE];grind⟩
theorem Bh.less{d p r:List Rat}{c:Rat}(hc:c≠0)(h1:Bh d p)(h:∀x,Cv.ev r x*c=Cv.ev p x):Bh d r:=by
 obtain⟨u,hu⟩:=h1
 refine⟨u.map (· * c⁻¹),fun x=>?_⟩
 have e:=TH _ hc
 have:Cv.ev r x=Cv.ev r x*c*c⁻¹:=by rw[TF,e,TJ]
 rw[this,h,hu,Cv.ev_scale];grind
theorem Lr{p q:List Rat}(gp:B0 p)(gq:B0 q)(lp:p[p.length-1]? = some 1)(lq:q[q.length-1]? = some 1)(h1:Bh p q)(h2:Bh q p):p=q:=by
 have np:p≠[]:=fun z=>by rw[z]at lp;cases lp
 have nq:q≠[]:=fun z=>by rw[z]at lq;cases lq
 have key:∀{p q:List Rat},B0 p->B0 q->p≠[]->q≠[]->Bh p q->∃a:List Rat,B0 a/\a≠[]/\q=BB a p/\q.length=a.length+p.length-1:=by
  intro p q gp gq np nq h
  obtain⟨u,hu⟩:=h
  have na:Cv.strip u≠[]:=fun z=>by
   have:q=[]:=BD gq (.inl rfl) fun x=>by rw[hu,<- Cv.ev_strip,z];show(0:Rat)*_=0;grind
   exact nq this
  have eq:q=BB (Cv.strip u) p:=BD gq (Dy (AL u) gp na np) fun x=>by rw[AE,Cv.ev_strip,hu]
  refine⟨_,AL u,na,eq,?_⟩
  have l1:=SN.mpr na
  have l2:=SN.mpr np
  rw[eq,By p l2 _ l1]
 obtain⟨a,ga,na,ea,la⟩:=key gp gq np nq h1
 obtain⟨b,_,nb,_,lb⟩:=key gq gp nq np h2
 have l1:=SN.mpr na
 have l2:=SN.mpr nb
 have l3:=SN.mpr np
 match a,l1,la,lb,ea with
 | [c],_,la,_,ea =>
   have e:=DI p 1 lp [c] c rfl
   have hl:q.length-1=[c].length+p.length-2:=by rw[la];simp only[SO,TM];lia
   rw[<- ea,<- hl,lq]at e
   have hc:c=1:=by have:=Rl.inj e;grind
   refine BD gp gq fun x=>?_
   rw[ea,AE,hc]
   show _=(1+x*0)*_
   grind
 | c::c'::a,_,la,lb,_=>exact absurd lb (by simp only[SO]at la;lia)
def Com(A B F G:List Rat):Prop:=∀d,(Bh d A/\Bh d B)↔(Bh d F/\Bh d G)
theorem Com.refl(A B:List Rat):Com A B A B:=fun _=>Iff.rfl
theorem Com.turn(A B:List Rat):Com A B B A:=fun _=>And.comm
theorem Com.trans{A B F G P Q:List Rat}(h1:Com A B F G)(h2:Com F G P Q):Com A B P Q:=fun d=>(h1 d).trans (h2 d)
abbrev cst(l:List Int):List Rat:=l.map fun t:Int=>(t:Rat)
theorem Com.step{fs gs os rs hs:List Int}{c φ:Int}(hc:c≠0)(hφ:φ≠0)(h:∀x,Cv.evI fs x*((c:Int):Rat)=Cv.evI os x*Cv.evI gs x+Cv.evI rs x)(hr:∀x,Cv.evI rs x=((φ:Int):Rat)*Cv.evI hs x):Com (cst fs) (cst gs) (cst gs) (cst hs):=fun d=>by
 have hc':=Nm.cast_ne hc
 have hφ':=Nm.cast_ne hφ
 constructor
 ·rintro⟨h1,h2⟩
  refine⟨h2,?_⟩
  have i1:Bh d (cst rs):=Bh.of (a:=[(c:Rat)]) (b:=(cst os).map (· * (-1))) h1 h2 fun x=>by
   have:=h x
   show Cv.evI rs x=((c:Rat)+x*0)*Cv.evI fs x+_
   rw[Cv.ev_scale]
   show Cv.evI rs x=((c:Rat)+x*0)*Cv.evI fs x+Cv.evI os x * -1*Cv.evI gs x
   grind
  exact Bh.less hφ' i1 fun x=>by
   have:=hr x
   show Cv.evI hs x*(φ:Rat)=Cv.evI rs x
   grind
 ·rintro⟨h1,h2⟩
  refine⟨?_,h1⟩
  have i1:Bh d (BB [(c:Rat)] (cst fs)):=Bh.of (a:=cst os) (b:=[(φ:Rat)]) h1 h2 fun x=>by
   have e1:=h x
   have e2:=hr x
   rw[AE]
   show((c:Rat)+x*0)*Cv.evI fs x=Cv.evI os x*Cv.evI gs x+((φ:Rat)+x*0)*Cv.evI hs x
   grind
  exact Bh.less hc' i1 fun x=>by
   rw[AE]
   show Cv.evI fs x*(c:Rat)=((c:Rat)+x*0)*Cv.evI fs x
   grind
theorem Com.scale{A A' B B':List Rat}{a b:Rat}(ha:a≠0)(hb:b≠0)(h1:∀x,Cv.ev A' x=Cv.ev A x*a)(h2:∀x,Cv.ev B' x=Cv.ev B x*b):Com A B A' B':=fun d=>by
 have up:∀{P P':List Rat} {c:Rat},(∀x,Cv.ev P' x=Cv.ev P x*c)->Bh d P->Bh d P':=fun{P P' c} h ⟨u,hu⟩=>⟨u.map (· * c),fun x=>by rw[h,hu,Cv.ev_scale];grind⟩
 exact⟨fun⟨x,y⟩=>⟨up h1 x,up h2 y⟩,fun⟨x,y⟩=>⟨Bh.less ha x fun z=>(h1 z).symm,Bh.less hb y fun z=>(h2 z).symm⟩⟩
structure IG(A B p:List Rat):Prop where
 good:B0 p
 mono:p[p.length-1]? = some 1
 is:∀d,(Bh d A/\Bh d B)↔Bh d p
theorem IG.into{A B p:List Rat}(h:IG A B p):Bh p A/\Bh p B:=(h.is p).mpr (Bh.refl p)
theorem IG.of{A B F p:List Rat}{c:Rat}(hc:c≠0)(h:Com A B F [])(g:B0 p)(m:p[p.length-1]? = some 1)(e:∀x,Cv.ev p x*c=Cv.ev F x):IG A B p :=
 ⟨g,m,fun d=>(h d).trans ⟨fun⟨x,_⟩=>Bh.less hc x e,fun x=>⟨Bh.of (a:=[c]) (b:=[]) x (Bh.nil d) fun z=>by
  rw[<- e]
  show _=(c+z*0)*_+0*_
  grind,Bh.nil d⟩⟩⟩
end L2
namespace L2
open Dt
def DL(l:List Int):Prop:=∀t,l[l.length-1]? = some t->t≠0
def PD(l:List Int):Prop:=∃D:Nat->Int,D 0≠0/\(∀j,Bd 45100 (D j))/\∀j,tf l j*D 0=D j*tf l 0
structure LRI(S:Nat->Nat->Int)(fs gs fs' gs':List Int)(lead held:Int)(B d0:Nat):Prop where
 lr:LR S fs' gs' lead held
 le:gs'.length<=fs'.length
 l8:fs'.length<=8
 t1:DL fs'
 t2:DL gs'
 com:Com (cst fs) (cst gs) (cst fs') (cst gs')
 bf:∀t∈fs',Bd B t
 bg:∀t∈gs',Bd B t
 bl:Bd (B+1) lead
 bh:Bd (B*d0+1) held
 d8:d0+fs'.length<=8
 bb:B+1<=3 ^ (9-fs'.length)*3001
 b3:fs'.length=gs'.length->B<=3000
 pd:PD fs'
section
variable {S:Nat->Nat->Int}{fs gs fs' gs':List Int}{lead held:Int}{B d0:Nat}
theorem Ht(x:Rat):∀(l m:List Rat),(∀j,l.getD j 0=m.getD j 0)->Cv.ev l x=Cv.ev m x
 | [],[],_=>rfl
 | [],b::m,h=>by
   have ih:=Ht x [] m fun j=>by have:=h (j+1);simpa using this
   have h0:=h 0
   have e:(0:Rat)=b:=by simpa using h0
   show(0:Rat)=b+x*Cv.ev m x
   rw[<- ih,<- e];show(0:Rat)=0+x*0;grind
 | a::l,[],h=>by
   have ih:=Ht x l [] fun j=>by have:=h (j+1);simpa using this
   have h0:=h 0
   have e:a=(0:Rat):=by simpa using h0
   show a+x*Cv.ev l x=0
   rw[ih,e];show(0:Rat)+x*0=0;grind
 | a::l,b::m,h=>by
   have ih:=Ht x l m fun j=>by have:=h (j+1);simpa using this
   have h0:=h 0
   have e:a=b:=by simpa using h0
   show a+x*Cv.ev l x=b+x*Cv.ev m x
   rw[ih,e]
end
end L2
namespace L2
open Dt
theorem Iv:∀{n:Nat} {M:Nat->Nat->Int} {W j:Nat},n+1<=31->(∀a b,(M a b).natAbs<=2 ^ W)->(det n M j).natAbs<=2 ^ ((n+1)*(W+5))
 | 0,M,W,j,_,h=>by
   show(M 0 j).natAbs<=_
   exact Rw (h 0 j) (Tg (by decide) (by lia))
 | n+1,M,W,j,hn,h=>by
   have e:(det (n+1) M j).natAbs<=(n+2)*(2 ^ W*2 ^ ((n+1)*(W+5))):=sum_abs fun i hi=>by
    have ih:=Iv (n:=n) (M:=fun a b=>M (skip i a) (b+1)) (W:=W) (j:=j) (by lia) fun a b=>h _ _
    have s1:(sg i).natAbs=1:=by unfold sg;split<;>rfl
    rw[Tj,Tj,s1,Ts]
    exact UA (h i 0) ih
   refine Rw e ?_
   have p:(n+1+1)*(W+5)=5+(W+(n+1)*(W+5)):=by rw[Tr (n+1) 1];lia
   rw[p,Tn,<- Tn 2 W]
   exact Tt _ (by lia)
def PDX(X:Nat)(l:List Int):Prop:=∃D:Nat->Int,D 0≠0/\(∀j,Bd X (D j))/\∀j,tf l j*D 0=D j*tf l 0
structure LRJ(S:Nat->Nat->Int)(fs gs fs' gs':List Int)(lead held:Int)(X:Nat):Prop where
 lr:LR S fs' gs' lead held
 le:gs'.length<=fs'.length
 l10:fs'.length<=10
 t1:DL fs'
 t2:DL gs'
 com:Com (cst fs) (cst gs) (cst fs') (cst gs')
 bf:∀t∈fs',Bd X t
 bg:∀t∈gs',Bd X t
 bl:Bd X lead
 bh:Bd X held
theorem Mp{l:List Int}{X:Nat}(h1:1<=l.length)(ht:DL l)(hb:∀t∈l,Bd X t):PDX X l:=by
 have e:l[l.length-1]? = some (l[l.length-1]'(by lia)):=Te _
 refine⟨tf l,by rw[Fh e];exact ht _ e,fun j=>?_,fun j=>rfl⟩
 have p0:0<2 ^ X:=Tq (by decide)
 have:=IL (l:=l) (X:=2 ^ X-1) (fun t ht=>by have:=hb t ht;unfold Bd at this;lia) j
 unfold Bd
 lia
section
variable {S:Nat->Nat->Int}{fs gs fs' gs':List Int}{lead held:Int}{X:Nat}
theorem _root_.Dt.Srs.rest_is{S:Nat->Nat->Int}{m n:Nat}{f g r:Nat->Int}{e:Nat->Int}{lead held:Int}(I:Srs S m n f g lead held)(hn:0<n)(hr0:∀i,i<m-n+1->r i=0)(hf:∀b,g 0 ^ (m-n+1)*f b=r b+sumN (fun t=>e t*sh t g b) (m-n+1))(j:Nat) :
 ∃c:Int,r (j+(m-n+1))=lead*held ^ (m-n)*c/\(c=S (n-1) j\/c = - S (n-1) j):=by
 obtain⟨s,hs,h⟩:=I.is (n-1) (by lia)
 replace h:=h j
 rw[sub_rest I.le hn I.g0 hr0 hf,show n-(n-1)=1 by lia,Int.pow_one,show m-(n-1)-1=m-n by have:=I.le;lia]at h
 rcases hs with rfl | rfl
 ·exact⟨S (n-1) j,by grind,.inl rfl⟩
 ·exact⟨- S (n-1) j,by grind,.inr rfl⟩
theorem _root_.Dt.Srs.more_is{S:Nat->Nat->Int}{m n:Nat}{f g:Nat->Int}{lead held:Int}(I:Srs S m n f g lead held)(h:n<m):∃q:Int,g 0 ^ (m-n)=held ^ (m-n-1)*q/\q≠0/\(q=S n 0\/q = - S n 0):=by
 obtain⟨s,hs,e⟩:=I.is n (RK _)
 replace e:=e 0
 rw[sub_one h,TQ,Tx,Sy,<- Tz,show(m-n-1).succ=m-n by lia]at e
 have e':g 0 ^ (m-n)=held ^ (m-n-1)*(s*S n 0):=by rcases hs with rfl | rfl<;>grind
 refine⟨_,e',fun z=>?_,by rcases hs with rfl | rfl<;>grind⟩
 rw[z,Ux]at e'
 exact absurd e' (Ut I.g0)
theorem JR{X:Nat}{c d:Int}(h:Bd X d)(e:c=d\/c = -d):Bd X c:=by
 unfold Bd at *
 rcases e with rfl | rfl
 ·exact h
 ·rw[Int.natAbs_neg];exact h
end
end L2
namespace L2
theorem FA:∀os:List Rat,(prL os).getD os.length 0=1
 | []=>rfl
 | o::os=>by
   have ih:=FA os
   show(AY ((prL os).map (· * -o)) (0::AY ((prL os).map (· * 1)) (0::[]))).getD (os.length+1) 0=1
   rw[Bo,AW]
   have e1:(prL os).getD (os.length+1) 0=0:=by
    rw[T6,TL (by rw[BN];lia)];rfl
   show _+(AY ((prL os).map (· * 1)) (0::[])).getD os.length 0=1
   rw[Bo,AW,e1,ih]
   have e:([0]:List Rat).getD os.length 0=0:=by match os.length with | 0=>rfl | k+1=>rfl
   rw[e];grind
theorem J9(c:Rat)(os:List Rat):∃A:List Rat,∀x,Cv.ev A x=c*prV x os:=⟨(prL os).map (· * c),fun x=>by rw[Cv.ev_scale,C7,UB]⟩
theorem CK{A B:List Rat}{p:Rat}(h:∀x,(x-p)*Cv.ev A x=(x-p)*Cv.ev B x)(x:Rat):Cv.ev A x=Cv.ev B x:=by
 have key:Cv.strip (AY A (B.map (· * (-1))))=[]:=by
  by_cases hD:Cv.strip (AY A (B.map (· * (-1))))=[]
  ·exact hD
  exfalso
  have gM:B0 (BB [-p,1] (Cv.strip (AY A (B.map (· * (-1)))))):=Dy (.inr ⟨1,rfl,by decide⟩) (AL _) (by simp) hD
  have e:=BD gM (.inl rfl:B0 []) fun x=>by
   rw[AE,Cv.ev_strip,Bc,Cv.ev_scale]
   have:=h x
   show(-p+x*(1+x*0))*_=0
   grind
  have l:=By (Cv.strip (AY A (B.map (· * (-1))))) (SN.mpr hD) [-p,1] (by simp)
  rw[e]at l
  have:=SN.mpr hD
  simp only[TM,SO]at l
  lia
 have z:Cv.ev (Cv.strip (AY A (B.map (· * (-1))))) x=0:=by rw[key];rfl
 rw[Cv.ev_strip,Bc,Cv.ev_scale]at z
 grind
theorem Bh.cancel{d G A:List Rat}{p:Rat}(h:Bh d G)(hG:∀x,Cv.ev G x=(x-p)*Cv.ev A x)(hd:Cv.ev d p≠0):Bh d A:=by
 obtain⟨u,hu⟩:=h
 have z:Cv.ev u p=0:=by
  have:=hu p
  rw[hG,show p-p=(0:Rat) by grind,UC]at this
  rcases SY.mp this.symm with y | y
  ·exact y
  ·exact absurd y hd
 have hv:∀x,Cv.ev u x=(x-p)*Cv.ev (quo p u) x:=fun x=>by rw[DU p x u,z];grind
 refine⟨quo p u,fun x=>?_⟩
 have e:=CK (A:=A) (B:=BB (quo p u) d) (p:=p) (fun x=>by rw[AE,<- hG,hu,hv];grind) x
 rw[e,AE]
theorem Bh.lines{d:List Rat}{c:Rat}(hc:c≠0):∀{os G:List Rat},Bh d G->(∀x,Cv.ev G x=c*prV x os)->(∀o∈os,Cv.ev d o≠0)->Bh d [1]
 | [],G,h,hG,_=>Bh.less hc h fun x=>by rw[hG];show(1+x*0)*c=c*1;grind
 | o::os,G,h,hG,hd=>by
   have A:=J9 c os
   obtain⟨A,hA⟩:=A
   exact Bh.lines hc (G:=A) (Bh.cancel h (A:=A) (p:=o) (fun x=>by rw[hG,hA];show c*((x-o)*prV x os)=_;grind) (hd o Rz)) hA fun o' ho'=>hd o' (RA _ ho')
end L2
namespace L2
def Cop(A B:List Rat):Prop:=∃u v,∀x,Cv.ev u x*Cv.ev A x+Cv.ev v x*Cv.ev B x=1
theorem HB{D A B:List Rat}(hD:Cv.strip D≠[])(h:∀x,Cv.ev D x*Cv.ev A x=Cv.ev D x*Cv.ev B x)(x:Rat):Cv.ev A x=Cv.ev B x:=by
 have key:Cv.strip (AY A (B.map (· * (-1))))=[]:=by
  by_cases hE:Cv.strip (AY A (B.map (· * (-1))))=[]
  ·exact hE
  exfalso
  have gM:=Dy (AL D) (AL (AY A (B.map (· * (-1))))) hD hE
  have e:=BD gM (.inl rfl:B0 []) fun x=>by
   rw[AE,Cv.ev_strip,Cv.ev_strip,Bc,Cv.ev_scale]
   have:=h x
   show _=(0:Rat)
   grind
  have l:=By (Cv.strip (AY A (B.map (· * (-1))))) (SN.mpr hE) (Cv.strip D) (SN.mpr hD)
  rw[e]at l
  have:=SN.mpr hE
  have:=SN.mpr hD
  simp only[TM]at l
  lia
 have z:Cv.ev (Cv.strip (AY A (B.map (· * (-1))))) x=0:=by rw[key];rfl
 rw[Cv.ev_strip,Bc,Cv.ev_scale]at z
 grind
def pw(d:List Rat):Nat->List Rat
 | 0=>[1]
 | n+1=>BB (pw d n) d
end L2
namespace L2
structure Kn(f l g:List Rat):Prop where
 gg:B0 g
 mono:g[g.length-1]? = some 1
 fe:∀x,Cv.ev f x=Cv.ev l x*Cv.ev g x
 un:∃u,(∀x,Cv.ev (dL f) x=Cv.ev g x*Cv.ev u x)/\Cop l u
end L2
namespace L2
open PySem PySem.Spec PyProof.Rows
section
variable {X:Cx}{e:Expr}{es:List Expr}{te:TE}{t:TA}{pos:Pos}
@[irreducible] def PEk(X:Cx)(e:Expr)(te:TE):Prop:=PE X e te
@[irreducible] def PAk(X:Cx)(es:List Expr)(t:TA):Prop:=PA X es t
theorem pek(h:PE X e te):PEk X e te:=by unfold PEk;exact h
end
end L2
namespace L2
theorem D3:∀(qs:List Rat) {l:List Rat},qs.Nodup->l.length<=qs.length->(∀q∈qs,Cv.ev l q=0)->∀x,Cv.ev l x=0
 | [],l,_,hl,_,x=>by
   have:l=[]:=SX (Nat.le_zero.mp hl)
   rw[this];rfl
 | c::r,l,hn,hl,h,x=>by
   rw[RV]at hn
   have h0:=h c (Rz ..)
   have e:∀x,Cv.ev l x=(x-c)*Cv.ev (quo c l) x:=fun x=>by rw[DU c x l,h0,Rat.zero_add]
   have hl':l.length<=r.length+1:=hl
   have ih:=D3 r (l:=quo c l) hn.2 (by rw[D7];lia) fun q hq=>by
    have hq0:=h q (RA _ hq)
    rw[e q]at hq0
    rcases SY.mp hq0 with z | z
    ·exact absurd (show q=c by grind) fun z=>hn.1 (z ▸ hq)
    ·exact z
   rw[e x,ih x,UD]
theorem CC:∀(l:List Rat) (a:Nat),(∀j,a<=j->l.getD j 0=0)->∀x,Cv.ev (l.take a) x=Cv.ev l x
 | [],a,_,x=>by rw[List.take_nil]
 | q::r,0,h,x=>by
   show(0:Rat)=q+x*Cv.ev r x
   have h0:q=0:=h 0 (RK _)
   have ih:=CC r 0 (fun j _=>h (j+1) (RM _)) x
   rw[TR]at ih
   have ih:(0:Rat)=Cv.ev r x:=ih
   rw[h0,<- ih,UD,Rat.add_zero]
 | q::r,a+1,h,x=>by
   show q+x*Cv.ev (r.take a) x=q+x*Cv.ev r x
   rw[CC r a (fun j hj=>h (j+1) (Nat.succ_le_succ hj)) x]
theorem Fz{N D:List Rat}{a b k:Nat}(hN:∀j,a<=j->N.getD j 0=0)(hD:∀j,b<=j->D.getD j 0=0)(h:a=0\/b=0\/a+b<=k+1):∃l:List Rat,l.length<=k/\∀x,Cv.ev l x=Cv.ev N x*Cv.ev D x:=by
 have eN:=CC N a hN
 have eD:=CC D b hD
 by_cases z:(N.take a).length=0\/(D.take b).length=0
 ·refine⟨[],RM _,fun x=>?_⟩
  show(0:Rat)=_
  rcases z with z | z
  ·rw[<- eN,SX z];show _=0*_;rw[UC]
  ·rw[<- eD,SX z];show _=_*0;rw[UD]
 ·have h1:(N.take a).length<=a:=by rw[RY];lia
  have h2:(D.take b).length<=b:=by rw[RY];lia
  refine⟨BB (N.take a) (D.take b),?_,fun x=>by rw[AE,eN,eD]⟩
  rw[By _ (by lia) _ (by lia)]
  lia
def Dk(w v r:Int)(N D:List Rat):Prop:=(∀j:Nat,r<2*((j:Int)+1-w)->N.getD j 0=0)/\(∀j:Nat,r<2*((j:Int)+1-v)+1->D.getD j 0=0)
def CN(w v r:Int)(N D:List Rat):Prop:=(∃j:Nat,2*((j:Int)+1-w)=r/\N.getD j 0≠0)\/(∃j:Nat,2*((j:Int)+1-v)+1=r/\D.getD j 0≠0)
theorem DF{w v r1 r2:Int}{N D:List Rat}{n k:Nat}(hN:∀j:Nat,r1<2*((j:Int)+1-w)->N.getD j 0=0)(hD:∀j:Nat,r2<2*((j:Int)+1-v)+1->D.getD j 0=0)(hw:w+v=n+1)(hr:r1+r2<=2*(k:Int)-2*n+2):∃l:List Rat,l.length<=k/\∀x,Cv.ev l x=Cv.ev N x*Cv.ev D x:=by
 refine Fz (a:=(r1 / 2+w).toNat) (b:=((r2-1) / 2+v).toNat) (fun j hj=>hN j ?_) (fun j hj=>hD j ?_) ?_
 ·lia
 ·lia
 ·lia
theorem FT{w v r1 r2:Int}{N1 D1 N2 D2 qs:List Rat}{n:Nat}(h1:Dk w v r1 N1 D1)(h2:Dk w v r2 N2 D2)(hw:w+v=n+1)(hr:r1+r2<=2*(qs.length:Int)-2*n+2)(hn:qs.Nodup)(h:∀q∈qs,Cv.ev N1 q*Cv.ev D2 q=Cv.ev N2 q*Cv.ev D1 q)(x:Rat):Cv.ev N1 x*Cv.ev D2 x=Cv.ev N2 x*Cv.ev D1 x:=by
 obtain⟨l1,hl1,e1⟩:=DF (k:=qs.length) h1.1 h2.2 hw hr
 obtain⟨l2,hl2,e2⟩:=DF (k:=qs.length) h2.1 h1.2 hw (by lia)
 have e:∀x,Cv.ev (AY l1 (l2.map (· * (-1)))) x=Cv.ev N1 x*Cv.ev D2 x-Cv.ev N2 x*Cv.ev D1 x:=fun x=>by
  rw[Bc,Cv.ev_scale,e1,e2];grind
 have:=D3 qs (l:=AY l1 (l2.map (· * (-1)))) hn (by rw[Bz,S7];lia) (fun q hq=>by rw[e,h q hq];grind) x
 rw[e]at this
 grind
theorem GB{l:List Rat}{a j:Nat}(h:j<a):(l.take a).getD j 0=l.getD j 0:=by
 rw[T6,T6,UE,if_pos h]
theorem Jk{l:List Rat}{j:Nat}(h:l.getD j 0≠0):j<l.length:=by
 rcases UG j l.length with z | z
 ·exact z
 ·exact absurd (by rw[T6,TL z];rfl) h
theorem Jz{N1 D2 N2 D1:List Rat}{j i a b:Nat}(hj:N1.getD j 0≠0)(hi:D2.getD i 0≠0)(h1:∀t,j<t->N1.getD t 0=0)(h2:∀t,i<t->D2.getD t 0=0)(ha:∀t,a<=t->N2.getD t 0=0)(hb:∀t,b<=t->D1.getD t 0=0)(hab:a=0\/b=0\/a+b<=j+i+1):¬ ∀x,Cv.ev N1 x*Cv.ev D2 x=Cv.ev N2 x*Cv.ev D1 x:=fun h=>by
 obtain⟨l,hl,el⟩:=Fz (k:=j+i) ha hb hab
 have lj:=Jk hj
 have li:=Jk hi
 have n1:(N1.take (j+1)).length=j+1:=by rw[RY];lia
 have n2:(D2.take (i+1)).length=i+1:=by rw[RY];lia
 have g:∀{q:List Rat} {t:Nat},t<q.length->q[t]? = some (q.getD t 0):=fun{q t} ht=>by rw[T6,Te ht];rfl
 have m1:=DI (D2.take (i+1)) (D2.getD i 0) (by rw[n2,Ur,g (by lia),GB (by lia)]) (N1.take (j+1)) (N1.getD j 0) (by rw[n1,Ur,g (by lia),GB (by lia)])
 have e:=Ei (l:=BB (N1.take (j+1)) (D2.take (i+1))) (m:=l) (fun k=>by rw[el,<- h,AE,CC N1 (j+1) fun t ht=>h1 t (by lia),CC D2 (i+1) fun t ht=>h2 t (by lia)]) (j+i)
 have e2:l.getD (j+i) 0=0:=by rw[T6,TL hl];rfl
 rw[n1,n2,show j+1+(i+1)-2=j+i by lia]at m1
 rw[e2,T6,m1]at e
 rcases SY.mp (show D2.getD i 0*N1.getD j 0=0 from e) with z | z
 ·exact hi z
 ·exact hj z
theorem LO{w v r1 r2:Int}{N1 D1 N2 D2:List Rat}(h1:Dk w v r1 N1 D1)(h2:Dk w v r2 N2 D2)(t1:CN w v r1 N1 D1)(t2:CN w v r2 N2 D2)(hp:(r1+r2) % 2=1):¬ ∀x,Cv.ev N1 x*Cv.ev D2 x=Cv.ev N2 x*Cv.ev D1 x:=by
 rcases t1 with ⟨j,ej,hj⟩ | ⟨j,ej,hj⟩
 ·rcases t2 with ⟨i,ei,hi⟩ | ⟨i,ei,hi⟩
  ·lia
  ·exact Jz (a:=(r2 / 2+w).toNat) (b:=((r1-1) / 2+v).toNat) hj hi (fun t ht=>h1.1 t (by lia)) (fun t ht=>h2.2 t (by lia)) (fun t ht=>h2.1 t (by lia)) (fun t ht=>h1.2 t (by lia)) (by lia)
 ·rcases t2 with ⟨i,ei,hi⟩ | ⟨i,ei,hi⟩
  ·exact fun h=>Jz (a:=(r1 / 2+w).toNat) (b:=((r2-1) / 2+v).toNat) hi hj (fun t ht=>h2.1 t (by lia)) (fun t ht=>h1.2 t (by lia)) (fun t ht=>h1.1 t (by lia)) (fun t ht=>h2.2 t (by lia)) (by lia) fun x=>(h x).symm
  ·lia
structure Cb(w v:Int)(n:Nat)(ps:List (Rat×Rat))(r1 r2:Int)(N1 D1 N2 D2:List Rat):Prop where
 le1:Dk w v r1 N1 D1
 top1:CN w v r1 N1 D1
 le2:Dk w v r2 N2 D2
 top2:CN w v r2 N2 D2
 lt:r1<r2
 sum:r1+r2=2*(ps.length:Int)-2*n+3
 on1:∀q∈ps,Cv.ev N1 q.1=q.2*Cv.ev D1 q.1
 on2:∀q∈ps,Cv.ev N2 q.1=q.2*Cv.ev D2 q.1
section
variable {w v:Int}{n:Nat}{ps:List (Rat×Rat)}{r1 r2:Int}{N1 D1 N2 D2:List Rat}
theorem Cb.ne(I:Cb w v n ps r1 r2 N1 D1 N2 D2):¬ ∀x,Cv.ev N1 x*Cv.ev D2 x=Cv.ev N2 x*Cv.ev D1 x:=LO I.le1 I.le2 I.top1 I.top2 (by have:=I.sum;lia)
theorem Cb.some(I:Cb w v n ps r1 r2 N1 D1 N2 D2)(hw:w+v=n+1){x y:Rat}(hn:((ps++[(x,y)]).map Prod.fst).Nodup):¬(Cv.ev N1 x=y*Cv.ev D1 x/\Cv.ev N2 x=y*Cv.ev D2 x):=fun⟨h1,h2⟩=>by
 refine I.ne fun t=>FT (qs:=(ps++[(x,y)]).map Prod.fst) I.le1 I.le2 hw ?_ hn (fun q hq=>?_) t
 ·have:=I.sum
  rw[S7,S6,Sk]
  lia
 ·obtain⟨p,hp,rfl⟩:=U4.mp hq
  rcases RD.mp hp with z | z
  ·rw[I.on1 p z,I.on2 p z];grind
  ·rw[Td.mp z]
   show Cv.ev N1 x*Cv.ev D2 x=Cv.ev N2 x*Cv.ev D1 x
   rw[h1,h2];grind
theorem Cb.least(I:Cb w v n ps r1 r2 N1 D1 N2 D2)(hw:w+v=n+1)(hn:(ps.map Prod.fst).Nodup){r:Int}{N D:List Rat}(hr:r<r1)(hle:Dk w v r N D)(hon:∀q∈ps,Cv.ev N q.1=q.2*Cv.ev D q.1):∀x,Cv.ev N x=0/\Cv.ev D x=0:=by
 have hs:=I.sum
 have hlt:=I.lt
 have d1:=FT (qs:=ps.map Prod.fst) hle I.le1 hw (by rw[S7];lia) hn fun q hq=>by
  obtain⟨p,hp,rfl⟩:=U4.mp hq
  rw[hon p hp,I.on1 p hp];grind
 have d2:=FT (qs:=ps.map Prod.fst) hle I.le2 hw (by rw[S7];lia) hn fun q hq=>by
  obtain⟨p,hp,rfl⟩:=U4.mp hq
  rw[hon p hp,I.on2 p hp];grind
 have cut:∀{L:List Rat},Cv.strip L=[]->∀x,Cv.ev L x=0:=fun{L} h x=>by rw[<- Cv.ev_strip,h];rfl
 by_cases zD:Cv.strip D=[]
 ·have zD:=cut zD
  by_cases zN:Cv.strip N=[]
  ·exact fun x=>⟨cut zN x,zD x⟩
  ·exfalso
   have z1:∀x,Cv.ev D1 x=0:=fun x=>by
    have:=HB (D:=N) (A:=D1) (B:=[]) zN (fun x=>by rw[d1 x,zD x,UD];show(0:Rat)=_*0;rw[UD]) x
    exact this
   have z2:∀x,Cv.ev D2 x=0:=fun x=>by
    have:=HB (D:=N) (A:=D2) (B:=[]) zN (fun x=>by rw[d2 x,zD x,UD];show(0:Rat)=_*0;rw[UD]) x
    exact this
   exact I.ne fun x=>by rw[z1 x,z2 x,UD,UD]
 ·exfalso
  refine I.ne fun x=>?_
  have:=HB (D:=D) (A:=BB N1 D2) (B:=BB N2 D1) zD (fun x=>by
   rw[AE,AE]
   have a:=d1 x
   have b:=d2 x
   have e1:Cv.ev D x*(Cv.ev N1 x*Cv.ev D2 x)=(Cv.ev N1 x*Cv.ev D x)*Cv.ev D2 x:=by grind
   have e2:Cv.ev D x*(Cv.ev N2 x*Cv.ev D1 x)=(Cv.ev N2 x*Cv.ev D x)*Cv.ev D1 x:=by grind
   rw[e1,e2,<- a,<- b];grind) x
  rw[AE,AE]at this
  exact this
end
theorem Hs:∀{l m:List Rat},(∀j,l.getD j 0=m.getD j 0)->∀x,Cv.ev l x=Cv.ev m x
 | [],m,h,x=>by
   show(0:Rat)=_
   rw[Cv.ev_none]
   intro q hq
   obtain⟨j,hj,rfl⟩:=Ti hq
   have:=h j
   rw[T6,T6,Te hj]at this
   exact this.symm
 | a::l,[],h,x=>by
   show _=(0:Rat)
   rw[Cv.ev_none]
   intro q hq
   obtain⟨j,hj,rfl⟩:=Ti hq
   have:=h j
   rw[T6,T6,Te hj]at this
   exact this
 | a::l,b::m,h,x=>by
   show a+x*Cv.ev l x=b+x*Cv.ev m x
   rw[show a=b from h 0,Hs (l:=l) (m:=m) (fun j=>h (j+1)) x]
def Shf(c d:Rat)(L L':List Rat):Prop:=∀j:Nat,L'.getD j 0=d*(if j=0 then 0 else L.getD (j-1) 0)-c*L.getD j 0
theorem Shf.ev{c d:Rat}{L L':List Rat}(h:Shf c d L L')(x:Rat):Cv.ev L' x=(d*x-c)*Cv.ev L x:=by
 have e:Cv.ev L' x=Cv.ev (AY ((0::L).map (· * d)) (L.map (· * (-c)))) x:=Hs (fun j=>by
  rw[h j,Bo,AW,AW]
  cases j with
  | zero=>show d*(if 0=0 then 0 else _)-c*_=0*d+_;rw[if_pos rfl];grind
  | succ j=>show d*(if j+1=0 then 0 else L.getD (j+1-1) 0)-c*_=L.getD j 0*d+_;rw[if_neg (by lia),Ur];grind) x
 rw[e,Bc,Cv.ev_scale,Cv.ev_scale]
 show(0+x*Cv.ev L x)*d+_=_
 grind
def Mix(m a b:Rat)(A B L':List Rat):Prop:=∀j:Nat,m*L'.getD j 0=a*B.getD j 0-b*A.getD j 0
theorem Mix.ev{m a b:Rat}{A B L':List Rat}(h:Mix m a b A B L')(x:Rat):m*Cv.ev L' x=a*Cv.ev B x-b*Cv.ev A x:=by
 have e:Cv.ev (L'.map (· * m)) x=Cv.ev (AY (B.map (· * a)) (A.map (· * (-b)))) x:=Hs (fun j=>by
  rw[AW,Bo,AW,AW]
  have:=h j
  grind) x
 rw[Bc,Cv.ev_scale,Cv.ev_scale,Cv.ev_scale]at e
 grind
theorem Dk.shift{w v r:Int}{c d:Rat}{N D N' D':List Rat}(h:Dk w v r N D)(hN:Shf c d N N')(hD:Shf c d D D'):Dk w v (r+2) N' D':=by
 refine⟨fun j hj=>?_,fun j hj=>?_⟩
 ·rw[hN j,h.1 j (by lia)]
  by_cases z:j=0
  ·rw[if_pos z];grind
  ·rw[if_neg z,h.1 (j-1) (by lia)];grind
 ·rw[hD j,h.2 j (by lia)]
  by_cases z:j=0
  ·rw[if_pos z];grind
  ·rw[if_neg z,h.2 (j-1) (by lia)];grind
theorem CN.shift{w v r:Int}{c d:Rat}{N D N' D':List Rat}(h:CN w v r N D)(hle:Dk w v r N D)(hd:d≠0)(hN:Shf c d N N')(hD:Shf c d D D'):CN w v (r+2) N' D':=by
 have key:∀{y:Rat},y≠0->d*y-c*0≠0:=fun{y} hy e=>by
  have:d*y=0:=by grind
  rcases SY.mp this with z | z
  ·exact hd z
  ·exact hy z
 rcases h with ⟨j,e,hj⟩ | ⟨j,e,hj⟩
 ·refine .inl ⟨j+1,by lia,?_⟩
  rw[hN (j+1),if_neg (by lia),Ur,hle.1 (j+1) (by lia)]
  exact key hj
 ·refine .inr ⟨j+1,by lia,?_⟩
  rw[hD (j+1),if_neg (by lia),Ur,hle.2 (j+1) (by lia)]
  exact key hj
theorem Mix.zero{m a b:Rat}{A B L':List Rat}(h:Mix m a b A B L')(hm:m≠0){j:Nat}(hA:A.getD j 0=0)(hB:B.getD j 0=0):L'.getD j 0=0:=by
 have:=h j
 rw[hA,hB]at this
 rcases SY.mp (show m*L'.getD j 0=0 by grind) with z | z
 ·exact absurd z hm
 ·exact z
theorem Dk.mix{w v r1 r2:Int}{m a b:Rat}{N1 D1 N2 D2 N' D':List Rat}(h1:Dk w v r1 N1 D1)(h2:Dk w v r2 N2 D2)(hlt:r1<r2)(hm:m≠0)(hN:Mix m a b N1 N2 N')(hD:Mix m a b D1 D2 D'):Dk w v r2 N' D' :=
 ⟨fun j hj=>hN.zero hm (h1.1 j (by lia)) (h2.1 j hj),fun j hj=>hD.zero hm (h1.2 j (by lia)) (h2.2 j hj)⟩
theorem CN.mix{w v r1 r2:Int}{m a b:Rat}{N1 D1 N2 D2 N' D':List Rat}(t2:CN w v r2 N2 D2)(h1:Dk w v r1 N1 D1)(hlt:r1<r2)(ha:a≠0)(hN:Mix m a b N1 N2 N')(hD:Mix m a b D1 D2 D'):CN w v r2 N' D':=by
 have key:∀{y z:Rat},y≠0->m*z=a*y-b*0->z≠0:=fun{y z} hy e hz=>by
  have:a*y=0:=by rw[hz]at e;grind
  rcases SY.mp this with q | q
  ·exact ha q
  ·exact hy q
 rcases t2 with ⟨j,e,hj⟩ | ⟨j,e,hj⟩
 ·have:=hN j
  rw[h1.1 j (by lia)]at this
  exact .inl ⟨j,e,key hj this⟩
 ·have:=hD j
  rw[h1.2 j (by lia)]at this
  exact .inr ⟨j,e,key hj this⟩
structure PUn(w v:Int)(n:Nat)(ps:List (Rat×Rat))(r1 r2:Int)(N1 D1 N2 D2:List Rat):Prop where
 le1:Dk w v r1 N1 D1
 top1:CN w v r1 N1 D1
 le2:Dk w v r2 N2 D2
 top2:CN w v r2 N2 D2
 sum:r1+r2=2*(ps.length:Int)-2*n+3
 on1:∀q∈ps,Cv.ev N1 q.1=q.2*Cv.ev D1 q.1
 on2:∀q∈ps,Cv.ev N2 q.1=q.2*Cv.ev D2 q.1
section
variable {w v:Int}{n:Nat}{ps:List (Rat×Rat)}{r1 r2:Int}{N1 D1 N2 D2 N1' D1' N2' D2':List Rat}{x y:Rat}
theorem PUn.inv(h:PUn w v n ps r1 r2 N1 D1 N2 D2)(hlt:r1<r2):Cb w v n ps r1 r2 N1 D1 N2 D2:=⟨h.le1,h.top1,h.le2,h.top2,hlt,h.sum,h.on1,h.on2⟩
theorem PUn.turn(h:PUn w v n ps r1 r2 N1 D1 N2 D2)(hlt:¬r1<r2):Cb w v n ps r2 r1 N2 D2 N1 D1:=⟨h.le2,h.top2,h.le1,h.top1,by have:=h.sum;lia,by have:=h.sum;lia,h.on2,h.on1⟩
theorem Fb{N D:List Rat}(h:∀q∈ps,Cv.ev N q.1=q.2*Cv.ev D q.1)(hx:Cv.ev N x=y*Cv.ev D x):∀q∈ps++[(x,y)],Cv.ev N q.1=q.2*Cv.ev D q.1:=fun q hq=>by
 rcases RD.mp hq with z | z
 ·exact h q z
 ·rw[Td.mp z];exact hx
theorem FF{c d:Rat}{N D N' D':List Rat}(h:∀q∈ps,Cv.ev N q.1=q.2*Cv.ev D q.1)(hN:Shf c d N N')(hD:Shf c d D D')(hx:d*x=c):∀q∈ps++[(x,y)],Cv.ev N' q.1=q.2*Cv.ev D' q.1:=Fb (fun q hq=>by rw[hN.ev,hD.ev,h q hq];grind) (by rw[hN.ev,hD.ev,hx];grind)
theorem Cb.stepA{c d:Rat}(I:Cb w v n ps r1 r2 N1 D1 N2 D2)(hd:d≠0)(hx:d*x=c)(h0:Cv.ev N1 x=y*Cv.ev D1 x)(hN:Shf c d N2 N2')(hD:Shf c d D2 D2'):PUn w v n (ps++[(x,y)]) r1 (r2+2) N1 D1 N2' D2' :=
 ⟨I.le1,I.top1,I.le2.shift hN hD,I.top2.shift I.le2 hd hN hD,by have:=I.sum;rw[S6,Sk];lia,Fb I.on1 h0,FF I.on2 hN hD hx⟩
theorem Cb.stepB{c d:Rat}(I:Cb w v n ps r1 r2 N1 D1 N2 D2)(hd:d≠0)(hx:d*x=c)(h0:Cv.ev N2 x=y*Cv.ev D2 x)(hN:Shf c d N1 N1')(hD:Shf c d D1 D1'):PUn w v n (ps++[(x,y)]) (r1+2) r2 N1' D1' N2 D2 :=
 ⟨I.le1.shift hN hD,I.top1.shift I.le1 hd hN hD,I.le2,I.top2,by have:=I.sum;rw[S6,Sk];lia,FF I.on1 hN hD hx,Fb I.on2 h0⟩
theorem Cb.stepC{c d m a b s:Rat}(I:Cb w v n ps r1 r2 N1 D1 N2 D2)(hd:d≠0)(hx:d*x=c)(ha:a≠0)(hm:m≠0)(ea:a=s*(Cv.ev N1 x-y*Cv.ev D1 x))(eb:b=s*(Cv.ev N2 x-y*Cv.ev D2 x))(hN1:Shf c d N1 N1')(hD1:Shf c d D1 D1')(hN2:Mix m a b N1 N2 N2')(hD2:Mix m a b D1 D2 D2'):PUn w v n (ps++[(x,y)]) (r1+2) r2 N1' D1' N2' D2':=by
 refine⟨I.le1.shift hN1 hD1,I.top1.shift I.le1 hd hN1 hD1,Dk.mix I.le1 I.le2 I.lt hm hN2 hD2,CN.mix I.top2 I.le1 I.lt ha hN2 hD2,by have:=I.sum;rw[S6,Sk];lia,FF I.on1 hN1 hD1 hx,?_⟩
 have can:∀{p q:Rat},m*p=m*q->p=q:=fun{p q} h=>by
  rcases SY.mp (show m*(p-q)=0 by grind) with z | z
  ·exact absurd z hm
  ·grind
 refine Fb (fun q hq=>can ?_) (can ?_)
 ·have e1:=hN2.ev q.1
  have e2:=hD2.ev q.1
  rw[I.on1 q hq,I.on2 q hq]at e1
  rw[e1,show m*(q.2*Cv.ev D2' q.1)=q.2*(m*Cv.ev D2' q.1) by grind,e2]
  grind
 ·have e1:=hN2.ev x
  have e2:=hD2.ev x
  rw[e1,show m*(y*Cv.ev D2' x)=y*(m*Cv.ev D2' x) by grind,e2,ea,eb]
  grind
theorem Cb.fin(I:Cb w v n ps r1 r2 N1 D1 N2 D2)(hl:ps.length=n):r1<=1:=by
 have:=I.sum
 have:=I.lt
 lia
theorem Cb.below(I:Cb w v n ps r1 r2 N1 D1 N2 D2)(hl:ps.length=n)(hwn:w<=n)(hn:(ps.map Prod.fst).Nodup):Cv.strip D1≠[]:=fun z=>by
 have hr:=I.fin hl
 have zD:∀x,Cv.ev D1 x=0:=fun x=>by rw[<- Cv.ev_strip,z];rfl
 have eN:=CC N1 n fun j hj=>I.le1.1 j (by lia)
 have zN:∀x,Cv.ev N1 x=0:=fun x=>by
  rw[<- eN]
  refine D3 (ps.map Prod.fst) hn (by rw[S7,RY];lia) (fun q hq=>?_) x
  obtain⟨p,hp,rfl⟩:=U4.mp hq
  rw[eN,I.on1 p hp,zD,UD]
 exact I.ne fun x=>by rw[zD x,zN x,UD,UC]
end
end L2
namespace L2
section
variable {w v:Int}{n:Nat}{ps:List (Rat×Rat)}{r1 r2:Int}{N1 D1 N2 D2:List Rat}
theorem HR{c:Rat}{L:List Rat}{a j:Nat}(h:a<=j+1):(quo c (L.take a)).getD j 0=0:=by
 rw[T6,TL]
 ·rfl
 ·rw[D7,RY];lia
theorem Ik:∀(qs:List Rat) {L:List Rat},qs.Nodup->(∀q∈qs,Cv.ev L q=0)->∃M:List Rat,∀x,Cv.ev L x=prV x qs*Cv.ev M x
 | [],L,_,_=>⟨L,fun x=>by show _=1*_;rw[UH]⟩
 | c::r,L,hn,h=>by
   rw[RV]at hn
   have h0:=h c (Rz ..)
   have e:∀x,Cv.ev L x=(x-c)*Cv.ev (quo c L) x:=fun x=>by rw[DU c x L,h0,Rat.zero_add]
   obtain⟨M,hM⟩:=Ik r (L:=quo c L) hn.2 fun q hq=>by
    have hq0:=h q (RA _ hq)
    rw[e q]at hq0
    rcases SY.mp hq0 with z | z
    ·exact absurd (show q=c by grind) fun z=>hn.1 (z ▸ hq)
    ·exact z
   exact⟨M,fun x=>by rw[e x,hM x];show _=(x-c)*prV x r*_;grind⟩
theorem Cb.once(I:Cb w v n ps r1 r2 N1 D1 N2 D2)(hw:w+v=n+1)(hn:(ps.map Prod.fst).Nodup)(hD:Cv.strip D1≠[]){x:Rat}{A B:List Rat}(hA:∀t,Cv.ev N1 t=(t-x)*Cv.ev A t)(hB:∀t,Cv.ev D1 t=(t-x)*Cv.ev B t)(hm:∃y,(x,y)∈ps):¬(Cv.ev A x=0/\Cv.ev B x=0):=fun⟨a0,b0⟩=>by
 have eN:=CC N1 (r1 / 2+w).toNat fun j hj=>I.le1.1 j (by lia)
 have eD:=CC D1 ((r1-1) / 2+v).toNat fun j hj=>I.le1.2 j (by lia)
 have qN:∀t,Cv.ev (quo x (N1.take (r1 / 2+w).toNat)) t=Cv.ev A t:=CK (p:=x) fun t=>by
  have:=DU x t (N1.take (r1 / 2+w).toNat)
  rw[eN,eN,hA x]at this
  rw[<- hA t,this];grind
 have qD:∀t,Cv.ev (quo x (D1.take ((r1-1) / 2+v).toNat)) t=Cv.ev B t:=CK (p:=x) fun t=>by
  have:=DU x t (D1.take ((r1-1) / 2+v).toNat)
  rw[eD,eD,hB x]at this
  rw[<- hB t,this];grind
 have z:=I.least hw hn (r:=r1-2) (N:=quo x (N1.take (r1 / 2+w).toNat)) (D:=quo x (D1.take ((r1-1) / 2+v).toNat)) (by lia) ⟨fun j hj=>HR (by lia),fun j hj=>HR (by lia)⟩ (fun q hq=>by
  rw[qN,qD]
  by_cases e:q.1=x
  ·rw[e,a0,b0,UD]
  ·have:=I.on1 q hq
   rw[hA,hB]at this
   have ne:q.1-x≠0:=fun z=>e (by grind)
   rcases SY.mp (show(q.1-x)*(Cv.ev A q.1-q.2*Cv.ev B q.1)=0 by grind) with z | z
   ·exact absurd z ne
   ·grind)
 have zD:∀t,Cv.ev D1 t=Cv.ev [] t:=fun t=>by rw[hB t,<- qD t,(z t).2,UD];rfl
 exact hD (by
  have:=BD (l:=Cv.strip D1) (m:=[]) (AL D1) (AL []) fun t=>by rw[Cv.ev_strip];exact zD t
  exact this)
end
end L2
namespace L2
open PySem PySem.Spec PyProof.Rows
theorem EN{α β:Type}{F:α->β->Prop}{l' m':List β}(h:l'.Perm m'):∀{l:List α},Paired F l l'->∃m,m.Perm l/\Paired F m m':=by
 induction h with
 | nil=>exact fun{l} p=>⟨l,List.Perm.refl _,p⟩
 | cons x _ ih =>
   intro l p
   cases p with
   | @cons a _ as _ h t =>
     obtain⟨m,hm,pm⟩:=ih t
     exact⟨a::m,hm.cons a,.cons h pm⟩
 | swap x y l =>
   intro k p
   cases p with
   | @cons a _ as _ h t =>
     cases t with
     | @cons b _ bs _ h2 t2=>exact⟨b::a::bs,List.Perm.swap ..,.cons h2 (.cons h t2)⟩
 | trans _ _ i1 i2 =>
   intro l p
   obtain⟨m,hm,pm⟩:=i1 p
   obtain⟨m2,hm2,pm2⟩:=i2 pm
   exact⟨m2,hm2.trans hm,pm2⟩
section
variable {prog:Program}{w:World}{A:Around}{E:Value->Shared->Prop}{s:Shared}{a kS:Addr}{vs:List Value}{kz:List Int}{keys:Array Value}{e e1:Nat}{P:PySem.Fin->Shared->Prop}
set_option maxHeartbeats 4000000 in
theorem HM{st:SortSt}(nk:s.heap.get? kS=some (seqObj "list" keys e))(na:s.heap.get? a=some (seqObj "list" #[] e1))(hka:kS≠a)
 (hk:IntsAre keys.toList kz) (hlen:kz.length=vs.length) (h64:vs.length<64) (hp:(arrOf st).Perm (keys.zip vs.toArray)) (hs:SortedTo (arrOf st) (arrOf st).size) (hfl:failedOf st=none)
 (h:∀h' out c,(∀b o,b≠kS->b≠a->s.heap.get? b=some o->h'.get? b=some o)->h'.get? a=some (seqObj "list" out c)->KskOut false kz vs out.toList->P (.done (.ret .none)) { s with heap:=h' }) :
 wpAny (model prog w) A (ksk_tail a false e1 (.ref kS) st) P E s:=by
 have hsz:keys.size=vs.length:=by
  have h1:=hk.length
  rw[RI]at h1
  lia
 have hsz2:(arrOf st).size=vs.length:=by rw[hp.size_eq,Array.size_zip,hsz,Sg,Nat.min_self]
 have hout:((arrOf st).map (·.2)).size=vs.length:=by rw[Array.size_map];exact hsz2
 have s1:=Heap.SameBut.update s.heap kS (Obj.mapSeq fun _=>(#[]:Array Value))
 have na1:(s.heap.update kS (Obj.mapSeq fun _=>(#[]:Array Value))).get? a=some (seqObj "list" #[] e1):=(s1.2 a hka.symm).trans na
 have s2:=Heap.SameBut.update (s.heap.update kS (Obj.mapSeq fun _=>(#[]:Array Value))) a (Obj.mapSeq fun _=>(arrOf st).map (·.2))
 obtain⟨c2,hc2⟩:∃c2,((s.heap.update kS (Obj.mapSeq fun _=>(#[]:Array Value))).update a (Obj.mapSeq fun _=>(arrOf st).map (·.2))).get? a=some (seqObj "list" ((arrOf st).map (·.2)) c2):=⟨_,get?_update_seq na1 fun _=>(arrOf st).map (·.2)⟩
 unfold ksk_tail
 try dsimp only
 refine wpAny_bind (listUpdate_at nk rfl ?_ (by rw[hsz,sizeLine_eq];lia) (RM _))
 refine wpAny_bind (wpAny_letGo ?_)
 refine wpAny_bind (seqEpoch_at na1 rfl ?_)
 refine wpAny_bind (listUpdate_at na1 rfl ?_ (RM _) (Rw (Ul hout) (by rw[sizeLine_eq];lia)))
 rw[hfl]
 simp only[bne_self_eq_false,Bool.false_eq_true,if_false]
 exact wpAny_pure (h _ _ c2 (fun b o h1 h2 q=>(s2.2 b h2).trans ((s1.2 b h1).trans q)) hc2 (ksk_out (b:=false) hk hp hs))
set_option maxHeartbeats 4000000 in
theorem Mb(nk:s.heap.get? kS=some (seqObj "list" keys e))(na:s.heap.get? a=some (seqObj "list" #[] e1))(hka:kS≠a)
 (hk:IntsAre keys.toList kz) (hlen:kz.length=vs.length) (h64:vs.length<64)
 (h:∀h' out c,(∀b o,b≠kS->b≠a->s.heap.get? b=some o->h'.get? b=some o)->h'.get? a=some (seqObj "list" out c)->KskOut false kz vs out.toList->P (.done (.ret .none)) { s with heap:=h' }) :
 wpAny (model prog w) A (ksk_end a false vs.toArray e1 (.ref kS) keys) P E s:=by
 have hsz:keys.size=vs.length:=by
  have h1:=hk.length
  rw[RI]at h1
  lia
 have hzs:(keys.zip vs.toArray).size=vs.length:=by rw[Array.size_zip,hsz,Sg,Nat.min_self]
 unfold ksk_end
 try dsimp only
 simp only[Bool.false_eq_true,if_false]
 by_cases h2:vs.toArray.size<2
 ·rw[if_pos h2,if_pos h2]
  refine wpAny_bind (wpAny_pure ?_)
  rw[StateT.run_pure]
  refine wpAny_bind (wpAny_pure ?_)
  try dsimp only
  refine HM (st:=SortSt.mk' general' (keys.zip vs.toArray) #[] 7 none) nk na hka hk hlen h64 (Array.Perm.refl _) ?_ rfl h
  intro i j hij hj
  have hj2:j<(keys.zip vs.toArray).size:=hj
  rw[hzs]at hj2
  rw[Sg]at h2
  have:i=j:=by lia
  subst this
  exact Int.le_refl _
 ·rw[if_neg h2,if_neg h2]
  rw[Sg]at h2
  rw[ksk_kind hk (by rw[hsz];lia)]
  refine wpAny_bind (wpAny_pure ?_)
  refine wpAny_bind (wpAny_mono (wpS_sortRuns (a₀:=keys.zip vs.toArray) (st:=SortSt.mk' oneType' (keys.zip vs.toArray) #[] 7 none)
   (Q:=fun _ st'=>(arrOf st').Perm (keys.zip vs.toArray)/\failedOf st'=none/\SortedTo (arrOf st') (keys.zip vs.toArray).size)
   (ksk_intKeys hk) ⟨Array.Perm.refl _,rfl,rfl,rfl⟩ (by rw[hzs];lia) (by rw[hzs];exact h64) fun st' a1 a2 a3=>⟨a1,a2,a3⟩) ?_ fun _ _ e=>e)
  rintro⟨⟨⟩,st'⟩ s' ⟨rfl,hp,hf,hs⟩
  try dsimp only
  exact HM nk na hka hk hlen h64 hp (by rw[hp.size_eq];exact hs) hf h
end
section
variable {X:Cx}{pins:List (Addr×Obj)}{σ:St}{H:Hp}{A:Around}{E:Value->Shared->Prop}{a kS:Addr}{vs:List Value}{kz:List Int}{e1:Nat}{P:PySem.Fin->Shared->Prop}{f:Value}
set_option maxHeartbeats 4000000 in
theorem KJ{s:Shared}(fa:DM X pins H a)(fk:DM X pins H kS)(hka:kS≠a)(I:Inv X (pins++[(a,seqObj "list" #[] e1),(kS,seqObj "list" #[] 0)]) σ H s)(hlen:kz.length=vs.length)(h64:vs.length<64)
 (turn:∀(i:Nat) (v:Value) (k:Int),vs[i]? = some v->kz[i]? = some k->∀(pins':List (Addr×Obj)) (s':Shared),Inv X pins' σ H s'->wpAny (model X.prog X.w) A (call f [v]) (fun u s''=>(∃t,u = .int k t)/\Inv X pins' σ H s'') (fun _ _=>False) s')
 (h:∀s' out c,Inv X pins σ H s'->s'.heap.get? a=some (seqObj "list" out c)->KskOut false kz vs out.toList->P (.done (.ret .none)) s') :
 wpAny (model X.prog X.w) A (ksk_rest a f false vs.toArray e1 (.ref kS)) P E s:=by
 unfold ksk_rest
 refine wpAny_bind (wpAny_rule ?_)
 first
  | rw[List.forIn_toArray]
  | (rw[<- U2];simp only[List.toList_toArray])
  | rw[<- U2]
 have unp:∀{kA:Array Value} {e:Nat} {s':Shared},Inv X (pins++[(a,seqObj "list" #[] e1),(kS,seqObj "list" kA e)]) σ H s'->Inv X pins σ H s'/\s'.heap.get? a=some (seqObj "list" #[] e1)/\s'.heap.get? kS=some (seqObj "list" kA e):=fun{kA e s'} J =>
  ⟨J.pins_of fun p hp=>J.pin p (RL _ (RE _ hp)),(J.pin (a,seqObj "list" #[] e1) (RL _ (RL _ (.head _)))).1,(J.pin (kS,seqObj "list" kA e) (RL _ (RL _ (.tail _ (.head _))))).1⟩
 refine wpAny_bind (ksk_fold (fun i s'=>∃kA e,Inv X (pins++[(a,seqObj "list" #[] e1),(kS,seqObj "list" kA e)]) σ H s'/\IntsAre kA.toList (kz.take i)) vs 0 s ⟨#[],0,I,by simpa using IntsAre.nil⟩ ?step ?done)
 case step =>
  rintro j x s' hx ⟨kA,e,I',hk⟩
  simp only[U0]at hk ⊢
  have hj:j<vs.length:=(RF.mp hx).1
  obtain⟨k,hkj⟩:∃k,kz[j]? = some k:=⟨_,Te (by lia)⟩
  have hz:kA.size<=vs.length:=by
   have h1:=hk.length
   rw[RI,RY]at h1
   lia
  refine wpAny_bind (wpAny_attempt (wpAny_mono (turn j x k hx hkj _ s' I') (fun v s'' he=>?_) fun _ _ hF=>hF.elim))
  obtain⟨⟨t2,rfl⟩,I2⟩:=he
  obtain⟨I3,pa,pk⟩:=unp I2
  try dsimp only
  have s1:=Heap.SameBut.update s''.heap kS (Obj.mapSeq (·.push (.int k t2)))
  obtain⟨c2,hc2⟩:∃c2,(s''.heap.update kS (Obj.mapSeq (·.push (.int k t2)))).get? kS=some (seqObj "list" (kA.push (.int k t2)) c2):=⟨_,get?_update_seq pk (·.push (.int k t2))⟩
  have ek:kz.take (j+1)=kz.take j++[k]:=by rw[SU,hkj];simp
  have ea:(kA.push (Value.int k t2)).toList=kA.toList++[Value.int k t2]:=by simp
  refine wpAny_bind (listUpdate_at pk rfl ?_ (by rw[sizeLine_eq];lia) (Rw (Ul (Array.size_push ..)) (by rw[sizeLine_eq];lia)))
  refine wpAny_pure ⟨rfl,kA.push (.int k t2),c2,?_,by rw[ea,ek];exact ksk_snoc hk⟩
  have I4:Inv X pins σ H { s'' with heap:=s''.heap.update kS (Obj.mapSeq (·.push (.int k t2))),toks:=s''.toks }:=I3.turned (it:=kS) (fun b o hb q=>(s1.2 b hb).trans q) fk.1 fk.2.1 fk.2.2.2.1 fk.2.2.2.2.1 fk.2.2.2.2.2
  refine I4.pins_of fun p hp=>?_
  rcases RD.mp hp with z | z
  ·exact I4.pin p (RL _ z)
  ·rcases RC.mp z with rfl | z
   ·exact⟨(s1.2 a hka.symm).trans pa,fa.1,fa.2.1,fa.2.2.1,fun v z=>by cases z⟩
   ·rw[Td.mp z]
    exact⟨hc2,fk.1,fk.2.1,fk.2.2.1,fun v z=>by cases z⟩
 case done =>
  rintro s' ⟨kA,e,I',hk⟩
  have hk':IntsAre kA.toList kz:=by
   have e3:kz.take (0+vs.length)=kz:=TN (by lia)
   rw[e3]at hk
   exact hk
  obtain⟨I3,pa,pk⟩:=unp I'
  try dsimp only
  refine wpAny_bind (listItems_at pk rfl ?_)
  refine Mb pk pa hka hk' hlen h64 fun h' out c keep hget ko=>h _ out c ?_ hget ko
  exact I3.turnedL (t':=s'.toks) (ch:=[kS,a]) (fun b o hb q=>keep b o (fun z=>hb (by rw[z];simp)) (fun z=>hb (by rw[z];simp)) q) fun b hb=>by
   rcases RC.mp hb with rfl | hb
   ·exact fk
   ·rw[Td.mp hb];exact fa
end
theorem IZ{xs:List V}{us:List Value}(r:AJ xs us):∀kz:List Int,Paired (fun(p:Int×V) (q:Int×Value)=>p.1=q.1/\AZ p.2 q.2) (kz.zip xs) (kz.zip us):=by
 induction r with
 | nil=>intro kz;rw[List.zip_nil_right,List.zip_nil_right];exact .nil
 | cons h _ ih =>
   intro kz
   cases kz with
   | nil=>exact .nil
   | cons k kz=>exact .cons ⟨rfl,h⟩ (ih kz)
theorem J1{zs:List (Int×V)}{ps:List (Int×Value)}(h:Paired (fun(p:Int×V) (q:Int×Value)=>p.1=q.1/\AZ p.2 q.2) zs ps):zs.map Prod.fst=ps.map Prod.fst:=by
 induction h with
 | nil=>rfl
 | cons h _ ih=>rw[Sn,Sn,ih,h.1]
theorem J0{zs:List (Int×V)}{ps:List (Int×Value)}(h:Paired (fun(p:Int×V) (q:Int×Value)=>p.1=q.1/\AZ p.2 q.2) zs ps):AJ (zs.map Prod.snd) (ps.map Prod.snd):=by
 induction h with
 | nil=>exact .nil
 | cons h _ ih=>exact .cons h.2 ih
theorem Inv.own{X:Cx}{pins:List (Addr×Obj)}{σ:St}{H:Hp}{s:Shared}{D:Addr}{o:HO}(J:Inv X pins σ H s)(fp:DM X pins H D)(new:BP X.prog X.w (upd H D o) s.heap D o):Inv X pins σ (upd H D o) s:=by
 have nD:∀{b:Addr} {u:HO},H b=some u->b≠D:=fun{b u} e z=>by rw[z,fp.1]at e;cases e
 refine J.step (g':=s.gens) (d':=s.drawn) (t':=s.toks) (h':=s.heap) (ch:=[D]) (fun b hb=>?_) (fun b o _ _ _ e _=>e) (fun b o _ _ _ e _=>⟨o.slots,e⟩) (fun b o hc e n=>by rw[Aw (fun z=>hc (by simp[z]))];exact n)
  (fun b o _ e=>⟨o,e⟩) (fun b xs e=>by rw[Aw (nD e)];exact e) (fun b o u e=>by rw[Aw (nD e)];exact e) (fun b ps e=>⟨#[],by rw[Aw (nD e),e];simp⟩) (fun m hm=>hm) (fun b u e=>?_) J.bare
 ·rw[Td.mp hb]
  exact⟨fp.2.2.2.1,fp.2.1,fp.2.2.2.2.1,fp.2.2.2.2.2⟩
 ·by_cases z:b=D
  ·subst z
   rw[Ac]at e
   cases e
   exact new
  ·rw[Aw z]at e
   exact(J.hok b u e).stay (fun _ _ _ q=>q) (fun c q=>by rw[Aw (nD q)];exact q) fun c xs q=>by rw[Aw (nD q)];exact q
section
variable {X:Cx}{pins:List (Addr×Obj)}{σ:St}{H:Hp}{E:Value->Shared->Prop}{kz:List Int}{f:Addr}{s:Shared}{l:Addr}{xs:List V}{Q:VK}
set_option maxHeartbeats 4000000 in
theorem IP(I:Inv X pins σ H s)(hl:SqL X.K H l xs)(hlen:kz.length=xs.length)(h64:xs.length<64)
 (turn:∀(i:Nat) (x:V) (k:Int) (v:Value),xs[i]? = some x->kz[i]? = some k->AZ x v->∀(pins':List (Addr×Obj)) (s':Shared),Inv X pins' σ H s'->wpAny (model X.prog X.w) X.A.in1.in1 (call (.ref f) [v]) (fun u s''=>(∃t,u = .int k t)/\Inv X pins' σ H s'') (fun _ _=>False) s')
 (q:∀p ys,H p=none->(∃zs:List (Int×V),zs.Perm (kz.zip xs)/\ys=zs.map Prod.snd/\zs.Pairwise fun p q=>p.1<=q.1)->Q (.ref p) (upd H p (.lst ys))) :
 wpAny (model X.prog X.w) X.A (call (.builtin "sorted") [.ref l] [(Str.ofString "key",.ref f)]) (EP X pins σ Q) E s:=by
 obtain⟨vs,r,ht,hz⟩:=I.list hl
 have hil:vs.length=xs.length:=r.length.symm
 refine call_function_entry_kw kind_sorted plain_sorted entry_sorted (ksk_s1 _ _) ?_
 unfold Builtin.«sorted»
 refine wpAny_bind (m:=checkCount "sorted" 1 1 _) (wpAny_pure ?_)
 refine wpAny_bind (collect_list ht.isList ?_ (by rw[sizeLine_eq];lia))
 refine wpAny_bind (wpAny_newList ?_ (by rw[sizeLine_eq];lia))
 have hsz:((s.heap.push (seqObj "list" #[] 0)).update s.heap.objs.size (Obj.mapSeq (· ++ vs.toArray))).objs.size=s.heap.objs.size+1:=by
  rw[Heap.size_update,size_push']
 have hoL:(((s.heap.push (seqObj "list" #[] 0)).update s.heap.objs.size (Obj.mapSeq (· ++ vs.toArray))).push (seqObj "list" vs.toArray 0)).get? (s.heap.objs.size+1)=some (seqObj "list" vs.toArray 0):=by
  rw[<- hsz];exact Heap.get?_push_size _ rfl
 have keep:∀b o,s.heap.get? b=some o->(((s.heap.push (seqObj "list" #[] 0)).update s.heap.objs.size (Obj.mapSeq (· ++ vs.toArray))).push (seqObj "list" vs.toArray 0)).get? b=some o:=fun b o q=>by
  have hlt:b<s.heap.objs.size:=Heap.lt_size q
  rw[Heap.get?_push_ne _ _ _ (by rw[hsz];exact Rq (Tc hlt)),Heap.get?_update_ne _ _ _ _ (Rq hlt),Heap.get?_push_ne _ _ _ (Rq hlt)]
  exact q
 show wpAny _ _ _ _ _ { s with heap:=((s.heap.push (seqObj "list" #[] 0)).update s.heap.objs.size (Obj.mapSeq (· ++ vs.toArray))).push (seqObj "list" vs.toArray 0) }
 rw[hsz]
 have I1:Inv X pins σ H { s with heap:=((s.heap.push (seqObj "list" #[] 0)).update s.heap.objs.size (Obj.mapSeq (· ++ vs.toArray))).push (seqObj "list" vs.toArray 0),toks:=s.toks }:=I.kept keep
 have hDn:H (s.heap.objs.size+1)=none:=I.hok.fresh (Nat.le_succ _)
 have fa:DM X pins H (s.heap.objs.size+1):=I.fpOk (Nat.le_succ _) hDn
 refine wpAny_bind (wpAny_holding (wpAny_call_entry_kw slot_list_sort ⟨_,hoL,rfl⟩ entry_list_sort ?body (ksk_l1 _ _)))
 case body =>
  show wpAny (model X.prog X.w) X.A.in1.in1 (Builtin.«list.sort» ⟨[.ref (s.heap.objs.size+1)],[(Str.ofString "key",.ref f)]⟩) _ _ _
  rw[ksk_t1]
  generalize((s.heap.push (seqObj "list" #[] 0)).update s.heap.objs.size (Obj.mapSeq (· ++ vs.toArray))).push (seqObj "list" vs.toArray 0)=h2 at hoL I1 ⊢
  have s1:=Heap.SameBut.update h2 (s.heap.objs.size+1) (Obj.mapSeq fun _=>(#[]:Array Value))
  obtain⟨e1,ho1⟩:∃e1,(h2.update (s.heap.objs.size+1) (Obj.mapSeq fun _=>(#[]:Array Value))).get? (s.heap.objs.size+1)=some (seqObj "list" #[] e1):=⟨_,get?_update_seq hoL fun _=>#[]⟩
  unfold ksk_tree
  refine wpAny_bind (listItems_at hoL rfl ?_)
  refine wpAny_bind (listUpdate_at hoL rfl ?_ (by rw[Sg,sizeLine_eq];lia) (RM _))
  refine wpAny_bind (seqEpoch_at ho1 rfl ?_)
  refine wpAny_bind (wpAny_newTuple ?_ (by show vs.length<=_;rw[sizeLine_eq];lia))
  refine wpAny_bind (wpAny_newList ?_ (RM _))
  refine wpAny_holding ?_
  have I2:=I1.turned (it:=s.heap.objs.size+1) (t':=s.toks) (h':=h2.update (s.heap.objs.size+1) (Obj.mapSeq fun _=>(#[]:Array Value))) (fun b o hb q=>(s1.2 b hb).trans q) fa.1 fa.2.1 fa.2.2.2.1 fa.2.2.2.2.1 fa.2.2.2.2.2
  have I2:Inv X pins σ H { s with heap:=h2.update (s.heap.objs.size+1) (Obj.mapSeq fun _=>(#[]:Array Value)),toks:=s.toks }:=I2
  generalize h2.update (s.heap.objs.size+1) (Obj.mapSeq fun _=>(#[]:Array Value))=h3 at ho1 I2 ⊢
  have I3:Inv X pins σ H { s with heap:=h3.push (seqObj "tuple" vs.toArray 0),toks:=s.toks }:=I2.kept fun b o q=>Heap.get?_push_of_some _ q
  have ho3:(h3.push (seqObj "tuple" vs.toArray 0)).get? (s.heap.objs.size+1)=some (seqObj "list" #[] e1):=Heap.get?_push_of_some _ ho1
  show wpAny _ _ _ _ _ { s with heap:=(h3.push (seqObj "tuple" vs.toArray 0)).push (seqObj "list" #[] 0) }
  generalize h3.push (seqObj "tuple" vs.toArray 0)=h4 at I3 ho3 ⊢
  have hkn:H h4.objs.size=none:=I3.hok.fresh (RK _)
  have fk:DM X pins H h4.objs.size:=I3.fpOk (RK _) hkn
  have hka:h4.objs.size≠s.heap.objs.size+1:=RJ (Heap.lt_size ho3)
  have I4:Inv X pins σ H { s with heap:=h4.push (seqObj "list" #[] 0),toks:=s.toks }:=I3.kept fun b o q=>Heap.get?_push_of_some _ q
  refine KJ (a:=s.heap.objs.size+1) (kS:=h4.objs.size) (e1:=e1) (kz:=kz) (vs:=vs) fa fk hka (I4.pins_of fun p hp=>?_) (by lia) (by lia) (fun i v k hv hk pins' s' I'=>?_) fun s' out c J hget ko=>⟨_,rfl,?_⟩
  ·rcases RD.mp hp with z | z
   ·exact I4.pin p (RL _ z)
   ·rcases RC.mp z with rfl | z
    ·exact⟨Heap.get?_push_of_some _ ho3,fa.1,fa.2.1,fa.2.2.1,fun v z=>by cases z⟩
    ·rw[Td.mp z]
     exact⟨Heap.get?_push_size _ rfl,fk.1,fk.2.1,fk.2.2.1,fun v z=>by cases z⟩
  ·have hi:i<xs.length:=by have:=(RF.mp hv).1;lia
   have hx:xs[i]? = some xs[i]:=Te hi
   obtain⟨u,hu,ru⟩:=r.get hx
   rw[hv]at hu
   cases hu
   exact turn i _ k v hx hk ru pins' s' I'
  ·refine wpAny_pure ⟨_,rfl,?_⟩
   obtain⟨ps,hperm,hout,hsorted⟩:=ko
   obtain⟨zs,hz1,hz2⟩:=EN hperm.symm (IZ r kz)
   have hvy:=J0 hz2
   rw[<- hout]at hvy
   have hyl:(zs.map Prod.snd).length<=sizeLine:=by
    rw[S7,hz1.length_eq,UI,sizeLine_eq];lia
   have hpw:zs.Pairwise fun p q=>p.1<=q.1:=by
    have h1:(zs.map Prod.fst).Pairwise (· <= ·):=by
     rw[J1 hz2]
     exact UJ.mpr (hsorted.imp fun h=>by simpa using h)
    exact UJ.mp h1
   refine⟨.ref (s.heap.objs.size+1),upd H (s.heap.objs.size+1) (.lst (zs.map Prod.snd)),J.own fa ⟨hyl,out.toList,c,hvy,?_⟩,rfl,q _ _ hDn ⟨zs,hz1,rfl,hpw⟩⟩
   rw[hget]
end
end L2
namespace L2
open PySem PySem.Spec PyProof.Rows
theorem Nu{cs:List Addr}{H:Hp}:onC cs H (offC cs H)=H:=by
 funext b
 by_cases h:b∈cs
 ·rw[MT h]
 ·rw[Du h,BR h]
theorem Ms{cs:List Addr}{os:Addr->Obj}{H:Hp}(hn:∀c∈cs,H c=none):offC cs (DR cs os H)=H:=by
 funext b
 by_cases h:b∈cs
 ·rw[EA h,hn b h]
 ·rw[BR h,BH h]
theorem NC{P:Program}{w:World}{K:Rv}{mg:Str->Option Value}{base:Heap}{k:Nat}{f c' Pt:Addr}{q:Str}{params:Arguments}{body:Expr}{scope:Scope}{cl:List (Str×Addr)}{pm ctv:Value}{env:Env}{N ps fr:List Str}{σ:St}{os:Addr->Obj}{H1 H2:Hp}{ws:List V}{Ok:List V->V->Prop}
 (LN:M5 H1 H2 Pt q f c' (Ug "<lambda>" q params body scope cl pm (.ref c') ctv)) (C:HJ env cl) (hfree:∀x∈scope.names,x.2 = .free->∃c,(x.1,c)∈cl) (hcn:∀c∈cl.map (·.2),H2 c=none) (hci:Kx N σ env.scope cl os)
 (S:MY scope ps) (hlk:∀us:List Value,us.length=ps.length->∀(j:Nat) (x:Str) (u:Value),ps[j]? = some x->us[j]? = some u->(ps.zip us).reverse.lookup x=some u)
 (cap:Cap env.scope scope N σ fr ws)
 (hbody:∀(A:Around) (outer:List Env) (s:Shared) (E:XK) (vs:List V) (r:V) (H':Hp) (Q:VK),Ca k (A.deeper (Ud q scope s.heap.objs.size f (.ref c') cl))->vs.length=ps.length->Ok vs r->Af H2 H'->Q r H' ->
  ∃t,PE (JN CX0 P w K mg base (ps++fr) q scope f (.ref c') cl A outer s H' E) body t/\t (vs.map some++ws.map some) H' Q) :
 AO P w K mg base CX0 (k+1) f (Ug "<lambda>" q params body scope cl pm (.ref c') ctv) ps (fun vs H Q _=>vs.length=ps.length/\Af (DR (cl.map (·.2)) os H2) H/\∃r,Ok vs r/\Q r H):=by
 have old:Af H2 (DR (cl.map (·.2)) os H2):=Af.trk hcn
 refine NB (N:=ps++fr) (fun vs H Q E h=>h.1) hlk fun A outer s H vs Q E hr h=>?_
 obtain⟨hl,hm,r,ho,hq⟩:=h
 have hmo:=old.trans hm
 have L:=Lz S C hfree hci cap hl hm
 have sOff:Af H2 (offC (cl.map (·.2)) H):=Af.untrk hm hcn
 obtain⟨t,h1,h2⟩:=hbody A outer s E vs r (offC (cl.map (·.2)) H) (fun v H'=>(∀c∈cl.map (·.2),H' c=none)->Q v (onC (cl.map (·.2)) H H')) hr hl ho sOff fun _=>by rw[Nu];exact hq
 exact⟨hmo _ _ LN.lam,hmo _ _ LN.cod,_,L,t,h1,h2,fun e s' z=>z.elim⟩
abbrev Cx.deep(X:Cx)(A:Around):Cx:={ X with A:=A }
theorem Inv.deep{X:Cx}{pins:List (Addr×Obj)}{σ:St}{H:Hp}{s:Shared}{A:Around}(I:Inv X pins σ H s)(h1:A.handled=X.A.handled)(h2:A.frames=X.A.frames):Inv (X.deep A) pins σ H s :=
 ⟨⟨I.ok.mod,I.ok.kind,I.ok.glob,I.ok.blt,I.ok.above,I.ok.inj,I.ok.has,I.ok.cab,fun z=>by rw[show(X.deep A).A.handled=A.handled from rfl,h1];exact I.ok.hd z,by rw[show(X.deep A).A.frames=A.frames from rfl,h2];exact I.ok.frames,I.ok.stk,I.ok.exf,I.ok.bs,I.ok.bsz,I.ok.noex,I.ok.exfs,I.ok.funs,I.ok.frf⟩,I.os,I.bare,I.base,I.loc,I.cell,I.free,I.freeC,I.pin,I.hok,I.len⟩
theorem Inv.undeep{X:Cx}{pins:List (Addr×Obj)}{σ:St}{H:Hp}{s:Shared}{A:Around}(I:Inv (X.deep A) pins σ H s)(h1:A.handled=X.A.handled)(h2:A.frames=X.A.frames):Inv X pins σ H s :=
 ⟨⟨I.ok.mod,I.ok.kind,I.ok.glob,I.ok.blt,I.ok.above,I.ok.inj,I.ok.has,I.ok.cab,fun z=>by rw[<- h1];exact I.ok.hd z,by rw[<- h2];exact I.ok.frames,I.ok.stk,I.ok.exf,I.ok.bs,I.ok.bsz,I.ok.noex,I.ok.exfs,I.ok.funs,I.ok.frf⟩,I.os,I.bare,I.base,I.loc,I.cell,I.free,I.freeC,I.pin,I.hok,I.len⟩
theorem Mf{X:Cx}{pins:List (Addr×Obj)}{σ:St}{H:Hp}{s:Shared}{A:Around}{k:Nat}{f:Addr}{fd:FuncData}{ps:List Str}{us:List Value}{vs:List V}{cl:List (Str×Addr)}{kk:Int}(hA1:A.handled=X.A.handled)(hA2:A.frames=X.A.frames)(hr:Ca k A)(hb:Cc X.K fd ps [])(hfn:∀y,X.fn y=true)(I:Inv X pins σ H s)(r:AJ vs us)(C:HJ X.env cl)
 (h:∀os,(∀c∈cl.map (·.2),H c=none)->Kx X.N σ X.env.scope cl os->∃sp,AO X.prog X.w X.K X.mg X.base CX0 k f fd ps sp/\∀Q:VK,Q (.int kk) (DR (cl.map (·.2)) os H)->sp vs (DR (cl.map (·.2)) os H) Q (fun _ _ _=>False)) :
 wpAny (model X.prog X.w) A (call (.ref f) us) (fun u s'=>(∃t,u = .int kk t)/\Inv X pins σ H s') (fun _ _=>False) s:=by
 have F:AO X.prog X.w X.K X.mg X.base CX0 k f fd ps (fun vs H Q E=>∃sp,AO X.prog X.w X.K X.mg X.base CX0 k f fd ps sp/\sp vs H Q E) :=
  ⟨fun vs H Q E ⟨sp,F,h⟩=>F.len vs H Q E h,fun A outer s H args us vs Q E hr he hb hv ⟨sp,F,h⟩=>F.run A outer s H args us vs Q E hr he hb hv h⟩
 have J:Inv ((X.nox).deep A) pins σ H s:=(I.wish _).deep hA1 hA2
 refine wpAny_mono (Mg (X:=(X.nox).deep A) (CX:=CX0) (E:=fun _ _ _=>False) (Q:=fun v H'=>v = .int kk/\H'=H) F hr hb hfn (fun e H' s' _ z=>z.elim) J r C fun os hn hi=>?_) (fun u s' ⟨v,H',I',rv,ev,eH⟩=>?_) fun _ _ z=>z
 ·obtain⟨sp,F1,q⟩:=h os hn hi
  exact⟨sp,F1,q _ ⟨fun c hc=>IK hc,rfl,Ms hn⟩⟩
 ·subst ev
  subst eH
  obtain⟨t,rfl⟩:=rv
  exact⟨⟨t,rfl⟩,(I'.undeep hA1 hA2).unwish⟩
theorem DK{M:Model}{A:Around}{E:Value->Shared->Prop}{s:Shared}{pos:Pos}{id:String}{first:List Value}{args:List (Bool×Sem Value)}{keywords:List (Option Str×Sem Value)}{Q:Value->Shared->Prop}(hplain:(args.any (·.1)||keywords.any (·.1.isNone))=false)
 (h:wpAny M A (evalArgs (.builtin id) true args keywords) (fun a s₁=>wpAny M A (call (.builtin id) (first++a.pos) a.kw) Q E s₁) E s) :
 wpAny M A (callWith pos (.builtin id) first args keywords) Q E s:=by
 unfold callWith
 refine wpAny_bind (wpAny_holding (wpAny_mono h (fun a s₁ h₁=>wpAny_bind (wpAny_standAt ?_)) fun _ _ x=>x))
 simp only[hplain]
 refine wpAny_bind (wpAny_pure ?_)
 exact wpAny_bind (wpAny_mono h₁ (fun r s₂ hr=>wpAny_bind (wpAny_holding (wpAny_point (wpAny_pure hr)))) fun _ _ x=>x)
def Ob(env:Env)(N:List Str)(P:Program)(w:World)(K:Rv)(mg:Str->Option Value)(base:Heap)(k:Nat)(te tk:TE):TE:=fun σ H Q=>te σ H fun x H1=>∃l,x = .ref l/\tk σ H1 fun y H2=>∃(f:Addr) (fd:FuncData) (ps:List Str) (cl:List (Str×Addr)) (xs:List V) (kz:List Int),y = .ref f/\SqL K H2 l xs/\kz.length=xs.length/\xs.length<64/\Cc K fd ps []/\HJ env cl /\
 (∀os,(∀c∈cl.map (·.2),H2 c=none)->Kx N σ env.scope cl os->∃sp,AO P w K mg base CX0 k f fd ps sp/\∀(i:Nat) (x:V) (kk:Int),xs[i]? = some x->kz[i]? = some kk->∀Q':VK,Q' (.int kk) (DR (cl.map (·.2)) os H2)->sp [x] (DR (cl.map (·.2)) os H2) Q' (fun _ _ _=>False)) /\
 ∀(p:Addr) (ys:List V),H2 p=none->(∃zs:List (Int×V),zs.Perm (kz.zip xs)/\ys=zs.map Prod.snd/\zs.Pairwise fun p q=>p.1<=q.1)->Q (.ref p) (upd H2 p (.lst ys))
theorem Lk(K:Rv){X:Cx}{e kx:Expr}{te tk:TE}{k m:Nat}{p pos kp:Pos}(hr:Ca m X.A)(hfn:∀y,X.fn y=true)(hg:Gl X "sorted")(hm:X.mg "sorted" = none)(he:PE X e te)(hk:PE X kx tk)(hkm:k+2<=m:=by decide)(hs:starEach [e] X.env=[(false,eval e X.env)]:=by rfl)(e0:X.K=K:=by rfl) :
 PE X (.Call (.Name "sorted" p) [e] [⟨some "key",kx,kp⟩] pos) (Ob X.env X.N X.prog X.w K X.mg X.base k te tk):=by
 subst e0
 intro pins s σ H Q I h
 refine wpAny_Call_Name_kw (Dw I hg hm (show bootBuiltins "sorted" = some (.builtin "sorted") by with_unfolding_all rfl) ?_ (by decide) (by decide))
 rw[hs]
 show wpAny _ _ (callWith pos (.builtin "sorted") [] [(false,eval e X.env)] [(some "key",do let v <- eval kx X.env;standAt pos;pure v)]) _ _ s
 refine DK rfl (evalArgs_kw rfl ?_)
 refine Calls.spliced_cons (thn (he pins s σ H _ I h) fun u s1 ⟨x,H1,I1,r1,q1⟩=>Calls.spliced_nil ?_)
 obtain⟨l,rfl,q1⟩:=q1
 cases r1
 show wpAny _ _ (evalAll [do let v <- eval kx X.env;standAt pos;pure v]) _ _ s1
 refine wpAny_evalAll_cons (wpAny_bind (thn (hk pins s1 σ H1 _ I1 q1) fun u s2 ⟨y,H2,I2,r2,q2⟩=>wpAny_bind (wpAny_standAt (wpAny_pure (wpAny_evalAll_nil ?_)))))
 obtain⟨f,fd,ps,cl,xs,kz,rfl,hl,hlen,h64,hb,C,hF,q⟩:=q2
 cases r2
 show wpAny _ _ (call (.builtin "sorted") [.ref l] [(Str.ofString "key",.ref f)]) _ _ s2
 exact IP I2 hl hlen h64 (fun i x kk v hx hkk rv pins' s' I'=>Mf rfl rfl (hr.mono hkm).in1.in1 hb hfn I' (.cons rv .nil) C fun os hn hi=>let ⟨sp,F,qq⟩:=hF os hn hi;⟨sp,F,fun Q' hq=>qq i x kk hx hkk Q' hq⟩) q
end L2
namespace L2
open Dt
theorem KI{fs gs:List Int}{W X:Nat}(h:fs.length<=12)(hle:gs.length<=fs.length)(bf:∀t∈fs,Bd W t)(bg:∀t∈gs,Bd W t)(hX:22*(W+5)+1<=X)(k j:Nat):Bd X (sub (fs.length-1) (gs.length-1) k (tf fs) (tf gs) j):=by
 unfold sub
 have p0:(0:Int).natAbs<=2 ^ W:=RM _
 have hf:=IL (l:=fs) (X:=2 ^ W) fun t ht=>Rx (bf t ht)
 have hg:=IL (l:=gs) (X:=2 ^ W) fun t ht=>Rx (bg t ht)
 have e:=Iv (n:=fs.length-1-k+(gs.length-1-k)-1) (M:=syl (fs.length-1-k) (tf gs) (tf fs)) (W:=W) (j:=j) (by lia) fun a b=>by
  unfold syl
  split
  ·unfold sh;split
   ·exact p0
   ·exact hg _
  ·unfold sh;split
   ·exact p0
   ·exact hf _
 have q:(fs.length-1-k+(gs.length-1-k)-1+1)*(W+5)<=22*(W+5):=Tt _ (by lia)
 exact So e (Nat.pow_lt_pow_right (by decide) (by lia))
structure LRK(S:Nat->Nat->Int)(fs gs fs' gs':List Int)(lead held:Int)(X:Nat):Prop where
 lr:LR S fs' gs' lead held
 le:gs'.length<=fs'.length
 l10:fs'.length<=12
 t1:DL fs'
 t2:DL gs'
 com:Com (cst fs) (cst gs) (cst fs') (cst gs')
 bf:∀t∈fs',Bd X t
 bg:∀t∈gs',Bd X t
 bl:Bd X lead
 bh:Bd X held
theorem LRK.first{fs gs:List Int}{W X:Nat}(h1:1<=fs.length)(hle:gs.length<=fs.length)(h8:fs.length<=12)(t1:DL fs)(t2:DL gs)(bf:∀t∈fs,Bd W t)(bg:∀t∈gs,Bd W t)(hX:22*(W+5)+1<=X) :
 LRK (fun k j=>sub (fs.length-1) (gs.length-1) k (tf fs) (tf gs) j) fs gs fs gs 1 1 X :=
 ⟨LR.first h1 hle t2,hle,h8,t1,t2,Com.refl _ _,(fun t ht=>(bf t ht).mono (by lia)),(fun t ht=>(bg t ht).mono (by lia)),(show Bd 1 1 by unfold Bd;decide).mono (by lia),(show Bd 1 1 by unfold Bd;decide).mono (by lia)⟩
section
variable {S:Nat->Nat->Int}{fs gs fs' gs':List Int}{lead held:Int}{X:Nat}
theorem LRK.next{os rs:List Int}{g held':Int}{w:Nat}(I:LRK S fs gs fs' gs' lead held X)(hS:∀k j,Bd X (S k j))(hg:gs'[gs'.length-1]? = some g)(ho:os.length=fs'.length+1-gs'.length)(hr:rs.length=gs'.length-1)
 (hev:∀x,Cv.evI fs' x*((g ^ os.length:Int):Rat)=Cv.evI os x*Cv.evI gs' x+Cv.evI rs x) (hw:w<=rs.length) (hz:∀j,w<=j->rs.getD j 0=0) (hlast:1<=w->rs.getD (w-1) 0≠0)
 (hh:(gs'.length<fs'.length/\held'=UK (g ^ (fs'.length-gs'.length)) (held ^ (fs'.length-gs'.length-1)))\/(fs'.length=gs'.length/\held'=held)) :
 lead*held ^ (fs'.length-gs'.length)≠0/\LRK S fs gs gs' ((rs.take w).map fun t=>UK t (lead*held ^ (fs'.length-gs'.length))) g held' X/\(gs'.length<fs'.length->PDX X gs'):=by
 have hl:=(RF.mp hg).1
 have s:=I.lr.srs (by lia)
 have hle:=I.le
 have l10:=I.l10
 have hφ:lead*held ^ (fs'.length-gs'.length)≠0:=SF s.l0 (Ut s.h0)
 refine⟨hφ,?_⟩
 -- each number of the BV
 have dv:∀i,i<rs.length->∃c:Int,rs.getD i 0=lead*held ^ (fs'.length-gs'.length)*c/\Bd X c:=fun i hi=>by
  obtain⟨m,hm⟩:∃m,fs'.length=m+1:=⟨fs'.length-1,by lia⟩
  obtain⟨n,hn⟩:∃n,gs'.length=n+1:=⟨gs'.length-1,by lia⟩
  rw[hm,hn,Ur,Ur]at s
  have rows:=Iu hm hn (by lia) (by lia) (by lia) hev
  have e0:=Fh hg
  obtain⟨c,hc,hcs⟩:=s.rest_is (r:=rf m rs) (e:=fun t=>os.getD (m-n-t) 0) (by lia) (fun i hi=>N6 (n:=n) (by lia) hi (by lia)) (fun b=>by
   have:=rows b
   rw[show os.length=m-n+1 by lia]at this
   rw[e0];exact this) (n-1-i)
  have e1:rf m rs (n-1-i+(m-n+1))=rs.getD i 0:=by
   unfold rf
   rw[if_pos (by lia),show m-(n-1-i+(m-n+1))=i by lia]
  rw[e1]at hc
  refine⟨c,?_,JR (hS _ _) hcs⟩
  rw[hm,hn,show m+1-(n+1)=m-n by lia]
  exact hc
 generalize hF:lead*held ^ (fs'.length-gs'.length)=φ at *
 have hsB:∀t∈(rs.take w).map fun t=>UK t φ,Bd X t:=fun t ht=>by
  obtain⟨u,hu,rfl⟩:=U4.mp ht
  obtain⟨i,hi⟩:=U8 (UL hu)
  obtain⟨c,hc,bc⟩:=dv i (RF.mp hi).1
  rw[T6,hi]at hc
  have hc:u=φ*c:=hc
  rw[hc,Su _ hφ]
  exact bc
 have hs:∀j,rs.getD j 0=φ*((rs.take w).map fun t=>UK t φ).getD j 0:=fun j=>by
  by_cases hj:j<w
  ·have e1:rs[j]? = some (rs[j]'(by lia)):=Te _
   obtain⟨c,hc,_⟩:=dv j (by lia)
   have hc':=hc
   rw[T6,e1]at hc'
   have hc':rs[j]'(by lia)=φ*c:=hc'
   rw[hc,T6,S3,List.getElem?_take_of_lt hj,e1,hc']
   show φ*c=φ*UK (φ*c) φ
   rw[Su _ hφ]
  ·rw[hz j (by lia),T6,TL (by rw[S7,RY];lia)]
   show(0:Int)=φ*0
   lia
 generalize hH:((rs.take w).map fun t=>UK t φ)=hs' at hs hsB
 have hhl:hs'.length=w:=by rw[<- hH,S7,RY];lia
 have hg0:g≠0:=I.t2 g hg
 have bg:Bd X g:=I.bg _ (S5 hg)
 have hd:((gs'.length<fs'.length/\g ^ (fs'.length-gs'.length)=held ^ (fs'.length-gs'.length-1)*held')\/(fs'.length=gs'.length/\held'=held))/\held'≠0/\Bd X held':=by
  rcases hh with ⟨h1,h2⟩ | ⟨h1,h2⟩
  ·obtain⟨q,hq,hq0,hqs⟩:=s.more_is (by lia)
   rw[Fh hg,show fs'.length-1-(gs'.length-1)=fs'.length-gs'.length by lia]at hq
   have:held'=q:=by rw[h2,hq,Su _ (Ut s.h0)]
   rw[this]
   exact⟨.inl ⟨h1,hq⟩,hq0,JR (hS _ _) hqs⟩
  ·exact⟨.inr ⟨h1,h2⟩,by rw[h2];exact s.h0,by rw[h2];exact I.bh⟩
 have nx:LR S gs' hs' g held':=I.lr.next hg hle ho hr hev hw hz hlast hhl (fun j=>by rw[hF];exact hs j) hd.1 hd.2.1
 have com:Com (cst fs') (cst gs') (cst gs') (cst hs'):=Com.step (c:=g ^ os.length) (φ:=φ) (Ut hg0) hφ hev fun x=>by
  have e:Cv.ev (cst rs) x=Cv.ev ((cst hs').map (· * (φ:Rat))) x:=Ht x _ _ fun j=>by
   rw[AW,CY,CY,hs j,SH,UB]
  show Cv.ev (cst rs) x=_
  rw[e,Cv.ev_scale,UB];rfl
 have t2:DL hs':=fun t ht z=>by
  have hjl:=(RF.mp ht).1
  have:=hlast (by lia)
  rw[hs,T6,<- hhl,ht,z]at this
  exact this (Ux _)
 exact⟨⟨nx,by lia,by lia,I.t2,t2,I.com.trans com,I.bg,hsB,bg,hd.2.2⟩,fun _=>Mp (by lia) I.t2 I.bg⟩
end
end L2
namespace L2
open PySem PySem.Spec PyProof.Rows
structure Ov(L:Int)(W:Nat)(cs:List Rat):Prop where
 ne:L≠0
 is:∀q∈cs,∃t:Int,Bd W t/\q*(L:Rat)=(t:Rat)
theorem Ll{c:Rat}{L t:Int}(h:c*(L:Rat)=(t:Rat)):(c.den:Int)∣L:=by
 have e:c.num*L=t*c.den:=Uz.mp (by rw[SH,SH,Nm.num_mul,<- h];grind)
 have e2:c.den∣c.num.natAbs*L.natAbs:=by
  rw[<- Tj,e,Tj]
  exact Nat.dvd_mul_left ..
 exact Int.ofNat_dvd_left.mpr (Nat.Coprime.dvd_of_dvd_mul_left c.reduced.symm e2)
theorem MS{c:Rat}{L B t T:Int}{W:Nat}(hL:L≠0)(hBL:B∣L)(e:c*(L:Rat)=(t:Rat))(eT:(T:Rat)=c*(B:Rat))(bt:Bd W t):Bd W T:=by
 obtain⟨k,rfl⟩:=hBL
 have e2:t=T*k:=Uz.mp (by rw[SH,eT,<- e,SH];grind)
 have k0:k≠0:=fun z=>hL (by rw[z,Ux])
 unfold Bd at *
 rw[e2,Tj]at bt
 exact So (Nat.le_mul_of_pos_right _ (Int.natAbs_pos.mpr k0)) bt
theorem JQ{W:Nat}:Bd W 0:=by unfold Bd;exact Tq (by decide)
theorem MR{L u v:Int}{W nx:Nat}{s:Rat}(hu:Bd nx u)(hv:Bd nx v)(hs:s*(v:Rat)=(u:Rat)):∀{r:List Rat},(∀q∈r,∃t:Int,Bd W t/\q*(L:Rat)=(t:Rat))->∃t:Int,Bd (W+r.length*(nx+1)+1) t/\Cv.ev r s*((L*v ^ r.length:Int):Rat)=(t:Rat)
 | [],_=>⟨0,JQ,by show(0:Rat)*_=((0:Int):Rat);rw[UC];rfl⟩
 | a::r,h=>by
   obtain⟨t1,b1,e1⟩:=h a Rz
   obtain⟨t2,b2,e2⟩:=MR hu hv hs (r:=r) fun q hq=>h q (RA _ hq)
   refine⟨t1*v ^ (r.length+1)+u*t2,?_,?_⟩
   ·have p1:=b1.mul (hv.pow (r.length+1))
    have p2:=hu.mul b2
    rw[SO,Tr,Ts]
    have m1:nx*(r.length+1)=r.length*nx+nx:=by rw[TC,UM,Sm]
    have m2:r.length*(nx+1)=r.length*nx+r.length:=by rw[TC,UM]
    exact(Bd.add (p1.mono (n:=W+r.length*(nx+1)+nx+1) (by lia)) (p2.mono (by lia))).mono (by lia)
   ·show(a+s*Cv.ev r s)*((L*v ^ (r.length+1):Int):Rat)=_
    rw[Tz,SG,SH,SH,SH,SH,SH,<- e1,<- hs,<- e2,SH]
    grind
theorem JJ(s:Rat):∀(r:List Rat) (k:Nat),Cv.ev (r.drop k) s=r.getD k 0+s*Cv.ev (r.drop (k+1)) s
 | [],k=>by rw[UN,UN];show(0:Rat)=0+s*0;grind
 | q::r,0=>rfl
 | q::r,k+1=>JJ s r k
theorem HS(s:Rat):∀(a:List Rat) (k:Nat),(quo s a).getD k 0=Cv.ev (a.drop (k+1)) s
 | [],k=>by cases k<;>rfl
 | q::r,k=>by
   show(AY r ((quo s r).map (· * s))).getD k 0=Cv.ev (r.drop k) s
   rw[Bo,AW,HS s r k,JJ s r k,UB]
theorem Np{L u v:Int}{W nx m:Nat}{s:Rat}{a:List Rat}(h:Ov L W a)(hv0:v≠0)(hu:Bd nx u)(hv:Bd nx v)(hs:s*(v:Rat)=(u:Rat))(ha:a.length<=m):Ov (L*v ^ m) (W+(m*(nx+1)+2)) (quo s a):=by
 refine⟨SF h.ne (Ut hv0),fun q hq=>?_⟩
 obtain⟨k,hk⟩:=U8 hq
 have e:q=Cv.ev (a.drop (k+1)) s:=by rw[<- HS,T6,hk];rfl
 obtain⟨t,bt,et⟩:=MR (L:=L) (W:=W) hu hv hs (r:=a.drop (k+1)) fun q hq=>h.is q (UO hq)
 obtain⟨n,hn⟩:∃n,n=(a.drop (k+1)).length:=⟨_,rfl⟩
 have hnm:n<=m:=by rw[hn,Sf];lia
 rw[<- hn]at bt et
 refine⟨t*v ^ (m-n),?_,?_⟩
 ·have p:=bt.mul (hv.pow (m-n))
  have m1:m*(nx+1)=n*(nx+1)+(m-n)*(nx+1):=by rw[<- Tr];congr 1;lia
  have m2:(m-n)*(nx+1)=nx*(m-n)+(m-n):=by rw[TC,UM,Sm]
  exact p.mono (by lia)
 ·have em:L*v ^ m=L*v ^ n*v ^ (m-n):=by rw[Uq,<- Uw,show n+(m-n)=m by lia]
  rw[e,em,SH (L*v ^ n),SH t,<- et,TF]
theorem Nc{a b:List Rat}{s:Rat}(h:∀x,Cv.ev a x=(x-s)*Cv.ev b x)(x:Rat):Cv.ev (quo s a) x=Cv.ev b x:=by
 refine CK (p:=s) (fun x=>?_) x
 have e:=DU s x a
 have e0:Cv.ev a s=0:=by rw[h,Rat.sub_self,UC]
 rw[<- h,e,e0];grind
def Lf(m:Nat):List Rat->Int
 | []=>1
 | s::S=>(s.den:Int) ^ m*Lf m S
theorem FD{nx m:Nat}:∀{S a b:List Rat} {L:Int} {W:Nat},(∀s∈S,RB nx s)->Ov L W a->a.length<=m->(∀x,Cv.ev a x=prV x S*Cv.ev b x)->Ov (L*Lf m S) (W+S.length*(m*(nx+1)+2)) b
 | [],a,b,L,W,_,h,_,he=>by
   have hn:=h.ne
   refine⟨by show L*1≠0;rw[Int.mul_one];exact hn,fun q hq=>?_⟩
   obtain⟨k,hk⟩:=U8 hq
   have e:q=a.getD k 0:=by
    rw[Ei (l:=a) (m:=b) (fun j=>by rw[he];show 1*_=_;rw[UH]) k,T6,hk];rfl
   show ∃t:Int,Bd (W+0*_) t/\q*((L*1:Int):Rat)=_
   rw[Nat.zero_mul,Int.mul_one]
   cases z:a[k]? with
   | none=>exact⟨0,JQ,by rw[e,T6,z];show(0:Rat)*_=((0:Int):Rat);rw[UC];rfl⟩
   | some y =>
     have:q=y:=by rw[e,T6,z];rfl
     rw[this]
     exact h.is y (S5 z)
 | s::S,a,b,L,W,hS,h,ha,he=>by
   have hs:=hS s Rz
   have h1:=Np (m:=m) h (Nm.den_ne s) hs.1 hs.2 (Nm.num_mul s).symm ha
   have e1:=Nc (a:=a) (b:=BB (prL S) b) (s:=s) fun x=>by
    rw[he,AE,C7,<- TF];rfl
   have h2:=FD (nx:=nx) (m:=m) (S:=S) (a:=quo s a) (b:=b) (fun y hy=>hS y (RA _ hy)) h1 (by have:=D7 s a;lia) (fun x=>by rw[e1,AE,C7])
   have eL:L*(s.den:Int) ^ m*Lf m S=L*Lf m (s::S):=by show _=L*((s.den:Int) ^ m*Lf m S);rw[Uq]
   have eW:W+(m*(nx+1)+2)+S.length*(m*(nx+1)+2)=W+(s::S).length*(m*(nx+1)+2):=by rw[SO,Tr,Ts];lia
   rw[eL,eW]at h2
   exact h2
theorem Mq{N D n' d' S:List Rat}{c:Rat}{G nx m:Nat}(hN:∀q∈N,Bd G q.num/\Bd 1 (q.den:Int))(hD:∀q∈D,Bd G q.num/\Bd 1 (q.den:Int))(lN:N.length<=m)(lD:D.length<=m)(hS:∀s∈S,RB nx s)
 (evN:∀x,Cv.ev N x=c*prV x S*Cv.ev n' x) (evD:∀x,Cv.ev D x=c*prV x S*Cv.ev d' x) (hl:d'[d'.length-1]? = some 1) (hc:c≠0):∃L,Ov L (G+S.length*(m*(nx+1)+2)) n'/\Ov L (G+S.length*(m*(nx+1)+2)) d':=by
 have own:∀{A:List Rat},(∀q∈A,Bd G q.num/\Bd 1 (q.den:Int))->Ov 1 G A:=fun hA=>⟨by decide,fun q hq=>⟨q.num,(hA q hq).1,by
  have h1:=(hA q hq).2
  have h0:=q.den_pos
  have:q.den=1:=by unfold Bd at h1;lia
  have e:=Nm.num_mul q
  rw[this]at e
  exact e.symm⟩⟩
 have o1:=FD (S:=S) (a:=N) (b:=n'.map (· * c)) hS (own hN) lN fun x=>by rw[evN,Cv.ev_scale];grind
 have o2:=FD (S:=S) (a:=D) (b:=d'.map (· * c)) hS (own hD) lD fun x=>by rw[evD,Cv.ev_scale];grind
 rw[Sy]at o1 o2
 obtain⟨t0,b0,e0⟩:=o2.is c (U4.mpr ⟨1,S5 hl,UH c⟩)
 have t0n:t0≠0:=fun z=>by
  rw[z]at e0
  rcases SY.mp (e0.trans (show((0:Int):Rat)=0 from rfl)) with z | z
  ·exact hc z
  ·exact o2.ne (Uz.mp (z.trans (show(0:Rat)=((0:Int):Rat) from rfl)))
 refine⟨t0,⟨t0n,fun q hq=>?_⟩,⟨t0n,fun q hq=>?_⟩⟩
 ·obtain⟨t,bt,et⟩:=o1.is _ (U4.mpr ⟨q,hq,rfl⟩)
  exact⟨t,bt,by rw[<- e0,<- TF];exact et⟩
 ·obtain⟨t,bt,et⟩:=o2.is _ (U4.mpr ⟨q,hq,rfl⟩)
  exact⟨t,bt,by rw[<- e0,<- TF];exact et⟩
theorem Cb.lines{w v:Int}{n:Nat}{ps:List (Rat×Rat)}{r1 r2:Int}{N1 D1 N2 D2:List Rat}(I:Cb w v n ps r1 r2 N1 D1 N2 D2)(hw:w+v=n+1)(hn:(ps.map Prod.fst).Nodup)(hl:ps.length=n):∃κ:Rat,κ≠0/\∀x,Cv.ev N1 x*Cv.ev D2 x-Cv.ev N2 x*Cv.ev D1 x=κ*prV x (ps.map Prod.fst):=by
 have hs:=I.sum
 have hq:(ps.map Prod.fst).length=n:=by rw[S7,hl]
 obtain⟨l1,hl1,e1⟩:=DF (k:=n+1) I.le1.1 I.le2.2 hw (by lia)
 obtain⟨l2,hl2,e2⟩:=DF (k:=n+1) I.le2.1 I.le1.2 hw (by lia)
 generalize hqs:ps.map Prod.fst=qs at *
 obtain⟨M,hM⟩:∃M,M=AY l1 (l2.map (· * (-1))):=⟨_,rfl⟩
 have eM:∀x,Cv.ev M x=Cv.ev N1 x*Cv.ev D2 x-Cv.ev N2 x*Cv.ev D1 x:=fun x=>by rw[hM,Bc,Cv.ev_scale,e1,e2];grind
 have lM:∀j,n+1<=j->M.getD j 0=0:=fun j hj=>by
  rw[hM,Bo,AW,T6,T6,TL (by lia),TL (by lia)];show(0:Rat)+0*(-1)=0;grind
 have z0:∀q∈qs,Cv.ev M q=0:=fun q hq=>by
  rw[<- hqs]at hq
  obtain⟨p,hp,rfl⟩:=U4.mp hq
  rw[eM,I.on1 p hp,I.on2 p hp];grind
 obtain⟨κ,hκ⟩:∃κ,κ=M.getD n 0:=⟨_,rfl⟩
 have lead:=FA qs
 rw[hq]at lead
 have hR:∀x,Cv.ev (AY M ((prL qs).map (· * (-κ)))) x=0:=fun x=>by
  rw[<- CC _ n (fun j hj=>?_) x]
  ·refine D3 qs hn (by rw[RY];lia) (fun q hq=>?_) x
   rw[CC _ n (fun j hj=>?_),Bc,Cv.ev_scale,C7,z0 q hq,Lh hq]
   ·grind
   ·rw[Bo,AW]
    by_cases hjn:j=n
    ·rw[hjn,lead,<- hκ];grind
    ·rw[lM j (by lia),T6,TL (by rw[BN];lia)];show(0:Rat)+0*_=0;grind
  ·rw[Bo,AW]
   by_cases hjn:j=n
   ·rw[hjn,lead,<- hκ];grind
   ·rw[lM j (by lia),T6,TL (by rw[BN];lia)];show(0:Rat)+0*_=0;grind
 have e3:∀x,Cv.ev N1 x*Cv.ev D2 x-Cv.ev N2 x*Cv.ev D1 x=κ*prV x qs:=fun x=>by
  have:=hR x
  rw[Bc,Cv.ev_scale,C7,eM]at this
  grind
 refine⟨κ,fun z=>I.ne fun x=>?_,e3⟩
 have:=e3 x
 rw[z]at this
 grind
theorem Cb.part{w v:Int}{n:Nat}{ps:List (Rat×Rat)}{r1 r2:Int}{N1 D1 N2 D2 n' d' S:List Rat}{c:Rat}(I:Cb w v n ps r1 r2 N1 D1 N2 D2)(hw:w+v=n+1)(hn:(ps.map Prod.fst).Nodup)(hl:ps.length=n)
 (evN:∀x,Cv.ev N1 x=c*prV x S*Cv.ev n' x) (evD:∀x,Cv.ev D1 x=c*prV x S*Cv.ev d' x) (hap:∀x∈ps.map Prod.fst,¬(Cv.ev n' x=0/\Cv.ev d' x=0)) {cs:List Rat} (h:IG n' d' cs):cs=[1]:=by
 obtain⟨κ,hκ,e⟩:=I.lines hw hn hl
 obtain⟨i1,i2⟩:=h.into
 have i3:Bh cs (AY (BB (BB ((prL S).map (· * c)) D2) n') (BB (BB ((prL S).map (· * (-c))) N2) d')):=Bh.of (a:=BB ((prL S).map (· * c)) D2) (b:=BB ((prL S).map (· * (-c))) N2) i1 i2 fun x=>by rw[Bc,AE,AE _ d']
 have i4:Bh cs [1]:=Bh.lines hκ i3 (os:=ps.map Prod.fst) (fun x=>by
  rw[<- e x,evN,evD,Bc,AE,AE,AE,AE,Cv.ev_scale,Cv.ev_scale,C7];grind) fun o ho z=>by
   obtain⟨u,hu⟩:=i1
   obtain⟨w',hw'⟩:=i2
   exact hap o ho ⟨by rw[hu,z,UD],by rw[hw',z,UD]⟩
 exact Lr h.good (.inr ⟨1,rfl,by decide⟩) h.mono rfl i4 ⟨cs,fun x=>by show _=_*(1+x*0);grind⟩
end L2
namespace Pf
set_option maxHeartbeats 4000000
open PySem L2
def top(i:Nat):Stmt:=PySem.Challenge.pw_onecurve_k52_quotients_told.main.body.getD i (.Pass ⟨0,0,0,0⟩)
theorem Gj{a1:Type}{p:a1->Prop}{G:Prop}(h:∃x1,p x1)(f:∀x1,p x1->G):G:=Exists.elim h f
theorem Dm{a1 a2:Type}{p:a1->a2->Prop}{G:Prop}(h:∃x1 x2,p x1 x2)(f:∀x1 x2,p x1 x2->G):G:=Exists.elim h fun x1 h=>Gj h (f x1)
theorem Eh{a1 a2 a3:Type}{p:a1->a2->a3->Prop}{G:Prop}(h:∃x1 x2 x3,p x1 x2 x3)(f:∀x1 x2 x3,p x1 x2 x3->G):G:=Exists.elim h fun x1 h=>Dm h (f x1)
theorem LJ{a1 a2 a3 a4:Type}{p:a1->a2->a3->a4->Prop}{G:Prop}(h:∃x1 x2 x3 x4,p x1 x2 x3 x4)(f:∀x1 x2 x3 x4,p x1 x2 x3 x4->G):G:=Exists.elim h fun x1 h=>Eh h (f x1)
theorem Ko{a1 a2 a3 a4 a5:Type}{p:a1->a2->a3->a4->a5->Prop}{G:Prop}(h:∃x1 x2 x3 x4 x5,p x1 x2 x3 x4 x5)(f:∀x1 x2 x3 x4 x5,p x1 x2 x3 x4 x5->G):G:=Exists.elim h fun x1 h=>LJ h (f x1)
theorem Pc{a1 a2 a3 a4 a5 a6:Type}{p:a1->a2->a3->a4->a5->a6->Prop}{G:Prop}(h:∃x1 x2 x3 x4 x5 x6,p x1 x2 x3 x4 x5 x6)(f:∀x1 x2 x3 x4 x5 x6,p x1 x2 x3 x4 x5 x6->G):G:=Exists.elim h fun x1 h=>Ko h (f x1)
theorem NU{a1 a2 a3 a4 a5 a6 a7:Type}{p:a1->a2->a3->a4->a5->a6->a7->Prop}{G:Prop}(h:∃x1 x2 x3 x4 x5 x6 x7,p x1 x2 x3 x4 x5 x6 x7)(f:∀x1 x2 x3 x4 x5 x6 x7,p x1 x2 x3 x4 x5 x6 x7->G):G:=Exists.elim h fun x1 h=>Pc h (f x1)
theorem OJ{a1 a2 a3 a4 a5 a6 a7 a8:Type}{p:a1->a2->a3->a4->a5->a6->a7->a8->Prop}{G:Prop}(h:∃x1 x2 x3 x4 x5 x6 x7 x8,p x1 x2 x3 x4 x5 x6 x7 x8)(f:∀x1 x2 x3 x4 x5 x6 x7 x8,p x1 x2 x3 x4 x5 x6 x7 x8->G):G:=Exists.elim h fun x1 h=>NU h (f x1)
theorem LI{a1 a2 a3 a4 a5 a6 a7 a8 a9:Type}{p:a1->a2->a3->a4->a5->a6->a7->a8->a9->Prop}{G:Prop}(h:∃x1 x2 x3 x4 x5 x6 x7 x8 x9,p x1 x2 x3 x4 x5 x6 x7 x8 x9)(f:∀x1 x2 x3 x4 x5 x6 x7 x8 x9,p x1 x2 x3 x4 x5 x6 x7 x8 x9->G):G:=Exists.elim h fun x1 h=>OJ h (f x1)
theorem BO{A1 A2 G:Prop}(h:A1/\A2)(f:A1->A2->G):G:=f h.1 h.2
theorem Dp{A1 A2 A3 G:Prop}(h:A1/\A2/\A3)(f:A1->A2->A3->G):G:=BO h.2 (f h.1)
theorem Ku{A1 A2 A3 A4 G:Prop}(h:A1/\A2/\A3/\A4)(f:A1->A2->A3->A4->G):G:=Dp h.2 (f h.1)
theorem Cq{A1 A2 A3 A4 A5 G:Prop}(h:A1/\A2/\A3/\A4/\A5)(f:A1->A2->A3->A4->A5->G):G:=Ku h.2 (f h.1)
theorem LY{A1 A2 A3 A4 A5 A6 G:Prop}(h:A1/\A2/\A3/\A4/\A5/\A6)(f:A1->A2->A3->A4->A5->A6->G):G:=Cq h.2 (f h.1)
theorem MK{A1 A2 A3 A4 A5 A6 A7 G:Prop}(h:A1/\A2/\A3/\A4/\A5/\A6/\A7)(f:A1->A2->A3->A4->A5->A6->A7->G):G:=LY h.2 (f h.1)
theorem Pg{A1 A2 A3 A4 A5 A6 A7 A8 G:Prop}(h:A1/\A2/\A3/\A4/\A5/\A6/\A7/\A8)(f:A1->A2->A3->A4->A5->A6->A7->A8->G):G:=MK h.2 (f h.1)
theorem Pe{A1 A2 A3 A4 A5 A6 A7 A8 A9 G:Prop}(h:A1/\A2/\A3/\A4/\A5/\A6/\A7/\A8/\A9)(f:A1->A2->A3->A4->A5->A6->A7->A8->A9->G):G:=Pg h.2 (f h.1)
theorem JU{A1 A2 A3 A4 A5 A6 A7 A8 A9 A10 G:Prop}(h:A1/\A2/\A3/\A4/\A5/\A6/\A7/\A8/\A9/\A10)(f:A1->A2->A3->A4->A5->A6->A7->A8->A9->A10->G):G:=Pe h.2 (f h.1)
theorem OR{A1 A2 A3 A4 A5 A6 A7 A8 A9 A10 A11 G:Prop}(h:A1/\A2/\A3/\A4/\A5/\A6/\A7/\A8/\A9/\A10/\A11)(f:A1->A2->A3->A4->A5->A6->A7->A8->A9->A10->A11->G):G:=JU h.2 (f h.1)
theorem OQ{A1 A2 A3 A4 A5 A6 A7 A8 A9 A10 A11 A12 G:Prop}(h:A1/\A2/\A3/\A4/\A5/\A6/\A7/\A8/\A9/\A10/\A11/\A12)(f:A1->A2->A3->A4->A5->A6->A7->A8->A9->A10->A11->A12->G):G:=OR h.2 (f h.1)
theorem OP{A1 A2 A3 A4 A5 A6 A7 A8 A9 A10 A11 A12 A13 G:Prop}(h:A1/\A2/\A3/\A4/\A5/\A6/\A7/\A8/\A9/\A10/\A11/\A12/\A13)(f:A1->A2->A3->A4->A5->A6->A7->A8->A9->A10->A11->A12->A13->G):G:=OQ h.2 (f h.1)
theorem OO{A1 A2 A3 A4 A5 A6 A7 A8 A9 A10 A11 A12 A13 A14 G:Prop}(h:A1/\A2/\A3/\A4/\A5/\A6/\A7/\A8/\A9/\A10/\A11/\A12/\A13/\A14)(f:A1->A2->A3->A4->A5->A6->A7->A8->A9->A10->A11->A12->A13->A14->G):G:=OP h.2 (f h.1)
theorem ON{A1 A2 A3 A4 A5 A6 A7 A8 A9 A10 A11 A12 A13 A14 A15 G:Prop}(h:A1/\A2/\A3/\A4/\A5/\A6/\A7/\A8/\A9/\A10/\A11/\A12/\A13/\A14/\A15)(f:A1->A2->A3->A4->A5->A6->A7->A8->A9->A10->A11->A12->A13->A14->A15->G):G:=OO h.2 (f h.1)
section
variable {X:Cx}
inductive Jp(x:V)(vs:List V)(H:Hp)(Q:VK):Prop
 | mk (l:_) (xs:_) (i:_) (k:_) (y:_) (h1:x = .ref l) (h2:vs=[.int i,y]) (h3:i=((k:Nat):Int)) (h4:H l=some (.lst xs)) (h5:k<=xs.length) (h6:xs.length<=1000) (h7:Q .non (upd H l (.lst (xs.take k++y::xs.drop k)))):Jp x vs H Q
theorem LB{i:Int}{k:Nat}(e:i=(k:Int))(h:k<=1000):¬(!Builtin.List.listFitsIndex i)=true:=by
 have e:Builtin.List.listFitsIndex i=true:=by
  unfold Builtin.List.listFitsIndex
  rw[decide_eq_true (by lia),decide_eq_true (by lia)];rfl
 rw[e];decide
theorem NQ(l:List Value)(i:Int)(k:Nat)(hi:i=(k:Int))(hk:k<=l.length)(y:Value):(fun xs:Array Value=>have k:=if i<0 then (i+(xs.size:Int)).toNat else min i.toNat xs.size;(xs.extract 0 k).push y++xs.extract k) l.toArray=(l.take k++y::l.drop k).toArray:=by
 have e:(if i<0 then (i+(l.toArray.size:Int)).toNat else min i.toNat l.toArray.size)=k:=by
  rw[if_neg (by lia),Sg,hi,Sb,Sd hk]
 show(l.toArray.extract 0 _).push y++l.toArray.extract _=_
 rw[e]
 apply Array.toList_inj.mp
 simp
 exact TN (by simp)
theorem Ka:MtM X "list.insert" Jp:=by
 intro pins s σ H x vs v us Q I rx rv h
 obtain⟨l,xs,i,k,y,rfl,rfl,hi,hH,hk,hz,q⟩:=h
 cases rx
 obtain⟨u,v',rfl,ru,rv'⟩:=rv.two
 obtain⟨t,rfl⟩:=ru
 obtain⟨z,its,n,r,hl,e⟩:=I.lstM hH
 have hk1:k<=1000:=by lia
 have hsz:its.toArray.size<=sizeLine:=by rw[Sg,<- hl];exact z
 have M:=AutoSeq1.list_insert_list_int_val_1 l its.toArray n i t v' (LB hi hk1) hsz
 refine call_meets F.slot_list_insert ⟨_,e,rfl⟩ F.entry_list_insert (F.args_list_insert_3 _ _ _) M ⟨e,?_⟩
 refine⟨.non,_,I.lset (its':=its.take k++v'::its.drop k) hH e (NQ its i k hi (by lia) v') ((r.take k).append (.cons rv' (r.drop k))) ?_,rfl,q⟩
 have hs:1000<sizeLine:=AF (RK _)
 rw[S6,SO,RY,Sf]
 lia
end
def AB(B:Int)(q:Rat):Int:=q.num*B.fdiv q.den
theorem CO{B:Int}{q:Rat}(h:(q.den:Int)∣B):((AB B q:Int):Rat)=q*(B:Rat):=by
 obtain⟨k,rfl⟩:=h
 have e:(((q.den:Int)*k).fdiv (q.den:Int))=k:=Su _ (Nm.den_ne q)
 unfold AB
 rw[e,SH,SH,Nm.num_mul q]
 grind
theorem DX{B:Int}{qs:List Rat}(h:∀q∈qs,(q.den:Int)∣B)(x:Rat):Cv.ev ((qs.map (AB B)).map fun t:Int=>(t:Rat)) x=Cv.ev qs x*(B:Rat):=by
 rw[<- Cv.ev_scale,List.map_map]
 congr 1
 exact UP fun q hq=>CO (h q hq)
inductive Fp(K:Rv)(vs:List V)(H:Hp)(Q:VK)(E_3:XK):Prop
 | mk (b:Bool) (r:Addr) (xs:List V) (qs:List Rat) (n:Nat) (h1:vs=[.ref r]) (h2:Sq b K H r xs) (h3:Ar K H xs qs) (h4:(∀q∈qs,Bd n (q.den:Int))) (h5:n*(qs.length+2)<=60000000) (h6:∀B:Int,0<B->(∀q∈qs,(q.den:Int)∣B)->Bd (n*qs.length+1) B->(∀M:Int,(∀q∈qs,(q.den:Int)∣M)->B∣M)->Q (.int B) H):Fp K vs H Q E_3
inductive El(K:Rv)(vs:List V)(H:Hp)(Q:VK)(E_3:XK):Prop
 | mk (b:Bool) (r:Addr) (xs:List V) (qs:List Rat) (B:Int) (m n:Nat) (h1:vs=[.ref r,.int B]) (h2:Sq b K H r xs) (h3:Ar K H xs qs) (h4:Bd m B) (h5:(∀q∈qs,Bd n q.num)) (h6:m+n<=134217728) (h7:qs.length<=1000) (h8:∀p,H p=none->Q (.ref p) (upd H p (.lst ((qs.map (AB B)).map V.int)))):El K vs H Q E_3
inductive DD(K:Rv)(vs:List V)(H:Hp)(Q:VK)(E_3:XK):Prop
 | mk (r:Addr) (xs:List V) (qs:List Rat) (h1:vs=[.ref r]) (h2:SqL K H r xs) (h3:Ar K H xs qs) (h4:qs.length<=1000) (h5:∀p H',Af H H'->Crv K H' p (Cv.strip qs)->Q (.ref p) H'):DD K vs H Q E_3
inductive Mc(K:Rv)(vs:List V)(H:Hp)(Q:VK)(E_3:XK):Prop
 | mk (l rx:Addr) (ts:List Int) (x:Rat) (m n:Nat) (h1:vs=[.ref l,.ref rx]) (h2:SqL K H l (ts.map V.int)) (h3:Az K H (.ref rx) x) (h4:(∀t∈ts,Bd m t)) (h5:RB n x) (h6:m+(n+1)*(ts.length+4)<=100000000) (h7:∀(h s:Int) (p:Addr),s=(x.den:Int) ^ ts.length->s≠0->(h:Rat)=Cv.evI ts x*(s:Rat)->Bd (m+(n+1)*(ts.length+2)) h->Bd (n*ts.length+1) s->H p=none->Q (.ref p) (upd H p (.tup [.int h,.int s]))):Mc K vs H Q E_3
theorem Lw{b d:Int}(hb:0<b)(hd:0<d):0<b*d.fdiv (Sr b d:Int)/\b∣b*d.fdiv (Sr b d:Int)/\d∣b*d.fdiv (Sr b d:Int):=by
 have g0:(0:Int)<(Sr b d:Int):=by have:=Nm.gcd_pos (a:=b) (b:=d) (by lia);lia
 obtain⟨k,hk⟩:(Sr b d:Int)∣d:=Sz ..
 obtain⟨j,hj⟩:(Sr b d:Int)∣b:=Sx ..
 generalize(Sr b d:Int)=g at *
 subst hk
 subst hj
 have e:(g*k).fdiv g=k:=Su _ (by lia)
 rw[e]
 have hk0:0<k:=by
  rcases Int.lt_trichotomy k 0 with z | z | z
  ·have:g*k<0:=Int.mul_neg_of_pos_of_neg g0 z
   lia
  ·rw[z,Ux]at hd;lia
  ·exact z
 exact⟨Int.mul_pos hb hk0,⟨k,rfl⟩,⟨j,by grind⟩⟩
inductive IS(K:Rv)(vs:List V)(H:Hp)(Q:VK)(E_3:XK):Prop
 | mk (f g:Addr) (fs gs:List Int) (m n:Nat) (h1:vs=[.ref f,.ref g]) (h2:SqL K H f (fs.map V.int)) (h3:SqL K H g (gs.map V.int)) (h4:1<=gs.length) (h5:fs.length<=1000) (h6:gs.length<=1000) (h7:(∀t∈fs,Bd m t)) (h8:(∀t∈gs,Bd n t)) (h9:m+n<=60000000) (h10:∀(p:Addr) (H':Hp) (ps:List Int),Af H H'->H p=none->H' p=some (.lst (ps.map V.int))->ps.length=fs.length+gs.length-1->(∀x,Cv.evI ps x=Cv.evI fs x*Cv.evI gs x)->(∀t∈ps,Bd (m+n+20) t)->Q (.ref p) H'):IS K vs H Q E_3
inductive C2(K:Rv)(vs:List V)(H:Hp)(Q:VK)(E_3:XK):Prop
 | mk (l:Addr) (ts:List Int) (b:Int) (h1:vs=[.ref l,.int b]) (h2:SqL K H l (ts.map V.int)) (h3:b≠0) (h4:ts.length<=1000) (h5:∀p H',Af H H'->Crv K H' p (Cv.strip (ts.map fun t=>Sv t b))->Q (.ref p) H'):C2 K vs H Q E_3
inductive GQ(K:Rv)(n:Nat)(vs:List V)(H:Hp)(Q:VK)(E_3:XK):Prop
 | mk (a:Addr) (most:Int) (h1:vs=[.ref a,.int most]) (h2:Pen H a) (h3:0<=most) (h4:most<=100) (h5:∀(qs:List Rat) (r:Addr) (H':Hp),Mv a H H'->Pen H' a->Crv K H' r qs->B0 qs->(qs.length:Int)<=most->(∀q∈qs,RB n q)->Q (.ref r) H'):GQ K n vs H Q E_3
theorem Ds{α β:Type}{F:α->β->Prop}:∀{l₁:List α} {l₂:List β} (i:Nat),Paired F l₁ l₂->Paired F (l₁.drop i) (l₂.drop i)
 | _,_,i,.nil=>by rw[UN,UN];exact .nil
 | _,_,0,.cons h t=>.cons h t
 | _,_,i+1,.cons _ t=>Ds i t
def cnt(x:Rat):List Rat->Nat
 | []=>0
 | y::r=>(if x<=y then 1 else 0)+cnt x r
theorem LV(x:Rat):∀l,cnt x l<=l.length
 | []=>RK _
 | y::r=>by
   have:=LV x r
   show(if x<=y then 1 else 0)+cnt x r<=r.length+1
   split<;>lia
theorem L0(x:Rat):x<=x+1:=by grind
theorem N8(x:Rat):¬x+1<=x:=by grind
theorem Iz(x:Rat):∀l,cnt (x+1) l<=cnt x l
 | []=>RK _
 | y::r=>by
   have:=Iz x r
   show(if x+1<=y then 1 else 0)+cnt (x+1) r<=(if x<=y then 1 else 0)+cnt x r
   by_cases h:x+1<=y
   ·rw[if_pos h,if_pos (UQ (L0 x) h)];lia
   ·rw[if_neg h];lia
theorem Jg{x:Rat}:∀{l},x∈l->cnt (x+1) l<cnt x l
 | y::r,h=>by
   show(if x+1<=y then 1 else 0)+cnt (x+1) r<(if x<=y then 1 else 0)+cnt x r
   rcases RC.mp h with z | z
   ·subst z
    have:=Iz x r
    rw[if_neg (N8 x),if_pos Rat.le_refl];lia
   ·have:=Jg z
    by_cases h:x+1<=y
    ·rw[if_pos h,if_pos (UQ (L0 x) h)];lia
    ·rw[if_neg h];lia
theorem N7{j:Nat}(h:j<=100):RB 7 ((j:Nat):Rat):=⟨by rw[Rat.num_natCast];unfold Bd;lia,by rw[Rat.den_natCast];unfold Bd;decide⟩
inductive En(K:Rv)(n:Nat)(vs:List V)(H:Hp)(Q:VK)(E_3:XK):Prop
 | mk (a:Addr) (m:Int) (h1:vs=[.ref a,.int m]) (h2:Pen H a) (h3:0<=m) (h4:m<=100) (h5:∀(l:Addr) (H':Hp) (zs:List V) (qs:List Rat),Mv a H H'->Pen H' a->H l=none->H' l=some (.lst zs)->AV H' zs qs->(qs.length:Int)=m->qs.Nodup->(∀q∈qs,RB (n+8) q)->Q (.ref l) H'):En K n vs H Q E_3
inductive Jn(K:Rv)(vs:List V)(H:Hp)(Q:VK)(E_3:XK):Prop
 | mk (b:Bool) (r rx:Addr) (xs:List V) (qs:List Rat) (x:Rat) (c n:Nat) (h1:vs=[.ref r,.ref rx]) (h2:Sq b K H r xs) (h3:Ar K H xs qs) (h4:Az K H (.ref rx) x) (h5:(∀q∈qs,RB c q)) (h6:RB n x) (h7:(c+n*qs.length+4)*(qs.length+2)<=90000000) (h8:∀p H',Af H H'->H' p=some (nT (Cv.ev qs x))->RB ((c+n*qs.length+4)*(qs.length+1)) (Cv.ev qs x)->Q (.ref p) H'):Jn K vs H Q E_3
def ic(ts:List Int):List Rat:=ts.map fun t:Int=>(t:Rat)
theorem Bg(ts:List Int)(j:Nat):(ic ts).getD j 0=((ts.getD j 0:Int):Rat):=by
 unfold ic
 rw[T6,T6,S3]
 cases ts[j]? with
 | none=>rfl
 | some t=>rfl
inductive IW(K:Rv)(vs:List V)(H:Hp)(Q:VK)(E_3:XK):Prop
 | mk (l rx ry:Addr) (ts:List Int) (x y:Rat) (R m nx ny:Nat) (h1:vs=[.ref l,.ref rx,.ref ry]) (h2:SqL K H l (ts.map V.int)) (h3:ts.length=2*R) (h4:Az K H (.ref rx) x) (h5:Az K H (.ref ry) y) (h6:(∀t∈ts,Bd m t)) (h7:RB nx x) (h8:RB ny y) (h9:m+(nx+1)*(R+4)+ny<=100000000) (h10:∀(L:Int) (H':Hp),Af H H'->(L:Rat)=(((y.den:Int)*(x.den:Int) ^ R:Int):Rat)*(Cv.evI (ts.take R) x-y*Cv.evI (ts.drop R) x)->Bd (m+(nx+1)*(R+2)+ny+1) L->Q (.int L) H'):IW K vs H Q E_3
def shI(c d:Int)(ts:List Int):List Int:=(Rr ts.length).map fun k=>d*(if k=0 then 0 else ts.getD (k-1) 0)-c*ts.getD k 0
inductive GN(K:Rv)(vs:List V)(H:Hp)(Q:VK)(E_3:XK):Prop
 | mk (l rx:Addr) (ts:List Int) (x:Rat) (m n:Nat) (h1:vs=[.ref l,.ref rx]) (h2:SqL K H l (ts.map V.int)) (h3:Az K H (.ref rx) x) (h4:1<=ts.length) (h5:ts.length<=100) (h6:ts.getD (ts.length-1) 0=0) (h7:(∀t∈ts,Bd m t)) (h8:RB n x) (h9:m+n<=100000000) (h10:∀(p:Addr) (H':Hp),Af H H'->H' p=some (.lst ((shI x.num x.den ts).map V.int))->(∀t∈shI x.num x.den ts,Bd (m+n+1) t)->Q (.ref p) H'):GN K vs H Q E_3
inductive KN(K:Rv)(vs:List V)(H:Hp)(Q:VK)(E_3:XK):Prop
 | mk (l:Addr) (ts:List Int) (m:Nat) (h1:vs=[.ref l]) (h2:SqL K H l (ts.map V.int)) (h3:(∃t∈ts,t≠0)) (h4:ts.length<=100) (h5:(∀t∈ts,Bd m t)) (h6:∀(p:Addr) (H':Hp) (g:Int) (us:List Int),Af H H'->H' p=some (.lst (us.map V.int))->g≠0->us.length=ts.length->(∀j,g*us.getD j 0=ts.getD j 0)->(∀t∈us,Bd m t)->Q (.ref p) H'):KN K vs H Q E_3
theorem Ip{ts:List Int}{j:Nat}(h:j<ts.length):ts.getD j 0∈ts:=by
 rw[T6,Te h];exact Tf h
theorem CL{ts:List Int}{m:Nat}(h:∀t∈ts,Bd m t)(j:Nat):Bd m (ts.getD j 0):=by
 rcases UG j ts.length with z | z
 ·exact h _ (Ip z)
 ·rw[T6,TL z]
  show Bd m 0
  unfold Bd
  exact Tq (by decide)
theorem Nz{K:Rv}{a b:Addr}{js:List Nat}{xs ys:List V}{te:TE}{σ:St}{H:Hp}{Fin:List V->Hp->Prop}(Pv:Nat->List V->Hp->Prop)(h0:Pv 0 [] H)
 (hl:∀i zs H,i<=min xs.length ys.length->Pv i zs H->SqL K H a xs/\SqL K H b ys/\zs.length=i) (hz:min xs.length ys.length<=sizeLine)
 (hs:∀i x y T zs H,xs[i]? = some x->ys[i]? = some y->H T=none->Pv i zs H->te (((cS 2 js σ).set 0 (some x)).set 1 (some y)) (upd H T (.tup [x,y])) fun y H4=>Pv (i+1) (zs++[y]) H4) (fin:∀zs H',Pv (min xs.length ys.length) zs H'->Fin zs H') :
 ∃(n':Nat) (W:Nat->List V->Hp->Prop),W 0 [] H/\LcW (Itz K a b xs ys) n' 2 js σ (Km K 2 (FP (Ck 0) (FP (Ck 1) MF))) JZ te Fin W:=by
 refine⟨min xs.length ys.length,Pv,h0,⟨?_,?_,?_⟩⟩
 ·intro i zs H' hi p
  obtain⟨h1,h2,h3⟩:=hl i zs H' (Rx hi) p
  exact⟨⟨h1,h2,hi⟩,by lia⟩
 ·rintro i zs H' x H1 hi p ⟨T,x1,y1,hx,hy,hT,rfl,rfl⟩
  exact⟨T,_,rfl,SqT.of Ac,rfl,x1,_,rfl,y1,_,rfl,rfl,hs i x1 y1 T zs H' hx hy hT p⟩
 ·intro zs H' p
  obtain⟨h1,h2,h3⟩:=hl _ zs H' (RK _) p
  exact⟨⟨h1,h2,RK _⟩,by lia,fin zs H' p⟩
def Rpr(K:Rv)(H:Hp)(v:V)(r:Int)(ts:List Int):Prop:=∃p l,v = .ref p/\SqT K H p [.int r,.ref l]/\SqL K H l (ts.map V.int)
theorem Rpr.same{K:Rv}{H H':Hp}{v:V}{r:Int}{ts:List Int}(h:Rpr K H v r ts)(e:Af H H'):Rpr K H' v r ts:=let ⟨p,l,z,h1,h2⟩:=h;⟨p,l,z,h1.same e,Af.seq e h2⟩
structure PSt(w v:Int)(n R:Nat)(ps:List (Rat×Rat))(A S:Nat)(r1:Int)(ts1:List Int)(r2:Int)(ts2:List Int):Prop where
 inv:Cb w v n ps r1 r2 (ic (ts1.take R)) (ic (ts1.drop R)) (ic (ts2.take R)) (ic (ts2.drop R))
 l1:ts1.length=2*R
 l2:ts2.length=2*R
 z1:∀j,ps.length+1<=j->j<R->ts1.getD j 0=0/\ts1.getD (R+j) 0=0
 z2:∀j,ps.length+1<=j->j<R->ts2.getD j 0=0/\ts2.getD (R+j) 0=0
 bd:∃a1 a2,(∀t∈ts1,Bd a1 t)/\(∀t∈ts2,Bd a2 t)/\a1<=A/\a2<=A/\a1+a2<=S
inductive IX(K:Rv)(vs:List V)(H:Hp)(Q:VK)(E_3:XK):Prop
 | mk (b rx ry:Addr) (v1 v2:V) (r1 r2:Int) (ts1 ts2:List Int) (w v:Int) (n R:Nat) (ps:List (Rat×Rat)) (A S C nx ny:Nat) (x y:Rat) (h1:vs=[.ref b,.ref rx,.ref ry]) (h2:SqT K H b [v1,v2]) (h3:Rpr K H v1 r1 ts1) (h4:Rpr K H v2 r2 ts2) (h5:PSt w v n R ps A S r1 ts1 r2 ts2) (h6:R=n+1) (h7:w+v=n+1) (h8:Az K H (.ref rx) x) (h9:Az K H (.ref ry) y) (h10:RB nx x) (h11:RB ny y) (h12:((ps++[(x,y)]).map Prod.fst).Nodup) (h13:ps.length<n) (h14:n<=12) (h15:(nx+1)*(R+2)+ny+2<=C) (h16:A+3*C<=50000000) (h17:S+3*C<=50000000) (h18:∀(b':Addr) (H':Hp) (v1' v2':V) (r1' r2':Int) (us1 us2:List Int),Af H H'->SqT K H' b' [v1',v2']->Rpr K H' v1' r1' us1->Rpr K H' v2' r2' us2->PSt w v n R (ps++[(x,y)]) (S+C) (A+S+2*C) r1' us1 r2' us2->Q (.ref b') H'):IX K vs H Q E_3
theorem E3(c d:Int)(ts:List Int)(k:Nat):(shI c d ts).getD k 0=if k<ts.length then d*(if k=0 then 0 else ts.getD (k-1) 0)-c*ts.getD k 0 else 0:=by
 unfold shI
 rw[T6,S3]
 by_cases h:k<ts.length
 ·rw[if_pos h,U6 h];rfl
 ·rw[if_neg h,TL (by rw[U1];lia)];rfl
theorem DT(c d:Int)(ts:List Int):(shI c d ts).length=ts.length:=by unfold shI;rw[S7,U1]
theorem Bt(ts:List Int)(R j:Nat):(ts.take R).getD j 0=if j<R then ts.getD j 0 else 0:=by
 rw[T6,UE,T6]
 split<;>rfl
theorem Bu(ts:List Int)(R j:Nat):(ts.drop R).getD j 0=ts.getD (R+j) 0:=by
 rw[T6,T8,T6]
theorem CW{ts:List Int}{j:Nat}(h:ts.length<=j):ts.getD j 0=0:=by rw[T6,TL h];rfl
theorem Fq{c d:Int}{ts:List Int}{R:Nat}(hl:ts.length=2*R)(hR:1<=R)(h1:ts.getD (R-1) 0=0):Shf (c:Rat) (d:Rat) (ic (ts.take R)) (ic ((shI c d ts).take R)):=fun j=>by
 rw[Bg,Bg,Bg,Bt,Bt,Bt,E3]
 by_cases h:j<R
 ·rw[if_pos h,if_pos (by lia),if_pos h]
  by_cases z:j=0
  ·rw[if_pos z,if_pos z,SI,SH,SH];rfl
  ·rw[if_neg z,if_neg z,if_pos (by lia),SI,SH,SH]
 ·rw[if_neg h,if_neg h,if_neg (by lia)]
  by_cases z:j-1<R
  ·rw[if_pos z,show j-1=R-1 by lia,h1]
   show(0:Rat)=(d:Rat)*0-(c:Rat)*0
   grind
  ·rw[if_neg z]
   show(0:Rat)=(d:Rat)*0-(c:Rat)*0
   grind
theorem Fs{c d:Int}{ts:List Int}{R:Nat}(hl:ts.length=2*R)(hR:1<=R)(h1:ts.getD (R-1) 0=0)(h2:ts.getD (R+(R-1)) 0=0):Shf (c:Rat) (d:Rat) (ic (ts.drop R)) (ic ((shI c d ts).drop R)):=fun j=>by
 rw[Bg,Bg,Bg,Bu,Bu,Bu,E3]
 by_cases h:R+j<ts.length
 ·rw[if_pos h,if_neg (by lia)]
  by_cases z:j=0
  ·subst z
   rw[if_pos rfl,SJ,h1,SI,SH,SH];rfl
  ·rw[if_neg z,show R+j-1=R+(j-1) by lia,SI,SH,SH]
 ·rw[if_neg h,if_neg (by lia),CW (show ts.length<=R+j by lia)]
  by_cases z:j-1=R-1
  ·rw[z,h2]
   show(0:Rat)=(d:Rat)*0-(c:Rat)*0
   grind
  ·rw[CW (show ts.length<=R+(j-1) by lia)]
   show(0:Rat)=(d:Rat)*0-(c:Rat)*0
   grind
theorem Ft{c d:Int}{ts:List Int}{R k:Nat}(z:∀j,k+1<=j->j<R->ts.getD j 0=0/\ts.getD (R+j) 0=0):∀j,k+1+1<=j->j<R->(shI c d ts).getD j 0=0/\(shI c d ts).getD (R+j) 0=0:=fun j h1 h2=>by
 have a:=z j (by lia) h2
 have b:=z (j-1) (by lia) (by lia)
 constructor
 ·rw[E3]
  by_cases hh:j<ts.length
  ·rw[if_pos hh,if_neg (by lia),a.1,b.1,Ux,Ux];rfl
  ·rw[if_neg hh]
 ·rw[E3]
  by_cases hh:R+j<ts.length
  ·rw[if_pos hh,if_neg (by lia),a.2,show R+j-1=R+(j-1) by lia,b.2,Ux,Ux];rfl
  ·rw[if_neg hh]
theorem Ig{g a b:Int}{t1 t2 us:List Int}(R:Nat)(h:∀j,g*us.getD j 0=a*t2.getD j 0-b*t1.getD j 0):Mix (g:Rat) (a:Rat) (b:Rat) (ic (t1.take R)) (ic (t2.take R)) (ic (us.take R)):=fun j=>by
 rw[Bg,Bg,Bg,Bt,Bt,Bt]
 split
 ·rw[<- SH,h j,SI,SH,SH]
 ·show(g:Rat)*0=(a:Rat)*0-(b:Rat)*0
  grind
theorem Ih{g a b:Int}{t1 t2 us:List Int}(R:Nat)(h:∀j,g*us.getD j 0=a*t2.getD j 0-b*t1.getD j 0):Mix (g:Rat) (a:Rat) (b:Rat) (ic (t1.drop R)) (ic (t2.drop R)) (ic (us.drop R)):=fun j=>by
 rw[Bg,Bg,Bg,Bu,Bu,Bu,<- SH,h (R+j),SI,SH,SH]
theorem Ie{g a b:Int}{t1 t2 us:List Int}{j:Nat}(hg:g≠0)(h:∀j,g*us.getD j 0=a*t2.getD j 0-b*t1.getD j 0)(z1:t1.getD j 0=0)(z2:t2.getD j 0=0):us.getD j 0=0:=by
 have:=h j
 rw[z1,z2,Ux,Ux]at this
 rcases Int.mul_eq_zero.mp (show g*us.getD j 0=0 from this) with z | z
 ·exact absurd z hg
 ·exact z
theorem Ef{L:Int}{s a:Rat}(hs:s≠0)(h:(L:Rat)=s*a):L=0↔a=0:=by
 constructor
 ·intro z
  rw[z]at h
  rcases SY.mp (show s*a=0 from h.symm) with q | q
  ·exact absurd q hs
  ·exact q
 ·intro z
  rw[z,UD]at h
  exact Uz.mp (h.trans Uy.symm)
theorem Ma{a b:Rat}(h:a-b=0):a=b:=by grind
theorem Im{L:Int}(h:L≠0):(L:Rat)≠0:=fun z=>h (Uz.mp (z.trans Uy.symm))
def gAS(C:Nat):Nat->Nat×Nat
 | 0=>(1,2)
 | k+1=>((gAS C k).2+C,(gAS C k).1+(gAS C k).2+2*C)
theorem Hr(C:Nat):∀k,(gAS C k).1<=(gAS C k).2
 | 0=>by show 1<=2;decide
 | k+1=>by show(gAS C k).2+C<=(gAS C k).1+(gAS C k).2+2*C;lia
theorem Dz(C:Nat){i:Nat}:∀{n},i<=n->(gAS C i).2<=(gAS C n).2
 | 0,h=>by rw[Nat.le_zero.mp h];exact RK _
 | n+1,h=>by
   rcases UG i (n+1) with z | z
   ·have:=Dz C (i:=i) (n:=n) (by lia)
    show _<=(gAS C n).1+(gAS C n).2+2*C
    lia
   ·rw[show i=n+1 by lia];exact RK _
theorem Mi:∀k:Nat,(RX k [V.int 0]).flatten=(RX k (0:Int)).map V.int
 | 0=>rfl
 | k+1=>by rw[Si,Sj,Mi k,Si];rfl
theorem LC(ts:List Int):(ts.map fun t=>Sv t 1)=ic ts:=by
 unfold ic
 refine UP fun t _=>?_
 have e:=SA ((t:Int):Rat)
 rw[UR,US]at e
 exact e
def Di(R:Nat):List Int:=1::RX (2*R-1) 0
def BI(R:Nat):List Int:=RX R 0++[1]++RX (R-1) 0
theorem LG(k j:Nat):(RX k (0:Int)).getD j 0=0:=by
 rw[T6,S1]
 split<;>rfl
theorem CB(R j:Nat):(Di R).getD j 0=if j=0 then 1 else 0:=by
 cases j with
 | zero=>rfl
 | succ j=>rw[if_neg (by lia)];exact LG _ j
theorem Cf(R j:Nat):(BI R).getD j 0=if j=R then 1 else 0:=by
 unfold BI
 rw[List.append_assoc,T6]
 rcases UG j R with z | z
 ·rw[S2 (by rw[S8];exact z),if_neg (by lia),S1,if_pos z];rfl
 ·rw[RZ (by rw[S8];exact z),S8]
  by_cases e:j=R
  ·rw[if_pos e,show j-R=0 by lia];rfl
  ·rw[if_neg e]
   obtain⟨k,hk⟩:∃k,j-R=k+1:=⟨j-R-1,by lia⟩
   rw[hk,List.singleton_append,SQ,S1]
   split<;>rfl
theorem P9{W n:Nat}(hW:1<=W)(hWn:W<=n):PUn (W:Int) ((n:Int)+1-W) n [] (2*(1-(W:Int))) (2*(1-((n:Int)+1-W))+1) (ic ((Di (n+1)).take (n+1))) (ic ((Di (n+1)).drop (n+1))) (ic ((BI (n+1)).take (n+1))) (ic ((BI (n+1)).drop (n+1))):=by
 refine⟨⟨fun j hj=>?_,fun j hj=>?_⟩,.inl ⟨0,by lia,?_⟩,⟨fun j hj=>?_,fun j hj=>?_⟩,.inr ⟨0,by lia,?_⟩,by rw[TM];lia,(fun _ h=>nomatch h),fun _ h=>nomatch h⟩
 ·rw[Bg,Bt,CB,if_neg (show ¬j=0 by lia)]
  split<;>rfl
 ·rw[Bg,Bu,CB,if_neg (by lia)];rfl
 ·rw[Bg,Bt,CB,if_pos (by lia),if_pos rfl];decide
 ·rw[Bg,Bt,Cf]
  split
  ·rw[if_neg (by lia)];rfl
  ·rfl
 ·rw[Bg,Bu,Cf,if_neg (by lia)];rfl
 ·rw[Bg,Bu,Cf,if_pos (by lia)];decide
theorem Ir(R:Nat):∀t∈Di R,Bd 1 t:=fun t ht=>by
 rcases RC.mp ht with z | z
 ·rw[z];unfold Bd;decide
 ·rw[UT z];unfold Bd;decide
theorem Gr(R:Nat):∀t∈BI R,Bd 1 t:=fun t ht=>by
 rcases RD.mp ht with z | z
 ·rcases RD.mp z with z | z
  ·rw[UT z];unfold Bd;decide
  ·rw[Td.mp z];unfold Bd;decide
 ·rw[UT z];unfold Bd;decide
theorem Eg(n:Nat):(Di (n+1)).length=2*(n+1):=by unfold Di;rw[SO,S8];lia
theorem DN(n:Nat):(BI (n+1)).length=2*(n+1):=by unfold BI;rw[S6,S6,S8,S8,Sk];lia
theorem FR(n:Nat):∀j,0+1<=j->j<n+1->(Di (n+1)).getD j 0=0/\(Di (n+1)).getD (n+1+j) 0=0:=fun j h _=>⟨by rw[CB,if_neg (by lia)],by rw[CB,if_neg (by lia)]⟩
theorem EL(n:Nat):∀j,0+1<=j->j<n+1->(BI (n+1)).getD j 0=0/\(BI (n+1)).getD (n+1+j) 0=0:=fun j h _=>⟨by rw[Cf,if_neg (by lia)],by rw[Cf,if_neg (by lia)]⟩
inductive IT(K:Rv)(vs:List V)(H:Hp)(Q:VK)(E_3:XK):Prop
 | mk (lp lh:Addr) (zs ys:List V) (qs hs:List Rat) (W n nx ny C:Nat) (h1:vs=[.ref lp,.ref lh,.int (W:Int)]) (h2:SqL K H lp zs) (h3:Ar K H zs qs) (h4:SqL K H lh ys) (h5:Ar K H ys hs) (h6:qs.length=n) (h7:hs.length=n) (h8:1<=n) (h9:n<=12) (h10:qs.Nodup) (h11:1<=W) (h12:W<=n) (h13:(∀c∈qs,RB nx c)) (h14:(∀c∈hs,RB ny c)) (h15:(nx+1)*(n+3)+ny+2<=C) (h16:(gAS C n).2+3*C<=50000000) (h17:∀(t pN pD:Addr) (H':Hp) (r1 r2:Int) (N D N2 D2:List Rat),Af H H'->SqT K H' t [.ref pN,.ref pD]->Crv K H' pN (Cv.strip N)->Crv K H' pD (Cv.strip D)->(∀c∈N,Bd ((gAS C n).2+1) c.num/\Bd 1 (c.den:Int))->(∀c∈D,Bd ((gAS C n).2+1) c.num/\Bd 1 (c.den:Int))->Cb (W:Int) ((n:Int)+1-W) n (qs.zip hs) r1 r2 N D N2 D2->Q (.ref t) H'):IT K vs H Q E_3
theorem JE{ts:List Int}{m k:Nat}(h:∀t∈ts,Bd m t)(hk:m<=k):∀c∈ic ts,Bd k c.num/\Bd 1 (c.den:Int):=fun c hc=>by
 obtain⟨t,ht,rfl⟩:=U4.mp hc
 exact⟨by rw[UR];exact(h t ht).mono hk,by rw[US];unfold Bd;decide⟩
def Gu:Str:="rising.<locals>.<lambda>"
def EF(B:Int)(q:Rat):Int:=q.num*B.fdiv (q.den:Int)
theorem JC{B:Int}{q:Rat}(hd:(q.den:Int)∣B):((EF B q:Int):Rat)=q*(B:Rat):=by
 unfold EF
 have hp:(0:Int)<=(q.den:Int):=by lia
 rw[UU _ hp,SH,Nm.num_mul q]
 have e:(q.den:Int)*(B / (q.den:Int))=B:=Int.mul_ediv_cancel' hd
 have e2:((q.den:Int):Rat)*((B / (q.den:Int):Int):Rat)=(B:Rat):=by rw[<- SH,e]
 grind
theorem MA{B:Int}(hB:0<B){p q:Rat}(hp:(p.den:Int)∣B)(hq:(q.den:Int)∣B)(h:EF B p<=EF B q):p<=q:=by
 have h':((EF B p:Int):Rat)<=((EF B q:Int):Rat):=Rat.intCast_le_intCast.mpr h
 rw[JC hp,JC hq]at h'
 have hB':(0:Rat)<(B:Rat):=by
  have:=Rat.intCast_lt_intCast.mpr hB
  rw[Uy]at this
  exact this
 by_cases z:p<=q
 ·exact z
 ·exfalso
  have z':q<p:=Rat.not_le.mp z
  have:=Rat.mul_lt_mul_of_pos_right z' hB'
  grind
theorem BX{K:Rv}{Pt:Addr}{q:Str}{H H':Hp}{r:Addr}{xs:List V}(h:SqL K H r xs)(c:D0 Pt q H)(m:C4 Pt H H'):SqL K H' r xs:=by
 obtain⟨ps,e,_⟩:=c
 have ne:∀{b:Addr} {o:HO},H b=some o->(∀p,o ≠ .tbl p)->b≠Pt:=fun z n y=>by rw[y,e]at z;exact n _ (Rl.inj z).symm
 rcases h with (h | ⟨o,h⟩) | h
 ·exact .inl (.inl (m _ _ (ne h fun p z=>by cases z) h))
 ·exact .inl (.inr ⟨o,m _ _ (ne h fun p z=>by cases z) h⟩)
 ·exact .inr h
theorem HV{α β:Type}{F:α->β->Prop}{l:List α}{l':List β}(h:Paired F l l'):Paired (fun b a=>F a b) l' l:=by
 induction h with
 | nil=>exact .nil
 | cons h _ ih=>exact .cons h ih
theorem LH{Pt:Addr}{q:Str}{H H':Hp}{p:Addr}(c:D0 Pt q H')(m:C4 Pt H H')(h:H' p=none):H p=none:=by
 cases e:H p with
 | none=>rfl
 | some o =>
   exfalso
   by_cases z:p=Pt
   ·obtain⟨ps,e2,_⟩:=c
    rw[z,e2]at h;cases h
   ·rw[m p o z e]at h;cases h
theorem KZ{K:Rv}{H:Hp}{B:Int}{xs:List V}{qs:List Rat}(h:Ar K H xs qs):Paired (fun(z:Int×V) (c:Rat)=>z.1=EF B c/\Az K H z.2 c) ((qs.map (EF B)).zip xs) qs:=by
 induction h with
 | nil=>exact .nil
 | cons h _ ih=>exact .cons ⟨rfl,h⟩ ih
theorem K2{K:Rv}{H:Hp}{B:Int}{zs:List (Int×V)}{rs:List Rat}(h:Paired (fun(c:Rat) (z:Int×V)=>z.1=EF B c/\Az K H z.2 c) rs zs):rs.map (EF B)=zs.map Prod.fst/\Ar K H (zs.map Prod.snd) rs:=by
 induction h with
 | nil=>exact⟨rfl,.nil⟩
 | cons h _ ih=>exact⟨by rw[Sn,Sn,ih.1,h.1],.cons h.2 ih.2⟩
inductive IQ(K:Rv)(Pt:Addr)(vs:List V)(H:Hp)(Q:VK)(E_3:XK):Prop
 | mk (l:Addr) (xs:List V) (qs:List Rat) (n:Nat) (h1:vs=[.ref l]) (h2:SqL K H l xs) (h3:Ar K H xs qs) (h4:(∀q∈qs,RB n q)) (h5:n<=1000000) (h6:qs.length<=20) (h7:D0 Pt Gu H) (h8:∀(p:Addr) (H':Hp) (ys:List V) (rs:List Rat),C4 Pt H H'->D0 Pt Gu H'->H p=none->H' p=some (.lst ys)->Ar K H' ys rs->rs.Perm qs->rs.Pairwise (· <= ·)->Q (.ref p) H'):IQ K Pt vs H Q E_3
inductive DC(K:Rv)(vs:List V)(H:Hp)(Q:VK)(E_3:XK):Prop
 | mk (r rx:Addr) (qs:List Rat) (x:Rat) (g d m:Nat) (h1:vs=[.ref r,.ref rx]) (h2:Crv K H r qs) (h3:Az K H (.ref rx) x) (h4:(∀q∈qs,Bd g q.num/\Bd d (q.den:Int))) (h5:RB m x) (h6:g+d*(qs.length+2)+(m+1)*(qs.length+4)<=50000000) (h7:qs.length<=1000) (h8:∀p H',Af H H'->H' p=some (nT (Cv.ev qs x))->RB (g+d*(qs.length+2)+(m+1)*(qs.length+4)) (Cv.ev qs x)->Q (.ref p) H'):DC K vs H Q E_3
inductive E2(vs:List V)(H:Hp)(Q:VK)(E_3:XK):Prop
 | mk (b:Int) (n L:Nat) (h1:vs=[.int b,.int n]) (h2:n<=1000) (h3:Bd L b) (h4:L*n+L<=100000000) (h5:Q (.int (b ^ n)) H):E2 vs H Q E_3
structure OU(fs gs os rs:List Int)(lead:Int)(B:Nat):Prop where
 ol:os.length=fs.length+1-gs.length
 rl:rs.length=min fs.length (gs.length-1)
 ev:∀x,Cv.evI fs x*((lead ^ os.length:Int):Rat)=Cv.evI os x*Cv.evI gs x+Cv.evI rs x
 ob:∀t∈os,Bd B t
 rb:∀t∈rs,Bd B t
 top:os≠[]->∃t,fs[fs.length-1]? = some t/\os[os.length-1]? = some (lead ^ (os.length-1)*t)
inductive Jm(K:Rv)(vs:List V)(H:Hp)(Q:VK)(E_3:XK):Prop
 | mk (f g:Addr) (fs gs:List Int) (lead:Int) (M L:Nat) (h1:vs=[.ref f,.ref g]) (h2:SqL K H f (fs.map V.int)) (h3:SqL K H g (gs.map V.int)) (h4:gs[gs.length-1]? = some lead) (h5:fs.length<=1000) (h6:gs.length<=1000) (h7:(∀t∈fs,Bd M t)) (h8:(∀t∈gs,Bd L t)) (h9:M+fs.length*(L+1)+L<=100000000) (h10:L<=100000000) (h11:∀(p pa pb:Addr) (H':Hp) (os rs:List Int),Af H H'->H' p=some (.tup [.ref pa,.ref pb])->H' pa=some (.lst (os.map V.int))->H' pb=some (.lst (rs.map V.int))->OU fs gs os rs lead (M+os.length*(L+1))->Q (.ref p) H'):Jm K vs H Q E_3
theorem D4{l:List Rat}(h:B0 l):Cv.strip l=l:=by
 have e:=Cv.take_strip l l.length (fun j q hj e=>absurd (RF.mp e).1 (by lia)) (by
  rcases h with h | h
  ·left;rw[h];rfl
  ·right;exact h)
 rw[SW]at e
 exact e.symm
theorem MZ{B:Int}{q:Rat}(hB:0<B)(h:(q.den:Int)∣B)(hq:q≠0):AB B q≠0:=fun z=>by
 have e:=CO h
 rw[z,Uy]at e
 rcases SY.mp e.symm with y | y
 ·exact hq y
 ·exact Nm.cast_ne (show B≠0 by lia) y
theorem DB{B:Int}{qs:List Rat}(h:B0 qs)(hne:qs≠[])(hB:0<B)(hd:∀q∈qs,(q.den:Int)∣B):∃t,(qs.map (AB B))[(qs.map (AB B)).length-1]? = some t/\t≠0:=by
 rcases h with h | ⟨q,e,hq⟩
 ·exact absurd h hne
 ·exact⟨AB B q,by rw[S7,S3,e];rfl,MZ hB (hd q (S5 e)) hq⟩
theorem NV{t c:Int}(ht:t≠0)(hc:c≠0):Sv t c≠0:=fun z=>by
 rw[SD,Rat.div_def]at z
 rcases SY.mp z with y | y
 ·exact Nm.cast_ne ht y
 ·have h1:=TH _ (Nm.cast_ne hc)
  rw[y,UD]at h1
  exact absurd h1 (by decide)
theorem Hu(ts:List Int)(c:Int)(hc:c≠0)(x:Rat):Cv.ev (ts.map fun t=>Sv t c) x*(c:Rat)=Cv.evI ts x:=by
 have e:(ts.map fun t=>Sv t c)=(ts.map fun t:Int=>(t:Rat)).map (· * (c:Rat)⁻¹):=by
  rw[List.map_map]
  refine UP fun t _=>?_
  show Sv t c=(t:Rat)*(c:Rat)⁻¹
  rw[SD,Rat.div_def]
 rw[e,Cv.ev_scale,TF,Rat.inv_mul_cancel _ (Nm.cast_ne hc),TJ]
 rfl
inductive GP(K:Rv)(vs:List V)(H:Hp)(Q:VK)(E_3:XK):Prop
 | mk (r u:Addr) (qs ps:List Rat) (g d L:Nat) (h1:vs=[.ref r,.ref u]) (h2:Crv K H r qs) (h3:Crv K H u ps) (h4:B0 qs) (h5:ps≠[]) (h6:B0 ps) (h7:(∀q∈qs,Bd g q.num/\Bd d (q.den:Int))) (h8:(∀q∈ps,RB L q)) (h9:g+13*d+400*L+1000<=50000000) (h10:qs.length<=13) (h11:ps.length<=13) (h12:∀(p a b:Addr) (H':Hp) (os rs:List Rat),Af H H'->H' p=some (.tup [.ref a,.ref b])->Crv K H' a os->Crv K H' b rs->B0 os->B0 rs->os.length=qs.length+1-ps.length->rs.length<ps.length->(∀x,Cv.ev qs x=Cv.ev os x*Cv.ev ps x+Cv.ev rs x)->(∀q∈os,RB (g+13*d+400*L+1000) q)->Q (.ref p) H'):GP K vs H Q E_3
inductive Fl(K:Rv)(vs:List V)(H:Hp)(Q:VK)(E_3:XK):Prop
 | mk (r u:Addr) (qs:List Rat) (y:Rat) (m n:Nat) (h1:vs=[.ref r,.ref u]) (h2:Crv K H r qs) (h3:Az K H (.ref u) y) (h4:(∀q∈qs,RB m q)) (h5:RB n y) (h6:m+n<=50000000) (h7:qs.length<=1000) (h8:∀p H',Af H H'->Crv K H' p (Cv.strip (qs.map (· * y)))->Q (.ref p) H'):Fl K vs H Q E_3
theorem Jw(p q:Rat)(hq:q≠0):Sv (p.num*q.den) (p.den*q.num)=p / q:=by
 have hn:q.num≠0:=fun z=>hq (UW.mp z)
 apply Nm.div_eq (SF (Nm.den_ne p) hn)
 rw[SH,SH,Nm.num_mul p,Nm.num_mul q]
 have e:p / q*q=p:=SE hq
 have h:p / q*(((p.den:Int):Rat)*(q*((q.den:Int):Rat)))=(p / q*q)*(((p.den:Int):Rat)*((q.den:Int):Rat)):=by grind
 rw[h,e]
 grind
inductive IU(K:Rv)(vs:List V)(H:Hp)(Q:VK)(E_3:XK):Prop
 | mk (x y:V) (p q:Rat) (m n:Nat) (h1:vs=[x,y]) (h2:Az K H x p) (h3:Az K H y q) (h4:q≠0) (h5:RB m p) (h6:RB n q) (h7:m+n<=100000000) (h8:∀r,H r=none->Q (.ref r) (upd H r (nT (p / q)))):IU K vs H Q E_3
theorem RB.over{m n:Nat}{p q:Rat}(h1:RB m p)(h2:RB n q)(hq:q≠0):RB (m+n) (p / q):=by
 have hn:q.num≠0:=fun z=>hq (UW.mp z)
 rw[<- Jw p q hq]
 exact⟨Bd.num (h1.1.mul h2.2),Bd.den (SF (Nm.den_ne p) hn) (h1.2.mul h2.1)⟩
def EB:List Rat->List Rat->Rat->Rat
 | k::ks,s::ss,x=>s+(x-k)*EB ks ss x
 | _,_,_=>0
inductive Ep(K:Rv)(vs:List V)(H:Hp)(Q:VK)(E_3:XK):Prop
 | mk (rk rst:Addr) (xs ys:List V) (ks ss:List Rat) (n:Nat) (h1:vs=[.ref rk,.ref rst]) (h2:SqL K H rk xs) (h3:Ar K H xs ks) (h4:SqL K H rst ys) (h5:Ar K H ys ss) (h6:ks.length=ss.length) (h7:ks.length<=30) (h8:(∀q∈ks,RB n q)) (h9:(∀q∈ss,RB n q)) (h10:n<=10000) (h11:∀p H' cs,Af H H'->Crv K H' p cs->cs.length<=ks.length->B0 cs->(∀q∈cs,RB (2*(n*ks.length)+21*ks.length+2*n+30) q)->(∀x,Cv.ev cs x=EB ks ss x)->Q (.ref p) H'):Ep K vs H Q E_3
theorem LK(c x:Rat):Cv.evI [-c.num,(c.den:Int)] x=(x-c)*((c.den:Int):Rat):=by
 show((-c.num:Int):Rat)+x*(((c.den:Int):Rat)+x*0)=_
 rw[Rat.intCast_neg,Nm.num_mul c]
 grind
inductive Fj(K:Rv)(vs:List V)(H:Hp)(Q:VK)(E_3:XK):Prop
 | mk (l:Addr) (ys:List V) (qs:List Rat) (h1:vs=[.ref l]) (h2:SqL K H l ys) (h3:AV H ys qs) (h4:qs.Nodup) (h5:qs.length<=17) (h6:∀H',Af H H'->Q (.bl true) H'):Fj K vs H Q E_3
inductive GR(K:Rv)(vs:List V)(H:Hp)(Q:VK)(E_3:XK):Prop
 | mk (l:Addr) (few:Int) (ys:List V) (qs:List Rat) (h1:vs=[.ref l,.int few]) (h2:SqL K H l ys) (h3:AV H ys qs) (h4:qs.Nodup) (h5:qs.length<=12) (h6:few<=qs.length) (h7:∀H',Af H H'->Q .non H'):GR K vs H Q E_3
theorem Ed(x:Rat):∀os:List Rat,EB (os++[0]) (RX os.length 0++[1]) x=prV x os
 | []=>by show 1+(x-0)*0=(1:Rat);grind
 | o::os=>by
   show 0+(x-o)*EB (os++[0]) (RX os.length 0++[1]) x=(x-o)*prV x os
   rw[Ed x os];grind
theorem Om(v:V):∀k:Nat,(RX k [v]).flatten=RX k v
 | 0=>rfl
 | k+1=>by rw[Si,Sj,Om v k,Si];rfl
theorem HZ{K:Rv}{H:Hp}{v:V}{q:Rat}(h:Az K H v q):∀k:Nat,Ar K H (RX k v) (RX k q)
 | 0=>.nil
 | k+1=>.cons h (HZ h k)
theorem Dx(os:List Rat):B0 (prL os):=by
 right
 refine⟨1,?_,by decide⟩
 have hl:=BN os
 have:=FA os
 rw[T6,Te (by lia)]at this
 rw[show(prL os).length-1=os.length by lia,Te (by lia)]
 exact congrArg some this
inductive DS(K:Rv)(vs:List V)(H:Hp)(Q:VK)(E_3:XK):Prop
 | mk (l:Addr) (zs:List V) (qs:List Rat) (n:Nat) (h1:vs=[.ref l]) (h2:H l=some (.lst zs)) (h3:Ar K H zs qs) (h4:(∀q∈qs,RB n q)) (h5:1<=n) (h6:n<=1000) (h7:qs.length<=12) (h8:∀(p:Addr) (H':Hp),Af H H'->Crv K H' p (prL qs)->(∀q∈prL qs,RB (28*n+400) q)->Q (.ref p) H'):DS K vs H Q E_3
theorem GD{D os rs S:List Rat}(gD:B0 D)(go:B0 os)(gr:B0 rs)(hrl:rs.length<(prL S).length)(hev:∀x,Cv.ev D x=Cv.ev os x*Cv.ev (prL S) x+Cv.ev rs x)(hn:S.Nodup)(hz:∀q∈S,Cv.ev D q=0):∀x,Cv.ev D x=prV x S*Cv.ev os x:=by
 obtain⟨M,hM⟩:=Ik S hn hz
 have hl:=BN S
 have h2:∀x,Cv.ev D x=Cv.ev (Cv.strip M) x*Cv.ev (prL S) x+Cv.ev [] x:=fun x=>by rw[hM x,Cv.ev_strip,C7];show _=_+0;grind
 have:=div_one (Dx S) (fun z=>by rw[z]at hl;cases hl) go (AL M) gr (.inl rfl) hrl (by rw[hl];exact TK _) (fun x=>by rw[<- hev x,<- h2 x])
 intro x
 rw[hev x,this.2,C7]
 show _+0=_
 grind
theorem CA{l:List Rat}{w:Rat}(hg:B0 l)(hw:w≠0):B0 (l.map (· * w)):=by
 rcases hg with h | ⟨q,h1,h2⟩
 ·left;rw[h];rfl
 ·right
  refine⟨q*w,by rw[S7,S3,h1];rfl,fun z=>?_⟩
  rcases SY.mp z with z | z
  ·exact h2 z
  ·exact hw z
inductive Fm(K:Rv)(vs:List V)(H:Hp)(Q:VK)(E_3:XK):Prop
 | mk (t lp pN pD:Addr) (zs:List V) (qs N D:List Rat) (G nx:Nat) (h1:vs=[.ref t,.ref lp]) (h2:SqT K H t [.ref pN,.ref pD]) (h3:Crv K H pN N) (h4:Crv K H pD D) (h5:B0 N) (h6:B0 D) (h7:D≠[]) (h8:SqL K H lp zs) (h9:Ar K H zs qs) (h10:qs.Nodup) (h11:qs.length<=12) (h12:N.length<=13) (h13:D.length<=13) (h14:(∀c∈N,Bd G c.num/\Bd 1 (c.den:Int))) (h15:(∀c∈D,Bd G c.num/\Bd 1 (c.den:Int))) (h16:(∀q∈qs,RB nx q)) (h17:1<=nx) (h18:nx<=1000) (h19:G<=5000000) (h20:(∀q∈qs,Cv.ev D q=0->Cv.ev N q=0)) (h21:∀(p a b:Addr) (H':Hp) (n' d':List Rat) (c:Rat),Af H H'->H' p=some (.tup [.ref a,.ref b])->Crv K H' a n'->Crv K H' b d'->B0 n'->B0 d'->d'[d'.length-1]? = some 1->c≠0->(∀x,Cv.ev N x=c*prV x (qs.filter fun q=>decide (Cv.ev D q=0))*Cv.ev n' x)->(∀x,Cv.ev D x=c*prV x (qs.filter fun q=>decide (Cv.ev D q=0))*Cv.ev d' x)->n'.length<=N.length->d'.length<=D.length->(∀q∈n',RB (2*(G+13+400*(28*nx+400)+1000)+2) q)->(∀q∈d',RB (2*(G+13+400*(28*nx+400)+1000)+2) q)->Q (.ref p) H'):Fm K vs H Q E_3
inductive Em(K:Rv)(vs:List V)(H:Hp)(Q:VK)(E_3:XK):Prop
 | mk (t rx ry pn pd:Addr) (n' d':List Rat) (x y:Rat) (E nx ny:Nat) (h1:vs=[.ref t,.ref rx,.ref ry]) (h2:SqT K H t [.ref pn,.ref pd]) (h3:Crv K H pn n') (h4:Crv K H pd d') (h5:(∀c∈n',RB E c)) (h6:(∀c∈d',RB E c)) (h7:n'.length<=13) (h8:d'.length<=13) (h9:Az K H (.ref rx) x) (h10:Az K H (.ref ry) y) (h11:RB nx x) (h12:RB ny y) (h13:E<=3000000) (h14:nx<=1000) (h15:ny<=1000000) (h16:∀H',Af H H'->Q (.bl (decide (Cv.ev d' x≠0/\Cv.ev n' x=y*Cv.ev d' x))) H'):Em K vs H Q E_3
inductive Fo(K:Rv)(vs:List V)(H:Hp)(Q:VK)(E_3:XK):Prop
 | mk (lp lh:Addr) (zs ys:List V) (qs:List Rat) (h1:vs=[.ref lp,.ref lh]) (h2:SqL K H lp zs) (h3:AV H zs qs) (h4:qs.Nodup) (h5:1<=qs.length) (h6:qs.length<=12) (h7:SqL K H lh ys) (h8:ys.length=zs.length) (h9:∀H',Af H H'->Q .non H'):Fo K vs H Q E_3
theorem DY{L:List Rat}{a:Nat}(h:∀j,a<=j->L.getD j 0=0):(Cv.strip L).length<=a:=by
 rcases UG a (Cv.strip L).length with z | z
 ·exfalso
  have hne:Cv.strip L≠[]:=fun e=>by rw[e]at z;cases z
  have hl:=Cv.strip_last L hne
  have hc:=Ei (l:=Cv.strip L) (m:=L) (fun k=>Cv.ev_strip _ L) ((Cv.strip L).length-1)
  rw[h _ (by lia),T6,Te (by lia)]at hc
  exact hl (by rw[Te (by lia)];exact congrArg some hc)
 ·exact z
theorem Mz{K:Rv}{a b:Addr}{js:List Nat}{xs ys:List V}{tc:TT}{te:TE}{σ:St}{H:Hp}{Fin:List V->Hp->Prop}(Pv:Nat->List V->Hp->Prop)(h0:Pv 0 [] H)
 (hl:∀i zs H,i<=min xs.length ys.length->Pv i zs H->SqL K H a xs/\SqL K H b ys/\zs.length<=i) (hz:min xs.length ys.length<=sizeLine)
 (hs:∀i x y T zs H,xs[i]? = some x->ys[i]? = some y->H T=none->Pv i zs H->tc (((cS 2 js σ).set 0 (some x)).set 1 (some y)) (upd H T (.tup [x,y])) fun b H3=>if b=true then te (((cS 2 js σ).set 0 (some x)).set 1 (some y)) H3 fun y H4=>Pv (i+1) (zs++[y]) H4 else Pv (i+1) zs H3) (fin:∀zs H',Pv (min xs.length ys.length) zs H'->Fin zs H') :
 ∃(n':Nat) (W:Nat->List V->Hp->Prop),W 0 [] H/\LcW (Itz K a b xs ys) n' 2 js σ (Km K 2 (FP (Ck 0) (FP (Ck 1) MF))) tc te Fin W:=by
 refine⟨min xs.length ys.length,Pv,h0,⟨?_,?_,?_⟩⟩
 ·intro i zs H' hi p
  obtain⟨h1,h2,h3⟩:=hl i zs H' (Rx hi) p
  exact⟨⟨h1,h2,hi⟩,by lia⟩
 ·rintro i zs H' x H1 hi p ⟨T,x1,y1,hx,hy,hT,rfl,rfl⟩
  exact⟨T,_,rfl,SqT.of Ac,rfl,_,_,rfl,_,_,rfl,rfl,hs i x1 y1 T zs _ hx hy hT p⟩
 ·intro zs H' p
  obtain⟨h1,h2,h3⟩:=hl _ zs H' (RK _) p
  exact⟨⟨h1,h2,RK _⟩,by lia,fin zs H' p⟩
def Bi(qs hs n' d':List Rat):List Rat:=((qs.zip hs).filter fun p=>!decide (Cv.ev d' p.1≠0/\Cv.ev n' p.1=p.2*Cv.ev d' p.1)).map Prod.fst
inductive KP(K:Rv)(Pt:Addr)(vs:List V)(H:Hp)(Q:VK)(E_3:XK):Prop
 | mk (lp lh:Addr) (zs ys:List V) (qs hs:List Rat) (W n nx ny C:Nat) (h1:vs=[.ref lp,.ref lh,.int (W:Int)]) (h2:SqL K H lp zs) (h3:AV H zs qs) (h4:SqL K H lh ys) (h5:Ar K H ys hs) (h6:qs.length=n) (h7:hs.length=n) (h8:1<=n) (h9:n<=12) (h10:qs.Nodup) (h11:1<=W) (h12:W<=n) (h13:(∀c∈qs,RB nx c)) (h14:(∀c∈hs,RB ny c)) (h15:1<=nx) (h16:nx<=50) (h17:ny<=1000000) (h18:(nx+1)*(n+3)+ny+2<=C) (h19:(gAS C n).2+3*C<=700000) (h20:D0 Pt Gu H) (h21:∀(t a b l:Addr) (H':Hp) (r1 r2:Int) (N D N2 D2 n' d' rs:List Rat) (ls:List V) (c:Rat),C4 Pt H H'->D0 Pt Gu H'->SqT K H' t [.ref a,.ref b,.ref l]->Crv K H' a n'->Crv K H' b d'->B0 n'->B0 d'->d'[d'.length-1]? = some 1->c≠0->Cb (W:Int) ((n:Int)+1-W) n (qs.zip hs) r1 r2 N D N2 D2->Cv.strip D≠[]->(∀x,Cv.ev N x=c*prV x (qs.filter fun q=>decide (Cv.ev D q=0))*Cv.ev n' x)->(∀x,Cv.ev D x=c*prV x (qs.filter fun q=>decide (Cv.ev D q=0))*Cv.ev d' x)->n'.length<=W->d'.length<=n+1-W->H' l=some (.lst ls)->Ar K H' ls rs->rs.Perm (Bi qs hs n' d')->rs.Pairwise (· <= ·)->(∀q∈n',RB 3000000 q)->(∀q∈d',RB 3000000 q)->H l=none->(∃L,Ov L ((gAS C n).2+156*(nx+1)+25) n'/\Ov L ((gAS C n).2+156*(nx+1)+25) d')->Q (.ref t) H'):KP K Pt vs H Q E_3
inductive Fn(K:Rv)(Pt:Addr)(vs:List V)(H:Hp)(Q:VK)(E_3:XK):Prop
 | mk (a:Addr) (ns:List Int) (h1:vs=[.ref a]) (h2:SqL K H a (ns.map V.int)) (h3:ns.length<=63) (h4:H Pt=some (.tbl #[])) (h5:∀H',Q (.bl true) H'):Fn K Pt vs H Q E_3
theorem EK{Pt p:Addr}{ps:Array Value}{H H':Hp}(e:H Pt=some (.tbl ps))(pn:Pen H p)(m:Mv p H H'):H' Pt=some (.tbl ps):=m _ _ (pn.ne e fun _ _ _ z=>by cases z) e
theorem NW{Pt:Addr}{q:Str}{H:Hp}(e:H Pt=some (.tbl #[])):D0 Pt q H:=⟨#[],e,trivial,fun pos cv z=>by cases z⟩
theorem atV{xs:List V}{i:Nat}{x:V}{k:Int}(h:xs[i]? = some x)(e:k=(i:Int)):atI xs k=some x:=by subst e;exact C9 h
theorem Gx{Pt:Addr}{q:Str}{H H':Hp}{xs:List V}{qs:List Rat}(h:AV H xs qs)(c:D0 Pt q H)(m:C4 Pt H H'):AV H' xs qs:=Paired.mapP h fun _ _ ⟨r,e,z⟩=>⟨r,e,m _ _ (fun y=>by
 obtain⟨ps,e2,_⟩:=c
 rw[y,e2]at z;cases z) z⟩
theorem Hm(k:Int):nT ((k:Int):Rat) = .tup [.int k,.int 1]:=by
 unfold nT
 rw[UR,US]
 rfl
theorem ME{a b:Int}(h:((a:Int):Rat)=((b:Int):Rat)):a=b:=by
 have:=congrArg Rat.num h
 rw[UR,UR]at this
 exact this
theorem Jy{L M N:List Rat}(gL:B0 L)(gM:B0 M)(gN:B0 N)(hM:M≠[])(hN:N≠[])(e:∀x,Cv.ev L x=Cv.ev M x*Cv.ev N x):L.length+1=M.length+N.length:=by
 have:=BD gL (Dy gM gN hM hN) fun x=>by rw[e x,AE]
 have h1:=SN.mpr hM
 have h2:=SN.mpr hN
 rw[this,By _ (by lia) _ (by lia)]
 lia
def ml(i:Nat)(σ:St)(H:Hp):Nat:=match σ[i]? with
 | some (some (.ref r))=>(match H r with | some (.lst xs)=>xs.length | _=>0)
 | _=>0
inductive KO(K:Rv)(vs:List V)(H:Hp)(Q:VK)(E_3:XK):Prop
 | mk (l:Addr) (ts:List Int) (h1:vs=[.ref l]) (h2:SqL K H l (ts.map V.int)) (h3:∀(p:Addr) (H':Hp) (w:Nat),w<=ts.length->(∀j,w<=j->ts.getD j 0=0)->(1<=w->ts.getD (w-1) 0≠0)->Af H H'->H' p=some (.lst ((ts.take w).map V.int))->Q (.ref p) H'):KO K vs H Q E_3
structure QR(W n:Nat)(qs hs n' d':List Rat):Prop where
 gn:B0 n'
 gd:B0 d'
 last:d'[d'.length-1]? = some 1
 ln:n'.length<=W
 ld:d'.length<=n+1-W
 raw:∃(r1 r2:Int) (N D N2 D2:List Rat) (c:Rat),Cb (W:Int) ((n:Int)+1-W) n (qs.zip hs) r1 r2 N D N2 D2/\Cv.strip D≠[]/\c≠0/\(∀x,Cv.ev N x=c*prV x (qs.filter fun q=>decide (Cv.ev D q=0))*Cv.ev n' x)/\(∀x,Cv.ev D x=c*prV x (qs.filter fun q=>decide (Cv.ev D q=0))*Cv.ev d' x)
theorem M6{n:Nat}{qs hs:List Rat}(hql:qs.length=n)(hhl:hs.length=n){i:Nat}(h:i<n):(qs[i]'(by lia),hs[i]'(by lia))∈qs.zip hs:=by
 have:(qs.zip hs)[i]'(by rw[UI];lia)=(qs[i]'(by lia),hs[i]'(by lia)):=List.getElem_zip ..
 rw[<- this];exact Tf _
theorem Ml{x:Rat}{S:List Rat}(h:x∈S):∃S',∀t,prV t S=(t-x)*prV t S':=by
 obtain⟨s1,s2,rfl⟩:=List.append_of_mem h
 refine⟨s1++s2,fun t=>?_⟩
 clear h
 induction s1 with
 | nil=>rfl
 | cons o r ih =>
   show(t-o)*prV t (r++x::s2)=(t-x)*((t-o)*prV t (r++s2))
   rw[ih];grind
section
variable {W n:Nat}{qs hs n1 d1:List Rat}
theorem QR.ne(h:QR W n qs hs n1 d1):d1≠[]:=fun z=>by
 have:=h.last
 rw[z]at this;cases this
theorem QR.apart(h:QR W n qs hs n1 d1)(hql:qs.length=n)(hhl:hs.length=n)(hnd:qs.Nodup){x:Rat}(hx:x∈qs):¬(Cv.ev n1 x=0/\Cv.ev d1 x=0):=fun⟨hn0,z⟩=>by
 obtain⟨r1,r2,N,D,N2,D2,c,I,hD,hc,evN,evD⟩:=h.raw
 have hld:=h.ld
 have hln:=h.ln
 have h1:=SN.mpr h.ne
 have hfst:(qs.zip hs).map Prod.fst=qs:=UX (by lia)
 have hD0:Cv.ev D x=0:=by rw[evD,z,UD]
 have hxS:x∈qs.filter (fun q=>decide (Cv.ev D q=0)):=Rt.mpr ⟨hx,decide_eq_true hD0⟩
 obtain⟨S',hS'⟩:=Ml hxS
 have hm:∃y,(x,y)∈qs.zip hs:=by
  obtain⟨i,hi,rfl⟩:=Ti hx
  exact⟨_,M6 hql hhl (by lia)⟩
 refine I.once (by lia) (by rw[hfst];exact hnd) hD (x:=x) (A:=BB ((prL S').map (· * c)) n1) (B:=BB ((prL S').map (· * c)) d1) (fun t=>?_) (fun t=>?_) hm ⟨?_,?_⟩
 ·rw[evN,hS',AE,Cv.ev_scale,C7];grind
 ·rw[evD,hS',AE,Cv.ev_scale,C7];grind
 ·rw[AE,hn0,UD]
 ·rw[AE,z,UD]
end
theorem FU(x:Rat):∀rs:List Rat,rs.Pairwise (· <= ·)->(∀y∈rs.take (rs.filter fun y=>decide (y<x)).length,y<x)/\∀y∈rs.drop (rs.filter fun y=>decide (y<x)).length,x<=y
 | [],_=>⟨(fun _ h=>nomatch h),(fun _ h=>nomatch h)⟩
 | a::r,h=>by
   have hp:=List.pairwise_cons.mp h
   by_cases z:a<x
   ·have ih:=FU x r hp.2
    rw[UY (p:=fun y=>decide (y<x)) (by exact decide_eq_true z),SO,List.take_succ_cons,List.drop_succ_cons]
    refine⟨fun y hy=>?_,ih.2⟩
    rcases RC.mp hy with w | w
    ·rw[w];exact z
    ·exact ih.1 y w
   ·have hx:x<=a:=Rat.not_lt.mp z
    have e:(a::r).filter (fun y=>decide (y<x))=[]:=by
     rw[List.filter_eq_nil_iff]
     intro y hy w
     have hay:a<=y:=by
      rcases RC.mp hy with v | v
      ·rw[v];exact Rat.le_refl
      ·exact hp.1 y v
     exact Rat.not_lt.mpr (UQ hx hay) (of_decide_eq_true w)
    rw[e]
    refine⟨(fun _ h=>nomatch h),fun y hy=>?_⟩
    rcases RC.mp hy with v | v
    ·rw[v];exact hx
    ·exact UQ hx (hp.1 y v)
theorem Ia{x y:Rat}:decide ((y-x).num<0)=decide (y<x):=by
 by_cases z:y<x
 ·rw[decide_eq_true z,decide_eq_true]
  rcases Int.lt_or_le (y-x).num 0 with w | w
  ·exact w
  ·have h:=Rat.num_nonneg.mp w
   exfalso
   have h2:=(Rat.lt_iff_sub_pos _ _).mp z
   have:(0:Rat)<0:=by
    have e:x-y = -(y-x):=by grind
    grind
   exact absurd this (Rat.lt_irrefl)
 ·rw[decide_eq_false z,decide_eq_false]
  intro w
  have h:=Rat.not_lt.mp z
  have:0<=y-x:=by grind
  have:=Rat.num_nonneg.mpr this
  lia
theorem FN{x:Rat}{rs:List Rat}{k:Nat}(h:rs.Pairwise (· <= ·))(hk:k=(rs.filter fun y=>decide (y<x)).length):(rs.take k++x::rs.drop k).Pairwise (· <= ·):=by
 subst hk
 obtain⟨c1,c2⟩:=FU x rs h
 refine List.pairwise_append.mpr ⟨h.take,List.pairwise_cons.mpr ⟨c2,h.drop⟩,fun a ha b hb=>?_⟩
 have h1:=c1 a ha
 rcases RC.mp hb with z | z
 ·rw[z];exact Rat.le_of_lt h1
 ·exact UQ (Rat.le_of_lt h1) (c2 b z)
theorem Il{x:Rat}{rs:List Rat}{k:Nat}:(rs.take k++x::rs.drop k).Perm (x::rs):=by
 have:=List.perm_middle (a:=x) (l₁:=rs.take k) (l₂:=rs.drop k)
 rwa [List.take_append_drop]at this
theorem Mh{l m:List Rat}(h1:l.Pairwise (· <= ·))(h2:m.Pairwise (· <= ·))(h:l.Perm m):l=m:=List.Perm.eq_of_pairwise (fun _ _ _ _ a b=>Rat.le_antisymm a b) h1 h2 h
theorem Kd{B d M:Int}(hB:0<B)(hd:0<d)(h1:B∣M)(h2:d∣M):B*UK d (Sr B d:Int)∣M:=by
 have g0:(Sr B d:Int)≠0:=by have:=Nm.gcd_pos (a:=B) (b:=d) (by lia);lia
 have gd:(Sr B d:Int)∣d:=Sz ..
 have gB:(Sr B d:Int)∣B:=Sx ..
 rw[Nm.fdiv_dvd gd]
 obtain⟨u,hu⟩:=h1
 obtain⟨b,hb⟩:=gB
 obtain⟨e,he⟩:=gd
 have hde:d / (Sr B d:Int)=e:=by
  have:d=(Sr B d:Int)*e:=he
  exact Int.ediv_eq_of_eq_mul_right g0 this
 have hbb:B / (Sr B d:Int)=b:=Int.ediv_eq_of_eq_mul_right g0 hb
 rw[hde,hu]
 have h3:e∣b*u:=by
  rw[hu]at h2
  obtain⟨w,hw⟩:=h2
  refine⟨w,?_⟩
  have:(Sr B d:Int)*(b*u)=(Sr B d:Int)*(e*w):=by rw[<- Uq,<- Uq,<- hb,<- he];exact hw
  exact Us g0 this
 have hc:Sr e b=1:=by
  have:=Int.gcd_ediv_gcd_ediv_gcd (i:=B) (j:=d) (by have:=Nm.gcd_pos (a:=B) (b:=d) (by lia);lia)
  rw[hde,hbb]at this
  rw[Sw];exact this
 have h4:e∣u:=by
  have h5:e.natAbs∣b.natAbs*u.natAbs:=by rw[<- Tj];exact Int.natAbs_dvd_natAbs.mpr h3
  exact Int.natAbs_dvd_natAbs.mp (Nat.Coprime.dvd_of_dvd_mul_left hc h5)
 obtain⟨w,rfl⟩:=h4
 exact⟨w,by rw[Uq]⟩
inductive GO(K:Rv)(vs:List V)(H:Hp)(Q:VK)(E_3:XK):Prop
 | mk (f g:Addr) (fs gs:List Int) (W X:Nat) (h1:vs=[.ref f,.ref g]) (h2:SqL K H f (fs.map V.int)) (h3:H g=some (.lst (gs.map V.int))) (h4:1<=fs.length) (h5:gs.length<=fs.length) (h6:fs.length<=12) (h7:DL fs) (h8:DL gs) (h9:(∀t∈fs,Bd W t)) (h10:(∀t∈gs,Bd W t)) (h11:22*(W+5)+1<=X) (h12:X<=7000000) (h13:∀(p:Addr) (H':Hp) (hs:List Int),Af H H'->SqL K H' p (hs.map V.int)->1<=hs.length->hs.length<=fs.length->DL hs->Com (cst fs) (cst gs) (cst hs) []->(∀t∈hs,Bd X t)->Q (.ref p) H'):GO K vs H Q E_3
inductive KW(K:Rv)(vs:List V)(H:Hp)(Q:VK)(E_3:XK):Prop
 | mk (r u:Addr) (qs ps:List Rat) (n W:Nat) (L1 L2:Int) (h1:vs=[.ref r,.ref u]) (h2:Crv K H r qs) (h3:Crv K H u ps) (h4:B0 qs) (h5:B0 ps) (h6:(qs≠[]\/ps≠[])) (h7:(∀q∈qs,RB n q)) (h8:(∀q∈ps,RB n q)) (h9:n<=3000000) (h10:qs.length<=12) (h11:ps.length<=12) (h12:Ov L1 W qs) (h13:Ov L2 W ps) (h14:22*(W+5)+1<=7000000) (h15:∀(p:Addr) (H':Hp) (cs:List Rat),Af H H'->Crv K H' p cs->IG qs ps cs->Q (.ref p) H'):KW K vs H Q E_3
theorem Kc{qs hs n' d':List Rat}{i:Nat}{x y:Rat}(hl:hs.length=qs.length)(hx:qs[i]? = some x)(hy:hs[i]? = some y):Bi (qs.take (i+1)) (hs.take (i+1)) n' d'=Bi (qs.take i) (hs.take i) n' d'++(if Cv.ev d' x≠0/\Cv.ev n' x=y*Cv.ev d' x then [] else [x]):=by
 have e1:Bi (qs.take (i+1)) (hs.take (i+1)) n' d'=Bi (qs.take i) (hs.take i) n' d'++Bi [x] [y] n' d':=by
  unfold Bi
  rw[SU,SU,hx,hy,List.zip_append (by rw[RY,RY];lia),UZ,SV];rfl
 rw[e1]
 congr 1
 unfold Bi
 show(([(x,y)]:List (Rat×Rat)).filter _).map Prod.fst=_
 by_cases h:Cv.ev d' x≠0/\Cv.ev n' x=y*Cv.ev d' x
 ·rw[if_pos h,V0 (by show ¬(!decide (Cv.ev d' x≠0/\Cv.ev n' x=y*Cv.ev d' x))=true;rw[decide_eq_true h];decide)];rfl
 ·rw[if_neg h,UY (by show(!decide (Cv.ev d' x≠0/\Cv.ev n' x=y*Cv.ev d' x))=true;rw[decide_eq_false h];rfl)];rfl
theorem Lu{qs hs n' d':List Rat}{x:Rat}(h:x∈Bi qs hs n' d'):x∈qs:=by
 unfold Bi at h
 obtain⟨p,hp,rfl⟩:=U4.mp h
 exact(RW (Rt.mp hp).1).1
theorem Lv{qs hs n' d':List Rat}:(Bi qs hs n' d').length<=qs.length:=by
 unfold Bi
 rw[S7]
 refine Rw (V1 ..) ?_
 rw[UI];lia
inductive IV(K:Rv)(vs:List V)(H:Hp)(Q:VK)(E_3:XK):Prop
 | mk (l lh ca cu:Addr) (zs ys:List V) (qs hs n' d':List Rat) (mc nx ny:Nat) (h1:vs=[.ref l,.ref lh,.ref ca,.ref cu]) (h2:SqL K H l zs) (h3:Ar K H zs qs) (h4:SqL K H lh ys) (h5:Ar K H ys hs) (h6:Crv K H ca n') (h7:Crv K H cu d') (h8:hs.length=qs.length) (h9:qs.length<=12) (h10:n'.length<=12) (h11:d'.length<=12) (h12:(∀q∈qs,RB nx q)) (h13:(∀q∈hs,RB ny q)) (h14:(∀q∈n',RB mc q)) (h15:(∀q∈d',RB mc q)) (h16:mc<=3000000) (h17:nx<=50) (h18:ny<=1000000) (h19:∀p us rs H',Af H H'->H p=none->H' p=some (.lst us)->Ar K H' us rs->rs.Perm (Bi qs hs n' d')->rs.Pairwise (· <= ·)->Q (.ref p) H'):IV K vs H Q E_3
inductive KU(K:Rv)(vs:List V)(H:Hp)(Q:VK)(E_3:XK):Prop
 | mk (p l:Addr) (zs:List V) (qs:List Rat) (h1:vs=[.ref p,.ref l]) (h2:Pen H p) (h3:l≠p) (h4:H l=some (.lst zs)) (h5:AV H zs qs) (h6:(∀q∈qs,RB 16 q)) (h7:1<=qs.length) (h8:qs.length<=7) (h9:∀(lh:Addr) (H':Hp) (ys:List V) (hs:List Rat),Mv p H H'->Pen H' p->H lh=none->H' lh=some (.lst ys)->Ar K H' ys hs->hs.length=qs.length->(∀c∈hs,RB 400 c)->Q (.ref lh) H'):KU K vs H Q E_3
def Gv:Rat:=⟨1,2,by decide,by decide⟩
theorem Mw:nT Gv = .tup [.int 1,.int 2]:=rfl
theorem Jo:RB 2 Gv:=⟨by unfold Bd;decide,by unfold Bd;decide⟩
theorem ND(K:Rv):RQ K (.type "list") (.type "list")=some true:=by kernel_rfl
theorem LU{Pt l:Addr}{qt:Str}{H:Hp}{xs:List V}{o:HO}(h:D0 Pt qt H)(e:H l=some (.lst xs)):D0 Pt qt (upd H l o):=by
 obtain⟨ps,ep,t,c⟩:=h
 refine⟨ps,by rw[Aw (ER ep e (by intro z;cases z))];exact ep,t,fun pos cv z=>?_⟩
 obtain⟨c',e',z'⟩:=c pos cv z
 exact⟨c',e',by rw[Aw (ER z' e (by intro y;cases y))];exact z'⟩
theorem Ld{W n:Nat}{qs hs N D N2 D2 n' d':List Rat}{r1 r2:Int}{c:Rat}(hql:qs.length=n)(hhl:hs.length=n)(hWn:W<=n)(I:Cb (W:Int) ((n:Int)+1-W) n (qs.zip hs) r1 r2 N D N2 D2)(hc:c≠0)(gn:B0 n')(gd:B0 d')(hd0:d'≠[])
 (evN:∀x,Cv.ev N x=c*prV x (qs.filter fun q=>decide (Cv.ev D q=0))*Cv.ev n' x) (evD:∀x,Cv.ev D x=c*prV x (qs.filter fun q=>decide (Cv.ev D q=0))*Cv.ev d' x) :
 (n'≠[]->n'.length+(Bi qs hs n' d').length<=W)/\d'.length+(Bi qs hs n' d').length<=n+1-W:=by
 have hzln:(qs.zip hs).length=n:=by rw[UI];lia
 have hfst:(qs.zip hs).map Prod.fst=qs:=UX (by lia)
 have hr1:=I.fin hzln
 have hNl:(Cv.strip N).length<=W:=DY fun j hj=>I.le1.1 j (by lia)
 have hDl:(Cv.strip D).length<=n+1-W:=DY fun j hj=>I.le1.2 j (by lia)
 have hS:(Bi qs hs n' d').length<=(qs.filter fun q=>decide (Cv.ev D q=0)).length:=by
  have e1:(qs.filter fun q=>decide (Cv.ev D q=0)).length=((qs.zip hs).filter fun p=>decide (Cv.ev D p.1=0)).length:=by
   conv=>lhs;rw[<- hfst,List.filter_map,S7]
   rfl
  unfold Bi
  rw[e1,S7,<- V2,<- V2]
  refine List.countP_mono_left fun p hp hl=>?_
  by_cases z:Cv.ev D p.1=0
  ·exact decide_eq_true z
  ·exfalso
   have h1:=evD p.1
   have hp0:c*prV p.1 (qs.filter fun q=>decide (Cv.ev D q=0))≠0:=fun y=>z (by rw[h1,y,UC])
   have hd1:Cv.ev d' p.1≠0:=fun y=>z (by rw[h1,y,UD])
   have h2:=I.on1 p hp
   rw[evN,h1]at h2
   have h3:Cv.ev n' p.1=p.2*Cv.ev d' p.1:=by
    have h4:c*prV p.1 (qs.filter fun q=>decide (Cv.ev D q=0))*(Cv.ev n' p.1-p.2*Cv.ev d' p.1)=0:=by
     generalize c*prV p.1 (qs.filter fun q=>decide (Cv.ev D q=0))=A at h2 ⊢
     grind
    rcases SY.mp h4 with y | y
    ·exact absurd y hp0
    ·grind
   rw[decide_eq_true (show Cv.ev d' p.1≠0/\Cv.ev n' p.1=p.2*Cv.ev d' p.1 from⟨hd1,h3⟩)]at hl
   exact absurd hl (by decide)
 generalize(qs.filter fun q=>decide (Cv.ev D q=0))=S at evN evD hS
 have gP:B0 ((prL S).map (· * c)):=CA (Dx S) hc
 have lP:((prL S).map (· * c)).length=S.length+1:=by rw[S7,BN]
 have nP:(prL S).map (· * c)≠[]:=fun z=>by rw[z]at lP;cases lP
 refine⟨fun hn0=>?_,?_⟩
 ·have:=Jy (AL N) gP gn nP hn0 fun x=>by rw[Cv.ev_strip,evN,Cv.ev_scale,C7,UB c]
  lia
 ·have:=Jy (AL D) gP gd nP hd0 fun x=>by rw[Cv.ev_strip,evD,Cv.ev_scale,C7,UB c]
  lia
theorem KG:RB 134 (((10:Int) ^ 40+1:Int):Rat):=⟨by rw[UR];unfold Bd;decide,by rw[US];unfold Bd;decide⟩
section
variable {P:Program}{w:World}{K:Rv}{mg:Str->Option Value}{base:Heap}
theorem CH:Aq ["_law_script","_law_k","_law_cell"] ["_law_script","_law_k"] (Ae (top 48)):=⟨rfl,rfl,rfl,by decide +kernel,rfl,by decide +kernel,by decide +kernel⟩
theorem HY{f:Addr}{fd:FuncData}(F:Fun K "_law_pen" "_law_pen" (top 48) f fd)(Pm:mg "len" = none)(hT:P.given.tree=none) :
 AO P w K mg base CX0 33 f fd ["_law_script","_law_k"] (KQ K):=by
 refine F.ok CH (fun vs H Q E h=>?_) (fun cdv A outer s H vs Q E hr h=>?_)
 ·obtain⟨_,_,_,rfl,_⟩:=h;rfl
 refine⟨_,(@Ad _ _ _ _ _ K _ (@Ai _ _ 2 _ _ _ _ CH.nd rfl (Or.inl rfl) (@Ah _ _ _ _ _ _ _ _ AR (@Ah _ _ _ _ _ _ _ _ Au Aa (pv 1)) Aa) (by rfl) (by first   | exact .inl rfl   | exact .inr rfl   | assumption)) (@Ad _ _ _ _ _ K _ (@AQ _ _ _ _ _ _ _ _ K _ _ (@Ap _ _ _ _ _ _ _ _ E7 (pv 1) (@Al _ _ _ _ _ _ _ _ _ (Bs K) rfl Pm AD (@A0 _ _ _ _ _ (pv 0) Ab (by rfl)) (by decide) (by decide) (by rfl) (by rfl)) (As _)) (@Ag _ _ _ (@Ai _ _ 2 _ _ _ _ CH.nd rfl (Or.inl rfl) (@Aj _ _ _ _ _ _ _ (ixL K) (pv 0) (pv 1) (fun u v=>rfl)) (by rfl) (by first   | exact .inl rfl   | exact .inr rfl   | assumption))) (@Ag _ _ _ (@AQ _ _ _ _ _ _ _ _ K _ _ (@Ap _ _ _ _ _ _ _ _ CU (@Al _ _ _ _ _ _ _ _ _ (Bs K) rfl Pm AD (@A0 _ _ _ _ _ (pv 0) Ab (by rfl)) (by decide) (by decide) (by rfl) (by rfl)) Aa (As _)) (@Ag _ _ _ (@Ai _ _ 2 _ _ _ _ CH.nd rfl (Or.inl rfl) (@Ah _ _ _ _ _ _ _ _ AR (@Aj _ _ _ _ _ _ _ (ixL K) (pv 0) (@Ah _ _ _ _ _ _ _ _ Cg (pv 1) (@Al _ _ _ _ _ _ _ _ _ (Bs K) rfl Pm AD (@A0 _ _ _ _ _ (pv 0) Ab (by rfl)) (by decide) (by decide) (by rfl) (by rfl))) (fun u v=>rfl)) (@Ah _ _ _ _ _ _ _ _ Au Aa (pv 1))) (by rfl) (by first   | exact .inl rfl   | exact .inr rfl   | assumption))) AI (by rfl) (by rfl))) (by rfl) (by rfl)) (@Ad _ _ _ _ _ K _ (@AQ _ _ _ _ _ _ _ _ K _ _ (@Ap _ _ _ _ _ _ _ _ OA (pv 2) (@Ah _ _ _ _ _ _ _ _ J2 Aa Aa) (As _)) (@Ag _ _ _ (@Av _ _ _ _ (@Bj _ _ _ _ (@A0 _ _ _ _ _ (@Ah _ _ _ _ _ _ _ _ Ba (pv 2) (@Ah _ _ _ _ _ _ _ _ J2 Aa Aa)) (@A0 _ _ _ _ _ (@Ah _ _ _ _ _ _ _ _ Cg (pv 2) Aa) (@A0 _ _ _ _ _ Aa Ab (by rfl)) (by rfl)) (by rfl))))) AI (by rfl) (by rfl)) (@Ag _ _ _ (@Av _ _ _ _ (@Bj _ _ _ _ (@A0 _ _ _ _ _ Aa (@A0 _ _ _ _ _ (@Ah _ _ _ _ _ _ _ _ AR (@Ah _ _ _ _ _ _ _ _ Cg (pv 2) Aa) (@Ah _ _ _ _ _ _ _ _ Au Aa (pv 1))) (@A0 _ _ _ _ _ Aa Ab (by rfl)) (by rfl)) (by rfl))))) (by rfl)) (by rfl)) (by rfl)),?_⟩
 obtain⟨a,ns,k,rfl,hS,h63,h0,h62,q⟩:=h
 have hl:(ns.map V.int).length=ns.length:=S7 _
 have P3:3<=sizeLine:=by decide
 have C1:O8 10 18:=by unfold O8;decide
 refine⟨_,rfl,_,_,rfl,rfl,.inl ⟨by decide,by decide⟩,_,_,rfl,rfl,?_⟩
 refine⟨_,rfl,_,rfl,a,_,rfl,.inl hS,_,_,rfl,rfl,_,rfl,?_⟩
 rw[hl]
 have hk1:k<(ns.length:Int)->∃v:Int,atI (ns.map V.int) k=some (.int v):=fun c=>JS h0 c
 have hk2:0<(ns.length:Int)->∃v:Int,atI (ns.map V.int) (k % (ns.length:Int))=some (.int v):=fun c=>JS (TY _ (by lia)) (TZ _ c)
 refine Jd (fun c=>?_) (fun c=>?_)
 ·obtain⟨v,hv⟩:=(hk1 (of_decide_eq_true c))
  refine⟨_,rfl,_,rfl,a,_,_,_,rfl,rfl,hS,hv,?_⟩
  refine⟨_,rfl,_,_,rfl,rfl,C1,_,_,rfl,rfl,_,rfl,?_⟩
  refine Jd (fun c=>?_) (fun c=>?_)
  ·exact⟨_,rfl,_,_,rfl,rfl,C1,_,_,rfl,rfl,_,rfl,_,_,rfl,rfl,(by first | decide | (dsimp only;decide)),P3,fun p hp=>q p _ _ hp⟩
  ·exact⟨_,rfl,_,_,rfl,rfl,(by first | decide | (dsimp only;decide)),_,rfl,_,_,rfl,rfl,.inl ⟨by decide,by decide⟩,_,_,rfl,rfl,P3,fun p hp=>q p _ _ hp⟩
 ·refine⟨_,rfl,a,_,rfl,.inl hS,_,_,rfl,rfl,_,rfl,?_⟩
  rw[hl]
  refine Jd (fun c=>?_) (fun c=>?_)
  ·obtain⟨v,hv⟩:=(hk2 (of_decide_eq_true c))
   have c':0<(((ns.map V.int).length:Nat):Int):=by rw[hl];exact of_decide_eq_true c
   rw[<- hl]at hv
   refine⟨_,rfl,_,rfl,_,rfl,a,_,rfl,.inl hS,_,_,rfl,rfl,c',a,_,_,_,rfl,rfl,hS,hv,_,rfl,_,_,rfl,rfl,.inl ⟨by decide,by decide⟩,_,_,rfl,rfl,?_⟩
   refine⟨_,rfl,_,_,rfl,rfl,C1,_,_,rfl,rfl,_,rfl,?_⟩
   refine Jd (fun c=>?_) (fun c=>?_)
   ·exact⟨_,rfl,_,_,rfl,rfl,C1,_,_,rfl,rfl,_,rfl,_,_,rfl,rfl,(by first | decide | (dsimp only;decide)),P3,fun p hp=>q p _ _ hp⟩
   ·exact⟨_,rfl,_,_,rfl,rfl,(by first | decide | (dsimp only;decide)),_,rfl,_,_,rfl,rfl,.inl ⟨by decide,by decide⟩,_,_,rfl,rfl,P3,fun p hp=>q p _ _ hp⟩
  ·refine⟨_,rfl,_,_,rfl,rfl,C1,_,_,rfl,rfl,_,rfl,?_⟩
   refine Jd (fun c=>?_) (fun c=>?_)
   ·exact⟨_,rfl,_,_,rfl,rfl,C1,_,_,rfl,rfl,_,rfl,_,_,rfl,rfl,(by first | decide | (dsimp only;decide)),P3,fun p hp=>q p _ _ hp⟩
   ·exact⟨_,rfl,_,_,rfl,rfl,(by first | decide | (dsimp only;decide)),_,rfl,_,_,rfl,rfl,.inl ⟨by decide,by decide⟩,_,_,rfl,rfl,P3,fun p hp=>q p _ _ hp⟩
theorem BM:Aq ["_law_top","_law_bottom","_law_one","_law_other"] ["_law_top","_law_bottom"] (Ae (top 50)):=⟨rfl,rfl,rfl,by decide +kernel,rfl,by decide +kernel,by decide +kernel⟩
theorem FJ{f:Addr}{fd:FuncData}(F:Fun K "_law_lowest" "_law_lowest" (top 50) f fd)(Pz:mg "abs" = none)(hT:P.given.tree=none) :
 AO P w K mg base CX0 33 f fd ["_law_top","_law_bottom"] (CP):=by
 refine F.ok BM (fun vs H Q E h=>?_) (fun cdv A outer s H vs Q E hr h=>?_)
 ·obtain⟨_,_,rfl,_⟩:=h;rfl
 refine⟨_,(@Ad _ _ _ _ _ K _ (@Ai _ _ 2 _ _ _ _ BM.nd rfl (Or.inl rfl) (@Al _ _ _ _ _ _ _ _ _ Ej rfl Pz HE (@A0 _ _ _ _ _ (pv 0) Ab (by rfl)) (by decide) (by decide) (by rfl) (by rfl)) (by rfl) (by first   | exact .inl rfl   | exact .inr rfl   | assumption)) (@Ad _ _ _ _ _ K _ (@Ai _ _ 3 _ _ _ _ BM.nd rfl (Or.inl rfl) (@Al _ _ _ _ _ _ _ _ _ Ej rfl Pz HE (@A0 _ _ _ _ _ (pv 1) Ab (by rfl)) (by decide) (by decide) (by rfl) (by rfl)) (by rfl) (by first   | exact .inl rfl   | exact .inr rfl   | assumption)) (@Ad _ _ _ _ _ K _ (@Cw _ _ _ _ _ _ PassesOwn.never (@Ap _ _ _ _ _ _ _ _ CU (pv 3) Aa (As _)) (@Ag _ _ _ (@Nd _ _ 2 3 _ _ _ _ _ _ _ _ _ _ _ rfl BM.nd rfl rfl (by decide) rfl rfl (@A0 _ _ _ _ _ (pv 3) (@A0 _ _ _ _ _ (@Ah _ _ _ _ _ _ _ _ Cg (pv 2) (pv 3)) Ab (by rfl)) (by rfl)) (by with_unfolding_all rfl) (by rfl)))) (@Ad _ _ _ _ _ K _ (@AQ _ _ _ _ _ _ _ _ K _ _ (@Ap _ _ _ _ _ _ _ _ E7 (pv 1) Aa (As _)) (@Ag _ _ _ (@Ai _ _ 2 _ _ _ _ BM.nd rfl (Or.inl rfl) (@Ah _ _ _ _ _ _ _ _ Ba Aa (pv 2)) (by rfl) (by first   | exact .inl rfl   | exact .inr rfl   | assumption))) AI (by rfl) (by rfl)) (@Ag _ _ _ (@Av _ _ _ _ (@AG _ _ _ _ _ (@A0 _ _ _ _ _ (@Ah _ _ _ _ _ _ _ _ (Bw hr hT) (pv 0) (pv 2)) (@A0 _ _ _ _ _ (@Ah _ _ _ _ _ _ _ _ (Bw hr hT) (pv 1) (pv 2)) Ab (by rfl)) (by rfl))))) (by rfl)) (by rfl)) (by rfl)) (by rfl)),?_⟩
 obtain⟨a,b,rfl,hb,q⟩:=h
 refine⟨_,rfl,a,rfl,?_⟩
 refine⟨_,rfl,b,rfl,?_⟩
 refine HK (L3 H a b fun H a b σ H'=>H'=H/\∃(x y:Int),σ=[some (.int a),some (.int b),some (.int x),some (.int y)]/\0<=x/\0<=y/\Sr x y=Sr a b) (fun σ _=>mu 3 σ)
  ⟨rfl,_,_,rfl,?_,?_,?_⟩ ?_ ?_
 ·rw[Nm.abs_if];exact V3 _
 ·rw[Nm.abs_if];exact V3 _
 ·rw[Nm.abs_if,Nm.abs_if];rfl
 ·rintro σ H' hR1
  refine BO hR1 fun hq1 hz3=>?_
  refine Dm hz3 fun x y hz3'=>?_
  clear hz3
  refine Ku hz3' fun hq2 hx hy hg=>?_
  clear hz3'
  obtain rfl:=hq1
  obtain rfl:=hq2
  try clear hR1
  refine⟨_,rfl,_,_,rfl,rfl,_,rfl,?_⟩
  by_cases hy0:y=0
  ·subst hy0
   refine CF ?_
   have e:(Sr a b:Int)=x:=by rw[<- hg,Int.gcd_zero];lia
   subst e
   refine⟨_,rfl,_,_,rfl,rfl,_,rfl,?_⟩
   have hd:Nm.msr a b≠0:=Nm.msr_ne hb
   have fin:∀p,H' p=none->Q (.ref p) (upd H' p (.tup [.int (a.fdiv (Nm.msr a b)),.int (b.fdiv (Nm.msr a b))])):=fun p hp=>by
    rw[Nm.top_msr hb,Nm.bottom_msr hb];exact q p hp
   by_cases hb0:b<0
   ·have hd':Nm.msr a b=0-(Sr a b:Int):=by unfold Nm.msr;rw[if_pos hb0];lia
    rw[hd']at hd fin
    refine AU (by rw[decide_eq_true hb0]<;>rfl) ⟨_,rfl,_,_,rfl,rfl,?_⟩
    exact⟨_,rfl,_,rfl,_,_,rfl,rfl,hd,_,rfl,_,rfl,_,_,rfl,rfl,hd,(by decide:2<=sizeLine),fin⟩
   ·have hd':Nm.msr a b=(Sr a b:Int):=by unfold Nm.msr;rw[if_neg hb0]
    rw[hd']at hd fin
    refine AH (by rw[decide_eq_false hb0]<;>rfl) ?_
    exact⟨_,rfl,_,rfl,_,_,rfl,rfl,hd,_,rfl,_,rfl,_,_,rfl,rfl,hd,(by decide:2<=sizeLine),fin⟩
  ·have hyp:0<y:=by lia
   refine AU (by rw[decide_eq_true hyp]<;>rfl) ?_
   refine⟨_,rfl,_,rfl,_,rfl,_,_,rfl,rfl,hyp,_,_,rfl,⟨rfl,y,x % y,rfl,hy,TY _ hy0,?_⟩,?_⟩
   ·rw[Nm.gcd_turn];exact hg
   ·show(x % y).toNat<y.toNat
    have:=TZ x hyp
    lia
 ·rintro σ H' Q1 Q2 hm hR2
  obtain⟨v,e,i,j,e1,e2,k,ek,q1⟩:=hR2
  try clear hR2
  exact⟨v,e,i,j,e1,e2,k,ek,hm _ _ q1⟩
theorem Co:Aq ["_law_pen_here","_law_many","_law_drawn","_law_number_here"] ["_law_pen_here","_law_many"] (Ae (top 49)):=⟨rfl,rfl,rfl,by decide +kernel,rfl,by decide +kernel,by decide +kernel⟩
theorem Hl{f:Addr}{fd:FuncData}(F:Fun K "_law_draw" "_law_draw" (top 49) f fd)(hT:P.given.tree=none) :
 AO P w K mg base CX0 33 f fd ["_law_pen_here","_law_many"] (Eo):=by
 refine F.ok Co (fun vs H Q E h=>?_) (fun cdv A outer s H vs Q E hr h=>?_)
 ·obtain⟨_,_,rfl,_⟩:=h;rfl
 refine⟨_,(@Ad _ _ _ _ _ K _ (@DW _ _ _ _ _ _ (@Ah _ _ _ _ _ _ _ _ AR (@Aj _ _ _ _ _ _ _ (ixL K) (pv 0) Aa (fun u v=>rfl)) Aa) (@Eu _ _ _ _ _ _ _ (pv 0) Aa CQ (by intro _;rfl)) (by rfl) (by rfl) (by rfl)) (@Ad _ _ _ _ _ K _ (@AQ _ _ _ _ _ _ _ _ K _ _ (@Ap _ _ _ _ _ _ _ _ CU (@Aj _ _ _ _ _ _ _ (ixL K) (pv 0) Aa (fun u v=>rfl)) Aa (As _)) (@Ad _ _ _ _ _ K _ (@Ai _ _ 2 _ _ _ _ Co.nd rfl (Or.inl rfl) (@Ah _ _ _ _ _ _ _ _ Cg (@Aj _ _ _ _ _ _ _ (ixL K) (pv 0) Aa (fun u v=>rfl)) (pv 1)) (by rfl) (by first   | exact .inl rfl   | exact .inr rfl   | assumption)) (@Ad _ _ _ _ _ K _ (@DW _ _ _ _ _ _ (@Ah _ _ _ _ _ _ _ _ (Bw hr hT) (@Aj _ _ _ _ _ _ _ (ixL K) (pv 0) Aa (fun u v=>rfl)) (pv 1)) (@Eu _ _ _ _ _ _ _ (pv 0) Aa CQ (by intro _;rfl)) (by rfl) (by rfl) (by rfl)) (@Ag _ _ _ (@Av _ _ _ _ (pv 2))) (by rfl)) (by rfl)) AI (by rfl) (by rfl)) (@Ad _ _ _ _ _ K _ (@Ai _ _ 3 _ _ _ _ Co.nd rfl (Or.inl rfl) (@Ah _ _ _ _ _ _ _ _ Cg (@Ah _ _ _ _ _ _ _ _ Au (@Ah _ _ _ _ _ _ _ _ AR (@Ah _ _ _ _ _ _ _ _ AR (@Aj _ _ _ _ _ _ _ (ixL K) (pv 0) Aa (fun u v=>rfl)) (@Ah _ _ _ _ _ _ _ _ Au Aa (@Aj _ _ _ _ _ _ _ (ixL K) (pv 0) Aa (fun u v=>rfl)))) Aa) Aa) Aa) (by rfl) (by first   | exact .inl rfl   | exact .inr rfl   | assumption)) (@Ad _ _ _ _ _ K _ (@Ai _ _ 3 _ _ _ _ Co.nd rfl (Or.inl rfl) (@Ah _ _ _ _ _ _ _ _ Cg (@Ah _ _ _ _ _ _ _ _ Au (pv 3) (@Ah _ _ _ _ _ _ _ _ AR (@Ah _ _ _ _ _ _ _ _ AR (@Ah _ _ _ _ _ _ _ _ Cg (pv 3) Aa) (@Aj _ _ _ _ _ _ _ (ixL K) (pv 0) Aa (fun u v=>rfl))) Aa)) Aa) (by rfl) (by first   | exact .inl rfl   | exact .inr rfl   | assumption)) (@Ag _ _ _ (@Av _ _ _ _ (@Ah _ _ _ _ _ _ _ _ Cg (@Ah _ _ _ _ _ _ _ _ (Bw hr hT) (@Ah _ _ _ _ _ _ _ _ Cg (@Ah _ _ _ _ _ _ _ _ Au (pv 3) (@Ah _ _ _ _ _ _ _ _ AR (@Ah _ _ _ _ _ _ _ _ Cg (pv 3) Aa) Aa)) Aa) Aa) (pv 1)))) (by rfl)) (by rfl)) (by rfl)) (by rfl)),?_⟩
 obtain⟨a,m,rfl,⟨c0,c1,c2,hp⟩,h1,h2,q0⟩:=h
 have q:∀d c0' c2':Int,0<=d->d<m->Q (.int d) (upd H a (.lst [.int c0',.int c1,.int c2'])):=fun d _ _ h3 h4=>q0 d _ h3 h4 .put .put
 have hm:m≠0:=by lia
 have q':∀(o:HO) (d c0' c2':Int),0<=d->d<m->Q (.int d) (upd (upd H a o) a (.lst [.int c0',.int c1,.int c2'])):=fun o d c0' c2' h3 h4=>by rw[M7];exact q d c0' c2' h3 h4
 refine⟨_,rfl,a,_,_,_,rfl,rfl,SqL.of hp,rfl,_,_,rfl,rfl,_,rfl,a,_,_,_,rfl,rfl,hp,rfl,?_⟩
 refine⟨_,rfl,a,_,_,_,rfl,rfl,SqL.of Ac,rfl,_,_,rfl,rfl,_,rfl,?_⟩
 refine Jd (fun c=>?_) (fun c=>?_)
 ·refine⟨_,rfl,a,_,_,_,rfl,rfl,SqL.of Ac,rfl,_,rfl,_,_,rfl,rfl,(by lia:0<m),?_⟩
  refine⟨_,rfl,a,_,_,_,rfl,rfl,SqL.of Ac,rfl,_,rfl,_,_,rfl,rfl,hm,_,rfl,a,_,_,_,rfl,rfl,Ac,rfl,?_⟩
  refine⟨_,rfl,?_⟩
  exact q' _ _ _ _ (TY _ (by lia)) (TZ _ (by lia))
 ·have cl:∀z:Int,0<z->(0:Int)<z:=fun _ h=>h
  refine⟨_,rfl,a,_,_,_,rfl,rfl,SqL.of Ac,rfl,_,rfl,a,_,_,_,rfl,rfl,SqL.of Ac,rfl,_,_,rfl,rfl,.inl ⟨by decide,by decide⟩,_,_,rfl,rfl,_,_,rfl,rfl,_,_,rfl,rfl,.inr (.inl ⟨by decide,by decide⟩),_,_,rfl,rfl,(by first | decide | (dsimp only;decide)),?_⟩
  have n1:=TY ((c1+40503*(c2+1)+1)*48271) (show(2147483647:Int)≠0 by decide)
  have n2:=TZ ((c1+40503*(c2+1)+1)*48271) (show(0:Int)<2147483647 by decide)
  generalize hN:(c1+40503*(c2+1)+1)*48271 % 2147483647=N at n1 n2
  refine⟨_,rfl,_,rfl,_,_,rfl,rfl,(by first | decide | (dsimp only;decide)),_,rfl,a,_,_,_,rfl,rfl,SqL.of Ac,rfl,_,_,rfl,rfl,_,_,rfl,rfl,_,_,rfl,rfl,.inl ?_,_,_,rfl,rfl,(by first | decide | (dsimp only;decide)),?_⟩
  ·(try rw[hN]);lia
  try rw[hN]
  have n3:=TY (N*(N % 65521+(c2+1)+3)) (show(2147483629:Int)≠0 by decide)
  have n4:=TZ (N*(N % 65521+(c2+1)+3)) (show(0:Int)<2147483629 by decide)
  generalize N*(N % 65521+(c2+1)+3) % 2147483629=M at n3 n4
  refine⟨_,rfl,_,rfl,_,_,rfl,rfl,(by first | decide | (dsimp only;decide)),_,_,rfl,rfl,_,_,rfl,rfl,.inl ⟨by lia,by lia⟩,_,_,rfl,rfl,(by first | decide | (dsimp only;decide)),_,_,rfl,rfl,(by first | decide | (dsimp only;decide)),_,rfl,_,_,rfl,rfl,(by lia:0<m),?_⟩
  exact q _ _ _ (TY _ (by lia)) (TZ _ (by lia))
theorem Fw:Aq ["_law_pen_here"] ["_law_pen_here"] (Ae (top 54)):=⟨rfl,rfl,rfl,by decide +kernel,rfl,by decide +kernel,by decide +kernel⟩
theorem FI{f:Addr}{fd:FuncData}(F:Fun K "_law_number" "_law_number" (top 54) f fd)(Pr:Fd P w K mg base 33 "_law_lowest" ["_law_top","_law_bottom"] (CP))(Po:Fd P w K mg base 33 "_law_draw" ["_law_pen_here","_law_many"] (Eo))(hT:P.given.tree=none) :
 AO P w K mg base CX0 34 f fd ["_law_pen_here"] (HN 8):=by
 refine F.ok Fw (fun vs H Q E h=>?_) (fun cdv A outer s H vs Q E hr h=>?_)
 ·obtain⟨_,rfl,_⟩:=h;rfl
 refine⟨_,(@Ad _ _ _ _ _ K _ (@AQ _ _ _ _ _ _ _ _ K _ _ (@Ap _ _ _ _ _ _ _ _ CU (@Ak _ _ _ _ _ _ _ _ _ _ _ Po hr rfl (@A0 _ _ _ _ _ (pv 0) (@A0 _ _ _ _ _ Aa Ab (by rfl)) (by rfl)) (by decide) (by decide) (by rfl) (by rfl)) Aa (As _)) (@Ag _ _ _ (@Av _ _ _ _ (@Ak _ _ _ _ _ _ _ _ _ _ _ Pr hr rfl (@A0 _ _ _ _ _ (@Ah _ _ _ _ _ _ _ _ Ba (@Ak _ _ _ _ _ _ _ _ _ _ _ Po hr rfl (@A0 _ _ _ _ _ (pv 0) (@A0 _ _ _ _ _ Aa Ab (by rfl)) (by rfl)) (by decide) (by decide) (by rfl) (by rfl)) Aa) (@A0 _ _ _ _ _ (@Ah _ _ _ _ _ _ _ _ AR Aa (@Ak _ _ _ _ _ _ _ _ _ _ _ Po hr rfl (@A0 _ _ _ _ _ (pv 0) (@A0 _ _ _ _ _ (@Aj _ _ _ _ _ _ _ (ixL K) (@Bj _ _ _ _ (@A0 _ _ _ _ _ Aa (@A0 _ _ _ _ _ Aa Ab (by rfl)) (by rfl))) (@Ak _ _ _ _ _ _ _ _ _ _ _ Po hr rfl (@A0 _ _ _ _ _ (pv 0) (@A0 _ _ _ _ _ Aa Ab (by rfl)) (by rfl)) (by decide) (by decide) (by rfl) (by rfl)) (fun u v=>rfl)) Ab (by rfl)) (by rfl)) (by decide) (by decide) (by rfl) (by rfl))) Ab (by rfl)) (by rfl)) (by decide) (by decide) (by rfl) (by rfl)))) AI (by rfl) (by rfl)) (@Ag _ _ _ (@Av _ _ _ _ (@Ak _ _ _ _ _ _ _ _ _ _ _ Pr hr rfl (@A0 _ _ _ _ _ (@Ah _ _ _ _ _ _ _ _ Ba (@Ak _ _ _ _ _ _ _ _ _ _ _ Po hr rfl (@A0 _ _ _ _ _ (pv 0) (@A0 _ _ _ _ _ Aa Ab (by rfl)) (by rfl)) (by decide) (by decide) (by rfl) (by rfl)) Aa) (@A0 _ _ _ _ _ (@Ah _ _ _ _ _ _ _ _ AR Aa (@Ak _ _ _ _ _ _ _ _ _ _ _ Po hr rfl (@A0 _ _ _ _ _ (pv 0) (@A0 _ _ _ _ _ Aa Ab (by rfl)) (by rfl)) (by decide) (by decide) (by rfl) (by rfl))) Ab (by rfl)) (by rfl)) (by decide) (by decide) (by rfl) (by rfl)))) (by rfl)),?_⟩
 obtain⟨a,rfl,pn,q⟩:=h
 have b8:∀x:Int,-200<x->x<200->Bd 8 x:=fun x h1 h2=>by unfold Bd;lia
 refine⟨_,rfl,a,6,rfl,pn,by decide,by decide,fun w H1 w0 w1 o1 p1=>⟨_,_,rfl,rfl,_,rfl,?_⟩⟩
 refine Jd (fun c=>?_) (fun c=>?_)
 ·refine⟨_,rfl,a,19,rfl,p1,by decide,by decide,fun d H2 d0 d1 o2 p2=>⟨_,_,rfl,rfl,?_⟩⟩
  refine⟨_,rfl,(by decide:2<=sizeLine),fun l hl=>?_⟩
  refine⟨_,rfl,a,2,rfl,p2.same hl,by decide,by decide,fun e H3 e0 e1 o3 p3=>?_⟩
  obtain⟨v,hv,hm⟩:=(MJ (xs:=[1,4]) (i:=e) e0 e1)
  have hv1:1<=v/\v<=4:=by simp at hm;lia
  have hl3:H3 l=some (.lst [.int 1,.int 4]):=by
   refine Eh p2 fun x0 x1 x2 ex=>?_
   rw[o3 l (Ay ex hl).symm];exact Ac
  refine⟨l,_,_,_,rfl,rfl,SqL.of hl3,hv,a,v,rfl,p3,by lia,by lia,fun g H4 g0 g1 o4 p4=>⟨_,_,rfl,rfl,_,_,rfl,by lia,fun r hr=>?_⟩⟩
  exact q _ r _ (o1.mv.trans (o2.mv.trans ((Mv.new hl).trans (o3.mv.trans (o4.mv.trans (Mv.new hr)))))) (p4.same hr) Ac (Bd.num (b8 _ (by lia) (by lia))) (Bd.den (by lia) (b8 _ (by lia) (by lia)))
 ·refine⟨_,rfl,a,199,rfl,p1,by decide,by decide,fun d H2 d0 d1 o2 p2=>⟨_,_,rfl,rfl,?_⟩⟩
  refine⟨_,rfl,a,9,rfl,p2,by decide,by decide,fun e H3 e0 e1 o3 p3=>⟨_,_,rfl,rfl,_,_,rfl,by lia,fun r hr=>?_⟩⟩
  exact q _ r _ (o1.mv.trans (o2.mv.trans (o3.mv.trans (Mv.new hr)))) (p3.same hr) Ac (Bd.num (b8 _ (by lia) (by lia))) (Bd.den (by lia) (b8 _ (by lia) (by lia)))
theorem GW:Aq ["_law_a","_law_b"] ["_law_a","_law_b"] (Ae (top 51)):=⟨rfl,rfl,rfl,by decide +kernel,rfl,by decide +kernel,by decide +kernel⟩
theorem Hj{f:Addr}{fd:FuncData}(F:Fun K "_law_plus" "_law_plus" (top 51) f fd)(Pr:Fd P w K mg base 33 "_law_lowest" ["_law_top","_law_bottom"] (CP))(hT:P.given.tree=none) :
 AO P w K mg base CX0 34 f fd ["_law_a","_law_b"] (Cs K (· + ·)):=by
 refine F.ok GW (fun vs H Q E h=>?_) (fun cdv A outer s H vs Q E hr h=>?_)
 ·obtain⟨_,_,_,_,_,_,rfl,_⟩:=h;rfl
 refine⟨_,(@Ag _ _ _ (@Av _ _ _ _ (@Ak _ _ _ _ _ _ _ _ _ _ _ Pr hr rfl (@A0 _ _ _ _ _ (@Ah _ _ _ _ _ _ _ _ AR (@Ah _ _ _ _ _ _ _ _ Au (@Aj _ _ _ _ _ _ _ (ixT K) (pv 0) Aa (fun u v=>rfl)) (@Aj _ _ _ _ _ _ _ (ixT K) (pv 1) Aa (fun u v=>rfl))) (@Ah _ _ _ _ _ _ _ _ Au (@Aj _ _ _ _ _ _ _ (ixT K) (pv 1) Aa (fun u v=>rfl)) (@Aj _ _ _ _ _ _ _ (ixT K) (pv 0) Aa (fun u v=>rfl)))) (@A0 _ _ _ _ _ (@Ah _ _ _ _ _ _ _ _ Au (@Aj _ _ _ _ _ _ _ (ixT K) (pv 0) Aa (fun u v=>rfl)) (@Aj _ _ _ _ _ _ _ (ixT K) (pv 1) Aa (fun u v=>rfl))) Ab (by rfl)) (by rfl)) (by decide) (by decide) (by rfl) (by rfl)))),?_⟩
 obtain⟨x,y,p,q,m,n,rfl,⟨r,rfl,hr⟩,⟨u,rfl,hu⟩,hp,hq,hmn,k⟩:=h
 refine⟨_,rfl,r,_,_,_,rfl,rfl,hr,rfl,_,rfl,u,_,_,_,rfl,rfl,hu,rfl,_,_,rfl,rfl,Bk.bd hp.1 hq.2,_,rfl,u,_,_,_,rfl,rfl,hu,rfl,_,rfl,r,_,_,_,rfl,rfl,hr,rfl,_,_,rfl,rfl,Bk.bd hq.1 hp.2,_,_,rfl,rfl,?_⟩
 refine⟨_,rfl,r,_,_,_,rfl,rfl,hr,rfl,_,rfl,u,_,_,_,rfl,rfl,hu,rfl,_,_,rfl,rfl,Bk.bd hp.2 hq.2,?_⟩
 refine⟨_,_,rfl,SF (Nm.den_ne p) (Nm.den_ne q),fun z hz=>?_⟩
 have e:=k z hz
 try dsimp only at e
 rw[<- Nm.plus_eq]at e
 exact e
theorem BL:Aq ["_law_pen_here","_law_many","_law_found","_law_k","_law_x"] ["_law_pen_here","_law_many"] (Ae (top 57)):=⟨rfl,rfl,rfl,by decide +kernel,rfl,by decide +kernel,by decide +kernel⟩
theorem FH{f:Addr}{fd:FuncData}(F:Fun K "_law_places" "_law_places" (top 57) f fd)(PL:Fd P w K mg base 34 "_law_number" ["_law_pen_here"] (HN 8))(PN:Fd P w K mg base 34 "_law_plus" ["_law_a","_law_b"] (Cs K (· + ·)))(Pn:mg "range" = none)(hT:P.given.tree=none) :
 AO P w K mg base CX0 35 f fd ["_law_pen_here","_law_many"] (En K 8):=by
 refine F.ok BL (fun vs H Q E h=>?_) (fun cdv A outer s H vs Q E hr h=>?_)
 ·obtain⟨_,_,rfl,_⟩:=h;rfl
 refine⟨_,(@Ad _ _ _ _ _ K _ (@Ai _ _ 2 _ _ _ _ BL.nd rfl (Or.inl rfl) (@Bj _ _ _ _ Ab) (by rfl) (by first   | exact .inl rfl   | exact .inr rfl   | assumption)) (@Ad _ _ _ _ _ K _ (@BA _ _ _ _ _ _ _ _ K _ PassesOwn.never rfl (@BE _ _ _ _ _ _ rfl Pn (@A0 _ _ _ _ _ (pv 1) Ab (by rfl)) (by rfl)) (@Ax _ _ 3 _ BL.nd rfl (Or.inl rfl) (by first   | exact .inl rfl   | exact .inr rfl   | assumption)) (@Ad _ _ _ _ _ K _ (@Ai _ _ 4 _ _ _ _ BL.nd rfl (Or.inl rfl) (@Ak _ _ _ _ _ _ _ _ _ _ _ PL hr rfl (@A0 _ _ _ _ _ (pv 0) Ab (by rfl)) (by decide) (by decide) (by rfl) (by rfl)) (by rfl) (by first   | exact .inl rfl   | exact .inr rfl   | assumption)) (@Ad _ _ _ _ _ K _ (@Cw _ _ _ _ _ _ PassesOwn.never (@Ap _ _ _ _ _ _ _ _ (inD K hr) (pv 4) (pv 2) (by with_unfolding_all rfl)) (@Ag _ _ _ (@Ai _ _ 4 _ _ _ _ BL.nd rfl (Or.inl rfl) (@Ak _ _ _ _ _ _ _ _ _ _ _ PN hr rfl (@A0 _ _ _ _ _ (pv 4) (@A0 _ _ _ _ _ (@AG _ _ _ _ _ (@A0 _ _ _ _ _ Aa (@A0 _ _ _ _ _ Aa Ab (by rfl)) (by rfl))) Ab (by rfl)) (by rfl)) (by decide) (by decide) (by rfl) (by rfl)) (by rfl) (by first   | exact .inl rfl   | exact .inr rfl   | assumption)))) (@Ag _ _ _ (@Dc _ _ _ _ (@GZ _ _ _ _ _ _ _ _ _ _ _ _ K PySem.F.plainAttrs_list PySem.F.slot_list_append PySem.F.type_list_append EE (pv 2) (@A0 _ _ _ _ _ (pv 4) Ab (by rfl)) (by rfl) (by rfl) (by rfl) (by rfl) (by rfl) (by rfl)) (by rfl))) (by rfl)) (by rfl)) (by rfl) (by intro _;rfl)) (@Ag _ _ _ (@Av _ _ _ _ (pv 2))) (by rfl)) (by rfl)),?_⟩
 obtain⟨a,m,rfl,pn,h0,h100,q⟩:=h
 have P0:0<=sizeLine:=by decide
 have P2:2<=sizeLine:=by decide
 refine⟨P0,fun l hl=>?_⟩
 have la:l≠a:=pn.ne' hl
 obtain⟨M,hM⟩:∃M:Nat,(M:Int)=m:=⟨m.toNat,by lia⟩
 subst hM
 refine⟨_,rfl,(M:Int),rfl,by lia,by lia,?_⟩
 rw[Sb]
 refine Ce (n:=M) (L4 a H M l fun a H M l i σ H'=>Mv a H H'/\Pen H' a/\∃zs qs z3 z4,σ=[some (.ref a),some (.int (M:Int)),some (.ref l),z3,z4]/\H' l=some (.lst zs)/\AV H' zs qs/\qs.length=i/\qs.Nodup/\∀q∈qs,RB (8+8) q) ⟨Mv.new hl,pn.same hl,[],[],none,none,rfl,Ac,.nil,rfl,List.nodup_nil,(fun _ h=>nomatch h)⟩ ?_ ?_
 ·rintro i σ H' hi hR1
  refine Dp hR1 fun mv pn' hz7=>?_
  refine LJ hz7 fun zs qs z3 z4 hz7'=>?_
  clear hz7
  refine LY hz7' fun hq6 el hz hql hnd hb=>?_
  clear hz7'
  obtain rfl:=hq6
  try clear hR1
  refine⟨_,rfl,a,rfl,pn',fun x0 r H3 m3 p3 hr bn bd=>?_⟩
  have el3:=m3 _ _ la el
  have hz3:=AV.mv hz pn' m3
  have hzl:=hz.length
  refine⟨fun μ σ H4=>Af H3 H4/\∃(r:Addr) (x:Rat) (j:Nat),σ=[some (.ref a),some (.int (M:Int)),some (.ref l),some (.int (0+(i:Int))),some (.ref r)]/\H4 r=some (nT x)/\x=x0+(j:Rat)/\μ=cnt x qs/\j+cnt x qs<=qs.length,
   ⟨_,Af.refl _,r,x0,0,rfl,hr,(by have z:((0:Nat):Rat)=0:=rfl;rw[z];grind),rfl,by have:=LV x0 qs;lia⟩,?_⟩
  rintro μ σ H4 hR2
  refine BO hR2 fun s4 hz10=>?_
  refine Eh hz10 fun r' x j hz10'=>?_
  clear hz10
  refine Cq hz10' fun hq8 hr' hx hq9 hj=>?_
  clear hz10'
  obtain rfl:=hq8
  obtain rfl:=hq9
  try clear hR2
  have hxb:RB (8+8) x:=by
   rw[hx]
   exact(RB.plus ⟨bn,bd⟩ (N7 (j:=j) (by lia))).mono (by lia)
  refine⟨_,rfl,_,rfl,?_⟩
  refine inN (Az.of hr') (SqL.of (s4 _ _ el3)) (AV.same hz3 s4).nums ?_
  refine⟨_,rfl,?_⟩
  by_cases hin:x∈qs
  ·refine AU (by rw[decide_eq_true hin]<;>rfl) ⟨_,fun _ _ h=>h,?_⟩
   refine⟨_,rfl,P2,fun t ht=>⟨_,_,_,_,8+8,1,rfl,Az.of ((Af.new ht) _ _ hr'),Az.of (Ac (o:=nT 1)),hxb,RB.one (by decide),by lia,fun u hu=>?_⟩⟩
   refine⟨_,Jg hin,(s4.trans (Af.new ht)).trans (Af.new hu),u,x+1,j+1,rfl,Ac,?_,rfl,by have:=Jg hin;lia⟩
   rw[hx,Rat.natCast_add]
   have z:((1:Nat):Rat)=1:=rfl
   rw[z];grind
  ·refine AH (by rw[decide_eq_false hin]<;>rfl) ?_
   have el4:=s4 _ _ el3
   refine⟨_,rfl,.inl ⟨rfl,_,SqL.of el4⟩,_,rfl,l,zs,.ref r',rfl,rfl,el4,Ro (show zs.length<300 by lia) (by decide),?_⟩
   refine⟨Mv.put' ((mv.trans m3).trans s4.mv) hl,(p3.sm s4).put' la,zs++[.ref r'],qs++[x],_,_,rfl,Ac,Paired.snoc (AV.put (AV.same hz3 s4) el4) (EI.put ⟨_,rfl,hr'⟩ el4),by simp[hql],?_,fun c hc=>?_⟩
   ·rw[List.nodup_append]
    exact⟨hnd,by simp,fun b hb c hc=>by rw[Td.mp hc];exact fun z=>hin (z ▸ hb)⟩
   ·rcases RD.mp hc with z | z
    ·exact hb c z
    ·rw[Td.mp z];exact hxb
 ·rintro σ H' hR3
  refine Dp hR3 fun mv pn' hz12=>?_
  refine LJ hz12 fun zs qs z3 z4 hz12'=>?_
  clear hz12
  refine LY hz12' fun hq11 el hz hql hnd hb=>?_
  clear hz12'
  obtain rfl:=hq11
  try clear hR3
  exact⟨_,rfl,q l H' zs qs mv pn' hl el hz (by rw[hql]) hnd hb⟩
theorem DO:Aq ["_law_pen_here","_law_most","_law_some"] ["_law_pen_here","_law_most"] (Ae (top 56)):=⟨rfl,rfl,rfl,by decide +kernel,rfl,by decide +kernel,by decide +kernel⟩
theorem Gi{f:Addr}{fd:FuncData}(F:Fun K "_law_curve" "_law_curve" (top 56) f fd)(PL:Fd P w K mg base 34 "_law_number" ["_law_pen_here"] (HN 8))(Po:Fd P w K mg base 33 "_law_draw" ["_law_pen_here","_law_many"] (Eo))(Pp:mg "tuple" = none)(Pn:mg "range" = none)(hT:P.given.tree=none) :
 AO P w K mg base CX0 35 f fd ["_law_pen_here","_law_most"] (GQ K 8):=by
 refine F.ok DO (fun vs H Q E h=>?_) (fun cdv A outer s H vs Q E hr h=>?_)
 ·obtain⟨_,_,rfl,_⟩:=h;rfl
 refine⟨_,(@Ad _ _ _ _ _ K _ (@Fy _ (["_law_k","_law_pen_here"]) 1 ([0]) _ _ _ _ _ _ _ _ _ _ 2 _ _ _ rfl DO.nd rfl rfl (Be.look (NX:=["_law_pen_here","_law_most","_law_some"]) (sc:=Ae (top 56)) rfl rfl (by decide +kernel)) (@BE _ _ _ _ _ _ rfl Pn (@A0 _ _ _ _ _ (@Ak _ _ _ _ _ _ _ _ _ _ _ Po hr rfl (@A0 _ _ _ _ _ (pv 0) (@A0 _ _ _ _ _ (@Ah _ _ _ _ _ _ _ _ AR (pv 1) Aa) Ab (by rfl)) (by rfl)) (by decide) (by decide) (by rfl) (by rfl)) Ab (by rfl)) (by rfl)) (fun u1 u2 u3 u4 u5=>(@Ax _ _ 0 _ (show List.Nodup (["_law_k","_law_pen_here"]:List Str) from by decide +kernel) rfl (Or.inl rfl) (by first   | exact .inl rfl   | exact .inr rfl   | assumption))) (AK (by decide)) (fun u1 u2 u3 u4 u5=>Bq) (fun u1 u2 u3 u4 u5=>(@Ak _ _ _ _ _ _ _ _ _ _ _ PL hr rfl (@A0 _ _ _ _ _ (pv 1) Ab (by rfl)) (by decide) (by decide) (by rfl) (by rfl))) rfl (by intro _;rfl)) (@Ad _ _ _ _ _ K _ (@Cw _ _ _ _ _ _ PassesOwn.never (@PW.pt _ _ _ (@DV _ _ _ _ _ _ _ (@Ap _ _ _ _ _ _ _ _ (neD K hr.units) (pv 2) (@Bj _ _ _ _ Ab) (As _)) (@D9 _ _ _ _ (@Ap _ _ _ _ _ _ _ _ (eqD K hr.units) (@Aj _ _ _ _ _ _ _ (ixL K) (pv 2) (@Ci _ _ _ _ _ _ BS Aa) (fun u v=>rfl)) (@AG _ _ _ _ _ (@A0 _ _ _ _ _ Aa (@A0 _ _ _ _ _ Aa Ab (by rfl)) (by rfl))) (As _))))) (@Ag _ _ _ (@Dc _ _ _ _ (@Mo _ _ _ _ _ _ _ _ _ K PySem.F.plainAttrs_list PySem.F.slot_list_pop PySem.F.type_list_pop Ny (pv 2) (by rfl) (by rfl) (by rfl)) (by rfl)))) (@Ag _ _ _ (@Av _ _ _ _ (@Cr _ _ _ _ _ _ _ _ _ (KD K) rfl Pp DA (@A0 _ _ _ _ _ (pv 2) Ab (by rfl)) (by decide) (by decide) (by rfl) (by rfl)))) (by rfl)) (by rfl)),?_⟩
 obtain⟨a,most,rfl,pn,h0,h1,q⟩:=h
 have P0:0<=sizeLine:=by decide
 have P2:2<=sizeLine:=by decide
 refine C3 ⟨_,rfl,_,rfl,_,_,rfl,rfl,a,most+1,rfl,pn,by lia,by lia,fun n H1 n0 n1 o1 p1=>⟨n,rfl,by lia,by lia,?_⟩⟩
 have hN:(n.toNat:Int)<=most:=by lia
 generalize n.toNat=N at hN
 refine Jb (L3 a H K fun a H K i zs H'=>Mv a H H'/\Pen H' a/\zs.length=i/\∃qs,Ar K H' zs qs/\∀q∈qs,RB 8 q) ⟨o1.mv,p1,rfl,[],.nil,(fun _ h=>nomatch h)⟩ (fun i zs H' _ h=>h.2.2.1) (Rx (AF (by lia))) ?_ ?_
 ·rintro i zs H' hi hR1
  obtain⟨mv,pn',hz,qs,hq,hb⟩:=hR1
  try clear hR1
  refine⟨_,rfl,a,rfl,pn',fun x r H3 m3 p3 hr bn bd=>⟨mv.trans m3,p3,by simp[hz],qs++[x],Paired.snoc (Ar.mv hq pn' m3) (Az.of hr),fun c hc=>?_⟩⟩
  rcases RD.mp hc with z | z
  ·exact hb c z
  ·have e:c=x:=by simpa using z
   subst e;exact⟨bn,bd⟩
 rintro zs Hz hR2 l hl
 obtain⟨mvz,pnz,hzl,qs,hqz,hb⟩:=hR2
 try clear hR2
 have hql:qs.length=N:=by rw[<- hqz.length];exact hzl
 have la:l≠a:=by
  refine Eh pnz fun x0 x1 x2 ex=>?_
  exact(Ay ex hl).symm
 have hHl:H l=none:=by
  cases z:H l with
  | none=>rfl
  | some u=>rw[mvz l u la z]at hl;cases hl
 refine Jj (L8 a H K zs qs most l N fun a H K zs qs most l N σ H'=>Mv a H H'/\Pen H' a/\Ar K H' zs qs/\σ=[some (.ref a),some (.int most),some (.ref l)]/\∃v,v<=N/\H' l=some (.lst (zs.take v))/\∀j q,v<=j->qs[j]? = some q->q=0)
  (fun _ H'=>match H' l with | some (.lst xs)=>xs.length | _=>0) ⟨Mv.put' mvz hHl,pnz.same hl,Ar.same hqz (Af.new hl),rfl,N,RK _,by rw[TN (by lia)];exact Ac,fun j c hj e=>absurd (RF.mp e).1 (by lia)⟩ ?_
 rintro σ Hc hR3
 obtain⟨mv,pn',hq,rfl,v,hv,el,hall⟩:=hR3
 try clear hR3
 refine⟨_,rfl,P0,fun e he=>?_⟩
 have sE:Af Hc (upd Hc e (.lst [])):=Af.new he
 refine eqL (ps:=qs.take v) (qs:=[]) (SqL.of (sE _ _ el)) (Paired.take v (Ar.same hq sE)) (SqL.of Ac) .nil ?_
 refine⟨_,rfl,?_⟩
 have fin:(v=0\/∃q,qs[v-1]? = some q/\q≠0)->qs.take v=Cv.strip qs:=fun hc=>Cv.take_strip qs v hall hc
 by_cases hv0:v=0
 ·have e0:qs.take v=[]:=by rw[hv0];rfl
  refine AH (by rw[decide_eq_true e0]<;>rfl) (CF ?_)
  refine⟨_,rfl,l,_,rfl,.inl ⟨SqL.of (sE _ _ el),fun r hr=>?_⟩⟩
  have sZ:=sE.trans (Af.new (o:=.tup (zs.take v)) hr)
  refine q (qs.take v) r _ (mv.trans sZ.mv) (pn'.sm sZ) ⟨zs.take v,SqT.of Ac,Paired.take v (Ar.same hq sZ)⟩ ?_ ?_ fun c hc=>hb c (UL hc)
  ·rw[fin (.inl hv0)];exact AL _
  ·rw[RY];lia

 have hvi:v-1<qs.length:=by lia
 have hqv:qs[v-1]? = some qs[v-1]:=Te hvi
 have hne:qs.take v≠[]:=fun z=>by
  have:=congrArg List.length z
  rw[RY,Sd (by lia)]at this
  exact hv0 this
 refine AU (by rw[decide_eq_false hne]<;>rfl) ?_
 obtain⟨x,hx,hxn⟩:=(Paired.get' hq hqv)
 have hlast:(zs.take v)[(zs.take v).length-1]? = some x:=by
  rw[RY,Sd (by lia),UE,if_pos (by lia)]
  exact hx
 refine⟨_,rfl,_,rfl,l,_,_,x,rfl,rfl,SqL.of (sE _ _ el),BY hlast,P2,fun t0 ht0=>?_⟩
 have sF:=sE.trans (Af.new (o:=.tup [.int 0,.int 1]) ht0)
 refine eqN (q:=0) (hxn.same sF) (Az.of (Ac (o:=nT 0))) ?_
 refine⟨_,rfl,?_⟩
 by_cases hq0:qs[v-1]=0
 ·refine AU (by rw[decide_eq_true hq0]<;>rfl) (Ji ?_)
  have elF:=sF _ _ el
  refine⟨_,rfl,.inl ⟨rfl,_,SqL.of elF⟩,l,_,x,rfl,rfl,elF,hlast,?_⟩
  refine⟨⟨Mv.put' (mv.trans sF.mv) hHl,?_,Ar.put (Ar.same hq sF) elF,rfl,v-1,by lia,?_,fun j c hj e=>?_⟩,?_⟩
  ·refine Eh (pn'.sm sF) fun x0 x1 x2 ex=>?_
   exact⟨x0,x1,x2,by rw[Aw (Ne.symm la)];exact ex⟩
  ·rw[Ac,List.dropLast_eq_take,RY,Sd (by lia),List.take_take,Sd (by lia)]
  ·by_cases hjv:v<=j
   ·exact hall j c hjv e
   ·have:j=v-1:=by lia
    subst this
    rw[hqv]at e
    cases e
    exact hq0
  ·show(match upd _ l _ l with | some (.lst xs)=>xs.length | _=>0)<(match Hc l with | some (.lst xs)=>xs.length | _=>0)
   rw[Ac,el]
   show(zs.take v).dropLast.length<(zs.take v).length
   have e1:(zs.take v).length=v:=by rw[RY,Sd (by lia)]
   rw[List.length_dropLast,e1]
   exact Nat.sub_lt (Ss hv0) Nat.zero_lt_one
 ·refine AH (by rw[decide_eq_false hq0]<;>rfl) ?_
  refine⟨_,rfl,l,_,rfl,.inl ⟨SqL.of (sF _ _ el),fun r hr=>?_⟩⟩
  have sZ:=sF.trans (Af.new (o:=.tup (zs.take v)) hr)
  refine q (qs.take v) r _ (mv.trans sZ.mv) (pn'.sm sZ) ⟨zs.take v,SqT.of Ac,Paired.take v (Ar.same hq sZ)⟩ ?_ ?_ fun c hc=>hb c (UL hc)
  ·rw[fin (.inr ⟨_,hqv,hq0⟩)];exact AL _
  ·rw[RY];lia
theorem Ga:Aq ["_law_a","_law_b"] ["_law_a","_law_b"] (Ae (top 53)):=⟨rfl,rfl,rfl,by decide +kernel,rfl,by decide +kernel,by decide +kernel⟩
theorem Gg{f:Addr}{fd:FuncData}(F:Fun K "_law_times" "_law_times" (top 53) f fd)(Pr:Fd P w K mg base 33 "_law_lowest" ["_law_top","_law_bottom"] (CP))(hT:P.given.tree=none) :
 AO P w K mg base CX0 34 f fd ["_law_a","_law_b"] (Cs K (· * ·)):=by
 refine F.ok Ga (fun vs H Q E h=>?_) (fun cdv A outer s H vs Q E hr h=>?_)
 ·obtain⟨_,_,_,_,_,_,rfl,_⟩:=h;rfl
 refine⟨_,(@Ag _ _ _ (@Av _ _ _ _ (@Ak _ _ _ _ _ _ _ _ _ _ _ Pr hr rfl (@A0 _ _ _ _ _ (@Ah _ _ _ _ _ _ _ _ Au (@Aj _ _ _ _ _ _ _ (ixT K) (pv 0) Aa (fun u v=>rfl)) (@Aj _ _ _ _ _ _ _ (ixT K) (pv 1) Aa (fun u v=>rfl))) (@A0 _ _ _ _ _ (@Ah _ _ _ _ _ _ _ _ Au (@Aj _ _ _ _ _ _ _ (ixT K) (pv 0) Aa (fun u v=>rfl)) (@Aj _ _ _ _ _ _ _ (ixT K) (pv 1) Aa (fun u v=>rfl))) Ab (by rfl)) (by rfl)) (by decide) (by decide) (by rfl) (by rfl)))),?_⟩
 obtain⟨x,y,p,q,m,n,rfl,⟨r,rfl,hr⟩,⟨u,rfl,hu⟩,hp,hq,hmn,k⟩:=h
 refine⟨_,rfl,r,_,_,_,rfl,rfl,hr,rfl,_,rfl,u,_,_,_,rfl,rfl,hu,rfl,_,_,rfl,rfl,Bk.bd hp.1 hq.1,?_⟩
 refine⟨_,rfl,r,_,_,_,rfl,rfl,hr,rfl,_,rfl,u,_,_,_,rfl,rfl,hu,rfl,_,_,rfl,rfl,Bk.bd hp.2 hq.2,?_⟩
 refine⟨_,_,rfl,SF (Nm.den_ne p) (Nm.den_ne q),fun z hz=>?_⟩
 have e:=k z hz
 try dsimp only at e
 rw[<- Nm.times_eq]at e
 exact e
theorem Cd:Aq ["_law_curve_here","_law_x","_law_found","_law_power","_law_number_here"] ["_law_curve_here","_law_x"] (Ae (top 55)):=⟨rfl,rfl,rfl,by decide +kernel,rfl,by decide +kernel,by decide +kernel⟩
theorem J6{f:Addr}{fd:FuncData}(F:Fun K "_law_at" "_law_at" (top 55) f fd)(PN:Fd P w K mg base 34 "_law_plus" ["_law_a","_law_b"] (Cs K (· + ·)))(PF:Fd P w K mg base 34 "_law_times" ["_law_a","_law_b"] (Cs K (· * ·)))(hT:P.given.tree=none) :
 AO P w K mg base CX0 35 f fd ["_law_curve_here","_law_x"] (Jn K):=by
 refine F.ok Cd (fun vs H Q E h=>?_) (fun cdv A outer s H vs Q E hr h=>?_)
 ·obtain⟨_,_,_,_,_,_,_,_,rfl,_⟩:=h;rfl
 refine⟨_,(@Ad _ _ _ _ _ K _ (@Ai _ _ 2 _ _ _ _ Cd.nd rfl (Or.inl rfl) (@AG _ _ _ _ _ (@A0 _ _ _ _ _ Aa (@A0 _ _ _ _ _ Aa Ab (by rfl)) (by rfl))) (by rfl) (by first   | exact .inl rfl   | exact .inr rfl   | assumption)) (@Ad _ _ _ _ _ K _ (@Ai _ _ 3 _ _ _ _ Cd.nd rfl (Or.inl rfl) (@AG _ _ _ _ _ (@A0 _ _ _ _ _ Aa (@A0 _ _ _ _ _ Aa Ab (by rfl)) (by rfl))) (by rfl) (by first   | exact .inl rfl   | exact .inr rfl   | assumption)) (@Ad _ _ _ _ _ K _ (@BA _ _ _ _ _ _ _ _ K _ PassesOwn.never rfl (@piS _ K _ _ _ (pv 0) (by rfl)) (@Ax _ _ 4 _ Cd.nd rfl (Or.inl rfl) (by first   | exact .inl rfl   | exact .inr rfl   | assumption)) (@Ad _ _ _ _ _ K _ (@Ai _ _ 2 _ _ _ _ Cd.nd rfl (Or.inl rfl) (@Ak _ _ _ _ _ _ _ _ _ _ _ PN hr rfl (@A0 _ _ _ _ _ (pv 2) (@A0 _ _ _ _ _ (@Ak _ _ _ _ _ _ _ _ _ _ _ PF hr rfl (@A0 _ _ _ _ _ (pv 4) (@A0 _ _ _ _ _ (pv 3) Ab (by rfl)) (by rfl)) (by decide) (by decide) (by rfl) (by rfl)) Ab (by rfl)) (by rfl)) (by decide) (by decide) (by rfl) (by rfl)) (by rfl) (by first   | exact .inl rfl   | exact .inr rfl   | assumption)) (@Ag _ _ _ (@Ai _ _ 3 _ _ _ _ Cd.nd rfl (Or.inl rfl) (@Ak _ _ _ _ _ _ _ _ _ _ _ PF hr rfl (@A0 _ _ _ _ _ (pv 3) (@A0 _ _ _ _ _ (pv 1) Ab (by rfl)) (by rfl)) (by decide) (by decide) (by rfl) (by rfl)) (by rfl) (by first   | exact .inl rfl   | exact .inr rfl   | assumption))) (by rfl)) (by rfl) (by intro _;rfl)) (@Ag _ _ _ (@Av _ _ _ _ (pv 2))) (by rfl)) (by rfl)) (by rfl)),?_⟩
 obtain⟨b,r,rx,xs,qs,x,c0,n,rfl,hS,hn,hx,hB,hbx,hz,q⟩:=h
 have hl:=hn.length
 generalize hM:c0+n*qs.length+4=M at hz q
 have hle:M*2<=90000000:=Rw (V4 _ (by lia)) hz
 have hz':(qs.length+2)*M<=90000000:=by rw[Sm];exact hz
 refine⟨(by decide:2<=sizeLine),fun f hf=>?_⟩
 refine⟨(by decide:2<=sizeLine),fun g hg=>?_⟩
 have s0:Af H (upd (upd H f (.tup [.int 0,.int 1])) g (.tup [.int 1,.int 1])):=(Af.new hf).trans (Af.new hg)
 refine JH (b:=b) (a:=r) (xs:=xs) rfl (L7 H r rx qs x M n fun H r rx qs x M n i σ H'=>Af H H'/\∃(f g:Addr) (z:Option V),σ=[some (.ref r),some (.ref rx),some (.ref f),some (.ref g),z]/\H' f=some (nT (Cv.ev (qs.take i) x))/\H' g=some (nT (x ^ i))/\RB ((i+1)*M) (Cv.ev (qs.take i) x)/\RB (n*i+1) (x ^ i))
  ⟨s0,f,g,none,rfl,(Af.new hg) _ _ Ac,?_,RB.zero (by lia),?_⟩ (fun i σ H' _ p=>Sq.same hS p.1) ?_ ?_
 ·rw[SK];exact Ac
 ·rw[SK];exact RB.one (by lia)
 ·rintro i v σ H' hv hR1
  refine BO hR1 fun sm hz20=>?_
  refine Eh hz20 fun f' g' z hz20'=>?_
  clear hz20
  refine Cq hz20' fun hq19 ef eg bf bg=>?_
  clear hz20'
  obtain rfl:=hq19
  try clear hR1
  obtain⟨c,hc,hcn⟩:=(Paired.get hn hv)
  have hi:i<qs.length:=(RF.mp hc).1
  have hcm:c∈qs:=S5 hc
  have hni:n*i<=n*qs.length:=V4 n (by lia)
  have hni1:n*(i+1)=n*i+n:=by rw[TC,UM]
  have hni2:n*(i+1)<=n*qs.length:=V4 n (by lia)
  have him:(i+1+1)*M<=(qs.length+2)*M:=Tt _ (by lia)
  have him2:(i+1+1)*M=(i+1)*M+M:=by rw[Tr,Ts]
  have bt:RB (c0+(n*i+1)) (c*x ^ i):=(hB c hcm).times bg
  refine⟨_,rfl,_,rfl,_,rfl,_,_,_,_,c0,n*i+1,rfl,hcn.same sm,Az.of eg,hB c hcm,bg,by lia,fun t ht=>?_⟩
  have s1:Af H' (upd H' t (nT (c*x ^ i))):=Af.new ht
  refine⟨_,_,_,_,(i+1)*M,c0+(n*i+1),rfl,Az.of (s1 _ _ ef),Az.of Ac,bf,bt,by lia,fun u hu=>?_⟩
  have s2:=s1.trans (Af.new (o:=nT (Cv.ev (qs.take i) x+c*x ^ i)) hu)
  refine⟨_,rfl,_,rfl,_,_,_,_,n*i+1,n,rfl,Az.of (s2 _ _ eg),(hx.same sm).same s2,bg,hbx,by lia,fun v' hv'=>?_⟩
  have s3:=s2.trans (Af.new (o:=nT (x ^ i*x)) hv')
  have e1:Cv.ev (qs.take (i+1)) x=Cv.ev (qs.take i) x+c*x ^ i:=by
   rw[SU,hc]
   show Cv.ev (qs.take i++[c]) x=_
   rw[Cv.ev_snoc,RY,Sd (by lia)]
  refine⟨sm.trans s3,u,v',_,rfl,?_,?_,?_,?_⟩
  ·rw[e1];exact(Af.new hv') _ _ Ac
  ·rw[SM];exact Ac
  ·rw[e1,him2];exact(bf.plus bt).mono (by lia)
  ·rw[SM,hni1];exact(bg.times hbx).mono (by lia)
 ·rintro σ H' hR2
  refine BO hR2 fun sm hz22=>?_
  refine Eh hz22 fun f' g' z hz22'=>?_
  clear hz22
  refine Cq hz22' fun hq21 ef eg bf bg=>?_
  clear hz22'
  obtain rfl:=hq21
  try clear hR2
  rw[hl,SW]at ef bf
  exact⟨_,rfl,q _ _ sm ef (by rw[Sm];exact bf)⟩
theorem AN:Aq ["_law_pen_here","_law_places_here","_law_way","_law_above","_law_under","_law_heights_here","_law_x","_law_below","_law_y","_law_spot"] ["_law_pen_here","_law_places_here"] (Ae (top 63)):=⟨rfl,rfl,rfl,by decide +kernel,rfl,by decide +kernel,by decide +kernel⟩
theorem EY{f:Addr}{fd:FuncData}(F:Fun K "_law_heights" "_law_heights" (top 63) f fd)(Po:Fd P w K mg base 33 "_law_draw" ["_law_pen_here","_law_many"] (Eo))(Qt:Fd P w K mg base 35 "_law_curve" ["_law_pen_here","_law_most"] (GQ K 8))(PL:Fd P w K mg base 34 "_law_number" ["_law_pen_here"] (HN 8))(PQ:Fd P w K mg base 35 "_law_at" ["_law_curve_here","_law_x"] (Jn K))(PN:Fd P w K mg base 34 "_law_plus" ["_law_a","_law_b"] (Cs K (· + ·)))(PF:Fd P w K mg base 34 "_law_times" ["_law_a","_law_b"] (Cs K (· * ·)))(Pr:Fd P w K mg base 33 "_law_lowest" ["_law_top","_law_bottom"] (CP))(Pm:mg "len" = none)(hT:P.given.tree=none) :
 AO P w K mg base CX0 36 f fd ["_law_pen_here","_law_places_here"] (KU K):=by
 refine F.ok AN (fun vs H Q E h=>?_) (fun cdv A outer s H vs Q E hr h=>?_)
 ·obtain⟨_,_,_,_,rfl,_⟩:=h;rfl
 refine⟨_,(@Ad _ _ _ _ _ K _ (@Ai _ _ 2 _ _ _ _ AN.nd rfl (Or.inl rfl) (@Ak _ _ _ _ _ _ _ _ _ _ _ Po hr rfl (@A0 _ _ _ _ _ (pv 0) (@A0 _ _ _ _ _ Aa Ab (by rfl)) (by rfl)) (by decide) (by decide) (by rfl) (by rfl)) (by rfl) (by first   | exact .inl rfl   | exact .inr rfl   | assumption)) (@Ad _ _ _ _ _ K _ (@AQ _ _ _ _ _ _ _ _ K _ _ (@Ap _ _ _ _ _ _ _ _ Dl (pv 2) Aa (As _)) (@Ag _ _ _ (@Av _ _ _ _ (@CT _ (["_law_x","_law_pen_here"]) 1 ([0]) _ _ _ _ _ _ _ _ _ _ rfl (Be.look (NX:=["_law_pen_here","_law_places_here","_law_way","_law_above","_law_under","_law_heights_here","_law_x","_law_below","_law_y","_law_spot"]) (sc:=Ae (top 63)) rfl rfl (by decide +kernel)) (@piL _ K _ _ _ (pv 1) (by rfl)) (fun u1 u2 u3 u4 u5=>(@Ax _ _ 0 _ (show List.Nodup (["_law_x","_law_pen_here"]:List Str) from by decide +kernel) rfl (Or.inl rfl) (by first   | exact .inl rfl   | exact .inr rfl   | assumption))) (AK (by decide)) (fun u1 u2 u3 u4 u5=>Bq) (fun u1 u2 u3 u4 u5=>(@Ak _ _ _ _ _ _ _ _ _ _ _ PL hr rfl (@A0 _ _ _ _ _ (pv 1) Ab (by rfl)) (by decide) (by decide) (by rfl) (by rfl))) (by intro _;rfl)))) AI (by rfl) (by rfl)) (@Ad _ _ _ _ _ K _ (@AQ _ _ _ _ _ _ _ _ K _ _ (@Ap _ _ _ _ _ _ _ _ Dl (pv 2) Aa (As _)) (@Ag _ _ _ (@Av _ _ _ _ (@CT _ (["_law_x","_law_pen_here"]) 1 ([0]) _ _ _ _ _ _ _ _ _ _ rfl (Be.look (NX:=["_law_pen_here","_law_places_here","_law_way","_law_above","_law_under","_law_heights_here","_law_x","_law_below","_law_y","_law_spot"]) (sc:=Ae (top 63)) rfl rfl (by decide +kernel)) (@piL _ K _ _ _ (pv 1) (by rfl)) (fun u1 u2 u3 u4 u5=>(@Ax _ _ 0 _ (show List.Nodup (["_law_x","_law_pen_here"]:List Str) from by decide +kernel) rfl (Or.inl rfl) (by first   | exact .inl rfl   | exact .inr rfl   | assumption))) (AK (by decide)) (fun u1 u2 u3 u4 u5=>Bq) (fun u1 u2 u3 u4 u5=>(@AG _ _ _ _ _ (@A0 _ _ _ _ _ (@Ak _ _ _ _ _ _ _ _ _ _ _ Po hr rfl (@A0 _ _ _ _ _ (pv 1) (@A0 _ _ _ _ _ Aa Ab (by rfl)) (by rfl)) (by decide) (by decide) (by rfl) (by rfl)) (@A0 _ _ _ _ _ Aa Ab (by rfl)) (by rfl)))) (by intro _;rfl)))) AI (by rfl) (by rfl)) (@Ad _ _ _ _ _ K _ (@Ai _ _ 3 _ _ _ _ AN.nd rfl (Or.inl rfl) (@Ak _ _ _ _ _ _ _ _ _ _ _ Qt hr rfl (@A0 _ _ _ _ _ (pv 0) (@A0 _ _ _ _ _ Aa Ab (by rfl)) (by rfl)) (by decide) (by decide) (by rfl) (by rfl)) (by rfl) (by first   | exact .inl rfl   | exact .inr rfl   | assumption)) (@Ad _ _ _ _ _ K _ (@Ai _ _ 4 _ _ _ _ AN.nd rfl (Or.inl rfl) (@AG _ _ _ _ _ (@A0 _ _ _ _ _ (@Ak _ _ _ _ _ _ _ _ _ _ _ PL hr rfl (@A0 _ _ _ _ _ (pv 0) Ab (by rfl)) (by decide) (by decide) (by rfl) (by rfl)) (@A0 _ _ _ _ _ (@AG _ _ _ _ _ (@A0 _ _ _ _ _ Aa (@A0 _ _ _ _ _ Aa Ab (by rfl)) (by rfl))) Ab (by rfl)) (by rfl))) (by rfl) (by first   | exact .inl rfl   | exact .inr rfl   | assumption)) (@Ad _ _ _ _ _ K _ (@Ai _ _ 5 _ _ _ _ AN.nd rfl (Or.inl rfl) (@Bj _ _ _ _ Ab) (by rfl) (by first   | exact .inl rfl   | exact .inr rfl   | assumption)) (@Ad _ _ _ _ _ K _ (@BA _ _ _ _ _ _ _ _ K _ PassesOwn.never rfl (@piL _ K _ _ _ (pv 1) (by rfl)) (@Ax _ _ 6 _ AN.nd rfl (Or.inl rfl) (by first   | exact .inl rfl   | exact .inr rfl   | assumption)) (@Ad _ _ _ _ _ K _ (@Ai _ _ 7 _ _ _ _ AN.nd rfl (Or.inl rfl) (@Ak _ _ _ _ _ _ _ _ _ _ _ PQ hr rfl (@A0 _ _ _ _ _ (pv 4) (@A0 _ _ _ _ _ (pv 6) Ab (by rfl)) (by rfl)) (by decide) (by decide) (by rfl) (by rfl)) (by rfl) (by first   | exact .inl rfl   | exact .inr rfl   | assumption)) (@Ad _ _ _ _ _ K _ (@Ai _ _ 8 _ _ _ _ AN.nd rfl (Or.inl rfl) (@Ak _ _ _ _ _ _ _ _ _ _ _ PQ hr rfl (@A0 _ _ _ _ _ (pv 3) (@A0 _ _ _ _ _ (pv 6) Ab (by rfl)) (by rfl)) (by decide) (by decide) (by rfl) (by rfl)) (by rfl) (by first   | exact .inl rfl   | exact .inr rfl   | assumption)) (@Ad _ _ _ _ _ K _ (@AQ _ _ _ _ _ _ _ _ K _ _ (@Ap _ _ _ _ _ _ _ _ (neD K hr.units) (pv 7) (@AG _ _ _ _ _ (@A0 _ _ _ _ _ Aa (@A0 _ _ _ _ _ Aa Ab (by rfl)) (by rfl))) (As _)) (@Ag _ _ _ (@Ai _ _ 8 _ _ _ _ AN.nd rfl (Or.inl rfl) (@Ak _ _ _ _ _ _ _ _ _ _ _ PF hr rfl (@A0 _ _ _ _ _ (pv 8) (@A0 _ _ _ _ _ (@Ak _ _ _ _ _ _ _ _ _ _ _ Pr hr rfl (@A0 _ _ _ _ _ (@Aj _ _ _ _ _ _ _ (ixT K) (pv 7) Aa (fun u v=>rfl)) (@A0 _ _ _ _ _ (@Aj _ _ _ _ _ _ _ (ixT K) (pv 7) Aa (fun u v=>rfl)) Ab (by rfl)) (by rfl)) (by decide) (by decide) (by rfl) (by rfl)) Ab (by rfl)) (by rfl)) (by decide) (by decide) (by rfl) (by rfl)) (by rfl) (by first   | exact .inl rfl   | exact .inr rfl   | assumption))) AI (by rfl) (by rfl)) (@Ag _ _ _ (@Dc _ _ _ _ (@GZ _ _ _ _ _ _ _ _ _ _ _ _ K PySem.F.plainAttrs_list PySem.F.slot_list_append PySem.F.type_list_append EE (pv 5) (@A0 _ _ _ _ _ (pv 8) Ab (by rfl)) (by rfl) (by rfl) (by rfl) (by rfl) (by rfl) (by rfl)) (by rfl))) (by rfl)) (by rfl)) (by rfl)) (by rfl) (by intro _;rfl)) (@Ad _ _ _ _ _ K _ (@AQ _ _ _ _ _ _ _ _ K _ _ (@Ap _ _ _ _ _ _ _ _ Dl (pv 2) Aa (As _)) (@Ad _ _ _ _ _ K _ (@Ai _ _ 9 _ _ _ _ AN.nd rfl (Or.inl rfl) (@Ak _ _ _ _ _ _ _ _ _ _ _ Po hr rfl (@A0 _ _ _ _ _ (pv 0) (@A0 _ _ _ _ _ (@Al _ _ _ _ _ _ _ _ _ (Bs K) rfl Pm AD (@A0 _ _ _ _ _ (pv 5) Ab (by rfl)) (by decide) (by decide) (by rfl) (by rfl)) Ab (by rfl)) (by rfl)) (by decide) (by decide) (by rfl) (by rfl)) (by rfl) (by first   | exact .inl rfl   | exact .inr rfl   | assumption)) (@Ag _ _ _ (@DW _ _ _ _ _ _ (@Ak _ _ _ _ _ _ _ _ _ _ _ PN hr rfl (@A0 _ _ _ _ _ (@Aj _ _ _ _ _ _ _ (ixL K) (pv 5) (pv 9) (fun u v=>rfl)) (@A0 _ _ _ _ _ (@AG _ _ _ _ _ (@A0 _ _ _ _ _ Aa (@A0 _ _ _ _ _ Aa Ab (by rfl)) (by rfl))) Ab (by rfl)) (by rfl)) (by decide) (by decide) (by rfl) (by rfl)) (@Eu _ _ _ _ _ _ _ (pv 5) (pv 9) CQ (by intro _;rfl)) (by rfl) (by rfl) (by rfl))) (by rfl)) AI (by rfl) (by rfl)) (@Ag _ _ _ (@Av _ _ _ _ (pv 5))) (by rfl)) (by rfl)) (by rfl)) (by rfl)) (by rfl)) (by rfl)) (by rfl)) (by rfl)),?_⟩
 obtain⟨p,l,zs,qs,rfl,pn,lp,el,hz,hb,h1,h7,q⟩:=h
 have P0:0<=sizeLine:=by decide
 have P2:2<=sizeLine:=by decide
 have hzl:=hz.length
 refine⟨_,rfl,p,4,rfl,pn,by decide,by decide,fun w H1 w0 w1 o1 p1=>?_⟩
 have m1:=BW.mv o1
 have el1:=m1 _ _ lp el
 have hz1:=AV.mv hz pn m1
 refine⟨_,rfl,rfl,_,rfl,?_⟩
 by_cases hw0:w=0
 ·refine AU (decide_eq_true (by rw[hw0])) ?_
  refine C3 ⟨_,rfl,l,rfl,⟨_,SqL.of el1⟩,?_⟩
  refine Dh (xs:=zs) (L3 p H1 K fun p H1 K i ys G=>Mv p H1 G/\Pen G p/\ys.length=i/\∃hs,Ar K G ys hs/\∀c∈hs,RB 400 c) ⟨Mv.refl _ _,p1,rfl,[],.nil,(fun _ h=>nomatch h)⟩ (fun i ys G _ h=>⟨SqL.of (h.1 _ _ lp el1),h.2.2.1⟩) (Rx (AF (by lia))) ?_ ?_
  ·rintro i v ys G hv hR1
   obtain⟨mg,pg,hyl,hs,hys,hyb⟩:=hR1
   try clear hR1
   refine⟨_,rfl,p,rfl,pg,fun c0 r G1 m2 p2 er bn bd=>?_⟩
   refine⟨mg.trans m2,p2,by simp[hyl],hs++[c0],Paired.snoc (Ar.mv hys pg m2) (Az.of er),fun c hc=>?_⟩
   rcases RD.mp hc with z | z
   ·exact hyb c z
   ·rw[Td.mp z];exact(RB.mono ⟨bn,bd⟩ (by decide))
  rintro ys G hR2 lh hlh
  obtain⟨mg,pg,hyl,hs,hys,hyb⟩:=hR2
  try clear hR2
  have n1:=Af.new (o:=.lst ys) hlh
  have hsl:=hys.length
  exact q lh _ ys hs ((m1.trans mg).trans n1.mv) (pg.sm n1) ((m1.trans mg).free (pg.ne' hlh) hlh) Ac (Ar.same hys n1) (by lia) hyb
 refine AH (decide_eq_false fun z=>hw0 (V.int.inj z)) ?_
 refine⟨_,rfl,rfl,_,rfl,?_⟩
 by_cases hw1:w=1
 ·refine AU (decide_eq_true (by rw[hw1])) ?_
  refine C3 ⟨_,rfl,l,rfl,⟨_,SqL.of el1⟩,?_⟩
  refine Dh (xs:=zs) (L3 p H1 K fun p H1 K i ys G=>Mv p H1 G/\Pen G p/\ys.length=i/\∃hs,Ar K G ys hs/\∀c∈hs,RB 400 c) ⟨Mv.refl _ _,p1,rfl,[],.nil,(fun _ h=>nomatch h)⟩ (fun i ys G _ h=>⟨SqL.of (h.1 _ _ lp el1),h.2.2.1⟩) (Rx (AF (by lia))) ?_ ?_
  ·rintro i v ys G hv hR3
   obtain⟨mg,pg,hyl,hs,hys,hyb⟩:=hR3
   try clear hR3
   refine⟨_,rfl,p,3,rfl,pg,by decide,by decide,fun d G1 d0 d1 o2 p2=>⟨P2,fun t ht=>?_⟩⟩
   have m2:=BW.mv o2
   have nt:=Af.new (o:=.tup [.int d,.int 1]) ht
   refine⟨(mg.trans m2).trans nt.mv,p2.sm nt,by simp[hyl],hs++[((d:Int):Rat)],Paired.snoc (Ar.same (Ar.mv hys pg m2) nt) (Az.of (by rw[Hm];exact Ac)),fun c hc=>?_⟩
   rcases RD.mp hc with z | z
   ·exact hyb c z
   ·rw[Td.mp z];exact(RB.mono (m:=2) ⟨by rw[UR];unfold Bd;lia,by rw[US];unfold Bd;decide⟩ (by decide))
  rintro ys G hR4 lh hlh
  obtain⟨mg,pg,hyl,hs,hys,hyb⟩:=hR4
  try clear hR4
  have n1:=Af.new (o:=.lst ys) hlh
  have hsl:=hys.length
  exact q lh _ ys hs ((m1.trans mg).trans n1.mv) (pg.sm n1) ((m1.trans mg).free (pg.ne' hlh) hlh) Ac (Ar.same hys n1) (by lia) hyb
 refine AH (decide_eq_false fun z=>hw1 (V.int.inj z)) ?_
 refine⟨_,rfl,p,3,rfl,p1,by decide,by decide,fun qa ra H2 m2 p2 ca ga hla ba=>?_⟩
 refine⟨_,rfl,p,rfl,p2,fun c0 rc H3 m3 p3 ec bcn bcd=>⟨P2,fun t1 h1'=>⟨P2,fun t2 h2=>?_⟩⟩⟩
 have n1:=Af.new (o:=.tup [.int 1,.int 1]) h1'
 have n2:=Af.new (o:=.tup [.ref rc,.ref t1]) h2
 have n12:=n1.trans n2
 have et1:=n2 _ _ (Ac (H:=H3) (a:=t1) (o:=.tup [.int 1,.int 1]))
 have et2:=Ac (H:=upd H3 t1 (.tup [.int 1,.int 1])) (a:=t2) (o:=.tup [.ref rc,.ref t1])
 have ca:=(ca.mv p2 m3).same n12
 have ec:=n12 _ _ ec
 have m13:=(m1.trans (m2.trans m3)).trans n12.mv
 have p3:=p3.sm n12
 have el3:=m13 _ _ lp el
 have hz3:=AV.mv hz pn m13
 generalize upd (upd H3 t1 (.tup [.int 1,.int 1])) t2 (.tup [.ref rc,.ref t1])=H4 at et1 et2 ca ec m13 p3 el3 hz3 ⊢
 have hxu:SqT K H4 t2 [.ref rc,.ref t1]:=SqT.of et2
 have hnu:Ar K H4 [.ref rc,.ref t1] [c0,1]:=.cons (Az.of ec) (.cons (Az.of (show H4 t1=some (nT 1) from et1)) .nil)
 have bU:∀c∈[c0,(1:Rat)],RB 8 c:=fun c hc=>by
  rcases RC.mp hc with z | z
  ·rw[z];exact⟨bcn,bcd⟩
  ·rw[Td.mp z];exact RB.one (by decide)
 obtain⟨xa,hxa,hna⟩:=ca
 clear n1 n2 n12 h1' h2 et1 et2 m1 m2 m3 el1 hz1 ec
 have lU:([c0,(1:Rat)]).length=2:=rfl
 generalize[c0,(1:Rat)]=U at hnu bU lU
 have ka:(8+16*qa.length+4)*(qa.length+2)<=60*5:=UA (by lia) (by lia)
 have kd:(8+16*qa.length+4)*(qa.length+1)<=240:=Rw (UA (show 8+16*qa.length+4<=60 by lia) (show qa.length+1<=4 by lia)) (by decide)
 refine⟨P0,fun lh hlh=>?_⟩
 have sm0:Af H4 (upd H4 lh (.lst [])):=Af.new hlh
 refine⟨_,rfl,l,rfl,⟨_,SqL.of (sm0 _ _ el3)⟩,FQ (xs:=zs) (L8 H4 p l w ra t2 lh K fun H4 p l w ra t2 lh K i σ G=>Af H4 G/\∃ys hs z6 z7 z8,σ=[some (.ref p),some (.ref l),some (.int w),some (.ref ra),some (.ref t2),some (.ref lh),z6,z7,z8,none]/\G lh=some (.lst ys)/\Ar K G ys hs/\hs.length=i/\∀c∈hs,RB 380 c) ⟨sm0,[],[],none,none,none,rfl,Ac,.nil,rfl,(fun _ h=>nomatch h)⟩ (fun i σ G _ h=>SqL.of (h.1 _ _ el3)) ?_ ?_⟩
 ·rintro i v σ G hv hR5
  refine BO hR5 fun sg hz28=>?_
  refine Ko hz28 fun ys hs z6 z7 z8 hz28'=>?_
  clear hz28
  refine Cq hz28' fun hq27 elh hys hyl hyb=>?_
  clear hz28'
  obtain rfl:=hq27
  try clear hR5
  obtain⟨x,hx,rx,rfl,hrx⟩:=(Paired.get hz3 hv)
  have hxm:=S5 hx
  have hil:=(RF.mp hx).1
  have hysl:=hys.length
  refine⟨_,rfl,_,rfl,false,t2,rx,_,U,x,8,16,rfl,hxu.same sg,Ar.same hnu sg,Az.of (sg _ _ hrx),bU,hb x hxm,by rw[lU];decide,fun p1 G1 s1 e1 b1=>?_⟩
  rw[lU]at b1
  have sg1:=sg.trans s1
  refine⟨_,rfl,_,rfl,false,ra,rx,xa,qa,x,8,16,rfl,hxa.same sg1,Ar.same hna sg1,Az.of (sg1 _ _ hrx),ba,hb x hxm,by lia,fun p2 G2 s2 e2 b2=>?_⟩
  have e1:=s2 _ _ e1
  have s12:=s1.trans s2
  try dsimp only
  refine Er (L9 G2 p l w ra t2 lh rx p1 fun G2 p l w ra t2 lh rx p1 σ' G'=>Af G2 G'/\∃(ry:Addr) (y:Rat),σ'=[some (.ref p),some (.ref l),some (.int w),some (.ref ra),some (.ref t2),some (.ref lh),some (.ref rx),some (.ref p1),some (.ref ry),none]/\G' ry=some (nT y)/\RB 380 y) (fun nx hnx=>?_) ?_
  ·refine⟨_,rfl,P2,fun t ht=>?_⟩
   have nt:=Af.new (o:=.tup [.int 0,.int 1]) ht
   refine eqN (Az.of (nt _ _ e1)) (Az.of (Ac (o:=nT 0))) ?_
   refine⟨_,rfl,?_⟩
   have e1:=nt _ _ e1
   have e2:=nt _ _ e2
   generalize upd G2 t (.tup [.int 0,.int 1])=G3 at nt e1 e2 ⊢
   by_cases h0:Cv.ev U x=0
   ·exact AH (by rw[decide_eq_true h0];rfl) (hnx _ _ ⟨nt,p2,_,rfl,e2,b2.mono (by lia)⟩)
   ·have hbn:(Cv.ev U x).num≠0:=fun z=>h0 (UW.mp z)
    refine AU (by rw[decide_eq_false h0];rfl) ?_
    refine⟨_,rfl,_,rfl,p1,_,_,_,rfl,rfl,SqT.of e1,rfl,_,rfl,p1,_,_,_,rfl,rfl,SqT.of e1,rfl,_,_,rfl,hbn,fun p3 h3=>?_⟩
    have n3:=Af.new (o:=nT (Sv ((Cv.ev U x).den:Int) (Cv.ev U x).num)) h3
    have bI:RB 132 (Sv ((Cv.ev U x).den:Int) (Cv.ev U x).num):=RB.div (m:=0) (b1.2.mono (by decide)) (b1.1.mono (by decide)) hbn
    refine⟨_,_,Cv.ev qa x,_,240,132,rfl,Az.of (n3 _ _ e2),Az.of Ac,b2.mono kd,bI,by decide,fun p4 h4=>?_⟩
    exact hnx _ _ ⟨(nt.trans n3).trans (Af.new h4),p4,_,rfl,Ac,(RB.times (b2.mono kd) bI).mono (by decide)⟩
  rintro σ' G3 hR6
  refine BO hR6 fun s3 hz32=>?_
  refine Dm hz32 fun ry y hz32'=>?_
  clear hz32
  refine Dp hz32' fun hq31 ery bry=>?_
  clear hz32'
  obtain rfl:=hq31
  try clear hR6
  have s13:=s12.trans s3
  have elh3:=s13 _ _ elh
  refine⟨_,rfl,.inl ⟨rfl,_,SqL.of elh3⟩,_,rfl,lh,ys,.ref ry,rfl,rfl,elh3,Ro (show ys.length<300 by lia) (by decide),?_⟩
  refine⟨Af.put (sg.trans s13) hlh,_,hs++[y],_,_,_,rfl,Ac,Paired.snoc (Ar.put (Ar.same hys s13) elh3) (Az.put (Az.of ery) elh3),by rw[S6,Sk,hyl],fun c hc=>?_⟩
  rcases RD.mp hc with z | z
  ·exact hyb c z
  ·rw[Td.mp z];exact bry
 rintro σ G hR7
 refine BO hR7 fun sg hz34=>?_
 refine Ko hz34 fun ys hs z6 z7 z8 hz34'=>?_
 clear hz34
 refine Cq hz34' fun hq33 elh hys hyl hyb=>?_
 clear hz34'
 obtain rfl:=hq33
 try clear hR7
 rw[hzl]at hyl
 have hysl:=hys.length
 have lhp:lh≠p:=p3.ne' hlh
 have hHlh:=m13.free lhp hlh
 have pG:=p3.sm sg
 have mG:=m13.trans sg.mv
 refine⟨_,rfl,rfl,_,rfl,?_⟩
 by_cases hw3:w=3
 ·refine AU (decide_eq_true (by rw[hw3])) ?_
  refine⟨_,rfl,_,rfl,lh,ys,rfl,.inl (SqL.of elh),p,_,rfl,pG,by lia,by lia,fun s G1 s0 s1 o1 p1=>?_⟩
  obtain⟨S,rfl⟩:∃S:Nat,s=(S:Int):=⟨s.toNat,by lia⟩
  have m1:=BW.mv o1
  have elh:=m1 _ _ lhp elh
  have hys:=Ar.mv hys pG m1
  have mG:=mG.trans m1
  have hSl:S<hs.length:=by lia
  obtain⟨vy,hvy,nvy⟩:=(Paired.get' hys (Te hSl))
  have bS:=hyb _ (Tf hSl)
  refine⟨_,rfl,_,rfl,lh,ys,_,_,rfl,rfl,SqL.of elh,C9 hvy,P2,fun t ht=>?_⟩
  have nt:=Af.new (o:=.tup [.int 1,.int 2]) ht
  refine⟨_,_,hs[S],Gv,380,2,rfl,nvy.same nt,Az.of (by rw[Mw];exact Ac),bS,Jo,by decide,fun p5 h5=>?_⟩
  have n5:=nt.trans (Af.new (o:=nT (hs[S]+Gv)) h5)
  have eg5:=n5 _ _ elh
  have hun5:=Ar.same hys n5
  have e5:=Ac (H:=upd G1 t (.tup [.int 1,.int 2])) (a:=p5) (o:=nT (hs[S]+Gv))
  refine⟨_,rfl,_,rfl,lh,ys,_,S,rfl,rfl,eg5,by unfold ixN;rw[if_pos (by lia),if_pos (by lia),Sb],?_⟩
  refine⟨_,rfl,q lh _ (ys.set S (.ref p5)) (hs.set S (hs[S]+Gv)) (fun b u hb' e=>?_) ?_ hHlh Ac (Paired.set (Az.put (Az.of e5) eg5) S (Ar.put hun5 eg5)) (by rw[Sh];lia) fun c hc=>?_⟩
  ·have hbl:b≠lh:=fun z=>by rw[z,hHlh]at e;cases e
   rw[Aw hbl]
   exact n5 _ _ (mG b u hb' e)
  ·refine Eh (p1.sm n5) fun x0 x1 x2 e=>?_
   exact⟨x0,x1,x2,by rw[Aw lhp.symm];exact e⟩
  ·rcases V5 hc with z | z
   ·exact(hyb c z).mono (by decide)
   ·rw[z];exact(RB.plus bS Jo).mono (by decide)
 refine AH (decide_eq_false fun z=>hw3 (V.int.inj z)) ?_
 exact⟨_,rfl,q lh G ys hs mG pG hHlh elh hys (by lia) fun c hc=>(hyb c hc).mono (by decide)⟩
theorem FY:Aq ["places"] ["places"] (Ae (top 30)):=⟨rfl,rfl,rfl,by decide +kernel,rfl,by decide +kernel,by decide +kernel⟩
theorem Ge{f:Addr}{fd:FuncData}(F:Fun K "are_unlike" "are_unlike" (top 30) f fd)(Pm:mg "len" = none)(b_set:mg "set" = none)(hT:P.given.tree=none) :
 AO P w K mg base CX0 33 f fd ["places"] (Fj K):=by
 refine F.ok FY (fun vs H Q E h=>?_) (fun cdv A outer s H vs Q E hr h=>?_)
 ·obtain⟨_,_,_,rfl,_⟩:=h;rfl
 refine⟨_,(@Ag _ _ _ (@Av _ _ _ _ (@Df _ _ _ _ _ _ _ _ Dl (@Al _ _ _ _ _ _ _ _ _ Ks rfl Pm AD (@A0 _ _ _ _ _ (@Cr _ _ _ _ _ _ _ _ _ (P8 K rfl hr.units) rfl b_set NZ (@A0 _ _ _ _ _ (pv 0) Ab (by rfl)) (by decide) (by decide) (by rfl) (by rfl)) Ab (by rfl)) (by decide) (by decide) (by rfl) (by rfl)) (@Al _ _ _ _ _ _ _ _ _ (Bs K) rfl Pm AD (@A0 _ _ _ _ _ (pv 0) Ab (by rfl)) (by decide) (by decide) (by rfl) (by rfl)) (As _)))),?_⟩
 obtain⟨l,ys,qs,rfl,hS,hn,hnd,h17,q⟩:=h
 have hl:=hn.length
 refine⟨_,rfl,l,ys,qs,rfl,hS,hn,hnd,h17,fun p hp=>⟨p,qs.length,rfl,Ac,by lia,?_⟩⟩
 have s1:Af H (upd H p (M0 p qs.length)):=Af.new hp
 refine⟨_,rfl,l,ys,rfl,.inl (Af.seq s1 hS),rfl,?_⟩
 have e:(V.int ((qs.length:Nat):Int)=V.int ((ys.length:Nat):Int)):=by rw[hl]
 rw[decide_eq_true e]
 exact q _ s1
theorem ES:Aq ["places","fewest"] ["places","fewest"] (Ae (top 31)):=⟨rfl,rfl,rfl,by decide +kernel,rfl,by decide +kernel,by decide +kernel⟩
theorem EX{f:Addr}{fd:FuncData}(F:Fun K "check_places" "check_places" (top 31) f fd)(Qu:Fd P w K mg base 33 "are_unlike" ["places"] (Fj K))(Pm:mg "len" = none){t_MOST_TOLD:Tok}(c_MOST_TOLD:mg "MOST_TOLD" = some (.int 12 t_MOST_TOLD))(hT:P.given.tree=none) :
 AO P w K mg base CX0 34 f fd ["places","fewest"] (GR K):=by
 refine F.ok ES (fun vs H Q E h=>?_) (fun cdv A outer s H vs Q E hr h=>?_)
 ·obtain⟨_,_,_,_,rfl,_⟩:=h;rfl
 refine⟨_,(@Ad _ _ _ _ _ K _ (@AQ _ _ _ _ _ _ _ _ K _ _ (@PW.pt _ _ _ (@CI _ _ _ _ _ _ _ (@Ap _ _ _ _ _ _ _ _ E7 (@Al _ _ _ _ _ _ _ _ _ (Bs K) rfl Pm AD (@A0 _ _ _ _ _ (pv 0) Ab (by rfl)) (by decide) (by decide) (by rfl) (by rfl)) (pv 1) (As _)) (@D8 _ _ _ _ (@Ap _ _ _ _ _ _ _ _ CU (@Al _ _ _ _ _ _ _ _ _ (Bs K) rfl Pm AD (@A0 _ _ _ _ _ (pv 0) Ab (by rfl)) (by decide) (by decide) (by rfl) (by rfl)) (@DG _ _ (.int 12) _ _ rfl c_MOST_TOLD ⟨_,rfl⟩ (by decide)) (As _))))) (@Ag _ _ _ Cy) AI (by rfl) (by rfl)) (@Ag _ _ _ (@AQ _ _ _ _ _ _ _ _ K _ _ (@Cu _ _ _ _ (@Ct _ _ _ (@Ak _ _ _ _ _ _ _ _ _ _ _ Qu hr rfl (@A0 _ _ _ _ _ (pv 0) Ab (by rfl)) (by decide) (by decide) (by rfl) (by rfl)) (by intro _;rfl))) (@Ag _ _ _ Cy) AI (by rfl) (by rfl))) (by rfl)),?_⟩
 obtain⟨l,few,ys,qs,rfl,hS,hn,hnd,h12,hf,q⟩:=h
 have hl:=hn.length
 refine⟨_,rfl,l,ys,rfl,.inl hS,_,rfl,_,_,rfl,rfl,_,rfl,?_⟩
 refine AH (by rw[decide_eq_false (show ¬((ys.length:Int)<few) by lia)]<;>rfl) ?_
 refine⟨_,rfl,l,ys,rfl,.inl hS,_,_,rfl,rfl,_,rfl,?_⟩
 refine AH (by rw[decide_eq_false (show ¬((12:Int)<(ys.length:Int)) by lia)]<;>rfl) ?_
 exact⟨_,rfl,l,ys,qs,rfl,hS,hn,hnd,by lia,fun H' s=>⟨_,rfl,CF (q H' s)⟩⟩
theorem Es:Aq ["places","heights"] ["places","heights"] (Ae (top 33)):=⟨rfl,rfl,rfl,by decide +kernel,rfl,by decide +kernel,by decide +kernel⟩
theorem Ey{f:Addr}{fd:FuncData}(F:Fun K "check_heights" "check_heights" (top 33) f fd)(Qv:Fd P w K mg base 34 "check_places" ["places","fewest"] (GR K))(Pm:mg "len" = none)(hT:P.given.tree=none) :
 AO P w K mg base CX0 35 f fd ["places","heights"] (Fo K):=by
 refine F.ok Es (fun vs H Q E h=>?_) (fun cdv A outer s H vs Q E hr h=>?_)
 ·obtain⟨_,_,_,_,_,rfl,_⟩:=h;rfl
 refine⟨_,(@Ad _ _ _ _ _ K _ (@Dc _ _ _ _ (@Ak _ _ _ _ _ _ _ _ _ _ _ Qv hr rfl (@A0 _ _ _ _ _ (pv 0) (@A0 _ _ _ _ _ Aa Ab (by rfl)) (by rfl)) (by decide) (by decide) (by rfl) (by rfl)) (by rfl)) (@Ag _ _ _ (@AQ _ _ _ _ _ _ _ _ K _ _ (@Ap _ _ _ _ _ _ _ _ EO (@Al _ _ _ _ _ _ _ _ _ (Bs K) rfl Pm AD (@A0 _ _ _ _ _ (pv 1) Ab (by rfl)) (by decide) (by decide) (by rfl) (by rfl)) (@Al _ _ _ _ _ _ _ _ _ (Bs K) rfl Pm AD (@A0 _ _ _ _ _ (pv 0) Ab (by rfl)) (by decide) (by decide) (by rfl) (by rfl)) (As _)) (@Ag _ _ _ Cy) AI (by rfl) (by rfl))) (by rfl)),?_⟩
 obtain⟨lp,lh,zs,ys,qs,rfl,hS,hN,hnd,h1,h12,hH,hl,q⟩:=h
 refine⟨_,rfl,lp,1,zs,qs,rfl,hS,hN,hnd,h12,by lia,fun H1 s1=>?_⟩
 exact⟨_,rfl,lh,ys,rfl,.inl (Af.seq s1 hH),_,rfl,lp,zs,rfl,.inl (Af.seq s1 hS),rfl,_,rfl,AH (by rw[hl,decide_eq_true rfl];rfl) (q H1 s1)⟩
theorem Bf:Aq ["one","other","great","small","rest"] ["one","other"] (Ae (top 7)):=⟨rfl,rfl,rfl,by decide +kernel,rfl,by decide +kernel,by decide +kernel⟩
theorem Eb{f:Addr}{fd:FuncData}(F:Fun K "common_measure" "common_measure" (top 7) f fd)(Pz:mg "abs" = none)(hT:P.given.tree=none) :
 AO P w K mg base CX0 33 f fd ["one","other"] (HP):=by
 refine F.ok Bf (fun vs H Q E h=>?_) (fun cdv A outer s H vs Q E hr h=>?_)
 ·obtain⟨_,_,rfl,_⟩:=h;rfl
 refine⟨_,(@Ad _ _ _ _ _ K _ (@Ai _ _ 2 _ _ _ _ Bf.nd rfl (Or.inl rfl) (@Al _ _ _ _ _ _ _ _ _ Ej rfl Pz HE (@A0 _ _ _ _ _ (pv 0) Ab (by rfl)) (by decide) (by decide) (by rfl) (by rfl)) (by rfl) (by first   | exact .inl rfl   | exact .inr rfl   | assumption)) (@Ad _ _ _ _ _ K _ (@Ai _ _ 3 _ _ _ _ Bf.nd rfl (Or.inl rfl) (@Al _ _ _ _ _ _ _ _ _ Ej rfl Pz HE (@A0 _ _ _ _ _ (pv 1) Ab (by rfl)) (by decide) (by decide) (by rfl) (by rfl)) (by rfl) (by first   | exact .inl rfl   | exact .inr rfl   | assumption)) (@Ad _ _ _ _ _ K _ (@Cw _ _ _ _ _ _ PassesOwn.never (@Ap _ _ _ _ _ _ _ _ EO (pv 3) Aa (As _)) (@Ad _ _ _ _ _ K _ (@Ai _ _ 4 _ _ _ _ Bf.nd rfl (Or.inl rfl) (@Ah _ _ _ _ _ _ _ _ Cg (pv 2) (pv 3)) (by rfl) (by first   | exact .inl rfl   | exact .inr rfl   | assumption)) (@Ad _ _ _ _ _ K _ (@Ai _ _ 2 _ _ _ _ Bf.nd rfl (Or.inl rfl) (pv 3) (by rfl) (by first   | exact .inl rfl   | exact .inr rfl   | assumption)) (@Ag _ _ _ (@Ai _ _ 3 _ _ _ _ Bf.nd rfl (Or.inl rfl) (pv 4) (by rfl) (by first   | exact .inl rfl   | exact .inr rfl   | assumption))) (by rfl)) (by rfl))) (@Ag _ _ _ (@Av _ _ _ _ (pv 2))) (by rfl)) (by rfl)) (by rfl)),?_⟩
 obtain⟨a,b,rfl,q⟩:=h
 refine⟨_,rfl,a,rfl,?_⟩
 refine⟨_,rfl,b,rfl,?_⟩
 refine HK (L3 H a b fun H a b σ H'=>H'=H/\∃(x y:Int) (r:Option V),σ=[some (.int a),some (.int b),some (.int x),some (.int y),r]/\0<=x/\0<=y/\Sr x y=Sr a b) (fun σ _=>mu 3 σ)
  ⟨rfl,_,_,none,rfl,?_,?_,?_⟩ ?_ ?_
 ·rw[Nm.abs_if];exact V3 _
 ·rw[Nm.abs_if];exact V3 _
 ·rw[Nm.abs_if,Nm.abs_if];rfl
 ·rintro σ H' hR1
  refine BO hR1 fun hq36 hz38=>?_
  refine Eh hz38 fun x y r hz38'=>?_
  clear hz38
  refine Ku hz38' fun hq37 hx hy hg=>?_
  clear hz38'
  obtain rfl:=hq36
  obtain rfl:=hq37
  try clear hR1
  refine⟨_,rfl,rfl,_,rfl,?_⟩
  by_cases hy0:y=0
  ·subst hy0
   refine AH (by rw[decide_eq_true rfl]<;>rfl) ⟨_,rfl,?_⟩
   have e:(Sr a b:Int)=x:=by rw[<- hg,Int.gcd_zero];lia
   rw[e]at q
   exact q
  ·refine AU (by rw[decide_eq_false (fun z=>hy0 (V.int.inj z))]<;>rfl) ?_
   have hyp:0<y:=by lia
   refine⟨_,rfl,_,rfl,_,_,rfl,rfl,hyp,?_⟩
   refine⟨_,rfl,_,rfl,⟨rfl,y,x % y,_,rfl,hy,TY _ hy0,?_⟩,?_⟩
   ·rw[Nm.gcd_turn];exact hg
   ·show(x % y).toNat<y.toNat
    have:=TZ x hyp
    lia
 ·rintro σ H' Q1 Q2 hm hR2
  obtain⟨v,e,s1,k,ek,q1⟩:=hR2
  try clear hR2
  exact⟨v,e,s1,k,ek,hm _ _ q1⟩
theorem Cm:Aq ["numbers","bottom","number"] ["numbers"] (Ae (top 14)):=⟨rfl,rfl,rfl,by decide +kernel,rfl,by decide +kernel,by decide +kernel⟩
theorem Hh{f:Addr}{fd:FuncData}(F:Fun K "bottom_of" "bottom_of" (top 14) f fd)(PR:Fd P w K mg base 33 "common_measure" ["one","other"] (HP))(hT:P.given.tree=none) :
 AO P w K mg base CX0 34 f fd ["numbers"] (Fp K):=by
 refine F.ok Cm (fun vs H Q E h=>?_) (fun cdv A outer s H vs Q E hr h=>?_)
 ·obtain⟨_,_,_,_,_,rfl,_⟩:=h;rfl
 refine⟨_,(@Ad _ _ _ _ _ K _ (@Ai _ _ 1 _ _ _ _ Cm.nd rfl (Or.inl rfl) Aa (by rfl) (by first   | exact .inl rfl   | exact .inr rfl   | assumption)) (@Ad _ _ _ _ _ K _ (@BA _ _ _ _ _ _ _ _ K _ PassesOwn.never rfl (@piS _ K _ _ _ (pv 0) (by rfl)) (@Ax _ _ 2 _ Cm.nd rfl (Or.inl rfl) (by first   | exact .inl rfl   | exact .inr rfl   | assumption)) (@Ag _ _ _ (@Ai _ _ 1 _ _ _ _ Cm.nd rfl (Or.inl rfl) (@Ah _ _ _ _ _ _ _ _ Au (pv 1) (@Ah _ _ _ _ _ _ _ _ (Bw hr hT) (@Aj _ _ _ _ _ _ _ (ixT K) (pv 2) Aa (fun u v=>rfl)) (@Ak _ _ _ _ _ _ _ _ _ _ _ PR hr rfl (@A0 _ _ _ _ _ (pv 1) (@A0 _ _ _ _ _ (@Aj _ _ _ _ _ _ _ (ixT K) (pv 2) Aa (fun u v=>rfl)) Ab (by rfl)) (by rfl)) (by decide) (by decide) (by rfl) (by rfl)))) (by rfl) (by first   | exact .inl rfl   | exact .inr rfl   | assumption))) (by rfl) (by intro _;rfl)) (@Ag _ _ _ (@Av _ _ _ _ (pv 1))) (by rfl)) (by rfl)),?_⟩
 obtain⟨b,r,xs,qs,n,rfl,hS,hn,hB,hz,q⟩:=h
 have hl:=hn.length
 refine JH (b:=b) (a:=r) (xs:=xs) rfl (L4 H r qs n fun H r qs n i σ H'=>H'=H/\∃(B:Int) (z:Option V),σ=[some (.ref r),some (.int B),z]/\0<B/\(∀q∈qs.take i,(q.den:Int)∣B)/\Bd (n*i+1) B/\∀M:Int,(∀q∈qs,(q.den:Int)∣M)->B∣M) ⟨rfl,1,none,rfl,by decide,fun q hq=>by simp at hq,by unfold Bd;rw[Nat.mul_zero];decide,fun M _=>Int.one_dvd M⟩ (fun i σ H' _ p=>by rw[p.1];exact hS) ?_ ?_
 ·rintro i x σ H' hx hR1
  refine BO hR1 fun hq40 hz42=>?_
  refine Dm hz42 fun B z hz42'=>?_
  clear hz42
  refine Cq hz42' fun hq41 hB0 hdv hbd hmn=>?_
  clear hz42'
  obtain rfl:=hq40
  obtain rfl:=hq41
  try clear hR1
  obtain⟨c,hc,r',rfl,hr⟩:=(Paired.get hn hx)
  have hi:i<qs.length:=(RF.mp hc).1
  have hcm:c∈qs:=S5 hc
  have hd0:0<(c.den:Int):=by have:=c.den_pos;lia
  obtain⟨l1,l2,l3⟩:=(Lw hB0 hd0)
  have g0:(Sr B c.den:Int)≠0:=by have:=Nm.gcd_pos (a:=B) (b:=c.den) (by lia);lia
  have bd2:Bd n (UK c.den (Sr B c.den:Int)):=(hB c hcm).fdiv
  have hni:n*i<=n*qs.length:=V4 n (by lia)
  have hnm:n*(qs.length+2)=n*qs.length+2*n:=by rw[TC];lia
  refine⟨_,rfl,_,rfl,r',_,_,_,rfl,rfl,hr,rfl,_,rfl,_,rfl,r',_,_,_,rfl,rfl,hr,rfl,_,_,rfl,_,_,rfl,rfl,g0,_,_,rfl,rfl,Bk.bd hbd bd2 (by lia),?_⟩
  refine⟨rfl,_,_,rfl,l1,fun q' hq'=>?_,?_,fun M hM=>Kd hB0 hd0 (hmn M hM) (hM c hcm)⟩
  ·rw[SU,hc]at hq'
   rcases RD.mp hq' with z | z
   ·exact Int.dvd_trans (hdv q' z) l2
   ·have:q'=c:=by simpa using z
    subst this;exact l3
  ·have:=hbd.mul bd2
   rw[TC,UM,show n*i+n+1=n*i+1+n by lia]
   exact this
 ·rintro σ H' hR2
  refine BO hR2 fun hq45 hz47=>?_
  refine Dm hz47 fun B z hz47'=>?_
  clear hz47
  refine Cq hz47' fun hq46 hB0 hdv hbd hmn=>?_
  clear hz47'
  obtain rfl:=hq45
  obtain rfl:=hq46
  try clear hR2
  rw[hl,SW]at hdv
  rw[hl]at hbd
  exact⟨_,rfl,q B hB0 hdv hbd hmn⟩
theorem GU:Aq ["numbers","bottom"] ["numbers","bottom"] (Ae (top 15)):=⟨rfl,rfl,rfl,by decide +kernel,rfl,by decide +kernel,by decide +kernel⟩
theorem Ha{f:Addr}{fd:FuncData}(F:Fun K "tops_over" "tops_over" (top 15) f fd)(hT:P.given.tree=none) :
 AO P w K mg base CX0 33 f fd ["numbers","bottom"] (El K):=by
 refine F.ok GU (fun vs H Q E h=>?_) (fun cdv A outer s H vs Q E hr h=>?_)
 ·obtain⟨_,_,_,_,_,_,_,rfl,_⟩:=h;rfl
 refine⟨_,(@Ag _ _ _ (@Av _ _ _ _ (@CT _ (["number","bottom"]) 1 ([1]) _ _ _ _ _ _ _ _ _ _ rfl (Be.look (NX:=["numbers","bottom"]) (sc:=Ae (top 15)) rfl rfl (by decide +kernel)) (@piS _ K _ _ _ (pv 0) (by rfl)) (fun u1 u2 u3 u4 u5=>(@Ax _ _ 0 _ (show List.Nodup (["number","bottom"]:List Str) from by decide +kernel) rfl (Or.inl rfl) (by first   | exact .inl rfl   | exact .inr rfl   | assumption))) (AK (by decide)) (fun u1 u2 u3 u4 u5=>Bq) (fun u1 u2 u3 u4 u5=>(@Ah _ _ _ _ _ _ _ _ Au (@Aj _ _ _ _ _ _ _ (ixT K) (pv 0) Aa (fun u v=>rfl)) (@Ah _ _ _ _ _ _ _ _ (Bw hr hT) (pv 1) (@Aj _ _ _ _ _ _ _ (ixT K) (pv 0) Aa (fun u v=>rfl))))) (by intro _;rfl)))),?_⟩
 obtain⟨b,r,xs,qs,B,m,n,rfl,hS,hn,hbB,hbn,hmn,hz,q⟩:=h
 have hl:=hn.length
 refine Ja (b:=b) (a:=r) (xs:=xs) rfl (fun i zs H'=>H'=H/\zs=((qs.take i).map (AB B)).map V.int) ⟨rfl,rfl⟩ (fun i zs H' hi p=>⟨by rw[p.1];exact hS,by rw[p.2,S7,S7,RY];lia⟩) (by rw[hl];exact Rx (AF hz)) ?_ ?_
 ·rintro i x zs H' hx ⟨rfl,rfl⟩
  obtain⟨c,hc,r',rfl,hr⟩:=(Paired.get hn hx)
  have hcm:c∈qs:=S5 hc
  have hd0:(c.den:Int)≠0:=by have:=c.den_pos;lia
  refine⟨_,rfl,r',_,_,_,rfl,rfl,hr,rfl,_,rfl,_,rfl,r',_,_,_,rfl,rfl,hr,rfl,_,_,rfl,rfl,hd0,_,_,rfl,rfl,Bk.bd (hbn c hcm) (hbB.fdiv (y:=c.den)) (by lia),rfl,?_⟩
  rw[SU,hc,SV,SV]
  rfl
 ·rintro zs H' ⟨rfl,rfl⟩ p hp
  rw[hl,SW]
  exact q p hp
theorem Dq:Aq ["numbers","width"] ["numbers"] (Ae (top 13)):=⟨rfl,rfl,rfl,by decide +kernel,rfl,by decide +kernel,by decide +kernel⟩
theorem HW{f:Addr}{fd:FuncData}(F:Fun K "curve_of" "curve_of" (top 13) f fd)(Pm:mg "len" = none)(Pp:mg "tuple" = none){a_NOUGHT:Addr}(c_NOUGHT:mg "NOUGHT" = some (.ref a_NOUGHT))(n_NOUGHT:∀H:Hp,Az K H (.ref a_NOUGHT) (0))(hT:P.given.tree=none) :
 AO P w K mg base CX0 33 f fd ["numbers"] (DD K):=by
 refine F.ok Dq (fun vs H Q E h=>?_) (fun cdv A outer s H vs Q E hr h=>?_)
 ·obtain⟨_,_,_,rfl,_⟩:=h;rfl
 refine⟨_,(@Ad _ _ _ _ _ K _ (@Ai _ _ 1 _ _ _ _ Dq.nd rfl (Or.inl rfl) (@Al _ _ _ _ _ _ _ _ _ (Bs K) rfl Pm AD (@A0 _ _ _ _ _ (pv 0) Ab (by rfl)) (by decide) (by decide) (by rfl) (by rfl)) (by rfl) (by first   | exact .inl rfl   | exact .inr rfl   | assumption)) (@Ad _ _ _ _ _ K _ (@Cw _ _ _ _ _ _ PassesOwn.never (@PW.pt _ _ _ (@DV _ _ _ _ _ _ _ (@Ap _ _ _ _ _ _ _ _ CU (pv 1) Aa (As _)) (@D9 _ _ _ _ (@Ap _ _ _ _ _ _ _ _ (eqD K hr.units) (@Aj _ _ _ _ _ _ _ (ixL K) (pv 0) (@Ah _ _ _ _ _ _ _ _ Ba (pv 1) Aa) (fun u v=>rfl)) (@DG _ _ (.ref a_NOUGHT) _ _ rfl c_NOUGHT rfl (by decide)) (As _))))) (@Ag _ _ _ (@Ai _ _ 1 _ _ _ _ Dq.nd rfl (Or.inl rfl) (@Ah _ _ _ _ _ _ _ _ Ba (pv 1) Aa) (by rfl) (by first   | exact .inl rfl   | exact .inr rfl   | assumption)))) (@Ag _ _ _ (@Av _ _ _ _ (@Cr _ _ _ _ _ _ _ _ _ (KD K) rfl Pp DA (@A0 _ _ _ _ _ (@Cz _ _ _ _ _ _ _ _ _ _ (slL K) (pv 0) De (@Dd _ _ _ (pv 1))) Ab (by rfl)) (by decide) (by decide) (by rfl) (by rfl)))) (by rfl)) (by rfl)),?_⟩
 obtain⟨r,xs,qs,rfl,hS,hn,hz,q⟩:=h
 have hl:=hn.length
 refine⟨_,rfl,r,xs,rfl,.inl hS,?_⟩
 refine Jj (L3 H r qs fun H r qs σ H'=>H'=H/\∃(v:Nat),σ=[some (.ref r),some (.int (v:Int))]/\v<=qs.length/\∀j q,v<=j->qs[j]? = some q->q=0) (fun σ _=>mu 1 σ) ⟨rfl,qs.length,by rw[<- hl];rfl,RK _,fun j q hj e=>absurd (RF.mp e).1 (by lia)⟩ ?_
 rintro σ H' hR1
 refine BO hR1 fun hq50 hz52=>?_
 refine Gj hz52 fun v hz52'=>?_
 clear hz52
 refine Dp hz52' fun hq51 hv hall=>?_
 clear hz52'
 obtain rfl:=hq50
 obtain rfl:=hq51
 try clear hR1
 have fin:(v=0\/∃q,qs[v-1]? = some q/\q≠0)->∀p,H' p=none->∀p',upd H' p (.lst (Cp xs none (some (v:Int)))) p'=none->Q (.ref p') (upd (upd H' p (.lst (Cp xs none (some (v:Int))))) p' (.tup (Cp xs none (some (v:Int))))):=fun hc p hp p' hp'=>by
  have e:Cp xs none (some (v:Int))=xs.take v:=by
   unfold Cp
   have e1:HT.sIx xs.length 0 none=0:=rfl
   have e2:HT.sIx xs.length xs.length (some (v:Int))=min v xs.length:=HT.sIx_nat _ _ v
   rw[e1,e2,Tv,Tw]
   apply T7
   intro i
   rw[UE,UE]
   split<;>split<;>first | rfl | lia | (rename_i h1 h2;exact(TL (by lia)).symm) | (rename_i h1 h2;exact TL (by lia))
  have sm:Af H' (upd (upd H' p (.lst (Cp xs none (some (v:Int))))) p' (.tup (Cp xs none (some (v:Int))))):=(Af.new hp).trans (Af.new hp')
  refine q p' _ sm ⟨xs.take v,SqT.of (by rw[e];exact Ac),?_⟩
  rw[<- Cv.take_strip qs v hall hc]
  exact Paired.take v (Ar.same hn sm)
 refine⟨_,rfl,_,_,rfl,rfl,_,rfl,?_⟩
 by_cases hv0:v=0
 ·subst hv0
  refine CF (CF ?_)
  exact⟨_,rfl,_,rfl,_,rfl,r,xs,rfl,hS,fun p hp=>⟨p,_,rfl,.inl ⟨SqL.of Ac,fun p' hp'=>fin (.inl rfl) p hp p' hp'⟩⟩⟩
 ·refine AU (by rw[decide_eq_true (show(0:Int)<(v:Int) by lia)]<;>rfl) ?_
  have hvi:v-1<qs.length:=by lia
  have hq:qs[v-1]? = some qs[v-1]:=Te hvi
  obtain⟨x,hx,hxn⟩:=(Paired.get' hn hq)
  have hat:atI xs ((v:Int)-1)=some x:=by
   rw[show(v:Int)-1=((v-1:Nat):Int) by lia]
   exact C9 hx
  refine⟨_,rfl,_,rfl,_,_,rfl,rfl,r,xs,_,x,rfl,rfl,hS,hat,?_⟩
  refine eqN hxn (n_NOUGHT _) ?_
  refine⟨_,rfl,?_⟩
  by_cases hq0:qs[v-1]=0
  ·refine AU (by rw[decide_eq_true hq0]<;>rfl) (Ji ?_)
   refine⟨_,rfl,_,_,rfl,rfl,⟨rfl,v-1,?_,by lia,fun j q' hj e=>?_⟩,?_⟩
   ·show[some (V.ref r),some (V.int ((v:Int)-1))]=[some (V.ref r),some (V.int ((v-1:Nat):Int))]
    rw[show(v:Int)-1=((v-1:Nat):Int) by lia]
   ·by_cases hjv:v<=j
    ·exact hall j q' hjv e
    ·have:j=v-1:=by lia
     subst this
     rw[hq]at e
     cases e
     exact hq0
   ·show((v:Int)-1).toNat<(v:Int).toNat
    lia
  ·refine AH (by rw[decide_eq_false hq0]<;>rfl) ?_
   exact⟨_,rfl,_,rfl,_,rfl,r,xs,rfl,hS,fun p hp=>⟨p,_,rfl,.inl ⟨SqL.of Ac,fun p' hp'=>fin (.inr ⟨_,hq,hq0⟩) p hp p' hp'⟩⟩⟩
theorem D5:Aq ["top","bottom","measure"] ["top","bottom"] (Ae (top 8)):=⟨rfl,rfl,rfl,by decide +kernel,rfl,by decide +kernel,by decide +kernel⟩
theorem Hb{f:Addr}{fd:FuncData}(F:Fun K "number_of" "number_of" (top 8) f fd)(PR:Fd P w K mg base 33 "common_measure" ["one","other"] (HP))(hT:P.given.tree=none) :
 AO P w K mg base CX0 34 f fd ["top","bottom"] (CP):=by
 refine F.ok D5 (fun vs H Q E h=>?_) (fun cdv A outer s H vs Q E hr h=>?_)
 ·obtain⟨_,_,rfl,_⟩:=h;rfl
 refine⟨_,(@Ad _ _ _ _ _ K _ (@AQ _ _ _ _ _ _ _ _ K _ _ (@Ap _ _ _ _ _ _ _ _ Dl (pv 1) Aa (As _)) (@Ag _ _ _ Cy) AI (by rfl) (by rfl)) (@Ad _ _ _ _ _ K _ (@Ai _ _ 2 _ _ _ _ D5.nd rfl (Or.inl rfl) (@Ak _ _ _ _ _ _ _ _ _ _ _ PR hr rfl (@A0 _ _ _ _ _ (pv 0) (@A0 _ _ _ _ _ (pv 1) Ab (by rfl)) (by rfl)) (by decide) (by decide) (by rfl) (by rfl)) (by rfl) (by first   | exact .inl rfl   | exact .inr rfl   | assumption)) (@Ad _ _ _ _ _ K _ (@AQ _ _ _ _ _ _ _ _ K _ _ (@Ap _ _ _ _ _ _ _ _ E7 (pv 1) Aa (As _)) (@Ag _ _ _ (@Ai _ _ 2 _ _ _ _ D5.nd rfl (Or.inl rfl) (@Ci _ _ _ _ _ _ BS (pv 2)) (by rfl) (by first   | exact .inl rfl   | exact .inr rfl   | assumption))) AI (by rfl) (by rfl)) (@Ag _ _ _ (@Av _ _ _ _ (@AG _ _ _ _ _ (@A0 _ _ _ _ _ (@Ah _ _ _ _ _ _ _ _ (Bw hr hT) (pv 0) (pv 2)) (@A0 _ _ _ _ _ (@Ah _ _ _ _ _ _ _ _ (Bw hr hT) (pv 1) (pv 2)) Ab (by rfl)) (by rfl))))) (by rfl)) (by rfl)) (by rfl)),?_⟩
 obtain⟨a,b,rfl,hb,q⟩:=h
 refine⟨_,rfl,rfl,_,rfl,?_⟩
 refine AH (by rw[decide_eq_false (fun z=>hb (V.int.inj z))]<;>rfl) ?_
 refine⟨_,rfl,_,rfl,a,b,rfl,?_⟩
 refine⟨_,rfl,_,_,rfl,rfl,_,rfl,?_⟩
 have hd:Nm.msr a b≠0:=Nm.msr_ne hb
 have fin:∀p,H p=none->Q (.ref p) (upd H p (.tup [.int (a.fdiv (Nm.msr a b)),.int (b.fdiv (Nm.msr a b))])):=fun p hp=>by
  rw[Nm.top_msr hb,Nm.bottom_msr hb];exact q p hp
 by_cases hb0:b<0
 ·have hd':Nm.msr a b = -(Sr a b:Int):=by unfold Nm.msr;rw[if_pos hb0]
  rw[hd']at hd fin
  refine AU (by rw[decide_eq_true hb0]<;>rfl) ⟨_,rfl,_,rfl,?_⟩
  exact⟨_,rfl,_,rfl,_,_,rfl,rfl,hd,_,rfl,_,rfl,_,_,rfl,rfl,hd,(by decide:2<=sizeLine),fin⟩
 ·have hd':Nm.msr a b=(Sr a b:Int):=by unfold Nm.msr;rw[if_neg hb0]
  rw[hd']at hd fin
  refine AH (by rw[decide_eq_false hb0]<;>rfl) ?_
  exact⟨_,rfl,_,rfl,_,_,rfl,rfl,hd,_,rfl,_,rfl,_,_,rfl,rfl,hd,(by decide:2<=sizeLine),fin⟩
theorem FX:Aq ["tops","bottom"] ["tops","bottom"] (Ae (top 16)):=⟨rfl,rfl,rfl,by decide +kernel,rfl,by decide +kernel,by decide +kernel⟩
theorem Gd{f:Addr}{fd:FuncData}(F:Fun K "curve_over" "curve_over" (top 16) f fd)(Q6:Fd P w K mg base 33 "curve_of" ["numbers"] (DD K))(PJ:Fd P w K mg base 34 "number_of" ["top","bottom"] (CP))(hT:P.given.tree=none) :
 AO P w K mg base CX0 35 f fd ["tops","bottom"] (C2 K):=by
 refine F.ok FX (fun vs H Q E h=>?_) (fun cdv A outer s H vs Q E hr h=>?_)
 ·obtain⟨_,_,_,rfl,_⟩:=h;rfl
 refine⟨_,(@Ag _ _ _ (@Av _ _ _ _ (@Ak _ _ _ _ _ _ _ _ _ _ _ Q6 hr rfl (@A0 _ _ _ _ _ (@CT _ (["top","bottom"]) 1 ([1]) _ _ _ _ _ _ _ _ _ _ rfl (Be.look (NX:=["tops","bottom"]) (sc:=Ae (top 16)) rfl rfl (by decide +kernel)) (@piS _ K _ _ _ (pv 0) (by rfl)) (fun u1 u2 u3 u4 u5=>(@Ax _ _ 0 _ (show List.Nodup (["top","bottom"]:List Str) from by decide +kernel) rfl (Or.inl rfl) (by first   | exact .inl rfl   | exact .inr rfl   | assumption))) (AK (by decide)) (fun u1 u2 u3 u4 u5=>Bq) (fun u1 u2 u3 u4 u5=>(@Ak _ _ _ _ _ _ _ _ _ _ _ PJ hr rfl (@A0 _ _ _ _ _ (pv 0) (@A0 _ _ _ _ _ (pv 1) Ab (by rfl)) (by rfl)) (by decide) (by decide) (by rfl) (by rfl))) (by intro _;rfl)) Ab (by rfl)) (by decide) (by decide) (by rfl) (by rfl)))),?_⟩
 obtain⟨l,ts,b,rfl,hS,hb,hz,q⟩:=h
 have ll:(ts.map V.int).length=ts.length:=S7 _
 refine Ja (b:=true) (a:=l) (xs:=ts.map V.int) rfl (L4 H K ts b fun H K ts b i zs H'=>Af H H'/\zs.length=i/\Ar K H' zs ((ts.take i).map fun t=>Sv t b)) ⟨Af.refl _,rfl,.nil⟩ (fun i zs H' _ p=>⟨Af.seq p.1 hS,p.2.1⟩) (by rw[ll];exact Rx (AF hz)) ?_ ?_
 ·rintro i x zs H' hx ⟨sm,hl,hn⟩
  rw[S3]at hx
  cases et:ts[i]? with
  | none=>rw[et]at hx;cases hx
  | some t =>
    rw[et]at hx
    cases hx
    refine⟨_,rfl,_,rfl,t,b,rfl,hb,fun p hp=>⟨sm.trans (Af.new hp),by simp[hl],?_⟩⟩
    rw[SU,et,SV]
    exact Paired.snoc (Ar.same hn (Af.new hp)) (Az.of Ac)
 ·rintro zs H' ⟨sm,hl,hn⟩ p hp
  rw[ll,SW]at hn
  refine⟨p,zs,_,rfl,SqL.of Ac,Ar.same hn (Af.new hp),by rw[S7];exact hz,fun r H2 s2 c=>q r H2 ((sm.trans (Af.new hp)).trans s2) c⟩
theorem BQ:Aq ["first","second","product","k","j"] ["first","second"] (Ae (top 19)):=⟨rfl,rfl,rfl,by decide +kernel,rfl,by decide +kernel,by decide +kernel⟩
theorem Ex{f:Addr}{fd:FuncData}(F:Fun K "whole_product" "whole_product" (top 19) f fd)(Pn:mg "range" = none)(Pm:mg "len" = none)(hT:P.given.tree=none) :
 AO P w K mg base CX0 33 f fd ["first","second"] (IS K):=by
 refine F.ok BQ (fun vs H Q E h=>?_) (fun cdv A outer s H vs Q E hr h=>?_)
 ·obtain⟨_,_,_,_,_,_,rfl,_⟩:=h;rfl
 refine⟨_,(@Ad _ _ _ _ _ K _ (@Ai _ _ 2 _ _ _ _ BQ.nd rfl (Or.inl rfl) (@Ah _ _ _ _ _ _ _ _ FE (@Bj _ _ _ _ (@A0 _ _ _ _ _ Aa Ab (by rfl))) (@Ah _ _ _ _ _ _ _ _ Ba (@Ah _ _ _ _ _ _ _ _ AR (@Al _ _ _ _ _ _ _ _ _ (Bs K) rfl Pm AD (@A0 _ _ _ _ _ (pv 0) Ab (by rfl)) (by decide) (by decide) (by rfl) (by rfl)) (@Al _ _ _ _ _ _ _ _ _ (Bs K) rfl Pm AD (@A0 _ _ _ _ _ (pv 1) Ab (by rfl)) (by decide) (by decide) (by rfl) (by rfl))) Aa)) (by rfl) (by first   | exact .inl rfl   | exact .inr rfl   | assumption)) (@Ad _ _ _ _ _ K _ (@BA _ _ _ _ _ _ _ _ K _ PassesOwn.never rfl (@BE _ _ _ _ _ _ rfl Pn (@A0 _ _ _ _ _ (@Al _ _ _ _ _ _ _ _ _ (Bs K) rfl Pm AD (@A0 _ _ _ _ _ (pv 0) Ab (by rfl)) (by decide) (by decide) (by rfl) (by rfl)) Ab (by rfl)) (by rfl)) (@Ax _ _ 3 _ BQ.nd rfl (Or.inl rfl) (by first   | exact .inl rfl   | exact .inr rfl   | assumption)) (@Ag _ _ _ (@BA _ _ _ _ _ _ _ _ K _ PassesOwn.never rfl (@BE _ _ _ _ _ _ rfl Pn (@A0 _ _ _ _ _ (@Al _ _ _ _ _ _ _ _ _ (Bs K) rfl Pm AD (@A0 _ _ _ _ _ (pv 1) Ab (by rfl)) (by decide) (by decide) (by rfl) (by rfl)) Ab (by rfl)) (by rfl)) (@Ax _ _ 4 _ BQ.nd rfl (Or.inl rfl) (by first   | exact .inl rfl   | exact .inr rfl   | assumption)) (@Ag _ _ _ (@DW _ _ _ _ _ _ (@Ah _ _ _ _ _ _ _ _ AR (@Aj _ _ _ _ _ _ _ (ixL K) (pv 2) (@Ah _ _ _ _ _ _ _ _ AR (pv 3) (pv 4)) (fun u v=>rfl)) (@Ah _ _ _ _ _ _ _ _ Au (@Aj _ _ _ _ _ _ _ (ixL K) (pv 0) (pv 3) (fun u v=>rfl)) (@Aj _ _ _ _ _ _ _ (ixL K) (pv 1) (pv 4) (fun u v=>rfl)))) (@Eu _ _ _ _ _ _ _ (pv 2) (@Ah _ _ _ _ _ _ _ _ AR (pv 3) (pv 4)) CQ (by intro _;rfl)) (by rfl) (by rfl) (by rfl))) (by rfl) (by intro _;rfl))) (by rfl) (by intro _;rfl)) (@Ag _ _ _ (@Av _ _ _ _ (pv 2))) (by rfl)) (by rfl)),?_⟩
 obtain⟨f,g,fs,gs,m,n,rfl,hf,hg,hg1,hf1000,hg1000,hbf,hbg,hmn,q⟩:=h
 have lf:(fs.map V.int).length=fs.length:=S7 _
 have lg:(gs.map V.int).length=gs.length:=S7 _
 have P1:1<=sizeLine:=by decide
 have hfg:fs.length*gs.length<=1000*1000:=UA hf1000 hg1000
 refine⟨P1,fun o ho=>?_⟩
 have hf0:SqL K (upd H o (.lst [.int 0])) f (fs.map V.int):=KL hf ho
 have hg0:SqL K (upd H o (.lst [.int 0])) g (gs.map V.int):=KL hg ho
 refine⟨_,rfl,f,_,rfl,.inl hf0,_,rfl,g,_,rfl,.inl hg0,_,_,rfl,rfl,_,_,rfl,rfl,o,_,_,rfl,rfl,Ac,?_,?_,?_,fun p hp=>?_⟩
 ·rw[lf,lg];lia
 ·rw[lf,lg];lia
 ·show 1*(((fs.map V.int).length:Int)+((gs.map V.int).length:Int)-1).toNat<=sizeLine
  rw[lf,lg,Ts]
  exact Rw (K8 hf1000 hg1000) (by decide:2*1000<=sizeLine)
 have hpH:H p=none:=by
  cases z:H p with
  | none=>rfl
  | some u=>rw[(Af.new ho) p u z]at hp;cases hp
 have eL:(((fs.map V.int).length:Int)+((gs.map V.int).length:Int)-1).toNat=fs.length+gs.length-1:=by rw[lf,lg];exact Lo hg1
 rw[eL]
 have s0:Af H (upd (upd H o (.lst [.int 0])) p (.lst (RX (fs.length+gs.length-1) [V.int 0]).flatten)):=(Af.new ho).trans (Af.new hp)
 have e0:(RX (fs.length+gs.length-1) [V.int 0]).flatten=(RX (fs.length+gs.length-1) (0:Int)).map V.int:=by rw[List.flatten_replicate_singleton,SS]
 rw[e0]at s0 ⊢
 refine⟨_,rfl,f,_,rfl,.inl (Af.seq s0 hf),_,rfl,by rw[lf];lia,by rw[lf];lia,?_⟩
 rw[lf,Sb]
 refine Ce (n:=fs.length) (L8 H f g p fs gs m n fun H f g p fs gs m n i σ H'=>Af H H'/\∃(ps:List Int) (z3 z4:Option V),σ=[some (.ref f),some (.ref g),some (.ref p),z3,z4]/\H' p=some (.lst (ps.map V.int))/\ps.length=fs.length+gs.length-1/\(∀x,Cv.evI ps x=Cv.evI (fs.take i) x*Cv.evI gs x)/\∀t∈ps,Up (i*gs.length) (m+n) t)
  ⟨s0,_,none,none,rfl,Ac,S8,fun x=>?_,fun t ht=>?_⟩ ?_ ?_
 ·rw[Cv.evI_zeros,TR]
  show(0:Rat)=0*_
  grind
 ·rw[(List.mem_replicate.mp ht).2];exact RM _
 ·rintro i σ H' hi hR1
  refine BO hR1 fun sm hz54=>?_
  refine Eh hz54 fun ps z3 z4 hz54'=>?_
  clear hz54
  refine Cq hz54' fun hq53 ep hpl hev hup=>?_
  clear hz54'
  obtain rfl:=hq53
  try clear hR1
  have hfi:fs[i]? = some fs[i]:=Te hi
  refine⟨_,rfl,g,_,rfl,.inl (Af.seq sm hg),_,rfl,by rw[lg];lia,by rw[lg];lia,?_⟩
  rw[lg,Sb]
  refine Ce (n:=gs.length) (fun j σ H'=>Af H H'/\∃(ps:List Int) (z4:Option V),σ=[some (.ref f),some (.ref g),some (.ref p),some (.int (0+(i:Int))),z4]/\H' p=some (.lst (ps.map V.int))/\ps.length=fs.length+gs.length-1/\(∀x,Cv.evI ps x=Cv.evI (fs.take i) x*Cv.evI gs x+(fs[i]:Rat)*x ^ i*Cv.evI (gs.take j) x)/\∀t∈ps,Up (i*gs.length+j) (m+n) t)
   ⟨sm,ps,z4,rfl,ep,hpl,fun x=>?_,hup⟩ ?_ ?_
  ·rw[hev x,TR]
   show _=_+_*(0:Rat)
   grind
  ·rintro j σ H2 hj hR2
   refine BO hR2 fun sm2 hz56=>?_
   refine Dm hz56 fun ps2 z4' hz56'=>?_
   clear hz56
   refine Cq hz56' fun hq55 ep2 hpl2 hev2 hup2=>?_
   clear hz56'
   obtain rfl:=hq55
   try clear hR2
   have hgj:gs[j]? = some gs[j]:=Te hj
   have hij:i+j<ps2.length:=Nx hi hj hpl2
   have hpj:ps2[i+j]? = some ps2[i+j]:=Te hij
   have bm:Bk fs[i] gs[j]:=Bk.bd (hbf _ (Tf hi)) (hbg _ (Tf hj)) (by lia)
   refine⟨_,rfl,_,rfl,_,rfl,_,_,rfl,rfl,p,_,_,_,rfl,rfl,SqL.of ep2,CM hpj (by lia),_,rfl,_,rfl,f,_,_,_,rfl,rfl,Af.seq sm2 hf,CM hfi (by lia),_,rfl,_,rfl,g,_,_,_,rfl,rfl,Af.seq sm2 hg,CM hgj (by lia),_,_,rfl,rfl,bm,_,_,rfl,rfl,?_⟩
   refine⟨_,rfl,_,rfl,_,rfl,_,_,rfl,rfl,p,_,_,i+j,rfl,rfl,ep2,FK (by rw[S7];exact hij) (by lia),?_⟩
   refine⟨sm2.put hpH,ps2.set (i+j) (ps2[i+j]+fs[i]*gs[j]),_,rfl,?_,by rw[Sh];exact hpl2,fun x=>?_,fun t ht=>?_⟩
   ·rw[Ac,SR]
   ·rw[Cv.evI_set x ps2 (i+j) _ _ hpj,hev2 x,Cv.evI_take_succ x gs j _ hgj,SH,Nm.pow_add]
    grind
   ·rcases V5 ht with z | z
    ·exact(hup2 t z).mono (by lia)
    ·subst z
     exact(hup2 _ (Tf hij)).add ((hbf _ (Tf hi)).mul (hbg _ (Tf hj)))
  ·rintro σ H2 hR3
   refine BO hR3 fun sm2 hz58=>?_
   refine Dm hz58 fun ps2 z4' hz58'=>?_
   clear hz58
   refine Cq hz58' fun hq57 ep2 hpl2 hev2 hup2=>?_
   clear hz58'
   obtain rfl:=hq57
   try clear hR3
   refine⟨sm2,ps2,_,_,rfl,ep2,hpl2,fun x=>?_,fun t ht=>?_⟩
   ·rw[hev2 x,SW,Cv.evI_take_succ x fs i _ hfi]
    grind
   ·have:=hup2 t ht
    rw[Tr,Ts]
    exact this
 ·rintro σ H' hR4
  refine BO hR4 fun sm hz60=>?_
  refine Eh hz60 fun ps z3 z4 hz60'=>?_
  clear hz60
  refine Cq hz60' fun hq59 ep hpl hev hup=>?_
  clear hz60'
  obtain rfl:=hq59
  try clear hR4
  refine⟨_,rfl,q p H' ps sm hpH ep hpl (fun x=>?_) (fun t ht=>?_)⟩
  ·rw[hev x,SW]
  ·exact(hup t ht).bd (k:=20) (by lia)
theorem Bx:Aq ["knots","steps","bottom","step_tops","tops","scale","k"] ["knots","steps"] (Ae (top 41)):=⟨rfl,rfl,rfl,by decide +kernel,rfl,by decide +kernel,by decide +kernel⟩
theorem HX{f:Addr}{fd:FuncData}(F:Fun K "by_steps" "by_steps" (top 41) f fd)(Pu:Fd P w K mg base 34 "bottom_of" ["numbers"] (Fp K))(Pw:Fd P w K mg base 33 "tops_over" ["numbers","bottom"] (El K))(Px:Fd P w K mg base 35 "curve_over" ["tops","bottom"] (C2 K))(Qw:Fd P w K mg base 33 "whole_product" ["first","second"] (IS K))(Pn:mg "range" = none)(Pm:mg "len" = none)(hT:P.given.tree=none) :
 AO P w K mg base CX0 36 f fd ["knots","steps"] (Ep K):=by
 refine F.ok Bx (fun vs H Q E h=>?_) (fun cdv A outer s H vs Q E hr h=>?_)
 ·obtain⟨_,_,_,_,_,_,_,rfl,_⟩:=h;rfl
 refine⟨_,(@Ad _ _ _ _ _ K _ (@Ai _ _ 2 _ _ _ _ Bx.nd rfl (Or.inl rfl) (@Ak _ _ _ _ _ _ _ _ _ _ _ Pu hr rfl (@A0 _ _ _ _ _ (pv 1) Ab (by rfl)) (by decide) (by decide) (by rfl) (by rfl)) (by rfl) (by first   | exact .inl rfl   | exact .inr rfl   | assumption)) (@Ad _ _ _ _ _ K _ (@Ai _ _ 3 _ _ _ _ Bx.nd rfl (Or.inl rfl) (@Ak _ _ _ _ _ _ _ _ _ _ _ Pw hr rfl (@A0 _ _ _ _ _ (pv 1) (@A0 _ _ _ _ _ (pv 2) Ab (by rfl)) (by rfl)) (by decide) (by decide) (by rfl) (by rfl)) (by rfl) (by first   | exact .inl rfl   | exact .inr rfl   | assumption)) (@Ad _ _ _ _ _ K _ (@Ai _ _ 4 _ _ _ _ Bx.nd rfl (Or.inl rfl) (@Bj _ _ _ _ Ab) (by rfl) (by first   | exact .inl rfl   | exact .inr rfl   | assumption)) (@Ad _ _ _ _ _ K _ (@Ai _ _ 5 _ _ _ _ Bx.nd rfl (Or.inl rfl) Aa (by rfl) (by first   | exact .inl rfl   | exact .inr rfl   | assumption)) (@Ad _ _ _ _ _ K _ (@BA _ _ _ _ _ _ _ _ K _ PassesOwn.never rfl (@Jv _ _ _ _ _ _ _ _ rfl Pn (@A0 _ _ _ _ _ (@Ah _ _ _ _ _ _ _ _ Ba (@Al _ _ _ _ _ _ _ _ _ (Bs K) rfl Pm AD (@A0 _ _ _ _ _ (pv 0) Ab (by rfl)) (by decide) (by decide) (by rfl) (by rfl)) Aa) (@A0 _ _ _ _ _ (@Ci _ _ _ _ _ _ BS Aa) (@A0 _ _ _ _ _ (@Ci _ _ _ _ _ _ BS Aa) Ab (by rfl)) (by rfl)) (by rfl)) (by rfl) (by rfl)) (@Ax _ _ 6 _ Bx.nd rfl (Or.inl rfl) (by first   | exact .inl rfl   | exact .inr rfl   | assumption)) (@Ad _ _ _ _ _ K _ (@Ai _ _ 4 _ _ _ _ Bx.nd rfl (Or.inl rfl) (@Ak _ _ _ _ _ _ _ _ _ _ _ Qw hr rfl (@A0 _ _ _ _ _ (pv 4) (@A0 _ _ _ _ _ (@Bj _ _ _ _ (@A0 _ _ _ _ _ (@Ci _ _ _ _ _ _ BS (@Aj _ _ _ _ _ _ _ (ixT K) (@Aj _ _ _ _ _ _ _ (ixL K) (pv 0) (pv 6) (fun u v=>rfl)) Aa (fun u v=>rfl))) (@A0 _ _ _ _ _ (@Aj _ _ _ _ _ _ _ (ixT K) (@Aj _ _ _ _ _ _ _ (ixL K) (pv 0) (pv 6) (fun u v=>rfl)) Aa (fun u v=>rfl)) Ab (by rfl)) (by rfl))) Ab (by rfl)) (by rfl)) (by decide) (by decide) (by rfl) (by rfl)) (by rfl) (by first   | exact .inl rfl   | exact .inr rfl   | assumption)) (@Ad _ _ _ _ _ K _ (@Ai _ _ 5 _ _ _ _ Bx.nd rfl (Or.inl rfl) (@Ah _ _ _ _ _ _ _ _ Au (pv 5) (@Aj _ _ _ _ _ _ _ (ixT K) (@Aj _ _ _ _ _ _ _ (ixL K) (pv 0) (pv 6) (fun u v=>rfl)) Aa (fun u v=>rfl))) (by rfl) (by first   | exact .inl rfl   | exact .inr rfl   | assumption)) (@Ag _ _ _ (@DW _ _ _ _ _ _ (@Ah _ _ _ _ _ _ _ _ AR (@Aj _ _ _ _ _ _ _ (ixL K) (pv 4) Aa (fun u v=>rfl)) (@Ah _ _ _ _ _ _ _ _ Au (@Aj _ _ _ _ _ _ _ (ixL K) (pv 3) (pv 6) (fun u v=>rfl)) (pv 5))) (@Eu _ _ _ _ _ _ _ (pv 4) Aa CQ (by intro _;rfl)) (by rfl) (by rfl) (by rfl))) (by rfl)) (by rfl)) (by rfl) (by intro _;rfl)) (@Ag _ _ _ (@Av _ _ _ _ (@Ak _ _ _ _ _ _ _ _ _ _ _ Px hr rfl (@A0 _ _ _ _ _ (pv 4) (@A0 _ _ _ _ _ (@Ah _ _ _ _ _ _ _ _ Au (pv 2) (pv 5)) Ab (by rfl)) (by rfl)) (by decide) (by decide) (by rfl) (by rfl)))) (by rfl)) (by rfl)) (by rfl)) (by rfl)) (by rfl)),?_⟩
 obtain⟨rk,rst,xs,ys,ks,ss,n,rfl,hk,hnk,hs,hns,hlen,h30,hbk,hbs,hn4,q⟩:=h
 have hlk:=hnk.length
 have hls:=hns.length
 have P0:0<=sizeLine:=by decide
 have P2:2<=sizeLine:=by decide
 have hnq:n*ks.length<=10000*30:=UA hn4 h30
 have hnq':n*ss.length=n*ks.length:=by rw[hlen]
 refine⟨_,rfl,true,rst,ys,ss,n,rfl,hs,hns,(fun c hc=>(hbs c hc).2),by rw[TC];lia,fun B hB0 hdv hbB _=>?_⟩
 refine⟨_,rfl,_,rfl,true,rst,ys,ss,B,n*ss.length+1,n,rfl,hs,hns,hbB,(fun c hc=>(hbs c hc).1),by lia,by lia,fun st h1=>?_⟩
 refine⟨P0,fun tp h2=>?_⟩
 have s2:Af H (upd (upd H st (.lst ((ss.map (AB B)).map V.int))) tp (.lst [])):=(Af.new h1).trans (Af.new h2)
 have est:(upd (upd H st (.lst ((ss.map (AB B)).map V.int))) tp (.lst [])) st=some (.lst ((ss.map (AB B)).map V.int)):=(Af.new h2) _ _ Ac
 have etp:(upd (upd H st (.lst ((ss.map (AB B)).map V.int))) tp (.lst [])) tp=some (.lst (([]:List Int).map V.int)):=Ac
 generalize upd (upd H st (.lst ((ss.map (AB B)).map V.int))) tp (.lst [])=H2 at s2 est etp ⊢
 refine⟨_,rfl,rk,xs,rfl,.inl (Af.seq s2 hk),_,_,rfl,rfl,_,rfl,_,rfl,_,_,rfl,⟨by lia,by lia,by decide,by decide⟩,?_⟩
 have eT:((xs.length:Int)-1 - -1).toNat=ks.length:=Mu hlk
 rw[eT]
 refine Iq (n:=ks.length) (L8 H2 rk rst B st ks ss n fun H2 rk rst B st ks ss n i σ H'=>Af H2 H'/\∃(tp:Addr) (ts:List Int) (s:Int) (z:Option V),σ=[some (.ref rk),some (.ref rst),some (.int B),some (.ref st),some (.ref tp),some (.int s),z]/\H' tp=some (.lst (ts.map V.int))/\ts.length=i/\s≠0 /\
  (∀x,Cv.evI ts x=EB (ks.drop (ks.length-i)) (ss.drop (ks.length-i)) x*((B:Rat)*(s:Rat)))/\(∀t∈ts,Bd (n*ks.length+n*i+21*i+2*n+30) t)/\Bd (n*i+1) s)
  ⟨Af.refl _,tp,[],1,none,rfl,etp,rfl,by decide,fun x=>?_,(fun _ h=>nomatch h),?_⟩ ?_ ?_
 ·rw[Tw,TU (RK _)]
  show(0:Rat)=0*_
  grind
 ·exact(show Bd 1 1 by unfold Bd;decide).mono (by lia)
 ·rintro i σ H' hi hR1
  refine BO hR1 fun sm hz62=>?_
  refine LJ hz62 fun tp' ts s z hz62'=>?_
  clear hz62
  refine MK hz62' fun hq61 etp' htl hs0 he hbt hbsc=>?_
  clear hz62'
  obtain rfl:=hq61
  try clear hR1
  have hj:ks.length-1-i<ks.length:=Nw hi
  have hj2:ks.length-1-i<ss.length:=by lia
  have hkq:ks[ks.length-1-i]? = some ks[ks.length-1-i]:=Te hj
  have hsq:ss[ks.length-1-i]? = some ss[ks.length-1-i]:=Te hj2
  have hcm:ks[ks.length-1-i]∈ks:=Tf hj
  have hsm:ss[ks.length-1-i]∈ss:=Tf hj2
  generalize ks[ks.length-1-i]=c at hkq hcm
  generalize ss[ks.length-1-i]=d at hsq hsm
  obtain⟨xk,hxk,rk',rfl,hrk⟩:=(Paired.get' hnk hkq)
  have ei:(xs.length:Int)-1-(i:Int)=((ks.length-1-i:Nat):Int):=Lq hlk hi
  have hat:atI xs ((xs.length:Int)-1-(i:Int))=some (.ref rk'):=by rw[ei];exact C9 hxk
  have hat2:atI ((ss.map (AB B)).map V.int) ((xs.length:Int)-1-(i:Int))=some (.int (AB B d)):=CM (by rw[S3,hsq];rfl) ei
  have hni:n*i<=n*ks.length:=V4 n (by lia)
  have hni1:n*(i+1)=n*i+n:=by rw[TC,UM]
  have bt:Bd (n*ks.length+n+1) (AB B d):=((hbs d hsm).1.mul (hbB.fdiv (y:=d.den))).mono (by lia)
  have sH:=s2.trans sm
  have hrk1:=hrk.same sH
  refine⟨_,rfl,_,rfl,_,rfl,rk,xs,_,_,rfl,rfl,Af.seq sH hk,hat,rk',_,_,_,rfl,rfl,hrk1,rfl,_,rfl,_,rfl,_,rfl,rk,xs,_,_,rfl,rfl,Af.seq sH hk,hat,rk',_,_,_,rfl,rfl,hrk1,rfl,P2,fun g hg=>?_⟩
  have sg:Af H' (upd H' g (.lst [.int (-c.num),.int (c.den:Int)])):=Af.new hg
  have eg:(upd H' g (.lst [.int (-c.num),.int (c.den:Int)])) g=some (.lst ([-c.num,(c.den:Int)].map V.int)):=Ac
  generalize upd H' g (.lst [.int (-c.num),.int (c.den:Int)])=Hg at sg eg ⊢
  have blin:∀t∈[-c.num,(c.den:Int)],Bd n t:=fun t ht=>by
   rcases RC.mp ht with z | z
   ·subst z;exact(hbk c hcm).1.neg
   ·rw[Td.mp z];exact(hbk c hcm).2
  refine⟨tp',g,ts,[-c.num,(c.den:Int)],n*ks.length+n*i+21*i+2*n+30,n,rfl,SqL.of (sg _ _ etp'),SqL.of eg,(show 1<=2 by decide),by lia,(show 2<=1000 by decide),hbt,blin,by lia,fun pr H6 ps s6 hpr epr hpl hpe hpb=>?_⟩
  have hpl':ps.length=i+1:=by rw[hpl,htl];rfl
  have hp0:0<ps.length:=by rw[hpl'];exact TK i
  have h0:ps[0]? = some ps[0]:=Te hp0
  have sg6:=sg.trans s6
  have s06:=sH.trans sg6
  have ms:Bk s (c.den:Int):=Bk.bd hbsc (hbk c hcm).2 (by lia)
  have bs':Bd (n*(i+1)+1) (s*(c.den:Int)):=(hbsc.mul (hbk c hcm).2).mono (by lia)
  refine⟨_,rfl,_,rfl,_,rfl,rk,xs,_,_,rfl,rfl,Af.seq s06 hk,hat,rk',_,_,_,rfl,rfl,hrk.same s06,rfl,_,_,rfl,rfl,ms,?_⟩
  refine⟨_,rfl,pr,_,_,_,rfl,rfl,SqL.of epr,CM h0 rfl,_,rfl,_,rfl,st,_,_,_,rfl,rfl,SqL.of (sg6 _ _ (sm _ _ est)),hat2,_,rfl,_,_,rfl,rfl,Bk.bd bt bs' (by lia),_,_,rfl,rfl,?_⟩
  refine⟨_,rfl,pr,_,_,0,rfl,rfl,epr,FK (by rw[S7];lia) rfl,?_⟩
  have sm2:Af H2 (upd H6 pr (.lst ((ps.map V.int).set 0 (.int (ps[0]+AB B d*(s*(c.den:Int))))))):=fun bb u zz=>by
   have z1:=sg _ _ (sm bb u zz)
   rw[Aw (Ay z1 hpr)]
   exact s6 bb u z1
  refine⟨sm2,pr,ps.set 0 (ps[0]+AB B d*(s*(c.den:Int))),s*(c.den:Int),_,rfl,?_,by rw[Sh];exact hpl',SF hs0 (Nm.den_ne c),fun x=>?_,fun t ht=>?_,bs'⟩
  ·rw[Ac,SR]
  ·rw[Cv.evI_set x ps 0 _ _ h0,hpe x,LK,he x,SK,Hw rfl hi hkq,Hw hlen.symm hi hsq]
   show _=(d+(x-c)*EB _ _ x)*_
   rw[SH,SH,CO (hdv d hsm)]
   grind
  ·rcases V5 ht with zz | zz
   ·exact(hpb t zz).mono (by lia)
   ·subst zz
    have b1:=(hpb _ (Tf hp0)).mono (n:=n*ks.length+n*i+21*i+2*n+30+n+20) (by lia)
    have b2:=(bt.mul bs').mono (n:=n*ks.length+n*i+21*i+2*n+30+n+20) (by lia)
    exact(Bd.add b1 b2).mono (by lia)
 ·rintro σ H' hR2
  refine BO hR2 fun sm hz66=>?_
  refine LJ hz66 fun tp' ts s z hz66'=>?_
  clear hz66
  refine MK hz66' fun hq65 etp' htl hs0 he hbt hbsc=>?_
  clear hz66'
  obtain rfl:=hq65
  try clear hR2
  have hb0:B*s≠0:=SF (by lia) hs0
  refine⟨_,rfl,_,rfl,_,rfl,_,_,rfl,rfl,Bk.bd hbB hbsc (by lia),tp',ts,B*s,rfl,SqL.of etp',hb0,by lia,fun p H6 s6 c6=>?_⟩
  refine q p H6 _ ((s2.trans sm).trans s6) c6 (by have:=Cv.strip_length (ts.map fun t=>Sv t (B*s));rw[S7]at this;lia) (AL _) (fun c hc=>?_) fun x=>?_
  ·have hc':=Cv.strip_mem _ c hc
   obtain⟨t,ht,rfl⟩:=(U4.mp hc')
   exact RB.div (m:=0) ((hbt t ht).mono (by lia)) ((hbB.mul hbsc).mono (by lia)) hb0
  rw[Cv.ev_strip]
  have h7:=JI hb0 x ts
  rw[he x,TQ,Tv,Tv,<- SH]at h7
  exact Mj (Nm.cast_ne hb0) h7
theorem GV:Aq ["places"] ["places"] (Ae (top 43)):=⟨rfl,rfl,rfl,by decide +kernel,rfl,by decide +kernel,by decide +kernel⟩
theorem Hd{f:Addr}{fd:FuncData}(F:Fun K "nought_at" "nought_at" (top 43) f fd)(Qx:Fd P w K mg base 36 "by_steps" ["knots","steps"] (Ep K))(Pm:mg "len" = none){a_NOUGHT:Addr}(c_NOUGHT:mg "NOUGHT" = some (.ref a_NOUGHT))(n_NOUGHT:∀H:Hp,Az K H (.ref a_NOUGHT) (0))(hT:P.given.tree=none) :
 AO P w K mg base CX0 37 f fd ["places"] (DS K):=by
 refine F.ok GV (fun vs H Q E h=>?_) (fun cdv A outer s H vs Q E hr h=>?_)
 ·obtain⟨_,_,_,_,rfl,_⟩:=h;rfl
 refine⟨_,(@Ag _ _ _ (@Av _ _ _ _ (@Ak _ _ _ _ _ _ _ _ _ _ _ Qx hr rfl (@A0 _ _ _ _ _ (@Ah _ _ _ _ _ _ _ _ Ew (pv 0) (@Bj _ _ _ _ (@A0 _ _ _ _ _ (@DG _ _ (.ref a_NOUGHT) _ _ rfl c_NOUGHT rfl (by decide)) Ab (by rfl)))) (@A0 _ _ _ _ _ (@Ah _ _ _ _ _ _ _ _ Ew (@Ah _ _ _ _ _ _ _ _ FE (@Bj _ _ _ _ (@A0 _ _ _ _ _ (@DG _ _ (.ref a_NOUGHT) _ _ rfl c_NOUGHT rfl (by decide)) Ab (by rfl))) (@Al _ _ _ _ _ _ _ _ _ (Bs K) rfl Pm AD (@A0 _ _ _ _ _ (pv 0) Ab (by rfl)) (by decide) (by decide) (by rfl) (by rfl))) (@Bj _ _ _ _ (@A0 _ _ _ _ _ (@AG _ _ _ _ _ (@A0 _ _ _ _ _ Aa (@A0 _ _ _ _ _ Aa Ab (by rfl)) (by rfl))) Ab (by rfl)))) Ab (by rfl)) (by rfl)) (by decide) (by decide) (by rfl) (by rfl)))),?_⟩
 obtain⟨l,zs,qs,n,rfl,hl,hN,hb,hn1,hn,h12,q⟩:=h
 have P1:1<=sizeLine:=by decide
 have P2:2<=sizeLine:=by decide
 have P60:60<=sizeLine:=by decide
 have hzl:=hN.length
 refine⟨_,rfl,P1,fun o1 h1=>?_⟩
 have n1:=Af.new (o:=.lst [.ref a_NOUGHT]) h1
 refine⟨l,o1,zs,[.ref a_NOUGHT],rfl,rfl,n1 _ _ hl,Ac,Rw (show _<=60 by rw[Sk];lia) P60,fun o2 h2=>?_⟩
 have n2:=Af.new (o:=.lst (zs++[.ref a_NOUGHT])) h2
 have s2:=n1.trans n2
 have e2:=Ac (H:=upd H o1 (.lst [.ref a_NOUGHT])) (a:=o2) (o:=.lst (zs++[.ref a_NOUGHT]))
 generalize upd (upd H o1 (.lst [.ref a_NOUGHT])) o2 (.lst (zs++[.ref a_NOUGHT]))=H2 at s2 e2 ⊢
 refine⟨P1,fun o3 h3=>?_⟩
 have n3:=Af.new (o:=.lst [.ref a_NOUGHT]) h3
 refine⟨_,rfl,l,zs,rfl,.inl (SqL.of (n3 _ _ (s2 _ _ hl))),o3,_,[.ref a_NOUGHT],rfl,rfl,Ac,by lia,by lia,Rw (show _<=60 by show 1*_<=60;lia) P60,fun o4 h4=>?_⟩
 rw[Sb,Om]
 have n4:=n3.trans (Af.new (o:=.lst (RX zs.length (.ref a_NOUGHT))) h4)
 have e4:=Ac (H:=upd H2 o3 (.lst [.ref a_NOUGHT])) (a:=o4) (o:=.lst (RX zs.length (.ref a_NOUGHT)))
 generalize upd (upd H2 o3 (.lst [.ref a_NOUGHT])) o4 (.lst (RX zs.length (.ref a_NOUGHT)))=H4 at n4 e4 ⊢
 refine⟨P2,fun t5 h5=>⟨P1,fun o6 h6=>?_⟩⟩
 have n5:=Af.new (o:=.tup [.int 1,.int 1]) h5
 have n6:=Af.new (o:=.lst [.ref t5]) h6
 have e5:=n6 _ _ (Ac (H:=H4) (a:=t5) (o:=.tup [.int 1,.int 1]))
 refine⟨o4,o6,_,_,rfl,rfl,n6 _ _ (n5 _ _ e4),Ac,Rw (show _<=60 by rw[Sk,S8];lia) P60,fun o7 h7=>?_⟩
 have n7:=Af.new (o:=.lst (RX zs.length (.ref a_NOUGHT)++[.ref t5])) h7
 have s47:=(n5.trans n6).trans n7
 have s27:=n4.trans s47
 have e7:=Ac (H:=upd (upd H4 t5 (.tup [.int 1,.int 1])) o6 (.lst [.ref t5])) (a:=o7) (o:=.lst (RX zs.length (.ref a_NOUGHT)++[.ref t5]))
 have e5:=n7 _ _ e5
 generalize upd (upd (upd H4 t5 (.tup [.int 1,.int 1])) o6 (.lst [.ref t5])) o7 (.lst (RX zs.length (.ref a_NOUGHT)++[.ref t5]))=H7 at s27 e7 e5 ⊢
 have hrb0:RB n (0:Rat):=⟨(show Bd 1 0 by unfold Bd;decide).mono hn1,(show Bd 1 1 by unfold Bd;decide).mono hn1⟩
 have hrb1:RB n (1:Rat):=⟨(show Bd 1 1 by unfold Bd;decide).mono hn1,(show Bd 1 1 by unfold Bd;decide).mono hn1⟩
 refine⟨o2,o7,_,_,qs++[0],RX qs.length 0++[1],n,rfl,SqL.of (s27 _ _ e2),Paired.append (Ar.same hN (s2.trans s27)) (.cons (n_NOUGHT _) .nil),SqL.of e7,?_,by rw[S6,S6,S8];rfl,by rw[S6,Sk];lia,?_,?_,by lia,fun p H' cs s8 cC hcl hg hrb hev=>?_⟩
 ·rw[<- hzl]
  exact Paired.append (HZ (n_NOUGHT _) _) (.cons ⟨t5,rfl,SqT.of e5⟩ .nil)
 ·intro c hc
  rcases RD.mp hc with z | z
  ·exact hb c z
  ·rw[Td.mp z];exact hrb0
 ·intro c hc
  rcases RD.mp hc with z | z
  ·rw[UT z];exact hrb0
  ·rw[Td.mp z];exact hrb1
 have ecs:cs=prL qs:=BD hg (Dx qs) fun x=>by rw[hev x,Ed,C7]
 rw[ecs]at cC hrb
 refine q p H' ((s2.trans s27).trans s8) cC fun c hc=>(hrb c hc).mono ?_
 have e:(qs++[(0:Rat)]).length=qs.length+1:=by rw[S6,Sk]
 have:=V4 n (show qs.length+1<=13 by lia)
 rw[e]
 lia
theorem Me:Aq ["a","b"] ["a","b"] (Ae (top 10)):=⟨rfl,rfl,rfl,by decide +kernel,rfl,by decide +kernel,by decide +kernel⟩
theorem Mr{f:Addr}{fd:FuncData}(F:Fun K "over" "over" (top 10) f fd)(PJ:Fd P w K mg base 34 "number_of" ["top","bottom"] (CP))(hT:P.given.tree=none) :
 AO P w K mg base CX0 35 f fd ["a","b"] (IU K):=by
 refine F.ok Me (fun vs H Q E h=>?_) (fun cdv A outer s H vs Q E hr h=>?_)
 ·obtain⟨_,_,_,_,_,_,rfl,_⟩:=h;rfl
 refine⟨_,(@Ag _ _ _ (@Av _ _ _ _ (@Ak _ _ _ _ _ _ _ _ _ _ _ PJ hr rfl (@A0 _ _ _ _ _ (@Ah _ _ _ _ _ _ _ _ Au (@Aj _ _ _ _ _ _ _ (ixT K) (pv 0) Aa (fun u v=>rfl)) (@Aj _ _ _ _ _ _ _ (ixT K) (pv 1) Aa (fun u v=>rfl))) (@A0 _ _ _ _ _ (@Ah _ _ _ _ _ _ _ _ Au (@Aj _ _ _ _ _ _ _ (ixT K) (pv 0) Aa (fun u v=>rfl)) (@Aj _ _ _ _ _ _ _ (ixT K) (pv 1) Aa (fun u v=>rfl))) Ab (by rfl)) (by rfl)) (by decide) (by decide) (by rfl) (by rfl)))),?_⟩
 obtain⟨x,y,p,q,m,n,rfl,⟨r,rfl,hr'⟩,⟨u,rfl,hu⟩,q0,hp,hq,hmn,k⟩:=h
 have hn:q.num≠0:=fun z=>q0 (UW.mp z)
 refine⟨_,rfl,r,_,_,_,rfl,rfl,hr',rfl,_,rfl,u,_,_,_,rfl,rfl,hu,rfl,_,_,rfl,rfl,Bk.bd hp.1 hq.2,?_⟩
 refine⟨_,rfl,r,_,_,_,rfl,rfl,hr',rfl,_,rfl,u,_,_,_,rfl,rfl,hu,rfl,_,_,rfl,rfl,Bk.bd hp.2 hq.1,?_⟩
 refine⟨_,_,rfl,SF (Nm.den_ne p) hn,fun z hz=>?_⟩
 have e:=k z hz
 rw[<- Jw p q q0]at e
 exact e
theorem AM:Aq ["first","second","lead","often","rest","shift","top","k"] ["first","second"] (Ae (top 23)):=⟨rfl,rfl,rfl,by decide +kernel,rfl,by decide +kernel,by decide +kernel⟩
theorem Ea{f:Addr}{fd:FuncData}(F:Fun K "whole_division" "whole_division" (top 23) f fd)(PH:mg "list" = none)(Pn:mg "range" = none)(Pm:mg "len" = none)(hT:P.given.tree=none) :
 AO P w K mg base CX0 33 f fd ["first","second"] (Jm K):=by
 refine F.ok AM (fun vs H Q E h=>?_) (fun cdv A outer s H vs Q E hr h=>?_)
 ·obtain⟨_,_,_,_,_,_,_,rfl,_⟩:=h;rfl
 refine⟨_,(@Ad _ _ _ _ _ K _ (@Ai _ _ 2 _ _ _ _ AM.nd rfl (Or.inr rfl) (@Aj _ _ _ _ _ _ _ (ixL K) (pv 1) (@Ci _ _ _ _ _ _ BS Aa) (fun u v=>rfl)) (by rfl) (by first   | exact .inl rfl   | exact .inr rfl   | assumption)) (@Ad _ _ _ _ _ K _ (@Ai _ _ 3 _ _ _ _ AM.nd rfl (Or.inl rfl) (@Bj _ _ _ _ Ab) (by rfl) (by first   | exact .inl rfl   | exact .inr rfl   | assumption)) (@Ad _ _ _ _ _ K _ (@Ai _ _ 4 _ _ _ _ AM.nd rfl (Or.inl rfl) (@Cr _ _ _ _ _ _ _ _ _ (Ls K) rfl PH Ff (@A0 _ _ _ _ _ (pv 0) Ab (by rfl)) (by decide) (by decide) (by rfl) (by rfl)) (by rfl) (by first   | exact .inl rfl   | exact .inr rfl   | assumption)) (@Ad _ _ _ _ _ K _ (@BA _ _ _ _ _ _ _ _ K _ PassesOwn.never rfl (@Jv _ _ _ _ _ _ _ _ rfl Pn (@A0 _ _ _ _ _ (@Ah _ _ _ _ _ _ _ _ Ba (@Al _ _ _ _ _ _ _ _ _ (Bs K) rfl Pm AD (@A0 _ _ _ _ _ (pv 0) Ab (by rfl)) (by decide) (by decide) (by rfl) (by rfl)) (@Al _ _ _ _ _ _ _ _ _ (Bs K) rfl Pm AD (@A0 _ _ _ _ _ (pv 1) Ab (by rfl)) (by decide) (by decide) (by rfl) (by rfl))) (@A0 _ _ _ _ _ (@Ci _ _ _ _ _ _ BS Aa) (@A0 _ _ _ _ _ (@Ci _ _ _ _ _ _ BS Aa) Ab (by rfl)) (by rfl)) (by rfl)) (by rfl) (by rfl)) (@Ax _ _ 5 _ AM.nd rfl (Or.inl rfl) (by first   | exact .inl rfl   | exact .inr rfl   | assumption)) (@Ad _ _ _ _ _ K _ (@Ai _ _ 6 _ _ _ _ AM.nd rfl (Or.inl rfl) (@Aj _ _ _ _ _ _ _ (ixL K) (pv 4) (@Ci _ _ _ _ _ _ BS Aa) (fun u v=>rfl)) (by rfl) (by first   | exact .inl rfl   | exact .inr rfl   | assumption)) (@Ad _ _ _ _ _ K _ (@Ai _ _ 3 _ _ _ _ AM.nd rfl (Or.inl rfl) (@Ah _ _ _ _ _ _ _ _ Ew (@Bj _ _ _ _ (@A0 _ _ _ _ _ (pv 6) Ab (by rfl))) (@CT _ (["number","lead"]) 1 ([2]) _ _ _ _ _ _ _ _ _ _ rfl (Be.look (NX:=["first","second","lead","often","rest","shift","top","k"]) (sc:=Ae (top 23)) rfl rfl (by decide +kernel)) (@piL _ K _ _ _ (pv 3) (by rfl)) (fun u1 u2 u3 u4 u5=>(@Ax _ _ 0 _ (show List.Nodup (["number","lead"]:List Str) from by decide +kernel) rfl (Or.inl rfl) (by first   | exact .inl rfl   | exact .inr rfl   | assumption))) (AK (by decide)) (fun u1 u2 u3 u4 u5=>Bq) (fun u1 u2 u3 u4 u5=>(@Ah _ _ _ _ _ _ _ _ Au (pv 1) (pv 0))) (by intro _;rfl))) (by rfl) (by first   | exact .inl rfl   | exact .inr rfl   | assumption)) (@Ad _ _ _ _ _ K _ (@Fy _ (["number","lead"]) 1 ([2]) _ _ _ _ _ _ _ _ _ _ 4 _ _ _ rfl AM.nd rfl rfl (Be.look (NX:=["first","second","lead","often","rest","shift","top","k"]) (sc:=Ae (top 23)) rfl rfl (by decide +kernel)) (@piL _ K _ _ _ (@Cz _ _ _ _ _ _ _ _ _ _ (slL K) (pv 4) De (@Dd _ _ _ (@Ci _ _ _ _ _ _ BS Aa))) (by rfl)) (fun u1 u2 u3 u4 u5=>(@Ax _ _ 0 _ (show List.Nodup (["number","lead"]:List Str) from by decide +kernel) rfl (Or.inl rfl) (by first   | exact .inl rfl   | exact .inr rfl   | assumption))) (AK (by decide)) (fun u1 u2 u3 u4 u5=>Bq) (fun u1 u2 u3 u4 u5=>(@Ah _ _ _ _ _ _ _ _ Au (pv 1) (pv 0))) rfl (by intro _;rfl)) (@Ag _ _ _ (@BA _ _ _ _ _ _ _ _ K _ PassesOwn.never rfl (@BE _ _ _ _ _ _ rfl Pn (@A0 _ _ _ _ _ (@Ah _ _ _ _ _ _ _ _ Ba (@Al _ _ _ _ _ _ _ _ _ (Bs K) rfl Pm AD (@A0 _ _ _ _ _ (pv 1) Ab (by rfl)) (by decide) (by decide) (by rfl) (by rfl)) Aa) Ab (by rfl)) (by rfl)) (@Ax _ _ 7 _ AM.nd rfl (Or.inl rfl) (by first   | exact .inl rfl   | exact .inr rfl   | assumption)) (@Ag _ _ _ (@DW _ _ _ _ _ _ (@Ah _ _ _ _ _ _ _ _ Ba (@Aj _ _ _ _ _ _ _ (ixL K) (pv 4) (@Ah _ _ _ _ _ _ _ _ AR (pv 7) (pv 5)) (fun u v=>rfl)) (@Ah _ _ _ _ _ _ _ _ Au (pv 6) (@Aj _ _ _ _ _ _ _ (ixL K) (pv 1) (pv 7) (fun u v=>rfl)))) (@Eu _ _ _ _ _ _ _ (pv 4) (@Ah _ _ _ _ _ _ _ _ AR (pv 7) (pv 5)) CQ (by intro _;rfl)) (by rfl) (by rfl) (by rfl))) (by rfl) (by intro _;rfl))) (by rfl)) (by rfl)) (by rfl)) (by rfl) (by intro _;rfl)) (@Ag _ _ _ (@Av _ _ _ _ (@AG _ _ _ _ _ (@A0 _ _ _ _ _ (pv 3) (@A0 _ _ _ _ _ (pv 4) Ab (by rfl)) (by rfl))))) (by rfl)) (by rfl)) (by rfl)) (by rfl)),?_⟩
 obtain⟨f,g,fs,gs,lead,M,L,rfl,hf,hg,hlead,hf1000,hg1000,hbf,hbg,hM,hL,q⟩:=h
 have P0:0<=sizeLine:=by decide
 have P1:1<=sizeLine:=by decide
 have P2:2<=sizeLine:=by decide
 have lf:(fs.map V.int).length=fs.length:=S7 _
 have lg:(gs.map V.int).length=gs.length:=S7 _
 have hg1:1<=gs.length:=by have:=(RF.mp hlead).1;lia
 have hlv:(gs.map V.int)[(gs.map V.int).length-1]? = some (V.int lead):=by rw[lg,S3,hlead];rfl
 have bl:Bd L lead:=hbg _ (S5 hlead)
 refine⟨_,rfl,_,rfl,g,_,_,_,rfl,rfl,hg,BY hlv,?_⟩
 refine⟨P0,fun oa hoa=>?_⟩
 have s1:Af H (upd H oa (.lst [])):=Af.new hoa
 refine⟨_,rfl,f,_,rfl,.inl (Af.seq s1 hf),fun ra hra=>?_⟩
 have s2:=s1.trans (Af.new (o:=.lst (fs.map V.int)) hra)
 have hraH:H ra=none:=by
  cases z:H ra with
  | none=>rfl
  | some u=>rw[s1 ra u z]at hra;cases hra
 refine⟨_,rfl,f,_,rfl,.inl (Af.seq s2 hf),_,rfl,g,_,rfl,.inl (Af.seq s2 hg),_,_,rfl,rfl,_,rfl,_,rfl,_,_,rfl,⟨by rw[lf,lg];lia,by rw[lf,lg];lia,by decide,by decide⟩,?_⟩
 have eT:(((fs.map V.int).length:Int)-((gs.map V.int).length:Int) - -1).toNat=fs.length+1-gs.length:=by rw[lf,lg];lia
 rw[eT]
 have ra0:(upd (upd H oa (.lst [])) ra (.lst (fs.map V.int))) ra=some (.lst (fs.map V.int)):=Ac
 have oa0:(upd (upd H oa (.lst [])) ra (.lst (fs.map V.int))) oa=some (.lst (([]:List Int).map V.int)):=(Af.new hra) _ _ Ac
 refine Iq (n:=fs.length+1-gs.length) (L8 H f g lead fs gs M L fun H f g lead fs gs M L j σ H'=>Af H H'/\∃(oa ra:Addr) (os rs:List Int) (z5 z6 z7:Option V),σ=[some (.ref f),some (.ref g),some (.int lead),some (.ref oa),some (.ref ra),z5,z6,z7]/\H' oa=some (.lst (os.map V.int))/\H' ra=some (.lst (rs.map V.int))/\os.length=j/\rs.length=fs.length-j /\
  (∀x,Cv.evI fs x*((lead ^ j:Int):Rat)=Cv.evI os x*x ^ (fs.length+1-gs.length-j)*Cv.evI gs x+Cv.evI rs x)/\(∀t∈os,Bd (M+j*(L+1)) t)/\(∀t∈rs,Bd (M+j*(L+1)) t)/\(j=0->rs=fs)/\(os≠[]->∃t,fs[fs.length-1]? = some t/\os[os.length-1]? = some (lead ^ (os.length-1)*t)))
  ⟨s2,oa,ra,[],fs,none,none,none,rfl,oa0,ra0,rfl,rfl,fun x=>?_,(fun _ h=>nomatch h),(fun t ht=>(hbf t ht).mono (by lia)),fun _=>rfl,fun h=>absurd rfl h⟩ ?_ ?_
 ·rw[Tx]
  show Cv.evI fs x*((1:Int):Rat)=0*_*_+_
  rw[Rat.intCast_one];grind
 ·rintro j σ H' hj hR1
  refine BO hR1 fun sm hz68=>?_
  refine NU hz68 fun oa ra os rs z5 z6 z7 hz68'=>?_
  clear hz68
  refine JU hz68' fun hq67 eo er hol hrl hev hbo hbr hfs htop=>?_
  clear hz68'
  obtain rfl:=hq67
  try clear hR1
  have hjL:j*(L+1)<=fs.length*(L+1):=Tt _ (by lia)
  have hjL1:(j+1)*(L+1)=j*(L+1)+L+1:=by rw[Tr];lia
  have hrp:rs.length-1<rs.length:=by lia
  have hr0:rs[rs.length-1]? = some rs[rs.length-1]:=Te hrp
  generalize htp:rs[rs.length-1]=tp at hr0
  have btp:Bd (M+j*(L+1)) tp:=by rw[<- htp];exact hbr _ (Tf hrp)
  have hrv:(rs.map V.int)[(rs.map V.int).length-1]? = some (V.int tp):=by rw[S7,S3,hr0];rfl
  refine⟨_,rfl,_,rfl,ra,_,_,_,rfl,rfl,SqL.of er,BY hrv,?_⟩
  refine⟨_,rfl,P1,fun t1 ht1=>?_⟩
  have sa:Af H' (upd H' t1 (.lst [.int tp])):=Af.new ht1
  refine C3 ⟨_,rfl,oa,rfl,⟨_,SqL.of (sa _ _ eo)⟩,?_⟩
  refine Dh (xs:=os.map V.int) (L5 H' t1 tp os lead fun H' t1 tp os lead i zs H2=>H2=upd H' t1 (.lst [.int tp])/\zs=((os.take i).map (lead * ·)).map V.int) ⟨rfl,rfl⟩ (fun i zs H2 hi p=>⟨by rw[p.1];exact SqL.of (sa _ _ eo),by rw[p.2,S7,S7,RY];rw[S7]at hi;lia⟩) (by rw[S7];exact Rx (AF (by lia))) ?_ ?_
  ·rintro i v zs H2 hv ⟨rfl,rfl⟩
   rw[S3]at hv
   cases et:os[i]? with
   | none=>rw[et]at hv;cases hv
   | some t =>
     rw[et]at hv
     cases hv
     exact⟨_,rfl,_,rfl,_,_,rfl,rfl,Bk.bd bl (hbo t (S5 et)) (by lia),rfl,FL i et⟩
  rintro zs H2 ⟨rfl,rfl⟩ l1 hl1
  rw[show os.take (os.map V.int).length=os by rw[S7,SW]]
  have sb:=sa.trans (Af.new (o:=.lst ((os.map (lead * ·)).map V.int)) hl1)
  have et1:=(Af.new (o:=.lst ((os.map (lead * ·)).map V.int)) hl1) _ _ (Ac (H:=H') (a:=t1) (o:=.lst [.int tp]))
  refine⟨t1,l1,_,_,rfl,rfl,et1,Ac,by rw[S7,S7];exact Rx (AF (by show 1+os.length<=1000;lia)),fun o2 ho2=>?_⟩
  have sc:=sb.trans (Af.new (o:=.lst ([V.int tp]++(os.map (lead * ·)).map V.int)) ho2)
  have eo2:(upd (upd (upd H' t1 (.lst [.int tp])) l1 (.lst ((os.map (lead * ·)).map V.int))) o2 (.lst ([V.int tp]++(os.map (lead * ·)).map V.int))) o2=some (.lst ((tp::os.map (lead * ·)).map V.int)):=Ac
  generalize upd (upd (upd H' t1 (.lst [.int tp])) l1 (.lst ((os.map (lead * ·)).map V.int))) o2 (.lst ([V.int tp]++(os.map (lead * ·)).map V.int))=H3 at sc eo2 ⊢
  have er3:=sc _ _ er
  have smc:=sm.trans sc
  have rt:(rs.map V.int).take ((rs.map V.int).length-1)=(rs.take (rs.length-1)).map V.int:=by rw[S7,V6]
  refine C3 ⟨_,rfl,_,rfl,_,rfl,ra,_,rfl,SqL.of er3,fun c hc=>?_⟩
  rw[LS,rt]
  have sd:Af H3 (upd H3 c (.lst ((rs.take (rs.length-1)).map V.int))):=Af.new hc
  refine⟨c,rfl,⟨_,SqL.of Ac⟩,?_⟩
  refine Dh (xs:=(rs.take (rs.length-1)).map V.int) (L4 H3 c rs lead fun H3 c rs lead i zs H2=>H2=upd H3 c (.lst ((rs.take (rs.length-1)).map V.int))/\zs=(((rs.take (rs.length-1)).take i).map (lead * ·)).map V.int) ⟨rfl,rfl⟩ (fun i zs H2 hi p=>⟨by rw[p.1];exact SqL.of Ac,by rw[p.2,S7,S7,RY];rw[S7]at hi;lia⟩) (by rw[S7,RY];exact Rx (AF (by lia))) ?_ ?_
  ·rintro i v zs H2 hv ⟨rfl,rfl⟩
   rw[S3]at hv
   cases et:(rs.take (rs.length-1))[i]? with
   | none=>rw[et]at hv;cases hv
   | some t =>
     rw[et]at hv
     cases hv
     exact⟨_,rfl,_,rfl,_,_,rfl,rfl,Bk.bd bl (hbr t (UL (S5 et))) (by lia),rfl,FL i et⟩
  rintro zs H2 ⟨rfl,rfl⟩ r2 hr2
  have ez:(rs.take (rs.length-1)).take ((rs.take (rs.length-1)).map V.int).length=rs.take (rs.length-1):=by rw[S7,SW]
  rw[ez]
  have se:=sd.trans (Af.new (o:=.lst (((rs.take (rs.length-1)).map (lead * ·)).map V.int)) hr2)
  have er2:(upd (upd H3 c (.lst ((rs.take (rs.length-1)).map V.int))) r2 (.lst (((rs.take (rs.length-1)).map (lead * ·)).map V.int))) r2=some (.lst (((rs.take (rs.length-1)).map (lead * ·)).map V.int)):=Ac
  have hr2H:H r2=none:=by
   cases z:H r2 with
   | none=>rfl
   | some u=>rw[sd r2 u (smc r2 u z)]at hr2;cases hr2
  have r2o:r2≠o2:=fun z=>by rw[z,sd _ _ eo2]at hr2;cases hr2
  have eo4:=se _ _ eo2
  have sm4:=smc.trans se
  generalize upd (upd H3 c (.lst ((rs.take (rs.length-1)).map V.int))) r2 (.lst (((rs.take (rs.length-1)).map (lead * ·)).map V.int))=H4 at er2 eo4 sm4 ⊢
  have rl4:((rs.take (rs.length-1)).map (lead * ·)).length=fs.length-(j+1):=by rw[S7,RY];lia
  have ev4:∀x,Cv.evI ((rs.take (rs.length-1)).map (lead * ·)) x=(lead:Rat)*(Cv.evI rs x-(tp:Rat)*x ^ (rs.length-1)):=fun x=>by
   rw[Cv.evI_scale,Cv.evI_last x rs tp hr0];grind
  have br4:∀t∈(rs.take (rs.length-1)).map (lead * ·),Bd (M+j*(L+1)+L) t:=fun t ht=>by
   obtain⟨u,hu,rfl⟩:=(U4.mp ht)
   exact(bl.mul (hbr u (UL hu))).mono (by lia)
  generalize(rs.take (rs.length-1)).map (lead * ·)=r4 at er2 rl4 ev4 br4
  refine⟨_,rfl,g,_,rfl,.inl (Af.seq sm4 hg),_,_,rfl,rfl,_,rfl,by rw[lg];lia,by rw[lg];lia,?_⟩
  have eN:(((gs.map V.int).length:Int)-1).toNat=gs.length-1:=by rw[lg];lia
  rw[eN]
  have hsh:((fs.map V.int).length:Int)-((gs.map V.int).length:Int)-(j:Int)=((fs.length-gs.length-j:Nat):Int):=by rw[lf,lg];lia
  rw[hsh]
  generalize hS:fs.length-gs.length-j=S at hsh ⊢
  refine Ce (n:=gs.length-1) (L15 H o2 tp os lead f g r2 S fs j rs gs M L fun H o2 tp os lead f g r2 S fs j rs gs M L i σ H5=>Af H H5/\H5 o2=some (.lst ((tp::os.map (lead * ·)).map V.int))/\∃(ps:List Int) (z7:Option V),σ=[some (.ref f),some (.ref g),some (.int lead),some (.ref o2),some (.ref r2),some (.int (S:Int)),some (.int tp),z7]/\H5 r2=some (.lst (ps.map V.int))/\ps.length=fs.length-(j+1) /\
   (∀x,Cv.evI ps x=(lead:Rat)*(Cv.evI rs x-(tp:Rat)*x ^ (rs.length-1))-(tp:Rat)*x ^ S*Cv.evI (gs.take i) x)/\(∀k t,ps[k]? = some t->Bd (if k<S+i then M+j*(L+1)+L+1 else M+j*(L+1)+L) t))
   ⟨sm4,eo4,r4,_,rfl,er2,rl4,fun x=>?_,fun k t ht=>?_⟩ ?_ ?_
  ·rw[ev4 x,TR]
   show _=_-_*(0:Rat)
   grind
  ·split
   ·exact(br4 t (S5 ht)).mono (by lia)
   ·exact br4 t (S5 ht)
  ·rintro i σ H5 hi hR2
   refine Dp hR2 fun sm5 eo5 hz70=>?_
   refine Dm hz70 fun ps z7' hz70'=>?_
   clear hz70
   refine Cq hz70' fun hq69 ep hpl hev5 hbp=>?_
   clear hz70'
   obtain rfl:=hq69
   try clear hR2
   have hgi:gs[i]? = some gs[i]:=Te (by lia)
   have hik:i+S<ps.length:=by lia
   have hpk:ps[i+S]? = some ps[i+S]:=Te hik
   have bm:Bk tp gs[i]:=Bk.bd btp (hbg _ (Tf (by lia))) (by lia)
   refine⟨_,rfl,_,rfl,_,rfl,_,_,rfl,rfl,r2,_,_,_,rfl,rfl,SqL.of ep,CM hpk (by lia),_,rfl,_,rfl,_,rfl,g,_,_,_,rfl,rfl,Af.seq sm5 hg,CM hgi (by lia),_,_,rfl,rfl,bm,_,_,rfl,rfl,?_⟩
   refine⟨_,rfl,_,rfl,_,rfl,_,_,rfl,rfl,r2,_,_,i+S,rfl,rfl,ep,FK (by rw[S7];exact hik) (by lia),?_⟩
   refine⟨sm5.put hr2H,by rw[Aw (Ne.symm r2o)];exact eo5,ps.set (i+S) (ps[i+S] + -(tp*gs[i])),_,rfl,?_,by rw[Sh];exact hpl,fun x=>?_,fun k t ht=>?_⟩
   ·rw[Ac,SR,<- Tp]
   ·rw[Cv.evI_set x ps (i+S) _ _ hpk,hev5 x,Cv.evI_take_succ x gs i _ hgi,Rat.intCast_neg,SH,Nm.pow_add]
    grind
   ·by_cases hk:k=i+S
    ·subst hk
     rw[RG hik]at ht
     cases ht
     rw[if_pos (by lia),<- Tp]
     have b1:=hbp _ _ hpk
     rw[if_neg (by lia)]at b1
     exact Bd.sub b1 ((btp.mul (hbg _ (Tf (by lia)))).mono (by lia))
    ·rw[RH (fun z=>hk z.symm)]at ht
     have b1:=hbp k t ht
     split
     ·split at b1
      ·exact b1
      ·exact b1.mono (by lia)
     ·rw[if_neg (by lia)]at b1;exact b1
  ·rintro σ H5 hR3
   refine Dp hR3 fun sm5 eo5 hz72=>?_
   refine Dm hz72 fun ps z7' hz72'=>?_
   clear hz72
   refine Cq hz72' fun hq71 ep hpl hev5 hbp=>?_
   clear hz72'
   obtain rfl:=hq71
   try clear hR3
   have hgl:gs.take (gs.length-1)=gs.take (gs.length-1):=rfl
   refine⟨sm5,o2,r2,tp::os.map (lead * ·),ps,_,_,_,rfl,eo5,ep,by rw[SO,S7];lia,hpl,fun x=>?_,fun t ht=>?_,fun t ht=>?_,fun z=>absurd z (by lia),fun _=>?_⟩
   ·have h1:=hev x
    have h2:=hev5 x
    have h3:=Cv.evI_last x gs lead hlead
    have e1:fs.length+1-gs.length-j=S+1:=by lia
    have e2:fs.length+1-gs.length-(j+1)=S:=by lia
    have e3:rs.length-1=S+(gs.length-1):=by lia
    rw[e1]at h1
    rw[e2,h2,Cv.evI_cons,Cv.evI_scale,Tz,SH,<- TF,h1,h3,e3,Nm.pow_add,SM]
    grind
   ·rcases RC.mp ht with z | z
    ·rw[z];exact btp.mono (by lia)
    ·obtain⟨u,hu,rfl⟩:=(U4.mp z)
     exact(bl.mul (hbo u hu)).mono (by lia)
   ·obtain⟨k,hk⟩:=(U8 ht)
    have:=hbp k t hk
    split at this<;>exact this.mono (by lia)
   ·by_cases hj0:j=0
    ·have ho:os=[]:=SX (by lia)
     rw[hfs hj0]at hr0
     refine⟨tp,hr0,?_⟩
     rw[ho]
     show some tp=some (lead ^ 0*tp)
     rw[Tx,Sy]
    ·obtain⟨t,ht,ho⟩:=htop (fun z=>by rw[z]at hol;exact hj0 hol.symm)
     refine⟨t,ht,?_⟩
     rw[SO,S7,Ur]
     have e:os.length=(os.length-1)+1:=by lia
     rw[e,SQ,S3,ho]
     show some (lead*(lead ^ (os.length-1)*t))=some (lead ^ (os.length-1+1)*t)
     rw[Tz]
     congr 1
     grind
 ·rintro σ H' hR4
  refine BO hR4 fun sm hz74=>?_
  refine NU hz74 fun oa ra os rs z5 z6 z7 hz74'=>?_
  clear hz74
  refine JU hz74' fun hq73 eo er hol hrl hev hbo hbr hfs htop=>?_
  clear hz74'
  obtain rfl:=hq73
  try clear hR4
  refine⟨_,rfl,_,rfl,P2,fun p hp=>?_⟩
  have s9:Af H' (upd H' p (.tup [.ref oa,.ref ra])):=Af.new hp
  refine q p oa ra _ os rs (sm.trans s9) Ac (s9 _ _ eo) (s9 _ _ er) ⟨hol,?_,fun x=>?_,(fun t ht=>by rw[hol];exact hbo t ht),(fun t ht=>by rw[hol];exact hbr t ht),htop⟩
  ·rw[hrl];lia
  ·have:=hev x
   rw[TQ,SK,TJ]at this
   rw[hol]
   exact this
theorem DE:Aq ["base","many","power","turn"] ["base","many"] (Ae (top 22)):=⟨rfl,rfl,rfl,by decide +kernel,rfl,by decide +kernel,by decide +kernel⟩
theorem K6{f:Addr}{fd:FuncData}(F:Fun K "raised" "raised" (top 22) f fd)(Pn:mg "range" = none)(hT:P.given.tree=none) :
 AO P w K mg base CX0 33 f fd ["base","many"] (E2):=by
 refine F.ok DE (fun vs H Q E h=>?_) (fun cdv A outer s H vs Q E hr h=>?_)
 ·obtain⟨_,_,_,rfl,_⟩:=h;rfl
 refine⟨_,(@Ad _ _ _ _ _ K _ (@Ai _ _ 2 _ _ _ _ DE.nd rfl (Or.inl rfl) Aa (by rfl) (by first   | exact .inl rfl   | exact .inr rfl   | assumption)) (@Ad _ _ _ _ _ K _ (@BA _ _ _ _ _ _ _ _ K _ PassesOwn.never rfl (@BE _ _ _ _ _ _ rfl Pn (@A0 _ _ _ _ _ (pv 1) Ab (by rfl)) (by rfl)) (@Ax _ _ 3 _ DE.nd rfl (Or.inl rfl) (by first   | exact .inl rfl   | exact .inr rfl   | assumption)) (@Ag _ _ _ (@Ai _ _ 2 _ _ _ _ DE.nd rfl (Or.inl rfl) (@Ah _ _ _ _ _ _ _ _ Au (pv 2) (pv 0)) (by rfl) (by first   | exact .inl rfl   | exact .inr rfl   | assumption))) (by rfl) (by intro _;rfl)) (@Ag _ _ _ (@Av _ _ _ _ (pv 2))) (by rfl)) (by rfl)),?_⟩
 obtain⟨b,n,L,rfl,hn,hb,hL,q⟩:=h
 refine⟨_,rfl,_,rfl,by lia,by lia,?_⟩
 rw[Sb]
 refine Ce (n:=n) (L3 H b n fun H b n i σ H'=>H'=H/\∃z,σ=[some (.int b),some (.int n),some (.int (b ^ i)),z]) ⟨rfl,none,by rw[Tx];rfl⟩ ?_ ?_
 ·rintro i σ H' hi ⟨rfl,z,rfl⟩
  have hLi:L*i<=L*n:=V4 _ (by lia)
  exact⟨_,rfl,_,rfl,_,_,rfl,rfl,Bk.bd (Bd.pow hb i) hb (by lia),rfl,some (.int (0+(i:Int))),by rw[Tz];rfl⟩
 ·rintro σ H' ⟨rfl,z,rfl⟩
  exact⟨_,rfl,q⟩
theorem C0:Aq ["one","other","bottom","under","second","parts","scale","often"] ["one","other"] (Ae (top 24)):=⟨rfl,rfl,rfl,by decide +kernel,rfl,by decide +kernel,by decide +kernel⟩
theorem J5{f:Addr}{fd:FuncData}(F:Fun K "divided" "divided" (top 24) f fd)(Pu:Fd P w K mg base 34 "bottom_of" ["numbers"] (Fp K))(Pw:Fd P w K mg base 33 "tops_over" ["numbers","bottom"] (El K))(Q7:Fd P w K mg base 33 "whole_division" ["first","second"] (Jm K))(Px:Fd P w K mg base 35 "curve_over" ["tops","bottom"] (C2 K))(PU:Fd P w K mg base 33 "raised" ["base","many"] (E2))(Pm:mg "len" = none)(hT:P.given.tree=none) :
 AO P w K mg base CX0 36 f fd ["one","other"] (GP K):=by
 refine F.ok C0 (fun vs H Q E h=>?_) (fun cdv A outer s H vs Q E hr h=>?_)
 ·obtain⟨_,_,_,_,_,_,_,rfl,_⟩:=h;rfl
 refine⟨_,(@Ad _ _ _ _ _ K _ (@AQ _ _ _ _ _ _ _ _ K _ _ (@Ap _ _ _ _ _ _ _ _ Dl (@Al _ _ _ _ _ _ _ _ _ (Bs K) rfl Pm AD (@A0 _ _ _ _ _ (pv 1) Ab (by rfl)) (by decide) (by decide) (by rfl) (by rfl)) Aa (As _)) (@Ag _ _ _ Cy) AI (by rfl) (by rfl)) (@Ad _ _ _ _ _ K _ (@Ai _ _ 2 _ _ _ _ C0.nd rfl (Or.inl rfl) (@Ak _ _ _ _ _ _ _ _ _ _ _ Pu hr rfl (@A0 _ _ _ _ _ (pv 0) Ab (by rfl)) (by decide) (by decide) (by rfl) (by rfl)) (by rfl) (by first   | exact .inl rfl   | exact .inr rfl   | assumption)) (@Ad _ _ _ _ _ K _ (@Ai _ _ 3 _ _ _ _ C0.nd rfl (Or.inr rfl) (@Ak _ _ _ _ _ _ _ _ _ _ _ Pu hr rfl (@A0 _ _ _ _ _ (pv 1) Ab (by rfl)) (by decide) (by decide) (by rfl) (by rfl)) (by rfl) (by first   | exact .inl rfl   | exact .inr rfl   | assumption)) (@Ad _ _ _ _ _ K _ (@Ai _ _ 4 _ _ _ _ C0.nd rfl (Or.inl rfl) (@Ak _ _ _ _ _ _ _ _ _ _ _ Pw hr rfl (@A0 _ _ _ _ _ (pv 1) (@A0 _ _ _ _ _ (pv 3) Ab (by rfl)) (by rfl)) (by decide) (by decide) (by rfl) (by rfl)) (by rfl) (by first   | exact .inl rfl   | exact .inr rfl   | assumption)) (@Ad _ _ _ _ _ K _ (@Ai _ _ 5 _ _ _ _ C0.nd rfl (Or.inl rfl) (@Ak _ _ _ _ _ _ _ _ _ _ _ Q7 hr rfl (@A0 _ _ _ _ _ (@Ak _ _ _ _ _ _ _ _ _ _ _ Pw hr rfl (@A0 _ _ _ _ _ (pv 0) (@A0 _ _ _ _ _ (pv 2) Ab (by rfl)) (by rfl)) (by decide) (by decide) (by rfl) (by rfl)) (@A0 _ _ _ _ _ (pv 4) Ab (by rfl)) (by rfl)) (by decide) (by decide) (by rfl) (by rfl)) (by rfl) (by first   | exact .inl rfl   | exact .inr rfl   | assumption)) (@Ad _ _ _ _ _ K _ (@Ai _ _ 6 _ _ _ _ C0.nd rfl (Or.inl rfl) (@Ah _ _ _ _ _ _ _ _ Au (pv 2) (@Ak _ _ _ _ _ _ _ _ _ _ _ PU hr rfl (@A0 _ _ _ _ _ (@Aj _ _ _ _ _ _ _ (ixL K) (pv 4) (@Ci _ _ _ _ _ _ BS Aa) (fun u v=>rfl)) (@A0 _ _ _ _ _ (@Al _ _ _ _ _ _ _ _ _ (Bs K) rfl Pm AD (@A0 _ _ _ _ _ (@Aj _ _ _ _ _ _ _ (ixT K) (pv 5) Aa (fun u v=>rfl)) Ab (by rfl)) (by decide) (by decide) (by rfl) (by rfl)) Ab (by rfl)) (by rfl)) (by decide) (by decide) (by rfl) (by rfl))) (by rfl) (by first   | exact .inl rfl   | exact .inr rfl   | assumption)) (@Ad _ _ _ _ _ K _ (@Ai _ _ 7 _ _ _ _ C0.nd rfl (Or.inl rfl) (@Ak _ _ _ _ _ _ _ _ _ _ _ Px hr rfl (@A0 _ _ _ _ _ (@CT _ (["top","under"]) 1 ([3]) _ _ _ _ _ _ _ _ _ _ rfl (Be.look (NX:=["one","other","bottom","under","second","parts","scale","often"]) (sc:=Ae (top 24)) rfl rfl (by decide +kernel)) (@piL _ K _ _ _ (@Aj _ _ _ _ _ _ _ (ixT K) (pv 5) Aa (fun u v=>rfl)) (by rfl)) (fun u1 u2 u3 u4 u5=>(@Ax _ _ 0 _ (show List.Nodup (["top","under"]:List Str) from by decide +kernel) rfl (Or.inl rfl) (by first   | exact .inl rfl   | exact .inr rfl   | assumption))) (AK (by decide)) (fun u1 u2 u3 u4 u5=>Bq) (fun u1 u2 u3 u4 u5=>(@Ah _ _ _ _ _ _ _ _ Au (pv 0) (pv 1))) (by intro _;rfl)) (@A0 _ _ _ _ _ (pv 6) Ab (by rfl)) (by rfl)) (by decide) (by decide) (by rfl) (by rfl)) (by rfl) (by first   | exact .inl rfl   | exact .inr rfl   | assumption)) (@Ag _ _ _ (@Av _ _ _ _ (@AG _ _ _ _ _ (@A0 _ _ _ _ _ (pv 7) (@A0 _ _ _ _ _ (@Ak _ _ _ _ _ _ _ _ _ _ _ Px hr rfl (@A0 _ _ _ _ _ (@Aj _ _ _ _ _ _ _ (ixT K) (pv 5) Aa (fun u v=>rfl)) (@A0 _ _ _ _ _ (pv 6) Ab (by rfl)) (by rfl)) (by decide) (by decide) (by rfl) (by rfl)) Ab (by rfl)) (by rfl))))) (by rfl)) (by rfl)) (by rfl)) (by rfl)) (by rfl)) (by rfl)) (by rfl)),?_⟩
 obtain⟨r,u,qs,ps,g,d,L,rfl,⟨xs,hS,hn⟩,⟨ys,hT',hm⟩,gq,hne,gp,hB,hC,hn1,hq8,hp8,q⟩:=h
 have P2:2<=sizeLine:=by decide
 have hl:=hn.length
 have hly:=hm.length
 have hp1:1<=ps.length:=SN.mpr hne
 have nq:d*qs.length<=d*13:=V4 _ hq8
 have np:L*ps.length<=L*13:=V4 _ hp8
 refine⟨_,rfl,u,ys,rfl,.inr hT',rfl,_,rfl,?_⟩
 refine AH (by rw[decide_eq_false (fun z=>by have:=V.int.inj z;lia)]<;>rfl) ?_
 refine⟨_,rfl,false,r,xs,qs,d,rfl,hS,hn,(fun c hc=>(hB c hc).2),by rw[TC];lia,fun B hB0 hdB hbB _=>?_⟩
 refine⟨_,rfl,false,u,ys,ps,L,rfl,hT',hm,(fun c hc=>(hC c hc).2),by rw[TC];lia,fun U hU0 hdU hbU _=>?_⟩
 refine⟨_,rfl,_,rfl,false,u,ys,ps,U,L*ps.length+1,L,rfl,hT',hm,hbU,(fun c hc=>(hC c hc).1),by lia,by lia,fun se hse=>?_⟩
 have s1:Af H (upd H se (.lst ((ps.map (AB U)).map V.int))):=Af.new hse
 refine⟨_,rfl,_,rfl,false,r,xs,qs,B,d*qs.length+1,g,rfl,SqT.same hS s1,Ar.same hn s1,hbB,(fun c hc=>(hB c hc).1),by lia,by lia,fun fa hfa=>?_⟩
 have s2:=s1.trans (Af.new (o:=.lst ((qs.map (AB B)).map V.int)) hfa)
 have ese:=(Af.new (o:=.lst ((qs.map (AB B)).map V.int)) hfa) _ _ (Ac (H:=H) (a:=se) (o:=.lst ((ps.map (AB U)).map V.int)))
 have efa:(upd (upd H se (.lst ((ps.map (AB U)).map V.int))) fa (.lst ((qs.map (AB B)).map V.int))) fa=some (.lst ((qs.map (AB B)).map V.int)):=Ac
 generalize upd (upd H se (.lst ((ps.map (AB U)).map V.int))) fa (.lst ((qs.map (AB B)).map V.int))=H2 at s2 ese efa ⊢
 obtain⟨lead,hlead,hl0⟩:=(DB gp hne hU0 hdU)
 have bF:∀t∈qs.map (AB B),Bd (g+d*13+1) t:=fun t ht=>by
  obtain⟨c,hc,rfl⟩:=(U4.mp ht)
  exact((hB c hc).1.mul (hbB.fdiv (y:=c.den))).mono (by lia)
 have bG:∀t∈ps.map (AB U),Bd (L*14+1) t:=fun t ht=>by
  obtain⟨c,hc,rfl⟩:=(U4.mp ht)
  exact((hC c hc).1.mul (hbU.fdiv (y:=c.den))).mono (by lia)
 refine⟨_,rfl,fa,se,qs.map (AB B),ps.map (AB U),lead,g+d*13+1,L*14+1,rfl,SqL.of efa,SqL.of ese,hlead,by rw[S7];lia,by rw[S7];lia,bF,bG,by rw[S7];have:=Tt (L*14+1+1) hq8;lia,by lia,fun pt pa pb H3 os rs s3 ept epa epb dv=>?_⟩
 have ese3:=s3 _ _ ese
 have hol:os.length=qs.length+1-ps.length:=by have:=dv.ol;rw[S7,S7]at this;exact this
 have hk8:os.length<=13:=by lia
 have hkb:os.length*(L*14+1+1)<=13*(L*14+1+1):=Tt _ hk8
 have hkc:(L*14+1)*os.length<=(L*14+1)*13:=V4 _ hk8
 have hlv:((ps.map (AB U)).map V.int)[((ps.map (AB U)).map V.int).length-1]? = some (V.int lead):=by rw[S7,S3,hlead];rfl
 have blead:Bd (L*14+1) lead:=bG _ (S5 hlead)
 have lo:(os.map V.int).length=os.length:=S7 _
 have bpow:Bd ((L*14+1)*os.length+1) (lead ^ os.length):=Bd.pow blead _
 refine⟨_,rfl,_,rfl,_,rfl,se,_,_,_,rfl,rfl,SqL.of ese3,BY hlv,_,rfl,pt,_,_,_,rfl,rfl,SqT.of ept,rfl,pa,_,rfl,.inl (SqL.of epa),lead,os.length,L*14+1,by rw[lo];rfl,by lia,blead,by lia,_,_,rfl,rfl,Bk.bd hbB bpow (by lia),?_⟩
 have hsc:B*lead ^ os.length≠0:=SF (by lia) (Ut hl0)
 refine C3 ⟨_,rfl,pt,_,_,_,rfl,rfl,SqT.of ept,rfl,pa,rfl,⟨_,SqL.of epa⟩,?_⟩
 refine Dh (xs:=os.map V.int) (fun i zs H4=>H4=H3/\zs=((os.take i).map (· * U)).map V.int) ⟨rfl,rfl⟩ (fun i zs H4 hi p=>⟨by rw[p.1];exact SqL.of epa,by rw[p.2,S7,S7,RY];rw[S7]at hi;lia⟩) (by rw[lo];exact Rx (AF (by lia))) ?_ ?_
 ·rintro i v zs H4 hv ⟨rfl,rfl⟩
  rw[S3]at hv
  cases et:os[i]? with
  | none=>rw[et]at hv;cases hv
  | some t =>
    rw[et]at hv
    cases hv
    refine⟨_,rfl,_,rfl,_,_,rfl,rfl,Bk.bd (dv.ob t (S5 et)) hbU (by lia),rfl,?_⟩
    rw[SU,et,SV,SV]
    rfl
 rintro zs H4 ⟨rfl,rfl⟩ l1 hl1
 rw[show os.take (os.map V.int).length=os by rw[lo,SW]]
 have s4:Af H4 (upd H4 l1 (.lst ((os.map (· * U)).map V.int))):=Af.new hl1
 refine⟨_,rfl,l1,os.map (· * U),_,rfl,SqL.of Ac,hsc,by rw[S7];lia,fun a H5 s5 ca=>?_⟩
 have s45:=s4.trans s5
 refine⟨_,rfl,_,rfl,pt,_,_,_,rfl,rfl,SqT.of (s45 _ _ ept),rfl,_,rfl,pb,rs,_,rfl,SqL.of (s45 _ _ epb),hsc,by rw[dv.rl,S7,S7];lia,fun b H6 s6 cb=>?_⟩
 refine⟨P2,fun p hp=>?_⟩
 have s7:Af H6 (upd H6 p (.tup [.ref a,.ref b])):=Af.new hp
 have go:B0 ((os.map (· * U)).map fun t=>Sv t (B*lead ^ os.length)):=by
  by_cases h0:os=[]
  ·left;rw[h0];rfl
  ·obtain⟨t,ht,ho⟩:=(dv.top h0)
   have hqn:qs≠[]:=fun z=>by rw[z]at ht;cases ht
   obtain⟨t',ht',h0'⟩:=(DB gq hqn hB0 hdB)
   rw[ht]at ht'
   cases ht'
   right
   refine⟨_,by rw[S7,S7,S3,S3,ho];rfl,fun z=>?_⟩
   have z2:(lead ^ (os.length-1)*t*U)≠0:=SF (SF (Ut hl0) h0') (by lia)
   exact NV z2 hsc z
 rw[D4 go]at ca
 have hsl:=Cv.strip_length (rs.map fun t=>Sv t (B*lead ^ os.length))
 refine q p a b _ _ _ (((((s2.trans s3).trans s45).trans s6).trans s7)) Ac (ca.same (s6.trans s7)) (cb.same s7) go (AL _) (by rw[S7,S7];exact hol) ?_ (fun x=>?_) fun c hc=>?_
 ·rw[S7,dv.rl,S7,S7]at hsl
  lia
 ·rw[Cv.ev_strip]
  have h1:=dv.ev x
  have h2:=Hu (os.map (· * U)) _ hsc x
  have h3:=Hu rs _ hsc x
  have h4:Cv.evI (os.map (· * U)) x=Cv.evI os x*(U:Rat):=by
   have:=Cv.evI_scale x U os
   rw[show os.map (· * U)=os.map (U * ·) from UP fun t _=>Uo t U,this,UB]
  have h5:Cv.evI (qs.map (AB B)) x=Cv.ev qs x*(B:Rat):=DX hdB x
  have h6:Cv.evI (ps.map (AB U)) x=Cv.ev ps x*(U:Rat):=DX hdU x
  have hc:((B*lead ^ os.length:Int):Rat)≠0:=Nm.cast_ne hsc
  have h7:((B*lead ^ os.length:Int):Rat)=(B:Rat)*((lead ^ os.length:Int):Rat):=SH ..
  generalize Cv.ev ((os.map (· * U)).map fun t=>Sv t (B*lead ^ os.length)) x=X at h2 ⊢
  generalize Cv.ev (rs.map fun t=>Sv t (B*lead ^ os.length)) x=Y at h3 ⊢
  generalize((B*lead ^ os.length:Int):Rat)=C at *
  have h8:(Cv.ev qs x-(X*Cv.ev ps x+Y))*C=0:=by
   rw[h5,h6]at h1
   rw[h4]at h2
   have:Cv.ev qs x*C=(X*C)*Cv.ev ps x+Y*C:=by rw[h2,h3,h7];grind
   grind
  rcases SY.mp h8 with z | z
  ·grind
  ·exact absurd z hc
 ·obtain⟨t',ht',rfl⟩:=(U4.mp hc)
  obtain⟨t,ht,rfl⟩:=(U4.mp ht')
  exact RB.div (m:=0) (((dv.ob t ht).mul hbU).mono (by lia)) ((hbB.mul bpow).mono (by lia)) hsc
theorem KY:Aq ["a","b"] ["a","b"] (Ae (top 9)):=⟨rfl,rfl,rfl,by decide +kernel,rfl,by decide +kernel,by decide +kernel⟩
theorem Lm{f:Addr}{fd:FuncData}(F:Fun K "times" "times" (top 9) f fd)(PJ:Fd P w K mg base 34 "number_of" ["top","bottom"] (CP))(hT:P.given.tree=none) :
 AO P w K mg base CX0 35 f fd ["a","b"] (Cs K (· * ·)):=by
 refine F.ok KY (fun vs H Q E h=>?_) (fun cdv A outer s H vs Q E hr h=>?_)
 ·obtain⟨_,_,_,_,_,_,rfl,_⟩:=h;rfl
 refine⟨_,(@Ag _ _ _ (@Av _ _ _ _ (@Ak _ _ _ _ _ _ _ _ _ _ _ PJ hr rfl (@A0 _ _ _ _ _ (@Ah _ _ _ _ _ _ _ _ Au (@Aj _ _ _ _ _ _ _ (ixT K) (pv 0) Aa (fun u v=>rfl)) (@Aj _ _ _ _ _ _ _ (ixT K) (pv 1) Aa (fun u v=>rfl))) (@A0 _ _ _ _ _ (@Ah _ _ _ _ _ _ _ _ Au (@Aj _ _ _ _ _ _ _ (ixT K) (pv 0) Aa (fun u v=>rfl)) (@Aj _ _ _ _ _ _ _ (ixT K) (pv 1) Aa (fun u v=>rfl))) Ab (by rfl)) (by rfl)) (by decide) (by decide) (by rfl) (by rfl)))),?_⟩
 obtain⟨x,y,p,q,m,n,rfl,⟨r,rfl,hr⟩,⟨u,rfl,hu⟩,hp,hq,hmn,k⟩:=h
 refine⟨_,rfl,r,_,_,_,rfl,rfl,hr,rfl,_,rfl,u,_,_,_,rfl,rfl,hu,rfl,_,_,rfl,rfl,Bk.bd hp.1 hq.1,?_⟩
 refine⟨_,rfl,r,_,_,_,rfl,rfl,hr,rfl,_,rfl,u,_,_,_,rfl,rfl,hu,rfl,_,_,rfl,rfl,Bk.bd hp.2 hq.2,?_⟩
 refine⟨_,_,rfl,SF (Nm.den_ne p) (Nm.den_ne q),fun z hz=>?_⟩
 have e:=k z hz
 try dsimp only at e
 rw[<- Nm.times_eq]at e
 exact e
theorem K1:Aq ["curve","number"] ["curve","number"] (Ae (top 20)):=⟨rfl,rfl,rfl,by decide +kernel,rfl,by decide +kernel,by decide +kernel⟩
theorem K4{f:Addr}{fd:FuncData}(F:Fun K "scaled" "scaled" (top 20) f fd)(Q6:Fd P w K mg base 33 "curve_of" ["numbers"] (DD K))(Q8:Fd P w K mg base 35 "times" ["a","b"] (Cs K (· * ·)))(hT:P.given.tree=none) :
 AO P w K mg base CX0 36 f fd ["curve","number"] (Fl K):=by
 refine F.ok K1 (fun vs H Q E h=>?_) (fun cdv A outer s H vs Q E hr h=>?_)
 ·obtain⟨_,_,_,_,_,_,rfl,_⟩:=h;rfl
 refine⟨_,(@Ag _ _ _ (@Av _ _ _ _ (@Ak _ _ _ _ _ _ _ _ _ _ _ Q6 hr rfl (@A0 _ _ _ _ _ (@CT _ (["each","number"]) 1 ([1]) _ _ _ _ _ _ _ _ _ _ rfl (Be.look (NX:=["curve","number"]) (sc:=Ae (top 20)) rfl rfl (by decide +kernel)) (@piT _ K _ _ _ (pv 0) (by rfl)) (fun u1 u2 u3 u4 u5=>(@Ax _ _ 0 _ (show List.Nodup (["each","number"]:List Str) from by decide +kernel) rfl (Or.inl rfl) (by first   | exact .inl rfl   | exact .inr rfl   | assumption))) (AK (by decide)) (fun u1 u2 u3 u4 u5=>Bq) (fun u1 u2 u3 u4 u5=>(@Ak _ _ _ _ _ _ _ _ _ _ _ Q8 hr rfl (@A0 _ _ _ _ _ (pv 0) (@A0 _ _ _ _ _ (pv 1) Ab (by rfl)) (by rfl)) (by decide) (by decide) (by rfl) (by rfl))) (by intro _;rfl)) Ab (by rfl)) (by decide) (by decide) (by rfl) (by rfl)))),?_⟩
 obtain⟨r,u,qs,y,m,n,rfl,⟨xs,hS,hn⟩,hy,hB,hb,hmn,hz,q⟩:=h
 have hl:=hn.length
 refine C3 ⟨_,rfl,r,rfl,⟨_,hS⟩,?_⟩
 refine NA (xs:=xs) (L4 H K qs y fun H K qs y i zs H'=>Af H H'/\zs.length=i/\Ar K H' zs ((qs.take i).map (· * y))) ⟨Af.refl _,rfl,.nil⟩ (fun i zs H' _ p=>⟨hS.same p.1,p.2.1⟩) (by rw[hl];exact Rx (AF hz)) ?_ ?_
 ·rintro i x zs H' hx ⟨sm,hzl,hzn⟩
  obtain⟨c,hc,hxn⟩:=(Paired.get hn hx)
  refine⟨_,rfl,_,rfl,_,_,c,y,m,n,rfl,hxn.same sm,hy.same sm,hB c (S5 hc),hb,by lia,fun p hp=>⟨sm.trans (Af.new hp),by simp[hzl],?_⟩⟩
  rw[SU,hc,SV]
  exact Paired.snoc (Ar.same hzn (Af.new hp)) (Az.of Ac)
 ·rintro zs H' ⟨sm,hzl,hzn⟩ p hp
  rw[hl,SW]at hzn
  exact⟨p,zs,_,rfl,SqL.of Ac,Ar.same hzn (Af.new hp),by rw[S7];exact hz,fun r H2 s2 c=>q r H2 ((sm.trans (Af.new hp)).trans s2) c⟩
theorem Bl:Aq ["tops","x","height","scale","top"] ["tops","x"] (Ae (top 17)):=⟨rfl,rfl,rfl,by decide +kernel,rfl,by decide +kernel,by decide +kernel⟩
theorem EU{f:Addr}{fd:FuncData}(F:Fun K "whole_height" "whole_height" (top 17) f fd)(Q9:mg "reversed" = none)(hT:P.given.tree=none) :
 AO P w K mg base CX0 33 f fd ["tops","x"] (Mc K):=by
 refine F.ok Bl (fun vs H Q E h=>?_) (fun cdv A outer s H vs Q E hr h=>?_)
 ·obtain⟨_,_,_,_,_,_,rfl,_⟩:=h;rfl
 refine⟨_,(@Ad _ _ _ _ _ K _ (@Ai _ _ 2 _ _ _ _ Bl.nd rfl (Or.inl rfl) Aa (by rfl) (by first   | exact .inl rfl   | exact .inr rfl   | assumption)) (@Ad _ _ _ _ _ K _ (@Ai _ _ 3 _ _ _ _ Bl.nd rfl (Or.inl rfl) Aa (by rfl) (by first   | exact .inl rfl   | exact .inr rfl   | assumption)) (@Ad _ _ _ _ _ K _ (@BA _ _ _ _ _ _ _ _ K _ PassesOwn.never rfl (Ow K rfl Q9 (pv 0)) (@Ax _ _ 4 _ Bl.nd rfl (Or.inl rfl) (by first   | exact .inl rfl   | exact .inr rfl   | assumption)) (@Ad _ _ _ _ _ K _ (@Ai _ _ 2 _ _ _ _ Bl.nd rfl (Or.inl rfl) (@Ah _ _ _ _ _ _ _ _ AR (@Ah _ _ _ _ _ _ _ _ Au (pv 2) (@Aj _ _ _ _ _ _ _ (ixT K) (pv 1) Aa (fun u v=>rfl))) (@Ah _ _ _ _ _ _ _ _ Au (pv 4) (pv 3))) (by rfl) (by first   | exact .inl rfl   | exact .inr rfl   | assumption)) (@Ag _ _ _ (@Ai _ _ 3 _ _ _ _ Bl.nd rfl (Or.inl rfl) (@Ah _ _ _ _ _ _ _ _ Au (pv 3) (@Aj _ _ _ _ _ _ _ (ixT K) (pv 1) Aa (fun u v=>rfl))) (by rfl) (by first   | exact .inl rfl   | exact .inr rfl   | assumption))) (by rfl)) (by rfl) (by intro _;rfl)) (@Ag _ _ _ (@Av _ _ _ _ (@AG _ _ _ _ _ (@A0 _ _ _ _ _ (@Ah _ _ _ _ _ _ _ _ Au (pv 2) (@Aj _ _ _ _ _ _ _ (ixT K) (pv 1) Aa (fun u v=>rfl))) (@A0 _ _ _ _ _ (pv 3) Ab (by rfl)) (by rfl))))) (by rfl)) (by rfl)) (by rfl)),?_⟩
 obtain⟨l,rx,ts,x,m,n,rfl,hS,⟨_,erx,hx⟩,hB,hbx,hz,q⟩:=h
 cases erx
 have tl:(ts.map V.int).length=ts.length:=S7 _
 have hz2:m+n*ts.length+4*n+ts.length+4<=100000000:=by
  have e:(n+1)*(ts.length+4)=n*ts.length+4*n+ts.length+4:=by rw[Tr,TC];lia
  lia
 have P2:2<=sizeLine:=by decide
 refine⟨_,rfl,_,rfl,l,_,rfl,hS,?_⟩
 refine MH (L7 H l rx x ts m n fun H l rx x ts m n i σ H'=>H'=H/\∃(h s:Int) (z:Option V),σ=[some (.ref l),some (.ref rx),some (.int h),some (.int s),z]/\s=(x.den:Int) ^ i/\s≠0 /\
  (h:Rat)*((x.den:Int):Rat)=Cv.evI (ts.drop (ts.length-i)) x*(s:Rat)/\Bd (m+n*i+i+2) h/\Bd (n*i+1) s)
  ⟨rfl,0,1,none,rfl,rfl,by decide,?_,?_,?_⟩ (fun i σ H' _ p=>by rw[p.1];exact hS) ?_ ?_
 ·rw[Tw,TU (RK _)]
  show((0:Int):Rat)*_=0*_
  rw[Uy];grind
 ·exact(show Bd 1 0 by unfold Bd;decide).mono (by lia)
 ·exact(show Bd 1 1 by unfold Bd;decide).mono (by lia)
 ·rintro i v σ H' hi hv hR1
  refine BO hR1 fun hq75 hz77=>?_
  refine Eh hz77 fun h s z hz77'=>?_
  clear hz77
  refine LY hz77' fun hq76 es hs0 he hbh hbs=>?_
  clear hz77'
  obtain rfl:=hq75
  obtain rfl:=hq76
  try clear hR1
  rw[tl]at hi hv
  have hj:ts.length-1-i<ts.length:=by lia
  have htq:ts[ts.length-1-i]? = some ts[ts.length-1-i]:=Te hj
  have htm:ts[ts.length-1-i]∈ts:=Tf hj
  rw[S3,htq]at hv
  cases hv
  generalize ts[ts.length-1-i]=t at htq htm
  have bt:=hB _ htm
  have hni:n*i<=n*ts.length:=V4 n (by lia)
  have hni1:n*(i+1)=n*i+n:=by rw[TC,UM]
  refine⟨_,rfl,_,rfl,rx,_,_,_,rfl,rfl,hx,rfl,_,_,rfl,rfl,Bk.bd hbh hbx.1 (by lia),_,rfl,_,rfl,_,_,rfl,rfl,Bk.bd bt hbs (by lia),_,_,rfl,rfl,?_⟩
  refine⟨_,rfl,_,rfl,rx,_,_,_,rfl,rfl,hx,rfl,_,_,rfl,rfl,Bk.bd hbs hbx.2 (by lia),⟨rfl,_,_,_,rfl,?_,SF hs0 (Nm.den_ne x),?_,?_,?_⟩⟩
  ·rw[es,Tz]
  ·rw[Hw rfl hi htq,Cv.evI_cons,SG,SH,SH,SH,Nm.num_mul x]
   grind
  ·have b1:=hbh.mul hbx.1
   have b2:=bt.mul hbs
   exact(Bd.add (b1.mono (n:=m+n*i+i+2+n) (by lia)) (b2.mono (by lia))).mono (by lia)
  ·exact(hbs.mul hbx.2).mono (by lia)
 ·rintro σ H' hR2
  refine BO hR2 fun hq78 hz80=>?_
  refine Eh hz80 fun h s z hz80'=>?_
  clear hz80
  refine LY hz80' fun hq79 es hs0 he hbh hbs=>?_
  clear hz80'
  obtain rfl:=hq78
  obtain rfl:=hq79
  try clear hR2
  rw[tl]at es he hbh hbs
  rw[TQ,Tv]at he
  refine⟨_,rfl,_,rfl,rx,_,_,_,rfl,rfl,hx,rfl,_,_,rfl,rfl,Bk.bd hbh hbx.2 (by lia),_,rfl,P2,fun p hp=>?_⟩
  exact q _ _ p es hs0 (by rw[SH];exact he) ((hbh.mul hbx.2).mono (by rw[Tr,TC];lia)) hbs hp
theorem D6:Aq ["curve","x","bottom","told"] ["curve","x"] (Ae (top 18)):=⟨rfl,rfl,rfl,by decide +kernel,rfl,by decide +kernel,by decide +kernel⟩
theorem Hf{f:Addr}{fd:FuncData}(F:Fun K "height_at" "height_at" (top 18) f fd)(Pu:Fd P w K mg base 34 "bottom_of" ["numbers"] (Fp K))(PX:Fd P w K mg base 33 "whole_height" ["tops","x"] (Mc K))(PJ:Fd P w K mg base 34 "number_of" ["top","bottom"] (CP))(Pw:Fd P w K mg base 33 "tops_over" ["numbers","bottom"] (El K))(hT:P.given.tree=none) :
 AO P w K mg base CX0 35 f fd ["curve","x"] (DC K):=by
 refine F.ok D6 (fun vs H Q E h=>?_) (fun cdv A outer s H vs Q E hr h=>?_)
 ·obtain⟨_,_,_,_,_,_,_,rfl,_⟩:=h;rfl
 refine⟨_,(@Ad _ _ _ _ _ K _ (@Ai _ _ 2 _ _ _ _ D6.nd rfl (Or.inl rfl) (@Ak _ _ _ _ _ _ _ _ _ _ _ Pu hr rfl (@A0 _ _ _ _ _ (pv 0) Ab (by rfl)) (by decide) (by decide) (by rfl) (by rfl)) (by rfl) (by first   | exact .inl rfl   | exact .inr rfl   | assumption)) (@Ad _ _ _ _ _ K _ (@Ai _ _ 3 _ _ _ _ D6.nd rfl (Or.inl rfl) (@Ak _ _ _ _ _ _ _ _ _ _ _ PX hr rfl (@A0 _ _ _ _ _ (@Ak _ _ _ _ _ _ _ _ _ _ _ Pw hr rfl (@A0 _ _ _ _ _ (pv 0) (@A0 _ _ _ _ _ (pv 2) Ab (by rfl)) (by rfl)) (by decide) (by decide) (by rfl) (by rfl)) (@A0 _ _ _ _ _ (pv 1) Ab (by rfl)) (by rfl)) (by decide) (by decide) (by rfl) (by rfl)) (by rfl) (by first   | exact .inl rfl   | exact .inr rfl   | assumption)) (@Ag _ _ _ (@Av _ _ _ _ (@Ak _ _ _ _ _ _ _ _ _ _ _ PJ hr rfl (@A0 _ _ _ _ _ (@Aj _ _ _ _ _ _ _ (ixT K) (pv 3) Aa (fun u v=>rfl)) (@A0 _ _ _ _ _ (@Ah _ _ _ _ _ _ _ _ Au (pv 2) (@Aj _ _ _ _ _ _ _ (ixT K) (pv 3) Aa (fun u v=>rfl))) Ab (by rfl)) (by rfl)) (by decide) (by decide) (by rfl) (by rfl)))) (by rfl)) (by rfl)),?_⟩
 obtain⟨r,rx,qs,x,g,d,m,rfl,⟨xs,hS,hn⟩,⟨_,erx,hx⟩,hB,hbx,hz,h1000,q⟩:=h
 cases erx
 have hl:=hn.length
 have e1:d*(qs.length+2)=d*qs.length+d*2:=TC ..
 have e2:(m+1)*(qs.length+4)=m*qs.length+qs.length+(m+1)*4:=by rw[TC,Tr,Ts]
 refine⟨_,rfl,false,r,xs,qs,d,rfl,hS,hn,(fun q hq=>(hB q hq).2),by lia,fun B hB0 hdv hbB _=>?_⟩
 refine⟨_,rfl,_,rfl,false,r,xs,qs,B,d*qs.length+1,g,rfl,hS,hn,hbB,(fun q hq=>(hB q hq).1),by lia,h1000,fun l hl0=>?_⟩
 have tl:(qs.map (AB B)).length=qs.length:=S7 _
 have hx1:SqT K (upd H l (.lst ((qs.map (AB B)).map V.int))) rx [.int x.num,.int x.den]:=SqT.same hx (Af.new hl0)
 have tB:∀t∈qs.map (AB B),Bd (g+(d*qs.length+1)) t:=fun t ht=>by
  obtain⟨c,hc,rfl⟩:=(U4.mp ht)
  exact((hB c hc).1.mul (hbB.fdiv (y:=c.den))).mono (by lia)
 refine⟨_,rfl,l,rx,qs.map (AB B),x,g+(d*qs.length+1),m,rfl,SqL.of Ac,⟨rx,rfl,hx1⟩,tB,hbx,by rw[tl];lia,fun h s p es hs0 he hbh hbs hp=>?_⟩
 rw[tl]at hbs
 have ep:SqT K (upd (upd H l (.lst ((qs.map (AB B)).map V.int))) p (.tup [.int h,.int s])) p [.int h,.int s]:=SqT.of Ac
 have hb0:B*s≠0:=SF (by lia) hs0
 refine⟨_,rfl,p,_,_,_,rfl,rfl,ep,rfl,_,rfl,_,rfl,p,_,_,_,rfl,rfl,ep,rfl,_,_,rfl,rfl,Bk.bd hbB hbs (by lia),_,_,rfl,hb0,fun u hu=>?_⟩
 have ev:=DX hdv x
 have e:Sv h (B*s)=Cv.ev qs x:=Nm.div_eq hb0 (by
  have he':(h:Rat)=Cv.ev ((qs.map (AB B)).map fun t:Int=>(t:Rat)) x*(s:Rat):=he
  rw[he',ev,SH];grind)
 rw[tl]at hbh
 have e3:(m+1)*(qs.length+2)=m*qs.length+qs.length+(m+1)*2:=by rw[TC,Tr,Ts]
 have d1:1<=d\/qs.length=0:=by
  cases qs with
  | nil=>exact .inr rfl
  | cons c r =>
    left
    have:=(hB c (Rz ..)).2
    unfold Bd at this
    rcases Nat.eq_zero_or_pos d with z | z
    ·rw[z]at this
     have:=c.den_pos
     lia
    ·exact z
 refine q u _ (((Af.new hl0).trans (Af.new hp)).trans (Af.new hu)) ?_ ?_
 ·rw[<- e];exact Ac
 ·rw[<- e]
  exact RB.div (m:=0) (hbh.mono (by lia)) ((hbB.mul hbs).mono (by lia)) hb0
theorem BZ:Aq ["pair","places","common","under","turned"] ["pair","places"] (Ae (top 44)):=⟨rfl,rfl,rfl,by decide +kernel,rfl,by decide +kernel,by decide +kernel⟩
theorem EW{f:Addr}{fd:FuncData}(F:Fun K "lowest_terms" "lowest_terms" (top 44) f fd)(Qy:Fd P w K mg base 37 "nought_at" ["places"] (DS K))(F_over:Fd P w K mg base 35 "over" ["a","b"] (IU K))(Qf:Fd P w K mg base 36 "divided" ["one","other"] (GP K))(Qg:Fd P w K mg base 36 "scaled" ["curve","number"] (Fl K))(PY:Fd P w K mg base 35 "height_at" ["curve","x"] (DC K)){a_NOUGHT:Addr}(c_NOUGHT:mg "NOUGHT" = some (.ref a_NOUGHT))(n_NOUGHT:∀H:Hp,Az K H (.ref a_NOUGHT) (0))(hT:P.given.tree=none) :
 AO P w K mg base CX0 38 f fd ["pair","places"] (Fm K):=by
 refine F.ok BZ (fun vs H Q E h=>?_) (fun cdv A outer s H vs Q E hr h=>?_)
 ·obtain⟨_,_,_,_,_,_,_,_,_,_,rfl,_⟩:=h;rfl
 refine⟨_,(@Ad _ _ _ _ _ K _ (@Ai _ _ 2 _ _ _ _ BZ.nd rfl (Or.inl rfl) (@Ak _ _ _ _ _ _ _ _ _ _ _ Qy hr rfl (@A0 _ _ _ _ _ (@CT _ (["x","pair"]) 1 ([0]) _ _ _ _ _ _ _ _ _ _ rfl (Be.look (NX:=["pair","places","common","under","turned"]) (sc:=Ae (top 44)) rfl rfl (by decide +kernel)) (@piL _ K _ _ _ (pv 1) (by rfl)) (fun u1 u2 u3 u4 u5=>(@Ax _ _ 0 _ (show List.Nodup (["x","pair"]:List Str) from by decide +kernel) rfl (Or.inl rfl) (by first   | exact .inl rfl   | exact .inr rfl   | assumption))) (AK (by decide)) (fun u1 u2 u3 u4 u5=>GX (@Ap _ _ _ _ _ _ _ _ (eqD K hr.units) (@Ak _ _ _ _ _ _ _ _ _ _ _ PY hr rfl (@A0 _ _ _ _ _ (@Aj _ _ _ _ _ _ _ (ixT K) (pv 1) Aa (fun u v=>rfl)) (@A0 _ _ _ _ _ (pv 0) Ab (by rfl)) (by rfl)) (by decide) (by decide) (by rfl) (by rfl)) (@DG _ _ (.ref a_NOUGHT) _ _ rfl c_NOUGHT rfl (by decide)) (As _))) (fun u1 u2 u3 u4 u5=>(pv 0)) (by intro _;rfl)) Ab (by rfl)) (by decide) (by decide) (by rfl) (by rfl)) (by rfl) (by first   | exact .inl rfl   | exact .inr rfl   | assumption)) (@Ad _ _ _ _ _ K _ (@Ai _ _ 3 _ _ _ _ BZ.nd rfl (Or.inl rfl) (@Aj _ _ _ _ _ _ _ (ixT K) (@Ak _ _ _ _ _ _ _ _ _ _ _ Qf hr rfl (@A0 _ _ _ _ _ (@Aj _ _ _ _ _ _ _ (ixT K) (pv 0) Aa (fun u v=>rfl)) (@A0 _ _ _ _ _ (pv 2) Ab (by rfl)) (by rfl)) (by decide) (by decide) (by rfl) (by rfl)) Aa (fun u v=>rfl)) (by rfl) (by first   | exact .inl rfl   | exact .inr rfl   | assumption)) (@Ad _ _ _ _ _ K _ (@Ai _ _ 4 _ _ _ _ BZ.nd rfl (Or.inl rfl) (@Ak _ _ _ _ _ _ _ _ _ _ _ F_over hr rfl (@A0 _ _ _ _ _ (@AG _ _ _ _ _ (@A0 _ _ _ _ _ Aa (@A0 _ _ _ _ _ Aa Ab (by rfl)) (by rfl))) (@A0 _ _ _ _ _ (@Aj _ _ _ _ _ _ _ (ixT K) (pv 3) (@Ci _ _ _ _ _ _ BS Aa) (fun u v=>rfl)) Ab (by rfl)) (by rfl)) (by decide) (by decide) (by rfl) (by rfl)) (by rfl) (by first   | exact .inl rfl   | exact .inr rfl   | assumption)) (@Ag _ _ _ (@Av _ _ _ _ (@AG _ _ _ _ _ (@A0 _ _ _ _ _ (@Ak _ _ _ _ _ _ _ _ _ _ _ Qg hr rfl (@A0 _ _ _ _ _ (@Aj _ _ _ _ _ _ _ (ixT K) (@Ak _ _ _ _ _ _ _ _ _ _ _ Qf hr rfl (@A0 _ _ _ _ _ (@Aj _ _ _ _ _ _ _ (ixT K) (pv 0) Aa (fun u v=>rfl)) (@A0 _ _ _ _ _ (pv 2) Ab (by rfl)) (by rfl)) (by decide) (by decide) (by rfl) (by rfl)) Aa (fun u v=>rfl)) (@A0 _ _ _ _ _ (pv 4) Ab (by rfl)) (by rfl)) (by decide) (by decide) (by rfl) (by rfl)) (@A0 _ _ _ _ _ (@Ak _ _ _ _ _ _ _ _ _ _ _ Qg hr rfl (@A0 _ _ _ _ _ (pv 3) (@A0 _ _ _ _ _ (pv 4) Ab (by rfl)) (by rfl)) (by decide) (by decide) (by rfl) (by rfl)) Ab (by rfl)) (by rfl))))) (by rfl)) (by rfl)) (by rfl)),?_⟩
 obtain⟨t,lp,pN,pD,zs,qs,N,D,G,nx,rfl,hT,cN,cD,gN,gD,hD0,hS,hZ,hnd,h12,hNl,hDl,bN,bD,bq,hnx1,hnx,hG,hz,q⟩:=h
 have P2:2<=sizeLine:=by decide
 have hzl:=hZ.length
 obtain⟨L,hL⟩:∃L,L=28*nx+400:=⟨_,rfl⟩
 obtain⟨E0,hE⟩:∃E0,E0=G+13+400*L+1000:=⟨_,rfl⟩
 have hx17:(nx+1)*(D.length+4)<=1001*17:=UA (by lia) (by lia)
 refine C3 ⟨_,rfl,lp,rfl,⟨_,hS⟩,?_⟩
 refine Hq (xs:=zs) (L4 H K qs D fun H K qs D i us W=>Af H W/\us.length<=i/\Ar K W us ((qs.take i).filter fun q=>decide (Cv.ev D q=0))) ⟨Af.refl _,RK _,.nil⟩ (fun i us W _ h=>⟨Af.seq h.1 hS,h.2.1⟩) (Rx (AF (by lia))) ?_ ?_
 ·rintro i v us W hv ⟨sw,hul,hun⟩
  obtain⟨x,hx,rx,rfl,hrx⟩:=(Paired.get hZ hv)
  refine⟨_,rfl,t,_,_,_,rfl,rfl,hT.same sw,rfl,_,rfl,pD,rx,D,x,G,1,nx,rfl,cD.same sw,Az.same ⟨rx,rfl,hrx⟩ sw,bD,bq x (S5 hx),by lia,by lia,fun p1 W1 s1 e1 _=>?_⟩
  refine eqN (Az.of e1) (n_NOUGHT _) ?_
  refine⟨_,rfl,?_⟩
  have et:(qs.take (i+1)).filter (fun q=>decide (Cv.ev D q=0))=(qs.take i).filter (fun q=>decide (Cv.ev D q=0))++[x].filter (fun q=>decide (Cv.ev D q=0)):=by rw[SU,hx,UZ];rfl
  by_cases h0:Cv.ev D x=0
  ·refine AU (decide_eq_true h0) ⟨_,rfl,sw.trans s1,by rw[S6,Sk];lia,?_⟩
   rw[et,UY (by exact decide_eq_true h0)]
   exact Paired.snoc (Ar.same hun s1) (Az.same ⟨rx,rfl,hrx⟩ (sw.trans s1))
  ·refine AH (decide_eq_false h0) ⟨sw.trans s1,by lia,?_⟩
   rw[et,V0 (by simpa using h0),List.filter_nil,RU]
   exact Ar.same hun s1
 rintro us W ⟨sw,hul,hun⟩ l1 hl1
 rw[hzl,SW]at hun
 generalize hSS:qs.filter (fun q=>decide (Cv.ev D q=0))=S at hun q
 have hSn:S.Nodup:=by rw[<- hSS];exact hnd.filter _
 have hSq:∀x∈S,x∈qs/\Cv.ev D x=0:=fun x hx=>by
  rw[<- hSS]at hx
  exact⟨(Rt.mp hx).1,by simpa using(Rt.mp hx).2⟩
 have hSl:S.length<=12:=by rw[<- hSS];exact Rw (V1 ..) h12
 have n1:=Af.new (o:=.lst us) hl1
 refine⟨l1,us,S,nx,rfl,Ac,Ar.same hun n1,fun x hx=>bq x (hSq x hx).1,hnx1,hnx,hSl,fun pc H2 s2 cC bC=>?_⟩
 have sA:=(sw.trans n1).trans s2
 have hpl:=BN S
 have hpn:prL S≠[]:=fun z=>by rw[z]at hpl;cases hpl
 rw[<- hL]at bC
 clear n1 s2 hl1 hul hun sw
 refine⟨_,rfl,t,_,_,_,rfl,rfl,hT.same sA,rfl,_,rfl,pD,pc,D,prL S,G,1,L,rfl,cD.same sA,cC,gD,hpn,Dx S,bD,bC,by lia,hDl,by lia,fun p1 a1 b1 H3 os rs s3 e3 ca cb go gr hol hrl hev hrb=>?_⟩
 have hdv:=GD gD go gr hrl hev hSn fun x hx=>(hSq x hx).2
 have hos0:os≠[]:=fun z=>hD0 (by
  have:=BD gD (.inl rfl) fun x=>by rw[hdv x,z];show _*0=(0:Rat);rw[UD]
  exact this)
 obtain⟨u,hu,hu0⟩:∃u,os[os.length-1]? = some u/\u≠0:=by
  rcases go with h | h
  ·exact absurd h hos0
  ·exact h
 have sB:=sA.trans s3
 refine⟨p1,_,_,_,rfl,rfl,SqT.of e3,rfl,P2,fun t5 h5=>?_⟩
 have n5:=Af.new (o:=.tup [.int 1,.int 1]) h5
 obtain⟨vs1,hva,hvn⟩:=(ca.same n5)
 obtain⟨vu,hvu,hnu⟩:=(Paired.get' hvn hu)
 have hvl:=hvn.length
 rw[<- hvl]at hvu
 have bu:=hrb u (S5 hu)
 refine⟨_,rfl,_,rfl,a1,vs1,_,_,rfl,rfl,hva,BY hvu,?_⟩
 refine⟨_,_,1,u,1,E0,rfl,⟨t5,rfl,SqT.of Ac⟩,hnu,hu0,RB.one (by decide),bu.mono (by lia),by lia,fun tw htw=>?_⟩
 have n6:=Af.new (o:=nT (1 / u)) htw
 have etw:=Ac (H:=upd H3 t5 (.tup [.int 1,.int 1])) (a:=tw) (o:=nT (1 / u))
 have sC:=sB.trans (n5.trans n6)
 have ca6:=(ca.same n5).same n6
 have cC6:=((cC.same s3).same n5).same n6
 generalize upd (upd H3 t5 (.tup [.int 1,.int 1])) tw (nT (1 / u))=H6 at etw sC ca6 cC6 ⊢
 clear n5 n6 hva hvn hvu hnu h5 htw hvl
 refine⟨_,rfl,t,_,_,_,rfl,rfl,hT.same sC,rfl,_,rfl,pN,pc,N,prL S,G,1,L,rfl,cN.same sC,cC6,gN,hpn,Dx S,bN,bC,by lia,hNl,by lia,fun p2 a2 b2 H7 ot rt s7 e7 ca2 cb2 go2 gr2 hol2 hrl2 hev2 hrb2=>?_⟩
 have hdv2:=GD gN go2 gr2 hrl2 hev2 hSn fun x hx=>hz x (hSq x hx).1 (hSq x hx).2
 have hw0:(1 / u:Rat)≠0:=fun z=>by
  have:(1 / u)*u=1:=SE hu0
  rw[z,UC]at this
  exact absurd this (by decide)
 have bw:RB (E0+1) (1 / u):=(RB.over (RB.one (n:=1) (by decide)) (bu.mono (Ul hE.symm)) hu0).mono (by lia)
 refine⟨p2,_,_,_,rfl,rfl,SqT.of e7,rfl,_,rfl,a2,tw,ot,1 / u,E0,E0+1,rfl,ca2,Az.of (s7 _ _ etw),fun c hc=>(hrb2 c hc).mono (by lia),bw,by lia,by lia,fun pa H8 s8 cA=>?_⟩
 refine⟨_,rfl,_,rfl,a1,tw,os,1 / u,E0,E0+1,rfl,(ca6.same s7).same s8,Az.of (s8 _ _ (s7 _ _ etw)),fun c hc=>(hrb c hc).mono (by lia),bw,by lia,by lia,fun pb H9 s9 cB=>⟨P2,fun pf hpf=>?_⟩⟩
 have nf:=Af.new (o:=.tup [.ref pa,.ref pb]) hpf
 have e1:=D4 (CA go2 hw0)
 have e2:=D4 (CA go hw0)
 rw[e1]at cA
 rw[e2]at cB
 have huw:u*(1 / u)=1:=by rw[UB];exact SE hu0
 refine q pf pa pb _ _ _ u ((((sC.trans s7).trans s8).trans s9).trans nf) Ac ((cA.same s9).same nf) (cB.same nf) (CA go2 hw0) (CA go hw0) ?_ hu0 (fun x=>?_) (fun x=>?_) ?_ ?_ (fun c hc=>?_) fun c hc=>?_
 ·rw[S7,S3,hu]
  exact congrArg some huw
 ·rw[hdv2 x,Cv.ev_scale]
  have:u*prV x S*(Cv.ev ot x*(1 / u))=(u*(1 / u))*(prV x S*Cv.ev ot x):=by grind
  rw[this,huw,UH]
 ·rw[hdv x,Cv.ev_scale]
  have:u*prV x S*(Cv.ev os x*(1 / u))=(u*(1 / u))*(prV x S*Cv.ev os x):=by grind
  rw[this,huw,UH]
 ·rw[S7,hol2];lia
 ·rw[S7,hol];lia
 ·obtain⟨y,hy,rfl⟩:=(U4.mp hc)
  exact(((hrb2 y hy).mono (Ul hE.symm)).times bw).mono (by lia)
 ·obtain⟨y,hy,rfl⟩:=(U4.mp hc)
  exact(((hrb y hy).mono (Ul hE.symm)).times bw).mono (by lia)
theorem Fv:Aq ["pair","x","y","room"] ["pair","x","y"] (Ae (top 35)):=⟨rfl,rfl,rfl,by decide +kernel,rfl,by decide +kernel,by decide +kernel⟩
theorem J4{f:Addr}{fd:FuncData}(F:Fun K "lack_at" "lack_at" (top 35) f fd)(PX:Fd P w K mg base 33 "whole_height" ["tops","x"] (Mc K))(Pm:mg "len" = none)(hT:P.given.tree=none) :
 AO P w K mg base CX0 34 f fd ["pair","x","y"] (IW K):=by
 refine F.ok Fv (fun vs H Q E h=>?_) (fun cdv A outer s H vs Q E hr h=>?_)
 ·obtain⟨_,_,_,_,_,_,_,_,_,_,rfl,_⟩:=h;rfl
 refine⟨_,(@Ad _ _ _ _ _ K _ (@Ai _ _ 3 _ _ _ _ Fv.nd rfl (Or.inl rfl) (@Ah _ _ _ _ _ _ _ _ (Bw hr hT) (@Al _ _ _ _ _ _ _ _ _ (Bs K) rfl Pm AD (@A0 _ _ _ _ _ (pv 0) Ab (by rfl)) (by decide) (by decide) (by rfl) (by rfl)) Aa) (by rfl) (by first   | exact .inl rfl   | exact .inr rfl   | assumption)) (@Ag _ _ _ (@Av _ _ _ _ (@Ah _ _ _ _ _ _ _ _ Ba (@Ah _ _ _ _ _ _ _ _ Au (@Aj _ _ _ _ _ _ _ (ixT K) (pv 2) Aa (fun u v=>rfl)) (@Aj _ _ _ _ _ _ _ (ixT K) (@Ak _ _ _ _ _ _ _ _ _ _ _ PX hr rfl (@A0 _ _ _ _ _ (@Cz _ _ _ _ _ _ _ _ _ _ (slL K) (pv 0) De (@Dd _ _ _ (pv 3))) (@A0 _ _ _ _ _ (pv 1) Ab (by rfl)) (by rfl)) (by decide) (by decide) (by rfl) (by rfl)) Aa (fun u v=>rfl))) (@Ah _ _ _ _ _ _ _ _ Au (@Aj _ _ _ _ _ _ _ (ixT K) (pv 2) Aa (fun u v=>rfl)) (@Aj _ _ _ _ _ _ _ (ixT K) (@Ak _ _ _ _ _ _ _ _ _ _ _ PX hr rfl (@A0 _ _ _ _ _ (@Cz _ _ _ _ _ _ _ _ _ _ (slL K) (pv 0) (@Dd _ _ _ (pv 3)) De) (@A0 _ _ _ _ _ (pv 1) Ab (by rfl)) (by rfl)) (by decide) (by decide) (by rfl) (by rfl)) Aa (fun u v=>rfl)))))) (by rfl)),?_⟩
 obtain⟨l,rx,ry,ts,x,y,R,m,nx,ny,rfl,hS,hl,hx,⟨_,ery,hy⟩,hB,bx,by_,hz,q⟩:=h
 cases ery
 have hz1:(nx+1)*(R+4)=(nx+1)*(R+2)+(nx+1)*2:=by rw[<- TC]
 generalize hP:(nx+1)*(R+2)=P at *
 refine⟨_,rfl,l,_,rfl,.inl hS,_,_,rfl,rfl,by decide,?_⟩
 have eR:(((ts.map V.int).length:Nat):Int).fdiv 2=(R:Int):=by
  rw[S7,hl,UU _ (by decide)];lia
 rw[eR]
 have ht1:(ts.take R).length=R:=by rw[RY];lia
 have ht2:(ts.drop R).length=R:=by rw[Sf];lia
 refine⟨_,rfl,ry,_,_,_,rfl,rfl,hy,rfl,_,rfl,_,rfl,_,rfl,l,_,rfl,hS,fun p1 h1=>?_⟩
 have c1:Cp (ts.map V.int) none (some (R:Int))=(ts.take R).map V.int:=by rw[Hy,V6]
 rw[c1]
 have n1:=Af.new (o:=.lst ((ts.take R).map V.int)) h1
 have e1:(upd H p1 (.lst ((ts.take R).map V.int))) p1=some (.lst ((ts.take R).map V.int)):=Ac
 generalize upd H p1 (.lst ((ts.take R).map V.int))=H1 at n1 e1 ⊢
 refine⟨_,rfl,p1,rx,ts.take R,x,m,nx,rfl,SqL.of e1,hx.same n1,fun t ht=>hB t (UL ht),bx,by rw[ht1];lia,fun hN s p2 es hs0 ehN bN bs hp2=>?_⟩
 rw[ht1]at es bN bs
 have n2:=Af.new (o:=.tup [.int hN,.int s]) hp2
 refine⟨p2,_,_,_,rfl,rfl,SqT.of Ac,rfl,_,_,rfl,rfl,Bk.bd by_.2 bN (by lia),?_⟩
 have s2:=n1.trans n2
 generalize upd H1 p2 (.tup [.int hN,.int s])=H2 at s2 ⊢
 refine⟨_,rfl,ry,_,_,_,rfl,rfl,hy.same s2,rfl,_,rfl,_,rfl,_,rfl,l,_,rfl,Af.seq s2 hS,fun p3 h3=>?_⟩
 have c2:Cp (ts.map V.int) (some (R:Int)) none=(ts.drop R).map V.int:=by rw[FV,List.map_drop]
 rw[c2]
 have n3:=s2.trans (Af.new (o:=.lst ((ts.drop R).map V.int)) h3)
 have e3:(upd H2 p3 (.lst ((ts.drop R).map V.int))) p3=some (.lst ((ts.drop R).map V.int)):=Ac
 generalize upd H2 p3 (.lst ((ts.drop R).map V.int))=H3 at n3 e3 ⊢
 refine⟨_,rfl,p3,rx,ts.drop R,x,m,nx,rfl,SqL.of e3,hx.same n3,fun t ht=>hB t (UO ht),bx,by rw[ht2];lia,fun hD s' p4 es' hs0' ehD bD bs' hp4=>?_⟩
 rw[ht2]at es' bD bs'
 have n4:=Af.new (o:=.tup [.int hD,.int s']) hp4
 refine⟨p4,_,_,_,rfl,rfl,SqT.of Ac,rfl,_,_,rfl,rfl,Bk.bd by_.1 bD (by lia),_,_,rfl,rfl,?_⟩
 refine q _ _ (n3.trans n4) ?_ ?_
 ·rw[SI,SH,SH,ehN,ehD,es',<- es,SH,Nm.num_mul y]
  grind
 ·exact Bd.sub (n:=m+P+ny) ((by_.2.mul bN).mono (by lia)) ((by_.1.mul bD).mono (by lia))
theorem E4:Aq ["pair","x"] ["pair","x"] (Ae (top 36)):=⟨rfl,rfl,rfl,by decide +kernel,rfl,by decide +kernel,by decide +kernel⟩
theorem E9{f:Addr}{fd:FuncData}(F:Fun K "with_nought_at" "with_nought_at" (top 36) f fd)(Pn:mg "range" = none)(Pm:mg "len" = none)(hT:P.given.tree=none) :
 AO P w K mg base CX0 33 f fd ["pair","x"] (GN K):=by
 refine F.ok E4 (fun vs H Q E h=>?_) (fun cdv A outer s H vs Q E hr h=>?_)
 ·obtain⟨_,_,_,_,_,_,rfl,_⟩:=h;rfl
 refine⟨_,(@Ag _ _ _ (@Av _ _ _ _ (@CT _ (["k","pair","x"]) 1 ([0,1]) _ _ _ _ _ _ _ _ _ _ rfl (Be.look (NX:=["pair","x"]) (sc:=Ae (top 36)) rfl rfl (by decide +kernel)) (@BE _ _ _ _ _ _ rfl Pn (@A0 _ _ _ _ _ (@Al _ _ _ _ _ _ _ _ _ (Bs K) rfl Pm AD (@A0 _ _ _ _ _ (pv 0) Ab (by rfl)) (by decide) (by decide) (by rfl) (by rfl)) Ab (by rfl)) (by rfl)) (fun u1 u2 u3 u4 u5=>(@Ax _ _ 0 _ (show List.Nodup (["k","pair","x"]:List Str) from by decide +kernel) rfl (Or.inl rfl) (by first   | exact .inl rfl   | exact .inr rfl   | assumption))) (AK (by decide)) (fun u1 u2 u3 u4 u5=>Bq) (fun u1 u2 u3 u4 u5=>(@Ah _ _ _ _ _ _ _ _ Ba (@Ah _ _ _ _ _ _ _ _ Au (@Aj _ _ _ _ _ _ _ (ixT K) (pv 2) Aa (fun u v=>rfl)) (@Aj _ _ _ _ _ _ _ (ixL K) (pv 1) (@Ah _ _ _ _ _ _ _ _ Ba (pv 0) Aa) (fun u v=>rfl))) (@Ah _ _ _ _ _ _ _ _ Au (@Aj _ _ _ _ _ _ _ (ixT K) (pv 2) Aa (fun u v=>rfl)) (@Aj _ _ _ _ _ _ _ (ixL K) (pv 1) (pv 0) (fun u v=>rfl))))) (by intro _;rfl)))),?_⟩
 obtain⟨l,rx,ts,x,m,n,rfl,hS,⟨_,erx,hx⟩,h1,h100,hlast,hB,bx,hz,q⟩:=h
 cases erx
 have tl:(ts.map V.int).length=ts.length:=S7 _
 refine C3 ⟨_,rfl,l,_,rfl,.inl hS,_,rfl,by rw[tl];lia,by rw[tl];lia,?_⟩
 rw[Sb,tl]
 refine Jb (L3 H x ts fun H x ts i zs G=>G=H/\zs=((Rr i).map fun k=>(x.den:Int)*(if k=0 then 0 else ts.getD (k-1) 0)-x.num*ts.getD k 0).map V.int) ⟨rfl,rfl⟩ (fun i zs G _ h=>by rw[h.2,S7,S7,U1]) (Rx (AF (by lia))) ?_ ?_
 ·rintro i zs G hi ⟨rfl,rfl⟩
  have at_i:atI (ts.map V.int) (0+(i:Int))=some (.int (ts.getD i 0)):=by
   rw[Int.zero_add]
   refine C9 ?_
   rw[S3,Te hi,T6,Te hi];rfl
  have at_p:atI (ts.map V.int) (0+(i:Int)-1)=some (.int (if i=0 then 0 else ts.getD (i-1) 0)):=by
   by_cases z:i=0
   ·subst z
    rw[if_pos rfl]
    have:atI (ts.map V.int) (-1)=some (.int 0):=BY (by
     rw[tl,S3,Te (by lia)]
     rw[T6,Te (by lia)]at hlast
     exact congrArg (fun t=>some (V.int t)) hlast)
    exact this
   ·rw[if_neg z,show(0:Int)+(i:Int)-1=((i-1:Nat):Int) by lia]
    refine C9 ?_
    rw[S3,Te (by lia),T6,Te (by lia)];rfl
  have bp:Bd m (if i=0 then 0 else ts.getD (i-1) 0):=by
   split
   ·exact(show Bd 0 0 by unfold Bd;decide).mono (by lia)
   ·exact CL hB _
  refine⟨_,rfl,rx,_,_,_,rfl,rfl,hx,rfl,_,rfl,_,rfl,_,_,rfl,rfl,l,_,_,_,rfl,rfl,hS,at_p,_,_,rfl,rfl,Bk.bd bx.2 bp (by lia),?_⟩
  refine⟨_,rfl,rx,_,_,_,rfl,rfl,hx,rfl,_,rfl,_,rfl,l,_,_,_,rfl,rfl,hS,at_i,_,_,rfl,rfl,Bk.bd bx.1 (CL hB i) (by lia),_,_,rfl,rfl,rfl,?_⟩
  rw[U9,SV,SV]
  rfl
 rintro zs G ⟨hG,rfl⟩ p hp
 obtain rfl:H=G:=hG.symm
 refine q p _ (Af.new hp) Ac fun t ht=>?_
 unfold shI at ht
 obtain⟨k,_,rfl⟩:=(U4.mp ht)
 have bp:Bd m (if k=0 then 0 else ts.getD (k-1) 0):=by
  split
  ·exact(show Bd 0 0 by unfold Bd;decide).mono (by lia)
  ·exact CL hB _
 exact Bd.sub (n:=m+n) ((bx.2.mul bp).mono (by lia)) ((bx.1.mul (CL hB k)).mono (by lia))
theorem BJ:Aq ["tops","measure","top"] ["tops"] (Ae (top 37)):=⟨rfl,rfl,rfl,by decide +kernel,rfl,by decide +kernel,by decide +kernel⟩
theorem E8{f:Addr}{fd:FuncData}(F:Fun K "without_common" "without_common" (top 37) f fd)(PR:Fd P w K mg base 33 "common_measure" ["one","other"] (HP))(hT:P.given.tree=none) :
 AO P w K mg base CX0 34 f fd ["tops"] (KN K):=by
 refine F.ok BJ (fun vs H Q E h=>?_) (fun cdv A outer s H vs Q E hr h=>?_)
 ·obtain⟨_,_,_,rfl,_⟩:=h;rfl
 refine⟨_,(@Ad _ _ _ _ _ K _ (@Ai _ _ 1 _ _ _ _ BJ.nd rfl (Or.inr rfl) Aa (by rfl) (by first   | exact .inl rfl   | exact .inr rfl   | assumption)) (@Ad _ _ _ _ _ K _ (@BA _ _ _ _ _ _ _ _ K _ PassesOwn.never rfl (@piL _ K _ _ _ (pv 0) (by rfl)) (@Ax _ _ 2 _ BJ.nd rfl (Or.inl rfl) (by first   | exact .inl rfl   | exact .inr rfl   | assumption)) (@Ag _ _ _ (@Ai _ _ 1 _ _ _ _ BJ.nd rfl (Or.inr rfl) (@Ak _ _ _ _ _ _ _ _ _ _ _ PR hr rfl (@A0 _ _ _ _ _ (pv 1) (@A0 _ _ _ _ _ (pv 2) Ab (by rfl)) (by rfl)) (by decide) (by decide) (by rfl) (by rfl)) (by rfl) (by first   | exact .inl rfl   | exact .inr rfl   | assumption))) (by rfl) (by intro _;rfl)) (@Ag _ _ _ (@Av _ _ _ _ (@CT _ (["top","measure"]) 1 ([1]) _ _ _ _ _ _ _ _ _ _ rfl (Be.look (NX:=["tops","measure","top"]) (sc:=Ae (top 37)) rfl rfl (by decide +kernel)) (@piL _ K _ _ _ (pv 0) (by rfl)) (fun u1 u2 u3 u4 u5=>(@Ax _ _ 0 _ (show List.Nodup (["top","measure"]:List Str) from by decide +kernel) rfl (Or.inl rfl) (by first   | exact .inl rfl   | exact .inr rfl   | assumption))) (AK (by decide)) (fun u1 u2 u3 u4 u5=>Bq) (fun u1 u2 u3 u4 u5=>(@Ah _ _ _ _ _ _ _ _ (Bw hr hT) (pv 0) (pv 1))) (by intro _;rfl)))) (by rfl)) (by rfl)),?_⟩
 obtain⟨l,ts,m,rfl,hS,hne,h100,hB,q⟩:=h
 have tl:(ts.map V.int).length=ts.length:=S7 _
 refine⟨_,rfl,l,rfl,⟨_,hS⟩,FQ (xs:=ts.map V.int) (L3 H l ts fun H l ts i σ G=>G=H/\∃(g:Int) (z:Option V),σ=[some (.ref l),some (.int g),z]/\0<=g/\(∀t∈ts.take i,g∣t)/\(g=0->∀t∈ts.take i,t=0)) ⟨rfl,0,none,rfl,by decide,(fun _ h=>nomatch h),fun _ _ h=>nomatch h⟩ (fun i σ G _ h=>by rw[h.1];exact hS) ?_ ?_⟩
 ·rintro i v σ G hv hR1
  refine BO hR1 fun hq83 hz85=>?_
  refine Dm hz85 fun g z hz85'=>?_
  clear hz85
  refine Ku hz85' fun hq84 g0 hg hg0=>?_
  clear hz85'
  obtain rfl:=hq83
  obtain rfl:=hq84
  try clear hR1
  rw[S3]at hv
  cases ht:ts[i]? with
  | none=>rw[ht]at hv;cases hv
  | some t =>
    rw[ht]at hv
    cases hv
    refine⟨_,rfl,_,rfl,g,t,rfl,rfl,_,_,rfl,by lia,fun u hu=>?_,fun z u hu=>?_⟩
    ·rw[SU,ht]at hu
     rcases RD.mp hu with w | w
     ·exact Int.dvd_trans (Sx ..) (hg u w)
     ·rw[show u=t from Td.mp w];exact Sz ..
    ·have z':Sr g t=0:=by lia
     rw[Int.gcd_eq_zero_iff]at z'
     rw[SU,ht]at hu
     rcases RD.mp hu with w | w
     ·exact hg0 z'.1 u w
     ·rw[show u=t from Td.mp w];exact z'.2
 rintro σ G hR2
 refine BO hR2 fun hG hz87=>?_
 refine Dm hz87 fun g z hz87'=>?_
 clear hz87
 refine Ku hz87' fun hq86 g0 hg hg0=>?_
 clear hz87'
 obtain rfl:=hq86
 try clear hR2
 obtain rfl:H=G:=hG.symm
 rw[tl,SW]at hg hg0
 have gne:g≠0:=fun z=>by
  obtain⟨t,ht,hn⟩:=hne
  exact hn (hg0 z t ht)
 refine C3 ⟨_,rfl,l,rfl,⟨_,hS⟩,?_⟩
 refine Dh (xs:=ts.map V.int) (fun i zs G=>G=H/\zs=((ts.take i).map fun t=>t.fdiv g).map V.int) ⟨rfl,rfl⟩ (fun i zs G hi h=>⟨by rw[h.1];exact hS,by rw[h.2,S7,S7,RY];lia⟩) (Rx (AF (by lia))) ?_ ?_
 ·rintro i v zs G hv ⟨rfl,rfl⟩
  rw[S3]at hv
  cases ht:ts[i]? with
  | none=>rw[ht]at hv;cases hv
  | some t =>
    rw[ht]at hv
    cases hv
    refine⟨_,rfl,_,rfl,_,_,rfl,rfl,gne,rfl,?_⟩
    rw[SU,ht,SV,SV]
    rfl
 rintro zs G ⟨hG,rfl⟩ p hp
 obtain rfl:H=G:=hG.symm
 rw[tl,SW]
 refine q p _ g _ (Af.new hp) Ac gne (by rw[S7]) (fun j=>?_) fun t ht=>?_
 ·rw[T6,T6,S3]
  cases ht:ts[j]? with
  | none=>exact Ux _
  | some t =>
    show g*t.fdiv g=t
    rw[UU _ g0]
    exact Int.mul_ediv_cancel' (hg t (S5 ht))
 ·obtain⟨u,hu,rfl⟩:=(U4.mp ht)
  rw[UU _ g0]
  have b:=hB u hu
  unfold Bd at b ⊢
  exact So (Int.natAbs_ediv_le_natAbs ..) b
theorem Bp:Aq ["both","x","y","low","high","lack","other"] ["both","x","y"] (Ae (top 38)):=⟨rfl,rfl,rfl,by decide +kernel,rfl,by decide +kernel,by decide +kernel⟩
theorem Hi{f:Addr}{fd:FuncData}(F:Fun K "both_with" "both_with" (top 38) f fd)(Qh:Fd P w K mg base 34 "lack_at" ["pair","x","y"] (IW K))(Qi:Fd P w K mg base 33 "with_nought_at" ["pair","x"] (GN K))(Qz:Fd P w K mg base 34 "without_common" ["tops"] (KN K))(Py:mg "zip" = none)(hT:P.given.tree=none) :
 AO P w K mg base CX0 35 f fd ["both","x","y"] (IX K):=by
 refine F.ok Bp (fun vs H Q E h=>?_) (fun cdv A outer s H vs Q E hr h=>?_)
 ·obtain⟨_,_,_,_,_,_,_,_,_,_,_,_,_,_,_,_,_,_,_,_,_,rfl,_⟩:=h;rfl
 refine⟨_,(@Ad _ _ _ _ _ K _ (@Ai _ _ 3 _ _ _ _ Bp.nd rfl (Or.inl rfl) (@Aj _ _ _ _ _ _ _ (ixT K) (pv 0) Aa (fun u v=>rfl)) (by rfl) (by first   | exact .inl rfl   | exact .inr rfl   | assumption)) (@Ad _ _ _ _ _ K _ (@Ai _ _ 4 _ _ _ _ Bp.nd rfl (Or.inl rfl) (@Aj _ _ _ _ _ _ _ (ixT K) (pv 0) Aa (fun u v=>rfl)) (by rfl) (by first   | exact .inl rfl   | exact .inr rfl   | assumption)) (@Ad _ _ _ _ _ K _ (@Ai _ _ 5 _ _ _ _ Bp.nd rfl (Or.inr rfl) (@Ak _ _ _ _ _ _ _ _ _ _ _ Qh hr rfl (@A0 _ _ _ _ _ (@Aj _ _ _ _ _ _ _ (ixT K) (pv 3) Aa (fun u v=>rfl)) (@A0 _ _ _ _ _ (pv 1) (@A0 _ _ _ _ _ (pv 2) Ab (by rfl)) (by rfl)) (by rfl)) (by decide) (by decide) (by rfl) (by rfl)) (by rfl) (by first   | exact .inl rfl   | exact .inr rfl   | assumption)) (@Ad _ _ _ _ _ K _ (@Ai _ _ 6 _ _ _ _ Bp.nd rfl (Or.inr rfl) (@Ak _ _ _ _ _ _ _ _ _ _ _ Qh hr rfl (@A0 _ _ _ _ _ (@Aj _ _ _ _ _ _ _ (ixT K) (pv 4) Aa (fun u v=>rfl)) (@A0 _ _ _ _ _ (pv 1) (@A0 _ _ _ _ _ (pv 2) Ab (by rfl)) (by rfl)) (by rfl)) (by decide) (by decide) (by rfl) (by rfl)) (by rfl) (by first   | exact .inl rfl   | exact .inr rfl   | assumption)) (@Ad _ _ _ _ _ K _ (@AQ _ _ _ _ _ _ _ _ K _ _ (@PW.pt _ _ _ (@DV _ _ _ _ _ _ _ (@Ap _ _ _ _ _ _ _ _ Dl (pv 5) Aa (As _)) (@D9 _ _ _ _ (@Ap _ _ _ _ _ _ _ _ EO (pv 6) Aa (As _))))) (@Ag _ _ _ (@Ai _ _ 4 _ _ _ _ Bp.nd rfl (Or.inl rfl) (@AG _ _ _ _ _ (@A0 _ _ _ _ _ (@Ah _ _ _ _ _ _ _ _ AR (@Aj _ _ _ _ _ _ _ (ixT K) (pv 4) Aa (fun u v=>rfl)) Aa) (@A0 _ _ _ _ _ (@Ak _ _ _ _ _ _ _ _ _ _ _ Qi hr rfl (@A0 _ _ _ _ _ (@Aj _ _ _ _ _ _ _ (ixT K) (pv 4) Aa (fun u v=>rfl)) (@A0 _ _ _ _ _ (pv 1) Ab (by rfl)) (by rfl)) (by decide) (by decide) (by rfl) (by rfl)) Ab (by rfl)) (by rfl))) (by rfl) (by first   | exact .inl rfl   | exact .inr rfl   | assumption))) AI (by rfl) (by rfl)) (@Ad _ _ _ _ _ K _ (@AQ _ _ _ _ _ _ _ _ K _ _ (@PW.pt _ _ _ (@DV _ _ _ _ _ _ _ (@Ap _ _ _ _ _ _ _ _ EO (pv 5) Aa (As _)) (@D9 _ _ _ _ (@Ap _ _ _ _ _ _ _ _ EO (pv 6) Aa (As _))))) (@Ag _ _ _ (@Ai _ _ 4 _ _ _ _ Bp.nd rfl (Or.inl rfl) (@AG _ _ _ _ _ (@A0 _ _ _ _ _ (@Aj _ _ _ _ _ _ _ (ixT K) (pv 4) Aa (fun u v=>rfl)) (@A0 _ _ _ _ _ (@Ak _ _ _ _ _ _ _ _ _ _ _ Qz hr rfl (@A0 _ _ _ _ _ (@CT _ (["a","b","lack","other"]) 2 ([5,6]) _ _ _ _ _ _ _ _ _ _ rfl (Be.look (NX:=["both","x","y","low","high","lack","other"]) (sc:=Ae (top 38)) rfl rfl (by decide +kernel)) (@Lj _ K _ _ _ _ _ _ _ _ rfl Py (@A0 _ _ _ _ _ (@Aj _ _ _ _ _ _ _ (ixT K) (pv 3) Aa (fun u v=>rfl)) (@A0 _ _ _ _ _ (@Aj _ _ _ _ _ _ _ (ixT K) (pv 4) Aa (fun u v=>rfl)) Ab (by rfl)) (by rfl)) (by rfl) (by rfl) (by rfl)) (fun u1 u2 u3 u4 u5=>(@pgT _ K _ _ _ 2 _ rfl (C8 (@Ax _ _ 0 _ (show List.Nodup (["a","b","lack","other"]:List Str) from by decide +kernel) rfl (Or.inl rfl) (by first   | exact .inl rfl   | exact .inr rfl   | assumption)) (C8 (@Ax _ _ 1 _ (show List.Nodup (["a","b","lack","other"]:List Str) from by decide +kernel) rfl (Or.inl rfl) (by first   | exact .inl rfl   | exact .inr rfl   | assumption)) F0)) (by rfl) (by rfl) (by rfl))) (Gp (CG (by decide) (CG (by decide) Fi))) (fun u1 u2 u3 u4 u5=>Bq) (fun u1 u2 u3 u4 u5=>(@Ah _ _ _ _ _ _ _ _ Ba (@Ah _ _ _ _ _ _ _ _ Au (pv 2) (pv 1)) (@Ah _ _ _ _ _ _ _ _ Au (pv 3) (pv 0)))) (by intro _;rfl)) Ab (by rfl)) (by decide) (by decide) (by rfl) (by rfl)) Ab (by rfl)) (by rfl))) (by rfl) (by first   | exact .inl rfl   | exact .inr rfl   | assumption))) AI (by rfl) (by rfl)) (@Ad _ _ _ _ _ K _ (@AQ _ _ _ _ _ _ _ _ K _ _ (@Ap _ _ _ _ _ _ _ _ EO (pv 5) Aa (As _)) (@Ag _ _ _ (@Ai _ _ 3 _ _ _ _ Bp.nd rfl (Or.inl rfl) (@AG _ _ _ _ _ (@A0 _ _ _ _ _ (@Ah _ _ _ _ _ _ _ _ AR (@Aj _ _ _ _ _ _ _ (ixT K) (pv 3) Aa (fun u v=>rfl)) Aa) (@A0 _ _ _ _ _ (@Ak _ _ _ _ _ _ _ _ _ _ _ Qi hr rfl (@A0 _ _ _ _ _ (@Aj _ _ _ _ _ _ _ (ixT K) (pv 3) Aa (fun u v=>rfl)) (@A0 _ _ _ _ _ (pv 1) Ab (by rfl)) (by rfl)) (by decide) (by decide) (by rfl) (by rfl)) Ab (by rfl)) (by rfl))) (by rfl) (by first   | exact .inl rfl   | exact .inr rfl   | assumption))) AI (by rfl) (by rfl)) (@Ag _ _ _ (@Av _ _ _ _ (@HU _ _ _ _ _ _ _ _ (@Ap _ _ _ _ _ _ _ _ E7 (@Aj _ _ _ _ _ _ _ (ixT K) (pv 3) Aa (fun u v=>rfl)) (@Aj _ _ _ _ _ _ _ (ixT K) (pv 4) Aa (fun u v=>rfl)) (As _)) (@AG _ _ _ _ _ (@A0 _ _ _ _ _ (pv 3) (@A0 _ _ _ _ _ (pv 4) Ab (by rfl)) (by rfl))) (@AG _ _ _ _ _ (@A0 _ _ _ _ _ (pv 4) (@A0 _ _ _ _ _ (pv 3) Ab (by rfl)) (by rfl)))))) (by rfl)) (by rfl)) (by rfl)) (by rfl)) (by rfl)) (by rfl)) (by rfl)),?_⟩
 obtain⟨b,rx,ry,v1,v2,r1,r2,ts1,ts2,w,v,n,R,ps,A,S,C,nx,ny,x,y,rfl,hb,⟨p1,l1,rfl,hp1,hl1⟩,⟨p2,l2,rfl,hp2,hl2⟩,I,eR,hw,hx,hy,bx,by_,hnd,hk,hn12,hC,hA,hSz,q⟩:=h
 have P2:2<=sizeLine:=by decide
 refine Dm I.bd fun a1 a2 hz88'=>?_
 refine Cq hz88' fun ba1 ba2 hA1 hA2 hAS=>?_
 clear hz88'
 have hz1:(nx+1)*(R+4)=(nx+1)*(R+2)+(nx+1)*2:=by rw[<- TC]
 have hz2:(nx+1)*2<=(nx+1)*(R+2):=V4 _ (by lia)
 obtain⟨c0,hc0⟩:∃c0,c0=(nx+1)*(R+2)+ny:=⟨_,rfl⟩
 have hcC:c0+2<=C:=by lia
 have hnx:nx+1<=C:=by lia
 have hR1:1<=R:=by lia
 have z1a:ts1.getD (R-1) 0=0:=(I.z1 (R-1) (by lia) (by lia)).1
 have z1b:ts1.getD (R+(R-1)) 0=0:=(I.z1 (R-1) (by lia) (by lia)).2
 have z2a:ts2.getD (R-1) 0=0:=(I.z2 (R-1) (by lia) (by lia)).1
 have z2b:ts2.getD (R+(R-1)) 0=0:=(I.z2 (R-1) (by lia) (by lia)).2
 have last1:ts1.getD (ts1.length-1) 0=0:=by rw[I.l1,show 2*R-1=R+(R-1) by lia];exact z1b
 have last2:ts2.getD (ts2.length-1) 0=0:=by rw[I.l2,show 2*R-1=R+(R-1) by lia];exact z2b
 have den0:(((x.den:Int)):Rat)≠0:=Im (Nm.den_ne x)
 have denx:(((x.den:Int)):Rat)*x=((x.num:Int):Rat):=by rw[Nm.num_mul x];grind
 have hs:(((y.den:Int)*(x.den:Int) ^ R:Int):Rat)≠0:=Im (SF (Nm.den_ne y) (Ut (Nm.den_ne x)))
 refine⟨_,rfl,b,_,_,_,rfl,rfl,hb,rfl,_,rfl,b,_,_,_,rfl,rfl,hb,rfl,?_⟩
 refine⟨_,rfl,p1,_,_,_,rfl,rfl,hp1,rfl,_,rfl,_,rfl,l1,rx,ry,ts1,x,y,R,a1,nx,ny,rfl,hl1,I.l1,hx,hy,ba1,bx,by_,by lia,fun L1 H1 s1 eL1 bL1=>?_⟩
 refine⟨_,rfl,p2,_,_,_,rfl,rfl,hp2.same s1,rfl,_,rfl,_,rfl,l2,rx,ry,ts2,x,y,R,a2,nx,ny,rfl,Af.seq s1 hl2,I.l2,hx.same s1,hy.same s1,ba2,bx,by_,by lia,fun L2 H2 s2 eL2 bL2=>?_⟩
 have s2:=s1.trans s2
 have bL1:Bd (a1+(c0+1)) L1:=bL1.mono (by lia)
 have bL2:Bd (a2+(c0+1)) L2:=bL2.mono (by lia)
 have eL1:(L1:Rat)=(((y.den:Int)*(x.den:Int) ^ R:Int):Rat)*(Cv.ev (ic (ts1.take R)) x-y*Cv.ev (ic (ts1.drop R)) x):=eL1
 have eL2:(L2:Rat)=(((y.den:Int)*(x.den:Int) ^ R:Int):Rat)*(Cv.ev (ic (ts2.take R)) x-y*Cv.ev (ic (ts2.drop R)) x):=eL2
 clear hz1 hz2 s1 hC hc0 hb
 by_cases h1:L1=0
 ·by_cases h2:L2=0
  ·exact absurd ⟨Ma ((Ef hs eL1).mp h1),Ma ((Ef hs eL2).mp h2)⟩ (I.inv.some hw hnd)
  ·-- lack=0,other≠0
   have hN1:Cv.ev (ic (ts1.take R)) x=y*Cv.ev (ic (ts1.drop R)) x:=by have:=(Ef hs eL1).mp h1;exact Ma this
   refine⟨_,rfl,rfl,_,rfl,AU (decide_eq_true (by rw[h1])) ⟨_,rfl,rfl,_,rfl,AU (by rw[decide_eq_false fun z=>h2 (V.int.inj z)];rfl) ?_⟩⟩
   refine⟨_,rfl,p2,_,_,_,rfl,rfl,hp2.same s2,rfl,_,_,rfl,rfl,_,rfl,p2,_,_,_,rfl,rfl,hp2.same s2,rfl,_,rfl,?_⟩
   refine⟨l2,rx,ts2,x,a2,nx,rfl,Af.seq s2 hl2,hx.same s2,by rw[I.l2];lia,by rw[I.l2];lia,last2,ba2,bx,by lia,fun l9 G9 s9 e9 b9=>⟨P2,fun p9 hp9=>?_⟩⟩
   have s9:=s2.trans s9
   have n9:=Af.new (o:=.tup [.int (r2+2),.ref l9]) hp9
   have ep9:(upd G9 p9 (.tup [.int (r2+2),.ref l9])) p9=some (.tup [.int (r2+2),.ref l9]):=Ac
   have e9:=n9 _ _ e9
   have s9:=s9.trans n9
   generalize upd G9 p9 (.tup [.int (r2+2),.ref l9])=G at ep9 e9 s9 ⊢
   clear n9 hp9
   refine⟨_,rfl,rfl,_,rfl,AH (by rw[decide_eq_true (by rw[h1])];rfl) (CF ?_)⟩
   refine⟨_,rfl,rfl,_,rfl,AH (by rw[decide_eq_true (by rw[h1])];rfl) ?_⟩
   have un:=I.inv.stepA (y:=y) den0 denx hN1 (Fq I.l2 hR1 z2a) (Fs I.l2 hR1 z2a z2b)
   have len1:=I.l1
   have len2:=(DT x.num x.den ts2).trans I.l2
   have zer1:∀j,(ps++[(x,y)]).length+1<=j->j<R->ts1.getD j 0=0/\ts1.getD (R+j) 0=0:=fun j h=>I.z1 j (by rw[S6]at h;lia)
   have zer2:∀j,(ps++[(x,y)]).length+1<=j->j<R->(shI x.num x.den ts2).getD j 0=0/\(shI x.num x.den ts2).getD (R+j) 0=0:=by rw[S6];exact Ft (c:=x.num) (d:=x.den) I.z2
   have bda:=ba1
   have bdb:=b9
   refine⟨_,rfl,p1,_,_,_,rfl,rfl,hp1.same s9,rfl,_,rfl,p9,_,_,_,rfl,rfl,SqT.of ep9,rfl,_,_,rfl,rfl,_,rfl,?_⟩
   by_cases hlt:r1<r2+2
   ·refine AU (decide_eq_true hlt) ⟨_,rfl,_,rfl,P2,fun t9 ht9=>?_⟩
    have n9:=Af.new (o:=.tup [.ref p1,.ref p9]) ht9
    exact q t9 _ _ _ _ _ _ _ (s9.trans n9) (SqT.of Ac) ⟨p1,_,rfl,(hp1.same s9).same n9,Af.seq n9 (Af.seq s9 hl1)⟩ ⟨p9,_,rfl,(SqT.of ep9).same n9,Af.seq n9 (SqL.of e9)⟩ ⟨un.inv hlt,len1,len2,zer1,zer2,_,_,bda,bdb,by lia,by lia,by lia⟩
   ·refine AH (decide_eq_false hlt) ⟨_,rfl,_,rfl,P2,fun t9 ht9=>?_⟩
    have n9:=Af.new (o:=.tup [.ref p9,.ref p1]) ht9
    exact q t9 _ _ _ _ _ _ _ (s9.trans n9) (SqT.of Ac) ⟨p9,_,rfl,(SqT.of ep9).same n9,Af.seq n9 (SqL.of e9)⟩ ⟨p1,_,rfl,(hp1.same s9).same n9,Af.seq n9 (Af.seq s9 hl1)⟩ ⟨un.turn hlt,len2,len1,zer2,zer1,_,_,bdb,bda,by lia,by lia,by lia⟩
 ·by_cases h2:L2=0
  ·-- lack≠0,other=0
   have hN2:Cv.ev (ic (ts2.take R)) x=y*Cv.ev (ic (ts2.drop R)) x:=by have:=(Ef hs eL2).mp h2;exact Ma this
   refine⟨_,rfl,rfl,_,rfl,AH (decide_eq_false fun z=>h1 (V.int.inj z)) (CF ?_)⟩
   refine⟨_,rfl,rfl,_,rfl,AU (by rw[decide_eq_false fun z=>h1 (V.int.inj z)];rfl) ⟨_,rfl,rfl,_,rfl,AH (by rw[decide_eq_true (by rw[h2])];rfl) ?_⟩⟩
   refine⟨_,rfl,rfl,_,rfl,AU (by rw[decide_eq_false fun z=>h1 (V.int.inj z)];rfl) ?_⟩
   refine⟨_,rfl,p1,_,_,_,rfl,rfl,hp1.same s2,rfl,_,_,rfl,rfl,_,rfl,p1,_,_,_,rfl,rfl,hp1.same s2,rfl,_,rfl,?_⟩
   refine⟨l1,rx,ts1,x,a1,nx,rfl,Af.seq s2 hl1,hx.same s2,by rw[I.l1];lia,by rw[I.l1];lia,last1,ba1,bx,by lia,fun l9 G9 s9 e9 b9=>⟨P2,fun p9 hp9=>?_⟩⟩
   have s9:=s2.trans s9
   have n9:=Af.new (o:=.tup [.int (r1+2),.ref l9]) hp9
   have ep9:(upd G9 p9 (.tup [.int (r1+2),.ref l9])) p9=some (.tup [.int (r1+2),.ref l9]):=Ac
   have e9:=n9 _ _ e9
   have s9:=s9.trans n9
   generalize upd G9 p9 (.tup [.int (r1+2),.ref l9])=G at ep9 e9 s9 ⊢
   clear n9 hp9
   have un:=I.inv.stepB (y:=y) den0 denx hN2 (Fq I.l1 hR1 z1a) (Fs I.l1 hR1 z1a z1b)
   have len1:=(DT x.num x.den ts1).trans I.l1
   have len2:=I.l2
   have zer2:∀j,(ps++[(x,y)]).length+1<=j->j<R->ts2.getD j 0=0/\ts2.getD (R+j) 0=0:=fun j h=>I.z2 j (by rw[S6]at h;lia)
   have zer1:∀j,(ps++[(x,y)]).length+1<=j->j<R->(shI x.num x.den ts1).getD j 0=0/\(shI x.num x.den ts1).getD (R+j) 0=0:=by rw[S6];exact Ft (c:=x.num) (d:=x.den) I.z1
   have bda:=b9
   have bdb:=ba2
   refine⟨_,rfl,p9,_,_,_,rfl,rfl,SqT.of ep9,rfl,_,rfl,p2,_,_,_,rfl,rfl,hp2.same s9,rfl,_,_,rfl,rfl,_,rfl,?_⟩
   by_cases hlt:r1+2<r2
   ·refine AU (decide_eq_true hlt) ⟨_,rfl,_,rfl,P2,fun t9 ht9=>?_⟩
    have n9:=Af.new (o:=.tup [.ref p9,.ref p2]) ht9
    exact q t9 _ _ _ _ _ _ _ (s9.trans n9) (SqT.of Ac) ⟨p9,_,rfl,(SqT.of ep9).same n9,Af.seq n9 (SqL.of e9)⟩ ⟨p2,_,rfl,(hp2.same s9).same n9,Af.seq n9 (Af.seq s9 hl2)⟩ ⟨un.inv hlt,len1,len2,zer1,zer2,_,_,bda,bdb,by lia,by lia,by lia⟩
   ·refine AH (decide_eq_false hlt) ⟨_,rfl,_,rfl,P2,fun t9 ht9=>?_⟩
    have n9:=Af.new (o:=.tup [.ref p2,.ref p9]) ht9
    exact q t9 _ _ _ _ _ _ _ (s9.trans n9) (SqT.of Ac) ⟨p2,_,rfl,(hp2.same s9).same n9,Af.seq n9 (Af.seq s9 hl2)⟩ ⟨p9,_,rfl,(SqT.of ep9).same n9,Af.seq n9 (SqL.of e9)⟩ ⟨un.turn hlt,len2,len1,zer2,zer1,_,_,bdb,bda,by lia,by lia,by lia⟩
  ·-- both
   refine⟨_,rfl,rfl,_,rfl,AH (decide_eq_false fun z=>h1 (V.int.inj z)) (CF ?_)⟩
   refine⟨_,rfl,rfl,_,rfl,AU (by rw[decide_eq_false fun z=>h1 (V.int.inj z)];rfl) ⟨_,rfl,rfl,_,rfl,AU (by rw[decide_eq_false fun z=>h2 (V.int.inj z)];rfl) ?_⟩⟩
   refine⟨_,rfl,p2,_,_,_,rfl,rfl,hp2.same s2,rfl,?_⟩
   refine C3 ⟨_,rfl,p1,_,_,_,rfl,rfl,hp1.same s2,rfl,_,rfl,p2,_,_,_,rfl,rfl,hp2.same s2,rfl,l1,l2,ts1.map V.int,ts2.map V.int,rfl,Af.seq s2 hl1,Af.seq s2 hl2,?_⟩
   have tl1:(ts1.map V.int).length=2*R:=by rw[S7];exact I.l1
   have tl2:(ts2.map V.int).length=2*R:=by rw[S7];exact I.l2
   have hmin:min (ts1.map V.int).length (ts2.map V.int).length=2*R:=by lia
   refine Nz (xs:=ts1.map V.int) (ys:=ts2.map V.int) (L5 H2 L1 ts2 L2 ts1 fun H2 L1 ts2 L2 ts1 i zs G=>Af H2 G/\zs=((Rr i).map fun k=>L1*ts2.getD k 0-L2*ts1.getD k 0).map V.int) ⟨Af.refl _,rfl⟩ (fun i zs G _ h=>⟨Af.seq (s2.trans h.1) hl1,Af.seq (s2.trans h.1) hl2,by rw[h.2,S7,S7,U1]⟩) (Rx (AF (by lia))) ?_ ?_
   ·rintro i u1 u2 T zs G hu1 hu2 hT ⟨sg,rfl⟩
    have hi:i<2*R:=by have:=(RF.mp hu1).1;lia
    have g1:ts1[i]? = some (ts1.getD i 0):=by rw[T6,Te (by have:=I.l1;lia)];rfl
    have g2:ts2[i]? = some (ts2.getD i 0):=by rw[T6,Te (by have:=I.l2;lia)];rfl
    rw[S3,g1]at hu1
    rw[S3,g2]at hu2
    cases hu1
    cases hu2
    refine⟨_,rfl,_,rfl,_,_,rfl,rfl,Bk.bd bL1 (CL ba2 i) (by lia),_,rfl,_,rfl,_,_,rfl,rfl,Bk.bd bL2 (CL ba1 i) (by lia),_,_,rfl,rfl,sg.trans (Af.new hT),?_⟩
    rw[U9,SV,SV]
    rfl
   rintro zs G ⟨sg,rfl⟩ m9 hm9
   rw[hmin]
   generalize hms:((Rr (2*R)).map fun k=>L1*ts2.getD k 0-L2*ts1.getD k 0)=ms
   have msl:ms.length=2*R:=by rw[<- hms,S7,U1]
   have msg:∀j,ms.getD j 0=L1*ts2.getD j 0-L2*ts1.getD j 0:=fun j=>by
    rcases UG j (2*R) with z | z
    ·rw[<- hms,T6,S3,U6 z];rfl
    ·rw[CW (by lia),CW (by have:=I.l2;lia),CW (by have:=I.l1;lia),Ux,Ux];rfl
   have bms:∀t∈ms,Bd (a1+a2+(c0+2)) t:=fun t ht=>by
    rw[<- hms]at ht
    obtain⟨k,_,rfl⟩:=(U4.mp ht)
    exact Bd.sub (n:=a1+a2+(c0+1)) ((bL1.mul (CL ba2 k)).mono (by lia)) ((bL2.mul (CL ba1 k)).mono (by lia))
   have hne:∃t∈ms,t≠0:=by
    have top:=CN.mix (m:=1) (a:=(L1:Rat)) (b:=(L2:Rat)) I.inv.top2 I.inv.le1 I.inv.lt (Im h1) (N':=ic (ms.take R)) (D':=ic (ms.drop R)) (Ig (g:=1) R fun j=>by rw[Sy,msg]) (Ih (g:=1) R fun j=>by rw[Sy,msg])
    have key:∀j,((ms.getD j 0:Int):Rat)≠0->∃t∈ms,t≠0:=fun j hj=>by
     have h0:ms.getD j 0≠0:=fun z=>hj (by rw[z];exact Uy)
     rcases UG j ms.length with z | z
     ·exact⟨_,Ip z,h0⟩
     ·exact absurd (CW z) h0
    rcases top with ⟨j,_,hj⟩ | ⟨j,_,hj⟩
    ·rw[Bg,Bt]at hj
     split at hj
     ·exact key j hj
     ·exact absurd Uy hj
    ·rw[Bg,Bu]at hj
     exact key _ hj
   refine⟨m9,ms,a1+a2+(c0+2),rfl,SqL.of Ac,hne,by rw[msl];lia,bms,fun l8 G8 g us s8 e8 g0 usl husg bus=>⟨P2,fun p8 hp8=>?_⟩⟩
   have s8:=((s2.trans sg).trans (Af.new (o:=.lst (ms.map V.int)) hm9)).trans s8
   have n8:=Af.new (o:=.tup [.int r2,.ref l8]) hp8
   have ep8:(upd G8 p8 (.tup [.int r2,.ref l8])) p8=some (.tup [.int r2,.ref l8]):=Ac
   have e8:=n8 _ _ e8
   have s8:=s8.trans n8
   generalize upd G8 p8 (.tup [.int r2,.ref l8])=G7 at ep8 e8 s8 ⊢
   have husg:∀j,g*us.getD j 0=L1*ts2.getD j 0-L2*ts1.getD j 0:=fun j=>by rw[husg j,msg j]
   have usl:us.length=2*R:=usl.trans msl
   clear n8 hp8 hne bms msg hms msl sg hm9
   refine⟨_,rfl,rfl,_,rfl,AU (by rw[decide_eq_false fun z=>h1 (V.int.inj z)];rfl) ?_⟩
   refine⟨_,rfl,p1,_,_,_,rfl,rfl,hp1.same s8,rfl,_,_,rfl,rfl,_,rfl,p1,_,_,_,rfl,rfl,hp1.same s8,rfl,_,rfl,?_⟩
   refine⟨l1,rx,ts1,x,a1,nx,rfl,Af.seq s8 hl1,hx.same s8,by rw[I.l1];lia,by rw[I.l1];lia,last1,ba1,bx,by lia,fun l9 G9 s9 e9 b9=>⟨P2,fun p9 hp9=>?_⟩⟩
   have s9G:=s9.trans (Af.new (o:=.tup [.int (r1+2),.ref l9]) hp9)
   have s9:=s8.trans s9
   have n9:=Af.new (o:=.tup [.int (r1+2),.ref l9]) hp9
   have ep9:(upd G9 p9 (.tup [.int (r1+2),.ref l9])) p9=some (.tup [.int (r1+2),.ref l9]):=Ac
   have e9:=n9 _ _ e9
   have s9:=s9.trans n9
   generalize upd G9 p9 (.tup [.int (r1+2),.ref l9])=G at ep9 e9 s9 s9G ⊢
   clear n9 hp9
   have un:=I.inv.stepC (y:=y) (s:=(((y.den:Int)*(x.den:Int) ^ R:Int):Rat)) den0 denx (Im h1) (Im g0) eL1 eL2 (Fq I.l1 hR1 z1a) (Fs I.l1 hR1 z1a z1b) (Ig R husg) (Ih R husg)
   have len1:=(DT x.num x.den ts1).trans I.l1
   have len2:=usl
   have zer1:∀j,(ps++[(x,y)]).length+1<=j->j<R->(shI x.num x.den ts1).getD j 0=0/\(shI x.num x.den ts1).getD (R+j) 0=0:=by rw[S6];exact Ft (c:=x.num) (d:=x.den) I.z1
   have zer2:∀j,(ps++[(x,y)]).length+1<=j->j<R->us.getD j 0=0/\us.getD (R+j) 0=0:=fun j h hj=>by
    rw[S6]at h
    have q1:=I.z1 j (by lia) hj
    have q2:=I.z2 j (by lia) hj
    exact⟨Ie g0 husg q1.1 q2.1,Ie g0 husg q1.2 q2.2⟩
   have bda:=b9
   have bdb:=bus
   have sG:Af G7 G:=s9G
   refine⟨_,rfl,p9,_,_,_,rfl,rfl,SqT.of ep9,rfl,_,rfl,p8,_,_,_,rfl,rfl,(SqT.of (K:=K) ep8).same sG,rfl,_,_,rfl,rfl,_,rfl,?_⟩
   by_cases hlt:r1+2<r2
   ·refine AU (decide_eq_true hlt) ⟨_,rfl,_,rfl,P2,fun t9 ht9=>?_⟩
    have n9:=Af.new (o:=.tup [.ref p9,.ref p8]) ht9
    exact q t9 _ _ _ _ _ _ _ (s9.trans n9) (SqT.of Ac) ⟨p9,_,rfl,(SqT.of ep9).same n9,Af.seq n9 (SqL.of e9)⟩ ⟨p8,_,rfl,((SqT.of (K:=K) ep8).same sG).same n9,Af.seq n9 (Af.seq sG (SqL.of (K:=K) e8))⟩ ⟨un.inv hlt,len1,len2,zer1,zer2,_,_,bda,bdb,by lia,by lia,by lia⟩
   ·refine AH (decide_eq_false hlt) ⟨_,rfl,_,rfl,P2,fun t9 ht9=>?_⟩
    have n9:=Af.new (o:=.tup [.ref p8,.ref p9]) ht9
    exact q t9 _ _ _ _ _ _ _ (s9.trans n9) (SqT.of Ac) ⟨p8,_,rfl,((SqT.of (K:=K) ep8).same sG).same n9,Af.seq n9 (Af.seq sG (SqL.of (K:=K) e8))⟩ ⟨p9,_,rfl,(SqT.of ep9).same n9,Af.seq n9 (SqL.of e9)⟩ ⟨un.turn hlt,len2,len1,zer2,zer1,_,_,bdb,bda,by lia,by lia,by lia⟩
theorem AS:Aq ["places","heights","width","room","first","second","both","x","y","tops"] ["places","heights","width"] (Ae (top 39)):=⟨rfl,rfl,rfl,by decide +kernel,rfl,by decide +kernel,by decide +kernel⟩
theorem EV{f:Addr}{fd:FuncData}(F:Fun K "pair_through" "pair_through" (top 39) f fd)(QA:Fd P w K mg base 35 "both_with" ["both","x","y"] (IX K))(Px:Fd P w K mg base 35 "curve_over" ["tops","bottom"] (C2 K))(Py:mg "zip" = none)(Pm:mg "len" = none)(hT:P.given.tree=none) :
 AO P w K mg base CX0 36 f fd ["places","heights","width"] (IT K):=by
 refine F.ok AS (fun vs H Q E h=>?_) (fun cdv A outer s H vs Q E hr h=>?_)
 ·obtain⟨_,_,_,_,_,_,_,_,_,_,_,rfl,_⟩:=h;rfl
 refine⟨_,(@Ad _ _ _ _ _ K _ (@Ai _ _ 3 _ _ _ _ AS.nd rfl (Or.inl rfl) (@Ah _ _ _ _ _ _ _ _ AR (@Al _ _ _ _ _ _ _ _ _ (Bs K) rfl Pm AD (@A0 _ _ _ _ _ (pv 0) Ab (by rfl)) (by decide) (by decide) (by rfl) (by rfl)) Aa) (by rfl) (by first   | exact .inl rfl   | exact .inr rfl   | assumption)) (@Ad _ _ _ _ _ K _ (@Ai _ _ 4 _ _ _ _ AS.nd rfl (Or.inl rfl) (@AG _ _ _ _ _ (@A0 _ _ _ _ _ (@Ah _ _ _ _ _ _ _ _ Au Aa (@Ah _ _ _ _ _ _ _ _ Ba Aa (pv 2))) (@A0 _ _ _ _ _ (@Ah _ _ _ _ _ _ _ _ Ew (@Bj _ _ _ _ (@A0 _ _ _ _ _ Aa Ab (by rfl))) (@Ah _ _ _ _ _ _ _ _ FE (@Bj _ _ _ _ (@A0 _ _ _ _ _ Aa Ab (by rfl))) (@Ah _ _ _ _ _ _ _ _ Ba (@Ah _ _ _ _ _ _ _ _ Au Aa (pv 3)) Aa))) Ab (by rfl)) (by rfl))) (by rfl) (by first   | exact .inl rfl   | exact .inr rfl   | assumption)) (@Ad _ _ _ _ _ K _ (@Ai _ _ 5 _ _ _ _ AS.nd rfl (Or.inl rfl) (@AG _ _ _ _ _ (@A0 _ _ _ _ _ (@Ah _ _ _ _ _ _ _ _ AR (@Ah _ _ _ _ _ _ _ _ Au Aa (@Ah _ _ _ _ _ _ _ _ Ba Aa (@Ah _ _ _ _ _ _ _ _ Ba (pv 3) (pv 2)))) Aa) (@A0 _ _ _ _ _ (@Ah _ _ _ _ _ _ _ _ Ew (@Ah _ _ _ _ _ _ _ _ Ew (@Ah _ _ _ _ _ _ _ _ FE (@Bj _ _ _ _ (@A0 _ _ _ _ _ Aa Ab (by rfl))) (pv 3)) (@Bj _ _ _ _ (@A0 _ _ _ _ _ Aa Ab (by rfl)))) (@Ah _ _ _ _ _ _ _ _ FE (@Bj _ _ _ _ (@A0 _ _ _ _ _ Aa Ab (by rfl))) (@Ah _ _ _ _ _ _ _ _ Ba (pv 3) Aa))) Ab (by rfl)) (by rfl))) (by rfl) (by first   | exact .inl rfl   | exact .inr rfl   | assumption)) (@Ad _ _ _ _ _ K _ (@Ai _ _ 6 _ _ _ _ AS.nd rfl (Or.inl rfl) (@HU _ _ _ _ _ _ _ _ (@Ap _ _ _ _ _ _ _ _ E7 (@Aj _ _ _ _ _ _ _ (ixT K) (pv 4) Aa (fun u v=>rfl)) (@Aj _ _ _ _ _ _ _ (ixT K) (pv 5) Aa (fun u v=>rfl)) (As _)) (@AG _ _ _ _ _ (@A0 _ _ _ _ _ (pv 4) (@A0 _ _ _ _ _ (pv 5) Ab (by rfl)) (by rfl))) (@AG _ _ _ _ _ (@A0 _ _ _ _ _ (pv 5) (@A0 _ _ _ _ _ (pv 4) Ab (by rfl)) (by rfl)))) (by rfl) (by first   | exact .inl rfl   | exact .inr rfl   | assumption)) (@Ad _ _ _ _ _ K _ (@BA _ _ _ _ _ _ _ _ K _ PassesOwn.never rfl (@Lj _ K _ _ _ _ _ _ _ _ rfl Py (@A0 _ _ _ _ _ (pv 0) (@A0 _ _ _ _ _ (pv 1) Ab (by rfl)) (by rfl)) (by rfl) (by rfl) (by rfl)) (@pgT _ K _ _ _ 2 _ rfl (C8 (@Ax _ _ 7 _ AS.nd rfl (Or.inl rfl) (by first   | exact .inl rfl   | exact .inr rfl   | assumption)) (C8 (@Ax _ _ 8 _ AS.nd rfl (Or.inl rfl) (by first   | exact .inl rfl   | exact .inr rfl   | assumption)) F0)) (by rfl) (by rfl) (by rfl)) (@Ag _ _ _ (@Ai _ _ 6 _ _ _ _ AS.nd rfl (Or.inl rfl) (@Ak _ _ _ _ _ _ _ _ _ _ _ QA hr rfl (@A0 _ _ _ _ _ (pv 6) (@A0 _ _ _ _ _ (pv 7) (@A0 _ _ _ _ _ (pv 8) Ab (by rfl)) (by rfl)) (by rfl)) (by decide) (by decide) (by rfl) (by rfl)) (by rfl) (by first   | exact .inl rfl   | exact .inr rfl   | assumption))) (by rfl) (by intro _;rfl)) (@Ad _ _ _ _ _ K _ (@Ai _ _ 9 _ _ _ _ AS.nd rfl (Or.inl rfl) (@Aj _ _ _ _ _ _ _ (ixT K) (@Aj _ _ _ _ _ _ _ (ixT K) (pv 6) Aa (fun u v=>rfl)) Aa (fun u v=>rfl)) (by rfl) (by first   | exact .inl rfl   | exact .inr rfl   | assumption)) (@Ag _ _ _ (@Av _ _ _ _ (@AG _ _ _ _ _ (@A0 _ _ _ _ _ (@Ak _ _ _ _ _ _ _ _ _ _ _ Px hr rfl (@A0 _ _ _ _ _ (@Cz _ _ _ _ _ _ _ _ _ _ (slL K) (pv 9) De (@Dd _ _ _ (pv 3))) (@A0 _ _ _ _ _ Aa Ab (by rfl)) (by rfl)) (by decide) (by decide) (by rfl) (by rfl)) (@A0 _ _ _ _ _ (@Ak _ _ _ _ _ _ _ _ _ _ _ Px hr rfl (@A0 _ _ _ _ _ (@Cz _ _ _ _ _ _ _ _ _ _ (slL K) (pv 9) (@Dd _ _ _ (pv 3)) De) (@A0 _ _ _ _ _ Aa Ab (by rfl)) (by rfl)) (by decide) (by decide) (by rfl) (by rfl)) Ab (by rfl)) (by rfl))))) (by rfl)) (by rfl)) (by rfl)) (by rfl)) (by rfl)) (by rfl)),?_⟩
 obtain⟨lp,lh,zs,ys,qs,hs,W,n,nx,ny,C,rfl,hP,hZ,hH,hY,hql,hhl,hn1,hn12,hnd,hW1,hWn,bq,bh,hC,hG,q⟩:=h
 have P1:1<=sizeLine:=by decide
 have P2:2<=sizeLine:=by decide
 have P60:60<=sizeLine:=by decide
 have hzl:=hZ.length
 refine⟨_,rfl,lp,_,rfl,.inl hP,_,_,rfl,rfl,?_⟩
 have eR:((zs.length:Nat):Int)+1=((n+1:Nat):Int):=by lia
 rw[eR]
 refine⟨_,rfl,_,_,rfl,rfl,_,_,rfl,rfl,.inl ⟨by decide,by decide⟩,P1,fun o1 ho1=>⟨P1,fun o2 ho2=>?_⟩⟩
 have n1:=Af.new (o:=.lst [.int 1]) ho1
 have n2:=Af.new (o:=.lst [.int 0]) ho2
 refine⟨_,rfl,_,_,rfl,rfl,.inl ⟨by decide,by decide⟩,_,_,rfl,rfl,o2,_,[.int 0],rfl,rfl,Ac,by lia,by lia,Rw (show _<=60 by show 1*_<=60;lia) P60,fun o3 ho3=>?_⟩
 have e3:(RX (2*((n+1:Nat):Int)-1).toNat [V.int 0]).flatten=(RX (2*(n+1)-1) (0:Int)).map V.int:=by rw[show(2*((n+1:Nat):Int)-1).toNat=2*(n+1)-1 by lia,Mi]
 rw[e3]
 have n3:=Af.new (o:=.lst ((RX (2*(n+1)-1) (0:Int)).map V.int)) ho3
 refine⟨o1,o3,[.int 1],_,rfl,rfl,n3 _ _ (n2 _ _ Ac),Ac,Rw (show _<=60 by rw[Sk,S7,S8];lia) P60,fun k1 hk1=>⟨P2,fun f1 hf1=>?_⟩⟩
 have n4:=Af.new (o:=.lst ([V.int 1]++(RX (2*(n+1)-1) (0:Int)).map V.int)) hk1
 have n5:=Af.new (o:=.tup [.int (2*(1-(W:Int))),.ref k1]) hf1
 have sF:=(((n1.trans n2).trans n3).trans n4).trans n5
 have ek1:=n5 _ _ (Ac (H:=upd (upd (upd H o1 (.lst [.int 1])) o2 (.lst [.int 0])) o3 (.lst ((RX (2*(n+1)-1) (0:Int)).map V.int))) (a:=k1) (o:=.lst ([V.int 1]++(RX (2*(n+1)-1) (0:Int)).map V.int)))
 have ef1:=Ac (H:=upd (upd (upd (upd H o1 (.lst [.int 1])) o2 (.lst [.int 0])) o3 (.lst ((RX (2*(n+1)-1) (0:Int)).map V.int))) k1 (.lst ([V.int 1]++(RX (2*(n+1)-1) (0:Int)).map V.int))) (a:=f1) (o:=.tup [.int (2*(1-(W:Int))),.ref k1])
 generalize upd (upd (upd (upd (upd H o1 (.lst [.int 1])) o2 (.lst [.int 0])) o3 (.lst ((RX (2*(n+1)-1) (0:Int)).map V.int))) k1 (.lst ([V.int 1]++(RX (2*(n+1)-1) (0:Int)).map V.int))) f1 (.tup [.int (2*(1-(W:Int))),.ref k1])=HF at sF ek1 ef1 ⊢
 have ek1:HF k1=some (.lst ((Di (n+1)).map V.int)):=ek1
 clear n1 n2 n3 n4 n5 e3 ho1 ho2 ho3 hk1 hf1
 refine⟨_,rfl,_,rfl,_,_,rfl,rfl,_,_,rfl,rfl,_,_,rfl,rfl,.inl ⟨by decide,by decide⟩,_,_,rfl,rfl,P1,fun o5 ho5=>?_⟩
 have s8:=Af.new (o:=.lst [.int 0]) ho5
 have e5:=Ac (H:=HF) (a:=o5) (o:=.lst [.int 0])
 generalize upd HF o5 (.lst [.int 0])=A1 at s8 e5 ⊢
 refine⟨_,rfl,o5,_,[.int 0],rfl,rfl,e5,by lia,by lia,Rw (show _<=60 by show 1*_<=60;lia) P60,fun o6 ho6=>?_⟩
 rw[Sb,Mi]
 have s8:=s8.trans (Af.new (o:=.lst ((RX (n+1) (0:Int)).map V.int)) ho6)
 have e6:=Ac (H:=A1) (a:=o6) (o:=.lst ((RX (n+1) (0:Int)).map V.int))
 generalize upd A1 o6 (.lst ((RX (n+1) (0:Int)).map V.int))=A2 at s8 e6 ⊢
 refine⟨P1,fun o7 ho7=>?_⟩
 have n3:=Af.new (o:=.lst [.int 1]) ho7
 have e7:=Ac (H:=A2) (a:=o7) (o:=.lst [.int 1])
 have e6:=n3 _ _ e6
 have s8:=s8.trans n3
 generalize upd A2 o7 (.lst [.int 1])=A3 at s8 e6 e7 ⊢
 refine⟨o6,o7,_,_,rfl,rfl,e6,e7,Rw (show _<=60 by rw[Sk,S7,S8];lia) P60,fun o8 ho8=>?_⟩
 have s8:=s8.trans (Af.new (o:=.lst ((RX (n+1) (0:Int)).map V.int++[V.int 1])) ho8)
 have e8:=Ac (H:=A3) (a:=o8) (o:=.lst ((RX (n+1) (0:Int)).map V.int++[V.int 1]))
 generalize upd A3 o8 (.lst ((RX (n+1) (0:Int)).map V.int++[V.int 1]))=A4 at s8 e8 ⊢
 refine⟨P1,fun o9 ho9=>?_⟩
 have n5:=Af.new (o:=.lst [.int 0]) ho9
 have e9:=Ac (H:=A4) (a:=o9) (o:=.lst [.int 0])
 have e8:=n5 _ _ e8
 have s8:=s8.trans n5
 generalize upd A4 o9 (.lst [.int 0])=A5 at s8 e8 e9 ⊢
 refine⟨_,rfl,_,_,rfl,rfl,o9,_,[.int 0],rfl,rfl,e9,by lia,by lia,Rw (show _<=60 by show 1*_<=60;lia) P60,fun o10 ho10=>?_⟩
 have e10:(RX (((n+1:Nat):Int)-1).toNat [V.int 0]).flatten=(RX (n+1-1) (0:Int)).map V.int:=by rw[show(((n+1:Nat):Int)-1).toNat=n+1-1 by lia,Mi]
 rw[e10]
 have n6:=Af.new (o:=.lst ((RX (n+1-1) (0:Int)).map V.int)) ho10
 have e8:=n6 _ _ e8
 have ea:=Ac (H:=A5) (a:=o10) (o:=.lst ((RX (n+1-1) (0:Int)).map V.int))
 have s8:=s8.trans n6
 generalize upd A5 o10 (.lst ((RX (n+1-1) (0:Int)).map V.int))=A6 at s8 e8 ea ⊢
 refine⟨o8,o10,_,_,rfl,rfl,e8,ea,Rw (show _<=60 by rw[S6,Sk,S7,S8,S7,S8];lia) P60,fun k2 hk2=>?_⟩
 have esec:(RX (n+1) (0:Int)).map V.int++[V.int 1]++(RX (n+1-1) (0:Int)).map V.int=(BI (n+1)).map V.int:=by unfold BI;rw[SV,SV];rfl
 rw[esec]
 have s8:=s8.trans (Af.new (o:=.lst ((BI (n+1)).map V.int)) hk2)
 have ek2:=Ac (H:=A6) (a:=k2) (o:=.lst ((BI (n+1)).map V.int))
 generalize upd A6 k2 (.lst ((BI (n+1)).map V.int))=A7 at s8 ek2 ⊢
 refine⟨P2,fun f2 hf2=>?_⟩
 have n8:=Af.new (o:=.tup [.int (2*(1-(((n+1:Nat):Int)-(W:Int)))+1),.ref k2]) hf2
 have ef2:=Ac (H:=A7) (a:=f2) (o:=.tup [.int (2*(1-(((n+1:Nat):Int)-(W:Int)))+1),.ref k2])
 have ek2:=n8 _ _ ek2
 have s8:=s8.trans n8
 generalize upd A7 f2 (.tup [.int (2*(1-(((n+1:Nat):Int)-(W:Int)))+1),.ref k2])=HG at s8 ek2 ef2 ⊢
 have sG:=sF.trans s8
 have ef1:=s8 _ _ ef1
 have ek1:=s8 _ _ ek1
 clear n3 n5 n6 n8 esec e10 sF s8
 have er2:(2*(1-(((n+1:Nat):Int)-(W:Int)))+1)=2*(1-((n:Int)+1-W))+1:=by lia
 rw[er2]at ef2
 have un:=P9 (n:=n) hW1 hWn
 refine⟨_,rfl,f1,_,_,_,rfl,rfl,SqT.of ef1,rfl,_,rfl,f2,_,_,_,rfl,rfl,SqT.of ef2,rfl,_,_,rfl,rfl,_,rfl,?_⟩
 by_cases hlt:2*(1-(W:Int))<2*(1-((n:Int)+1-W))+1
 ·refine AU (decide_eq_true hlt) ⟨_,rfl,_,rfl,P2,fun b0 hb0=>?_⟩
  have nb:=Af.new (o:=.tup [.ref f1,.ref f2]) hb0
  obtain⟨va,vb,ra,rb,Ta,Tb,hb0,R1,R2,S0⟩:∃(va vb:V) (ra rb:Int) (Ta Tb:List Int),SqT K (upd HG b0 (.tup [.ref f1,.ref f2])) b0 [va,vb]/\Rpr K (upd HG b0 (.tup [.ref f1,.ref f2])) va ra Ta/\Rpr K (upd HG b0 (.tup [.ref f1,.ref f2])) vb rb Tb/\PSt (W:Int) ((n:Int)+1-W) n (n+1) ((qs.zip hs).take 0) (gAS C 0).1 (gAS C 0).2 ra Ta rb Tb :=
   ⟨_,_,_,_,_,_,SqT.of Ac,⟨f1,k1,rfl,SqT.of (nb _ _ ef1),SqL.of (nb _ _ ek1)⟩,⟨f2,k2,rfl,SqT.of (nb _ _ ef2),SqL.of (nb _ _ ek2)⟩,⟨un.inv hlt,Eg n,DN n,FR n,EL n,1,1,Ir _,Gr _,RK 1,RK 1,RK 2⟩⟩
  have sB:=sG.trans nb
  generalize upd HG b0 (.tup [.ref f1,.ref f2])=H0 at sB hb0 R1 R2 ⊢
  refine⟨_,rfl,_,rfl,lp,lh,zs,ys,rfl,Af.seq sB hP,Af.seq sB hH,JG (xs:=zs) (ys:=ys) (L11 H lp lh W n f1 f2 K qs hs C fun H lp lh W n f1 f2 K qs hs C i σ G=>Af H G/\∃(b:Addr) (va vb:V) (ra rb:Int) (Ta Tb:List Int) (z7 z8:Option V),σ=[some (.ref lp),some (.ref lh),some (.int (W:Int)),some (.int ((n+1:Nat):Int)),some (.ref f1),some (.ref f2),some (.ref b),z7,z8,none]/\SqT K G b [va,vb]/\Rpr K G va ra Ta/\Rpr K G vb rb Tb/\PSt (W:Int) ((n:Int)+1-W) n (n+1) ((qs.zip hs).take i) (gAS C i).1 (gAS C i).2 ra Ta rb Tb) ⟨sB,b0,va,vb,ra,rb,Ta,Tb,none,none,rfl,hb0,R1,R2,S0⟩ (fun i σ G _ h=>⟨Af.seq h.1 hP,Af.seq h.1 hH⟩) ?_ ?_⟩
  ·rintro i x y T σ G hx hy hT hR1
   refine BO hR1 fun sg hz90=>?_
   refine LI hz90 fun b va vb ra rb Ta Tb z7 z8 hz90'=>?_
   clear hz90
   refine Cq hz90' fun hq89 hb R1 R2 S=>?_
   clear hz90'
   obtain rfl:=hq89
   try clear hR1
   obtain⟨qx,hqx,rx,rfl,hrx⟩:=(Paired.get hZ hx)
   obtain⟨hv,hhv,ry,rfl,hry⟩:=(Paired.get hY hy)
   have hi:i<n:=by have:=(RF.mp hqx).1;lia
   have nT:=Af.new (o:=.tup [.ref rx,.ref ry]) hT
   have sT:=sg.trans nT
   refine⟨T,_,rfl,SqT.of Ac,rfl,_,_,rfl,_,_,rfl,rfl,?_⟩
   have ezip:(qs.zip hs)[i]? = some (qx,hv):=by rw[List.getElem?_zip_eq_some];exact⟨hqx,hhv⟩
   have etake:(qs.zip hs).take (i+1)=(qs.zip hs).take i++[(qx,hv)]:=by rw[SU,ezip];rfl
   have hlen:((qs.zip hs).take i).length=i:=by rw[RY,UI];lia
   have hm:=Dz C (i:=i) (n:=n) (by lia)
   have hl:=Hr C i
   refine⟨_,rfl,_,rfl,_,rfl,b,rx,ry,va,vb,ra,rb,Ta,Tb,(W:Int),(n:Int)+1-W,n,n+1,(qs.zip hs).take i,(gAS C i).1,(gAS C i).2,C,nx,ny,qx,hv,rfl,hb.same nT,R1.same nT,R2.same nT,S,rfl,by lia,Az.same ⟨rx,rfl,hrx⟩ sT,Az.same ⟨ry,rfl,hry⟩ sT,bq qx (S5 hqx),bh hv (S5 hhv),?_,by lia,hn12,hC,by lia,by lia,fun b' G' v1' v2' r1' r2' us1 us2 s' hb' R1' R2' S'=>?_⟩
   ·rw[<- etake,V6,UX (by lia)]
    exact(S4 _ _).nodup hnd
   ·refine⟨sT.trans s',b',v1',v2',r1',r2',us1,us2,_,_,rfl,hb',R1',R2',?_⟩
    rw[etake]
    exact S'
  rintro σ G hR2
  refine BO hR2 fun sg hz97=>?_
  refine LI hz97 fun b va vb ra rb Ta Tb z7 z8 hz97'=>?_
  clear hz97
  refine Cq hz97' fun hq95 hb hq96 R2 S=>?_
  clear hz97'
  obtain rfl:=hq95
  refine Dm hq96 fun pa la hz99'=>?_
  refine Dp hz99' fun hq98 hpa hla=>?_
  clear hz99'
  obtain rfl:=hq98
  try clear hR2
  have hmin:min zs.length ys.length=n:=by rw[hZ.length,hY.length];lia
  rw[hmin,TN (by rw[UI];lia)]at S
  have hR:=S.l1
  refine Dm S.bd fun a1 a2 hz100'=>?_
  refine Cq hz100' fun ba1 ba2 hA1 hA2 hAS=>?_
  clear hz100'
  have hgl:=Hr C n
  refine⟨_,rfl,b,_,_,_,rfl,rfl,hb,rfl,pa,_,_,_,rfl,rfl,hpa,rfl,?_⟩
  refine⟨_,rfl,_,rfl,_,rfl,la,_,rfl,hla,fun s1 hs1=>?_⟩
  have c1:Cp (Ta.map V.int) none (some ((n+1:Nat):Int))=(Ta.take (n+1)).map V.int:=by rw[Hy,V6]
  rw[c1]
  have n1:=Af.new (o:=.lst ((Ta.take (n+1)).map V.int)) hs1
  refine⟨s1,Ta.take (n+1),1,rfl,SqL.of Ac,by decide,by rw[RY];lia,fun pN G1 sN cN=>?_⟩
  have sgN:=n1.trans sN
  refine⟨_,rfl,_,rfl,_,rfl,la,_,rfl,Af.seq sgN hla,fun s2 hs2=>?_⟩
  have c2:Cp (Ta.map V.int) (some ((n+1:Nat):Int)) none=(Ta.drop (n+1)).map V.int:=by rw[FV,List.map_drop]
  rw[c2]
  have n2:=Af.new (o:=.lst ((Ta.drop (n+1)).map V.int)) hs2
  refine⟨s2,Ta.drop (n+1),1,rfl,SqL.of Ac,by decide,by rw[Sf];lia,fun pD G2 sD cD=>⟨P2,fun t ht=>?_⟩⟩
  have n3:=Af.new (o:=.tup [.ref pN,.ref pD]) ht
  rw[LC]at cN cD
  refine q t pN pD _ ra rb _ _ _ _ ((((sg.trans sgN).trans n2).trans sD).trans n3) (SqT.of Ac) (((cN.same n2).same sD).same n3) (cD.same n3) ?_ ?_ S.inv
  ·exact JE (fun t ht=>ba1 t (UL ht)) (by lia)
  ·exact JE (fun t ht=>ba1 t (UO ht)) (by lia)
 ·refine AH (decide_eq_false hlt) ⟨_,rfl,_,rfl,P2,fun b0 hb0=>?_⟩
  have nb:=Af.new (o:=.tup [.ref f2,.ref f1]) hb0
  obtain⟨va,vb,ra,rb,Ta,Tb,hb0,R1,R2,S0⟩:∃(va vb:V) (ra rb:Int) (Ta Tb:List Int),SqT K (upd HG b0 (.tup [.ref f2,.ref f1])) b0 [va,vb]/\Rpr K (upd HG b0 (.tup [.ref f2,.ref f1])) va ra Ta/\Rpr K (upd HG b0 (.tup [.ref f2,.ref f1])) vb rb Tb/\PSt (W:Int) ((n:Int)+1-W) n (n+1) ((qs.zip hs).take 0) (gAS C 0).1 (gAS C 0).2 ra Ta rb Tb :=
   ⟨_,_,_,_,_,_,SqT.of Ac,⟨f2,k2,rfl,SqT.of (nb _ _ ef2),SqL.of (nb _ _ ek2)⟩,⟨f1,k1,rfl,SqT.of (nb _ _ ef1),SqL.of (nb _ _ ek1)⟩,⟨un.turn hlt,DN n,Eg n,EL n,FR n,1,1,Gr _,Ir _,RK 1,RK 1,RK 2⟩⟩
  have sB:=sG.trans nb
  generalize upd HG b0 (.tup [.ref f2,.ref f1])=H0 at sB hb0 R1 R2 ⊢
  refine⟨_,rfl,_,rfl,lp,lh,zs,ys,rfl,Af.seq sB hP,Af.seq sB hH,JG (xs:=zs) (ys:=ys) (L11 H lp lh W n f1 f2 K qs hs C fun H lp lh W n f1 f2 K qs hs C i σ G=>Af H G/\∃(b:Addr) (va vb:V) (ra rb:Int) (Ta Tb:List Int) (z7 z8:Option V),σ=[some (.ref lp),some (.ref lh),some (.int (W:Int)),some (.int ((n+1:Nat):Int)),some (.ref f1),some (.ref f2),some (.ref b),z7,z8,none]/\SqT K G b [va,vb]/\Rpr K G va ra Ta/\Rpr K G vb rb Tb/\PSt (W:Int) ((n:Int)+1-W) n (n+1) ((qs.zip hs).take i) (gAS C i).1 (gAS C i).2 ra Ta rb Tb) ⟨sB,b0,va,vb,ra,rb,Ta,Tb,none,none,rfl,hb0,R1,R2,S0⟩ (fun i σ G _ h=>⟨Af.seq h.1 hP,Af.seq h.1 hH⟩) ?_ ?_⟩
  ·rintro i x y T σ G hx hy hT hR3
   refine BO hR3 fun sg hz102=>?_
   refine LI hz102 fun b va vb ra rb Ta Tb z7 z8 hz102'=>?_
   clear hz102
   refine Cq hz102' fun hq101 hb R1 R2 S=>?_
   clear hz102'
   obtain rfl:=hq101
   try clear hR3
   obtain⟨qx,hqx,rx,rfl,hrx⟩:=(Paired.get hZ hx)
   obtain⟨hv,hhv,ry,rfl,hry⟩:=(Paired.get hY hy)
   have hi:i<n:=by have:=(RF.mp hqx).1;lia
   have nT:=Af.new (o:=.tup [.ref rx,.ref ry]) hT
   have sT:=sg.trans nT
   refine⟨T,_,rfl,SqT.of Ac,rfl,_,_,rfl,_,_,rfl,rfl,?_⟩
   have ezip:(qs.zip hs)[i]? = some (qx,hv):=by rw[List.getElem?_zip_eq_some];exact⟨hqx,hhv⟩
   have etake:(qs.zip hs).take (i+1)=(qs.zip hs).take i++[(qx,hv)]:=by rw[SU,ezip];rfl
   have hlen:((qs.zip hs).take i).length=i:=by rw[RY,UI];lia
   have hm:=Dz C (i:=i) (n:=n) (by lia)
   have hl:=Hr C i
   refine⟨_,rfl,_,rfl,_,rfl,b,rx,ry,va,vb,ra,rb,Ta,Tb,(W:Int),(n:Int)+1-W,n,n+1,(qs.zip hs).take i,(gAS C i).1,(gAS C i).2,C,nx,ny,qx,hv,rfl,hb.same nT,R1.same nT,R2.same nT,S,rfl,by lia,Az.same ⟨rx,rfl,hrx⟩ sT,Az.same ⟨ry,rfl,hry⟩ sT,bq qx (S5 hqx),bh hv (S5 hhv),?_,by lia,hn12,hC,by lia,by lia,fun b' G' v1' v2' r1' r2' us1 us2 s' hb' R1' R2' S'=>?_⟩
   ·rw[<- etake,V6,UX (by lia)]
    exact(S4 _ _).nodup hnd
   ·refine⟨sT.trans s',b',v1',v2',r1',r2',us1,us2,_,_,rfl,hb',R1',R2',?_⟩
    rw[etake]
    exact S'
  rintro σ G hR4
  refine BO hR4 fun sg hz109=>?_
  refine LI hz109 fun b va vb ra rb Ta Tb z7 z8 hz109'=>?_
  clear hz109
  refine Cq hz109' fun hq107 hb hq108 R2 S=>?_
  clear hz109'
  obtain rfl:=hq107
  refine Dm hq108 fun pa la hz111'=>?_
  refine Dp hz111' fun hq110 hpa hla=>?_
  clear hz111'
  obtain rfl:=hq110
  try clear hR4
  have hmin:min zs.length ys.length=n:=by rw[hZ.length,hY.length];lia
  rw[hmin,TN (by rw[UI];lia)]at S
  have hR:=S.l1
  refine Dm S.bd fun a1 a2 hz112'=>?_
  refine Cq hz112' fun ba1 ba2 hA1 hA2 hAS=>?_
  clear hz112'
  have hgl:=Hr C n
  refine⟨_,rfl,b,_,_,_,rfl,rfl,hb,rfl,pa,_,_,_,rfl,rfl,hpa,rfl,?_⟩
  refine⟨_,rfl,_,rfl,_,rfl,la,_,rfl,hla,fun s1 hs1=>?_⟩
  have c1:Cp (Ta.map V.int) none (some ((n+1:Nat):Int))=(Ta.take (n+1)).map V.int:=by rw[Hy,V6]
  rw[c1]
  have n1:=Af.new (o:=.lst ((Ta.take (n+1)).map V.int)) hs1
  refine⟨s1,Ta.take (n+1),1,rfl,SqL.of Ac,by decide,by rw[RY];lia,fun pN G1 sN cN=>?_⟩
  have sgN:=n1.trans sN
  refine⟨_,rfl,_,rfl,_,rfl,la,_,rfl,Af.seq sgN hla,fun s2 hs2=>?_⟩
  have c2:Cp (Ta.map V.int) (some ((n+1:Nat):Int)) none=(Ta.drop (n+1)).map V.int:=by rw[FV,List.map_drop]
  rw[c2]
  have n2:=Af.new (o:=.lst ((Ta.drop (n+1)).map V.int)) hs2
  refine⟨s2,Ta.drop (n+1),1,rfl,SqL.of Ac,by decide,by rw[Sf];lia,fun pD G2 sD cD=>⟨P2,fun t ht=>?_⟩⟩
  have n3:=Af.new (o:=.tup [.ref pN,.ref pD]) ht
  rw[LC]at cN cD
  refine q t pN pD _ ra rb _ _ _ _ ((((sg.trans sgN).trans n2).trans sD).trans n3) (SqT.of Ac) (((cN.same n2).same sD).same n3) (cD.same n3) ?_ ?_ S.inv
  ·exact JE (fun t ht=>ba1 t (UL ht)) (by lia)
  ·exact JE (fun t ht=>ba1 t (UO ht)) (by lia)
theorem Gs:Aq ["places","bottom"] ["places"] (Ae (top 34)):=⟨rfl,rfl,rfl,by decide +kernel,rfl,by decide +kernel,by decide +kernel⟩
theorem K5{f:Addr}{fd:FuncData}(F:Fun K "rising" "rising" (top 34) f fd)(Pu:Fd P w K mg base 34 "bottom_of" ["numbers"] (Fp K))(Qa:mg "sorted" = none)(hT:P.given.tree=none)(hbm:Bm mg base)(hl:EG K f 213=true) :
 AO P w K mg base CX0 38 f fd ["places"] (IQ K 213):=by
 refine F.okL hl Gs (fun vs H Q E h=>?_) (fun cdc A outer s H vs Q E hcd hr h=>?_)
 ·obtain⟨_,_,_,_,rfl,_⟩:=h;rfl
 refine⟨_,(@Ad _ _ _ _ _ K _ (@Ai _ _ 1 _ _ _ _ Gs.nd rfl (Or.inr rfl) (@Ak _ _ _ _ _ _ _ _ _ _ _ Pu hr rfl (@A0 _ _ _ _ _ (pv 0) Ab (by rfl)) (by decide) (by decide) (by rfl) (by rfl)) (by rfl) (by first   | exact .inl rfl   | exact .inr rfl   | assumption)) (@Ag _ _ _ (@Av _ _ _ _ (@Lk K _ _ _ _ _ 33 _ _ _ _ hr (fun _=>rfl) rfl Qa (pv 0) (@Mm _ _ _ _ (Ae (top 34)) _ _ _ hcd hbm (by rfl) (by rfl) (by decide +kernel) (by rfl)) (by decide) (by rfl) (by rfl)))) (by rfl)),?_⟩
 obtain⟨l,xs,qs,n,rfl,hS,hN,hb,hn6,h20,hct,q⟩:=h
 have hxl:=hN.length
 have hn22:n*(qs.length+2)<=1000000*22:=UA hn6 (by lia)
 have hn20:n*qs.length<=1000000*20:=UA hn6 h20
 refine⟨_,rfl,true,l,xs,qs,n,rfl,hS,hN,fun q hq=>(hb q hq).2,by lia,fun B hB hd bB _=>?_⟩
 refine⟨_,rfl,l,rfl,hct,fun f c' cl ctv H2 C hfree LN=>?_⟩
 have hS2:=BX hS hct LN.old
 refine⟨f,_,["place"],cl,xs,qs.map (EF B),rfl,hS2,by rw[S7];lia,by lia,Kf fun a=>rfl,C,fun os hcn hci=>⟨_,NC (k:=32) (fr:=["bottom"]) (ws:=[.int B]) (Ok:=fun vs r=>∃x q,vs=[x]/\q∈qs/\Az K H2 x q/\r = .int (EF B q)) LN C hfree hcn hci ⟨rfl,rfl,rfl,by decide +kernel,by decide +kernel⟩ (lk1 _) (.cons 1 rfl rfl rfl rfl .nil) (fun A outer s E vs r H' Q hr hvl ho hm hQ=>?_),fun i x kk hx hkk Q' hQ=>?_⟩,fun p ys hp hz=>?_⟩
 ·refine Dm ho fun x c hz116'=>?_
  refine Ku hz116' fun hq113 hc hq114 hq115=>?_
  clear hz116'
  obtain rfl:=hq113
  obtain⟨rx,rfl,hrx⟩:=hq114
  obtain rfl:=hq115
  refine⟨_,(Ah Au (Aj (ixT K) (pv 0) Aa (fun u v=>rfl)) (Ah (Bw hr hT) (pv 1) (Aj (ixT K) (pv 0) Aa (fun u v=>rfl)))),?_⟩
  have hr':=hrx.same hm
  have hdc:(c.den:Int)≠0:=Nm.den_ne c
  have bq:Bd (n*qs.length+1) (B.fdiv (c.den:Int)):=by
   rw[UU _ (by lia)]
   unfold Bd at bB ⊢
   exact So (Int.natAbs_ediv_le_natAbs ..) bB
  exact⟨_,rfl,rx,_,_,_,rfl,rfl,hr',rfl,_,rfl,_,rfl,rx,_,_,_,rfl,rfl,hr',rfl,_,_,rfl,rfl,hdc,_,_,rfl,rfl,Bk.bd (hb c hc).1 bq (by lia),hQ⟩
 ·rw[S3]at hkk
  obtain⟨c,hc,hcn'⟩:=(Paired.get hN hx)
  rw[hc]at hkk
  cases hkk
  exact⟨rfl,Af.refl _,_,⟨x,c,rfl,S5 hc,hcn'.but hct LN.old,rfl⟩,hQ⟩
 ·refine Gj hz fun zs hz118'=>?_
  refine Dp hz118' fun hperm hq117 hsort=>?_
  clear hz118'
  obtain rfl:=hq117
  have hpz:=KZ (B:=B) (show Ar K H2 xs qs from Paired.mapP hN fun _ _ z=>z.but hct LN.old)
  obtain⟨rs,hrs,hpr⟩:=(EN hperm.symm (HV hpz))
  obtain⟨ek,hnum⟩:=(K2 hpr)
  have nN:=Af.new (o:=.lst (zs.map Prod.snd)) hp
  refine q p _ _ rs (C4.trans LN.old nN.b) (LN.tab.same nN) (LH LN.tab LN.old hp) Ac (Ar.same hnum nN) hrs ?_
  have h1:(rs.map (EF B)).Pairwise (· <= ·):=by
   rw[ek]
   exact UJ.mpr hsort
  refine List.Pairwise.imp_of_mem (fun{a b} ha hb' h=>?_) (UJ.mp h1)
  exact MA hB (hd a (hrs.mem_iff.mp ha)) (hd b (hrs.mem_iff.mp hb')) h
theorem Fu:Aq ["quotient","x","y","below"] ["quotient","x","y"] (Ae (top 45)):=⟨rfl,rfl,rfl,by decide +kernel,rfl,by decide +kernel,by decide +kernel⟩
theorem J3{f:Addr}{fd:FuncData}(F:Fun K "reaches" "reaches" (top 45) f fd)(PY:Fd P w K mg base 35 "height_at" ["curve","x"] (DC K))(Q8:Fd P w K mg base 35 "times" ["a","b"] (Cs K (· * ·))){a_NOUGHT:Addr}(c_NOUGHT:mg "NOUGHT" = some (.ref a_NOUGHT))(n_NOUGHT:∀H:Hp,Az K H (.ref a_NOUGHT) (0))(hT:P.given.tree=none) :
 AO P w K mg base CX0 36 f fd ["quotient","x","y"] (Em K):=by
 refine F.ok Fu (fun vs H Q E h=>?_) (fun cdv A outer s H vs Q E hr h=>?_)
 ·obtain⟨_,_,_,_,_,_,_,_,_,_,_,_,rfl,_⟩:=h;rfl
 refine⟨_,(@Ad _ _ _ _ _ K _ (@Ai _ _ 3 _ _ _ _ Fu.nd rfl (Or.inl rfl) (@Ak _ _ _ _ _ _ _ _ _ _ _ PY hr rfl (@A0 _ _ _ _ _ (@Aj _ _ _ _ _ _ _ (ixT K) (pv 0) Aa (fun u v=>rfl)) (@A0 _ _ _ _ _ (pv 1) Ab (by rfl)) (by rfl)) (by decide) (by decide) (by rfl) (by rfl)) (by rfl) (by first   | exact .inl rfl   | exact .inr rfl   | assumption)) (@Ag _ _ _ (@Av _ _ _ _ (@IY _ _ _ _ _ _ _ (@Df _ _ _ _ _ _ _ _ (neD K hr.units) (pv 3) (@DG _ _ (.ref a_NOUGHT) _ _ rfl c_NOUGHT rfl (by decide)) (As _)) (@GY _ _ _ _ _ (@Df _ _ _ _ _ _ _ _ (eqD K hr.units) (@Ak _ _ _ _ _ _ _ _ _ _ _ PY hr rfl (@A0 _ _ _ _ _ (@Aj _ _ _ _ _ _ _ (ixT K) (pv 0) Aa (fun u v=>rfl)) (@A0 _ _ _ _ _ (pv 1) Ab (by rfl)) (by rfl)) (by decide) (by decide) (by rfl) (by rfl)) (@Ak _ _ _ _ _ _ _ _ _ _ _ Q8 hr rfl (@A0 _ _ _ _ _ (pv 2) (@A0 _ _ _ _ _ (pv 3) Ab (by rfl)) (by rfl)) (by decide) (by decide) (by rfl) (by rfl)) (As _)))))) (by rfl)),?_⟩
 obtain⟨t,rx,ry,pn,pd,n',d',x,y,E,nx,ny,rfl,hT,cn,cd,bn,bd,hnl,hdl,hx,hy,bx,by_,hE,hnx,hny,q⟩:=h
 have k1:E*(d'.length+2)<=3000000*15:=UA hE (by lia)
 have k2:(nx+1)*(d'.length+4)<=1001*17:=UA (by lia) (by lia)
 have k3:E*(n'.length+2)<=3000000*15:=UA hE (by lia)
 have k4:(nx+1)*(n'.length+4)<=1001*17:=UA (by lia) (by lia)
 refine⟨_,rfl,t,_,_,_,rfl,rfl,hT,rfl,_,rfl,pd,rx,d',x,E,E,nx,rfl,cd,hx,bd,bx,by lia,by lia,fun p1 H1 s1 e1 b1=>?_⟩
 refine⟨_,rfl,?_⟩
 refine eqN (Az.of e1) (n_NOUGHT _) ?_
 refine⟨_,rfl,?_⟩
 by_cases h0:Cv.ev d' x=0
 ·refine AH (by rw[decide_eq_true h0];rfl) ?_
  have:=q H1 s1
  rw[decide_eq_false (fun z=>z.1 h0)]at this
  exact this
 ·refine AU (by rw[decide_eq_false h0];rfl) ?_
  refine⟨_,rfl,t,_,_,_,rfl,rfl,hT.same s1,rfl,_,rfl,pn,rx,n',x,E,E,nx,rfl,cn.same s1,hx.same s1,bn,bx,by lia,by lia,fun p2 H2 s2 e2 b2=>?_⟩
  refine⟨_,rfl,_,rfl,_,_,y,Cv.ev d' x,ny,_,rfl,(hy.same s1).same s2,Az.of (s2 _ _ e1),by_,b1,by lia,fun p3 h3=>?_⟩
  have n3:=Af.new (o:=nT (y*Cv.ev d' x)) h3
  refine eqN (Az.of (n3 _ _ e2)) (Az.of Ac) ?_
  have:=q _ ((s1.trans s2).trans n3)
  have e:decide (Cv.ev d' x≠0/\Cv.ev n' x=y*Cv.ev d' x)=decide (Cv.ev n' x=y*Cv.ev d' x):=by
   by_cases z:Cv.ev n' x=y*Cv.ev d' x
   ·rw[decide_eq_true z,decide_eq_true ⟨h0,z⟩]
   ·rw[decide_eq_false z,decide_eq_false fun w=>z w.2]
  rw[e]at this
  exact this
theorem BU:Aq ["places","heights","width","quotient","left"] ["places","heights","width"] (Ae (top 46)):=⟨rfl,rfl,rfl,by decide +kernel,rfl,by decide +kernel,by decide +kernel⟩
theorem DJ{f:Addr}{fd:FuncData}(F:Fun K "quotient_through" "quotient_through" (top 46) f fd)(QB:Fd P w K mg base 35 "check_heights" ["places","heights"] (Fo K))(QC:Fd P w K mg base 38 "lowest_terms" ["pair","places"] (Fm K))(QD:Fd P w K mg base 36 "pair_through" ["places","heights","width"] (IT K))(F_rising:Fd P w K mg base 38 "rising" ["places"] (IQ K 213))(QE:Fd P w K mg base 36 "reaches" ["quotient","x","y"] (Em K))(Pm:mg "len" = none)(Py:mg "zip" = none)(hT:P.given.tree=none) :
 AO P w K mg base CX0 39 f fd ["places","heights","width"] (KP K 213):=by
 refine F.ok BU (fun vs H Q E h=>?_) (fun cdv A outer s H vs Q E hr h=>?_)
 ·obtain⟨_,_,_,_,_,_,_,_,_,_,_,rfl,_⟩:=h;rfl
 refine⟨_,(@Ad _ _ _ _ _ K _ (@Dc _ _ _ _ (@Ak _ _ _ _ _ _ _ _ _ _ _ QB hr rfl (@A0 _ _ _ _ _ (pv 0) (@A0 _ _ _ _ _ (pv 1) Ab (by rfl)) (by rfl)) (by decide) (by decide) (by rfl) (by rfl)) (by rfl)) (@Ad _ _ _ _ _ K _ (@AQ _ _ _ _ _ _ _ _ K _ _ (@PW.pt _ _ _ (@CI _ _ _ _ _ _ _ (@Ap _ _ _ _ _ _ _ _ E7 (pv 2) Aa (As _)) (@D8 _ _ _ _ (@Ap _ _ _ _ _ _ _ _ CU (pv 2) (@Al _ _ _ _ _ _ _ _ _ (Bs K) rfl Pm AD (@A0 _ _ _ _ _ (pv 0) Ab (by rfl)) (by decide) (by decide) (by rfl) (by rfl)) (As _))))) (@Ag _ _ _ Cy) AI (by rfl) (by rfl)) (@Ad _ _ _ _ _ K _ (@Ai _ _ 3 _ _ _ _ BU.nd rfl (Or.inr rfl) (@Ak _ _ _ _ _ _ _ _ _ _ _ QC hr rfl (@A0 _ _ _ _ _ (@Ak _ _ _ _ _ _ _ _ _ _ _ QD hr rfl (@A0 _ _ _ _ _ (pv 0) (@A0 _ _ _ _ _ (pv 1) (@A0 _ _ _ _ _ (pv 2) Ab (by rfl)) (by rfl)) (by rfl)) (by decide) (by decide) (by rfl) (by rfl)) (@A0 _ _ _ _ _ (pv 0) Ab (by rfl)) (by rfl)) (by decide) (by decide) (by rfl) (by rfl)) (by rfl) (by first   | exact .inl rfl   | exact .inr rfl   | assumption)) (@Ad _ _ _ _ _ K _ (@Fy _ (["x","y","quotient"]) 2 ([3]) _ _ _ _ _ _ _ _ _ _ 4 _ _ _ rfl BU.nd rfl rfl (Be.look (NX:=["places","heights","width","quotient","left"]) (sc:=Ae (top 46)) rfl rfl (by decide +kernel)) (@Lj _ K _ _ _ _ _ _ _ _ rfl Py (@A0 _ _ _ _ _ (pv 0) (@A0 _ _ _ _ _ (pv 1) Ab (by rfl)) (by rfl)) (by rfl) (by rfl) (by rfl)) (fun u1 u2 u3 u4 u5=>(@pgT _ K _ _ _ 2 _ rfl (C8 (@Ax _ _ 0 _ (show List.Nodup (["x","y","quotient"]:List Str) from by decide +kernel) rfl (Or.inl rfl) (by first   | exact .inl rfl   | exact .inr rfl   | assumption)) (C8 (@Ax _ _ 1 _ (show List.Nodup (["x","y","quotient"]:List Str) from by decide +kernel) rfl (Or.inl rfl) (by first   | exact .inl rfl   | exact .inr rfl   | assumption)) F0)) (by rfl) (by rfl) (by rfl))) (Gp (CG (by decide) (CG (by decide) Fi))) (fun u1 u2 u3 u4 u5=>GX (@Cu _ _ _ _ (@Ct _ _ _ (@Ak _ _ _ _ _ _ _ _ _ _ _ QE hr rfl (@A0 _ _ _ _ _ (pv 2) (@A0 _ _ _ _ _ (pv 0) (@A0 _ _ _ _ _ (pv 1) Ab (by rfl)) (by rfl)) (by rfl)) (by decide) (by decide) (by rfl) (by rfl)) (by intro _;rfl)))) (fun u1 u2 u3 u4 u5=>(pv 0)) rfl (by intro _;rfl)) (@Ag _ _ _ (@Av _ _ _ _ (@AG _ _ _ _ _ (@A0 _ _ _ _ _ (@Aj _ _ _ _ _ _ _ (ixT K) (pv 3) Aa (fun u v=>rfl)) (@A0 _ _ _ _ _ (@Aj _ _ _ _ _ _ _ (ixT K) (pv 3) Aa (fun u v=>rfl)) (@A0 _ _ _ _ _ (@Ak _ _ _ _ _ _ _ _ _ _ _ F_rising hr rfl (@A0 _ _ _ _ _ (pv 4) Ab (by rfl)) (by decide) (by decide) (by rfl) (by rfl)) Ab (by rfl)) (by rfl)) (by rfl))))) (by rfl)) (by rfl)) (by rfl)) (by rfl)),?_⟩
 obtain⟨lp,lh,zs,ys,qs,hs,W,n,nx,ny,C,rfl,hP,hZT,hH,hY,hql,hhl,hn1,hn12,hnd,hW1,hWn,bq,bh,hnx1,hnx,hny,hC,hG,hct,q⟩:=h
 have P3:3<=sizeLine:=by decide
 have hZ:Ar K H zs qs:=hZT.nums
 have hzl:=hZ.length
 have hyl:=hY.length
 refine⟨_,rfl,_,rfl,lp,lh,zs,ys,qs,rfl,hP,hZT,hnd,by lia,by lia,hH,by lia,fun H1 s1=>?_⟩
 refine⟨_,rfl,_,_,rfl,rfl,_,rfl,AH (decide_eq_false (by lia)) ?_⟩
 refine⟨_,rfl,_,rfl,lp,zs,rfl,.inl (Af.seq s1 hP),_,_,rfl,rfl,_,rfl,AH (decide_eq_false (by lia)) ?_⟩
 refine⟨_,rfl,_,rfl,_,rfl,lp,lh,zs,ys,qs,hs,W,n,nx,ny,C,rfl,Af.seq s1 hP,Ar.same hZ s1,Af.seq s1 hH,Ar.same hY s1,hql,hhl,hn1,hn12,hnd,hW1,hWn,bq,bh,hC,by lia,fun t pN pD H2 r1 r2 N D N2 D2 s2 hT cN cD bN bD I=>?_⟩
 have s12:=s1.trans s2
 have hfst:(qs.zip hs).map Prod.fst=qs:=UX (by lia)
 have hzln:(qs.zip hs).length=n:=by rw[UI];lia
 have hr1:=I.fin hzln
 have hDne:=I.below hzln (by lia) (by rw[hfst];exact hnd)
 have hNl:(Cv.strip N).length<=W:=DY fun j hj=>I.le1.1 j (by lia)
 have hDl:(Cv.strip D).length<=n+1-W:=DY fun j hj=>I.le1.2 j (by lia)
 have eS:(qs.filter fun q=>decide (Cv.ev (Cv.strip D) q=0))=qs.filter fun q=>decide (Cv.ev D q=0):=by
  congr 1
  funext q
  rw[Cv.ev_strip]
 refine⟨_,rfl,t,lp,pN,pD,zs,qs,Cv.strip N,Cv.strip D,(gAS C n).2+1,nx,rfl,hT,cN,cD,AL N,AL D,hDne,Af.seq s12 hP,Ar.same hZ s12,hnd,by lia,by lia,by lia,fun c hc=>bN c (Cv.strip_mem _ _ hc),fun c hc=>bD c (Cv.strip_mem _ _ hc),bq,hnx1,by lia,by lia,fun x hx h0=>?_,fun p a b H3 n' d' c s3 ep cn cd gn gd hlast hc0 evN evD hnl hdl bn bd=>?_⟩
 ·rw[Cv.ev_strip]at h0 ⊢
  obtain⟨i,hi,rfl⟩:=(Ti hx)
  have hm:(qs[i],hs[i])∈qs.zip hs:=by
   have:(qs.zip hs)[i]'(by lia)=(qs[i],hs[i]):=List.getElem_zip ..
   rw[<- this];exact Tf _
  have:=I.on1 _ hm
  rw[this,h0,UD]
 rw[eS]at evN evD
 have s13:=s12.trans s3
 have hfl:(qs.filter fun q=>decide (Cv.ev D q=0)).length<=12:=Rw (V1 ..) (by lia)
 obtain⟨L,ov1,ov2⟩:=(Mq (m:=13) (nx:=nx) (fun c hc=>bN c (Cv.strip_mem _ _ hc)) (fun c hc=>bD c (Cv.strip_mem _ _ hc)) (by lia) (by lia) (fun s hs'=>bq s (Rt.mp hs').1) evN evD hlast hc0)
 have hov:∃L,Ov L ((gAS C n).2+156*(nx+1)+25) n'/\Ov L ((gAS C n).2+156*(nx+1)+25) d':=by
  have hb:(gAS C n).2+1+(qs.filter fun q=>decide (Cv.ev D q=0)).length*(13*(nx+1)+2)<=(gAS C n).2+156*(nx+1)+25:=by
   have:=Tt (13*(nx+1)+2) hfl
   lia
  exact⟨L,⟨ov1.ne,fun q hq=>let ⟨t,bt,e⟩:=ov1.is q hq;⟨t,bt.mono hb,e⟩⟩,⟨ov2.ne,fun q hq=>let ⟨t,bt,e⟩:=ov2.is q hq;⟨t,bt.mono hb,e⟩⟩⟩
 clear ov1 ov2 hfl
 have bn:∀y∈n',RB 3000000 y:=fun y hy=>(bn y hy).mono (by lia)
 have bd:∀y∈d',RB 3000000 y:=fun y hy=>(bd y hy).mono (by lia)
 refine C3 ⟨_,rfl,_,rfl,lp,lh,zs,ys,rfl,Af.seq s13 hP,Af.seq s13 hH,?_⟩
 have hmin:min zs.length ys.length=n:=by lia
 refine Mz (xs:=zs) (ys:=ys) (fun i us W=>Af H3 W/\us.length<=i/\Ar K W us (Bi (qs.take i) (hs.take i) n' d')) ⟨Af.refl _,RK _,.nil⟩ (fun i us W _ h=>⟨Af.seq (s13.trans h.1) hP,Af.seq (s13.trans h.1) hH,h.2.1⟩) (Rx (AF (by lia))) ?_ ?_
 ·rintro i v u T us W hv hu hTn ⟨sw,hul,hun⟩
  obtain⟨x,hx,rx,rfl,hrx⟩:=(Paired.get hZ hv)
  obtain⟨y,hy,ry,rfl,hry⟩:=(Paired.get hY hu)
  have nT:=Af.new (o:=.tup [.ref rx,.ref ry]) hTn
  have sW:=sw.trans nT
  refine⟨_,rfl,_,rfl,_,rfl,p,rx,ry,a,b,n',d',x,y,3000000,nx,ny,rfl,SqT.of (sW _ _ ep),cn.same sW,cd.same sW,bn,bd,by lia,by lia,Az.same ⟨rx,rfl,hrx⟩ (s13.trans sW),Az.same ⟨ry,rfl,hry⟩ (s13.trans sW),bq x (S5 hx),bh y (S5 hy),by lia,by lia,hny,fun W1 s1'=>⟨_,rfl,?_⟩⟩
  have hxl:=(RF.mp hx).1
  have et:Bi (qs.take (i+1)) (hs.take (i+1)) n' d'=Bi (qs.take i) (hs.take i) n' d'++Bi [x] [y] n' d':=by
   unfold Bi
   rw[SU,SU,hx,hy,List.zip_append (by rw[RY,RY];lia),UZ,SV];rfl
  have sW1:=sW.trans s1'
  rw[et]
  by_cases h0:Cv.ev d' x≠0/\Cv.ev n' x=y*Cv.ev d' x
  ·refine AH (by rw[decide_eq_true h0];rfl) ⟨sW1,by lia,?_⟩
   have:Bi [x] [y] n' d'=[]:=by
    unfold Bi
    show(([(x,y)]:List (Rat×Rat)).filter _).map Prod.fst=[]
    rw[V0 (by show ¬(!decide (Cv.ev d' x≠0/\Cv.ev n' x=y*Cv.ev d' x))=true;rw[decide_eq_true h0];decide)];rfl
   rw[this,RU]
   exact Ar.same hun (nT.trans s1')
  ·refine AU (by rw[decide_eq_false h0];rfl) ⟨_,rfl,sW1,by rw[S6,Sk];lia,?_⟩
   have:Bi [x] [y] n' d'=[x]:=by
    unfold Bi
    show(([(x,y)]:List (Rat×Rat)).filter _).map Prod.fst=[x]
    rw[UY (by show(!decide (Cv.ev d' x≠0/\Cv.ev n' x=y*Cv.ev d' x))=true;rw[decide_eq_false h0];rfl)];rfl
   rw[this]
   exact Paired.snoc (Ar.same hun (nT.trans s1')) (Az.same ⟨rx,rfl,hrx⟩ (s13.trans sW1))
 rintro us W ⟨sw,hul,hun⟩ l1 hl1
 rw[hmin,TN (by lia),TN (by lia)]at hun
 rw[hmin]at hul
 have n1:=Af.new (o:=.lst us) hl1
 have sL:=(s13.trans sw).trans n1
 have s3L:=sw.trans n1
 have hls:=hun.length
 have hleft:∀x∈Bi qs hs n' d',x∈qs:=fun x hx=>by
  unfold Bi at hx
  obtain⟨pr,hpr,rfl⟩:=(U4.mp hx)
  rw[<- hfst]
  exact Ue (Rt.mp hpr).1
 refine⟨_,rfl,p,_,_,_,rfl,rfl,SqT.of (s3L _ _ ep),rfl,_,rfl,p,_,_,_,rfl,rfl,SqT.of (s3L _ _ ep),rfl,?_⟩
 refine⟨_,rfl,l1,us,Bi qs hs n' d',nx,rfl,SqL.of Ac,Ar.same hun n1,fun x hx=>bq x (hleft x hx),by lia,by lia,hct.same sL,fun pr H5 rsV rs m5 ct5 hprn e5 hn5 hperm hpw=>⟨P3,fun tf htf=>?_⟩⟩
 have nf:=Af.new (o:=.tup [.ref a,.ref b,.ref pr]) htf
 have hctL:=hct.same sL
 exact q tf a b pr _ r1 r2 N D N2 D2 n' d' rs rsV c (C4.trans (Af.b sL) (C4.trans m5 nf.b)) (ct5.same nf) (SqT.of Ac) (((cn.same s3L).but hctL m5).same nf) (((cd.same s3L).but hctL m5).same nf) gn gd hlast hc0 I hDne (fun x=>by rw[<- Cv.ev_strip];exact evN x) (fun x=>by rw[<- Cv.ev_strip];exact evD x) (by lia) (by lia) (nf _ _ e5) (Ar.same hn5 nf) hperm hpw bn bd (by cases z:H pr with | none=>rfl | some o=>rw[sL _ _ z]at hprn;cases hprn) hov
theorem Gb:Aq ["_law_a","_law_b"] ["_law_a","_law_b"] (Ae (top 52)):=⟨rfl,rfl,rfl,by decide +kernel,rfl,by decide +kernel,by decide +kernel⟩
theorem Gh{f:Addr}{fd:FuncData}(F:Fun K "_law_minus" "_law_minus" (top 52) f fd)(Pr:Fd P w K mg base 33 "_law_lowest" ["_law_top","_law_bottom"] (CP))(hT:P.given.tree=none) :
 AO P w K mg base CX0 34 f fd ["_law_a","_law_b"] (Cs K (· - ·)):=by
 refine F.ok Gb (fun vs H Q E h=>?_) (fun cdv A outer s H vs Q E hr h=>?_)
 ·obtain⟨_,_,_,_,_,_,rfl,_⟩:=h;rfl
 refine⟨_,(@Ag _ _ _ (@Av _ _ _ _ (@Ak _ _ _ _ _ _ _ _ _ _ _ Pr hr rfl (@A0 _ _ _ _ _ (@Ah _ _ _ _ _ _ _ _ Ba (@Ah _ _ _ _ _ _ _ _ Au (@Aj _ _ _ _ _ _ _ (ixT K) (pv 0) Aa (fun u v=>rfl)) (@Aj _ _ _ _ _ _ _ (ixT K) (pv 1) Aa (fun u v=>rfl))) (@Ah _ _ _ _ _ _ _ _ Au (@Aj _ _ _ _ _ _ _ (ixT K) (pv 1) Aa (fun u v=>rfl)) (@Aj _ _ _ _ _ _ _ (ixT K) (pv 0) Aa (fun u v=>rfl)))) (@A0 _ _ _ _ _ (@Ah _ _ _ _ _ _ _ _ Au (@Aj _ _ _ _ _ _ _ (ixT K) (pv 0) Aa (fun u v=>rfl)) (@Aj _ _ _ _ _ _ _ (ixT K) (pv 1) Aa (fun u v=>rfl))) Ab (by rfl)) (by rfl)) (by decide) (by decide) (by rfl) (by rfl)))),?_⟩
 obtain⟨x,y,p,q,m,n,rfl,⟨r,rfl,hr⟩,⟨u,rfl,hu⟩,hp,hq,hmn,k⟩:=h
 refine⟨_,rfl,r,_,_,_,rfl,rfl,hr,rfl,_,rfl,u,_,_,_,rfl,rfl,hu,rfl,_,_,rfl,rfl,Bk.bd hp.1 hq.2,_,rfl,u,_,_,_,rfl,rfl,hu,rfl,_,rfl,r,_,_,_,rfl,rfl,hr,rfl,_,_,rfl,rfl,Bk.bd hq.1 hp.2,_,_,rfl,rfl,?_⟩
 refine⟨_,rfl,r,_,_,_,rfl,rfl,hr,rfl,_,rfl,u,_,_,_,rfl,rfl,hu,rfl,_,_,rfl,rfl,Bk.bd hp.2 hq.2,?_⟩
 refine⟨_,_,rfl,SF (Nm.den_ne p) (Nm.den_ne q),fun z hz=>?_⟩
 have e:=k z hz
 try dsimp only at e
 rw[<- Nm.minus_eq]at e
 exact e
theorem C6:Aq ["_law_places_here","_law_heights_here","_law_above","_law_under","_law_found","_law_k","_law_below","_law_at_here"] ["_law_places_here","_law_heights_here","_law_above","_law_under"] (Ae (top 62)):=⟨rfl,rfl,rfl,by decide +kernel,rfl,by decide +kernel,by decide +kernel⟩
theorem Hk{f:Addr}{fd:FuncData}(F:Fun K "_law_left" "_law_left" (top 62) f fd)(PQ:Fd P w K mg base 35 "_law_at" ["_law_curve_here","_law_x"] (Jn K))(PF:Fd P w K mg base 34 "_law_times" ["_law_a","_law_b"] (Cs K (· * ·)))(QF:Fd P w K mg base 34 "_law_minus" ["_law_a","_law_b"] (Cs K (· - ·)))(Pn:mg "range" = none)(Pm:mg "len" = none)(hT:P.given.tree=none) :
 AO P w K mg base CX0 36 f fd ["_law_places_here","_law_heights_here","_law_above","_law_under"] (IV K):=by
 refine F.ok C6 (fun vs H Q E h=>?_) (fun cdv A outer s H vs Q E hr h=>?_)
 ·obtain⟨_,_,_,_,_,_,_,_,_,_,_,_,_,rfl,_⟩:=h;rfl
 refine⟨_,(@Ad _ _ _ _ _ K _ (@Ai _ _ 4 _ _ _ _ C6.nd rfl (Or.inl rfl) (@Bj _ _ _ _ Ab) (by rfl) (by first   | exact .inl rfl   | exact .inr rfl   | assumption)) (@Ad _ _ _ _ _ K _ (@BA _ _ _ _ _ _ _ _ K _ PassesOwn.never rfl (@BE _ _ _ _ _ _ rfl Pn (@A0 _ _ _ _ _ (@Al _ _ _ _ _ _ _ _ _ (Bs K) rfl Pm AD (@A0 _ _ _ _ _ (pv 0) Ab (by rfl)) (by decide) (by decide) (by rfl) (by rfl)) Ab (by rfl)) (by rfl)) (@Ax _ _ 5 _ C6.nd rfl (Or.inr rfl) (by first   | exact .inl rfl   | exact .inr rfl   | assumption)) (@Ad _ _ _ _ _ K _ (@Ai _ _ 6 _ _ _ _ C6.nd rfl (Or.inl rfl) (@Ak _ _ _ _ _ _ _ _ _ _ _ PQ hr rfl (@A0 _ _ _ _ _ (pv 3) (@A0 _ _ _ _ _ (@Aj _ _ _ _ _ _ _ (ixL K) (pv 0) (pv 5) (fun u v=>rfl)) Ab (by rfl)) (by rfl)) (by decide) (by decide) (by rfl) (by rfl)) (by rfl) (by first   | exact .inl rfl   | exact .inr rfl   | assumption)) (@Ag _ _ _ (@AQ _ _ _ _ _ _ _ _ K _ _ (@PW.pt _ _ _ (@CI _ _ _ _ _ _ _ (@Ap _ _ _ _ _ _ _ _ (eqD K hr.units) (pv 6) (@AG _ _ _ _ _ (@A0 _ _ _ _ _ Aa (@A0 _ _ _ _ _ Aa Ab (by rfl)) (by rfl))) (As _)) (@D8 _ _ _ _ (@Ap _ _ _ _ _ _ _ _ (neD K hr.units) (@Ak _ _ _ _ _ _ _ _ _ _ _ PQ hr rfl (@A0 _ _ _ _ _ (pv 2) (@A0 _ _ _ _ _ (@Aj _ _ _ _ _ _ _ (ixL K) (pv 0) (pv 5) (fun u v=>rfl)) Ab (by rfl)) (by rfl)) (by decide) (by decide) (by rfl) (by rfl)) (@Ak _ _ _ _ _ _ _ _ _ _ _ PF hr rfl (@A0 _ _ _ _ _ (@Aj _ _ _ _ _ _ _ (ixL K) (pv 1) (pv 5) (fun u v=>rfl)) (@A0 _ _ _ _ _ (pv 6) Ab (by rfl)) (by rfl)) (by decide) (by decide) (by rfl) (by rfl)) (As _))))) (@Ad _ _ _ _ _ K _ (@Ai _ _ 7 _ _ _ _ C6.nd rfl (Or.inl rfl) (@Al _ _ _ _ _ _ _ _ _ (Bs K) rfl Pm AD (@A0 _ _ _ _ _ (@CT _ (["_law_x","_law_places_here","_law_k"]) 1 ([0,5]) _ _ _ _ _ _ _ _ _ _ rfl (Be.look (NX:=["_law_places_here","_law_heights_here","_law_above","_law_under","_law_found","_law_k","_law_below","_law_at_here"]) (sc:=Ae (top 62)) rfl rfl (by decide +kernel)) (@piL _ K _ _ _ (pv 4) (by rfl)) (fun u1 u2 u3 u4 u5=>(@Ax _ _ 0 _ (show List.Nodup (["_law_x","_law_places_here","_law_k"]:List Str) from by decide +kernel) rfl (Or.inl rfl) (by first   | exact .inl rfl   | exact .inr rfl   | assumption))) (AK (by decide)) (fun u1 u2 u3 u4 u5=>GX (@Ap _ _ _ _ _ _ _ _ E7 (@Aj _ _ _ _ _ _ _ (ixT K) (@Ak _ _ _ _ _ _ _ _ _ _ _ QF hr rfl (@A0 _ _ _ _ _ (pv 0) (@A0 _ _ _ _ _ (@Aj _ _ _ _ _ _ _ (ixL K) (pv 1) (pv 2) (fun u v=>rfl)) Ab (by rfl)) (by rfl)) (by decide) (by decide) (by rfl) (by rfl)) Aa (fun u v=>rfl)) Aa (As _))) (fun u1 u2 u3 u4 u5=>(pv 0)) (by intro _;rfl)) Ab (by rfl)) (by decide) (by decide) (by rfl) (by rfl)) (by rfl) (by first   | exact .inl rfl   | exact .inr rfl   | assumption)) (@Ag _ _ _ (@Dc _ _ _ _ (@GZ _ _ _ _ _ _ _ _ _ _ _ _ K PySem.F.plainAttrs_list PySem.F.slot_list_insert PySem.F.type_list_insert Ka (pv 4) (@A0 _ _ _ _ _ (pv 7) (@A0 _ _ _ _ _ (@Aj _ _ _ _ _ _ _ (ixL K) (pv 0) (pv 5) (fun u v=>rfl)) Ab (by rfl)) (by rfl)) (by rfl) (by rfl) (by rfl) (by rfl) (by rfl) (by rfl)) (by rfl))) (by rfl)) AI (by rfl) (by rfl))) (by rfl)) (by rfl) (by intro _;rfl)) (@Ag _ _ _ (@Av _ _ _ _ (pv 4))) (by rfl)) (by rfl)),?_⟩
 obtain⟨l,lh,ca,cu,zs,ys,qs,hs,n',d',mc,nx,ny,rfl,hl,hz,hh,hy,hca,hcu,hlen,h12,hn12,hd12,bq,bh,bn,bd,hmc,hnx,hny,q⟩:=h
 have P0:0<=sizeLine:=by decide
 have P2:2<=sizeLine:=by decide
 have hzl:=hz.length
 have hyl:=hy.length
 obtain⟨xa,hxa,hna⟩:=(id hca)
 obtain⟨xu,hxu,hnu⟩:=(id hcu)
 have ka:(mc+nx*n'.length+4)*(n'.length+2)<=3000604*14:=UA (by have:=UA hnx hn12;lia) (by lia)
 have ku:(mc+nx*d'.length+4)*(d'.length+2)<=3000604*14:=UA (by have:=UA hnx hd12;lia) (by lia)
 have kv:(mc+nx*d'.length+4)*(d'.length+1)<=3000604*13:=UA (by have:=UA hnx hd12;lia) (by lia)
 refine⟨P0,fun f hf=>?_⟩
 have s0:Af H (upd H f (.lst [])):=Af.new hf
 refine⟨_,rfl,l,zs,rfl,.inl (Af.seq s0 hl),_,rfl,by lia,by lia,?_⟩
 rw[Sb,hzl]
 refine Ce (n:=qs.length) (L11 H l lh ca cu f K qs hs n' d' fun H l lh ca cu f K qs hs n' d' i σ G=>Af H G/\∃us rs z5 z6 z7,σ=[some (.ref l),some (.ref lh),some (.ref ca),some (.ref cu),some (.ref f),z5,z6,z7]/\G f=some (.lst us)/\Ar K G us rs/\rs.Perm (Bi (qs.take i) (hs.take i) n' d')/\rs.Pairwise (· <= ·)) ⟨s0,[],[],none,none,none,rfl,Ac,.nil,.nil,.nil⟩ ?_ ?_
 ·rintro i σ G hi hR1
  refine BO hR1 fun sg hz124=>?_
  refine Ko hz124 fun us rs z5 z6 z7 hz124'=>?_
  clear hz124
  refine Cq hz124' fun hq123 ef hus hperm hpw=>?_
  clear hz124'
  obtain rfl:=hq123
  try clear hR1
  have hqi:qs[i]? = some qs[i]:=Te hi
  have hhi:hs[i]? = some (hs[i]'(by lia)):=Te (by lia)
  generalize hx:qs[i]=x at hqi
  generalize hs[i]'(by lia)=y at hhi
  obtain⟨vp,hvp,nvp⟩:=(Paired.get' hz hqi)
  obtain⟨vh,hvh,nvh⟩:=(Paired.get' hy hhi)
  obtain⟨pa,rfl,_⟩:=(id nvp)
  have bx:=bq x (S5 hqi)
  have by':=bh y (S5 hhi)
  have hul:=hus.length
  have hmb:∀z∈rs,RB nx z:=fun z hz'=>bq z (UL (Lu (hperm.mem_iff.mp hz')))
  have hrl:rs.length<=12:=by
   rw[hperm.length_eq]
   refine Rw Lv ?_
   rw[RY];lia
  have ms:=Kc (n':=n') (d':=d') hlen hqi hhi
  refine⟨_,rfl,_,rfl,_,rfl,l,zs,_,_,rfl,rfl,Af.seq sg hl,atV hvp (by lia),false,cu,pa,xu,d',x,mc,nx,rfl,hxu.same sg,Ar.same hnu sg,nvp.same sg,bd,bx,by lia,fun p1 G1 s1 e1 b1=>?_⟩
  have sg1:=sg.trans s1
  refine⟨_,rfl,P2,fun t ht=>?_⟩
  have n1:=Af.new (o:=.tup [.int 0,.int 1]) ht
  refine eqN (Az.of (n1 _ _ e1)) (Az.of (Ac (o:=nT 0))) ?_
  refine⟨_,rfl,?_⟩
  have sT:=s1.trans n1
  have e1:=n1 _ _ e1
  generalize upd G1 t (.tup [.int 0,.int 1])=G2 at sT e1 ⊢
  clear n1 ht s1 sg1
  by_cases h0:Cv.ev d' x=0
  ·refine AU (by rw[decide_eq_true h0];rfl) ?_
   have hno:¬(Cv.ev d' x≠0/\Cv.ev n' x=y*Cv.ev d' x):=fun z=>z.1 h0
   have sA:=sT
   generalize G2=GA at sA ⊢
   have efA:=sA _ _ ef
   have sgA:=sg.trans sA
   refine C3 ⟨_,rfl,f,rfl,⟨_,SqL.of efA⟩,?_⟩
   refine Hq (xs:=us) (L3 GA rs x fun GA rs x j ws W=>Af GA W/\ws.length=((rs.take j).filter fun y=>decide (y<x)).length/\ws.length<=j) ⟨Af.refl _,rfl,RK _⟩ (fun j ws W _ h=>⟨SqL.of (h.1 _ _ efA),h.2.2⟩) (Rx (AF (by lia))) ?_ ?_
   ·rintro j u ws W hu ⟨sw,hwl,hwj⟩
    obtain⟨r,hr,hrn⟩:=(Paired.get hus hu)
    have sgw:=sgA.trans sw
    refine⟨_,rfl,_,rfl,_,rfl,l,zs,_,_,rfl,rfl,Af.seq sgw hl,atV hvp (by lia),_,_,r,x,nx,nx,rfl,hrn.same (sA.trans sw),nvp.same sgw,hmb r (S5 hr),bx,by lia,fun p2 hp2=>?_⟩
    have n2:=Af.new (o:=nT (r-x)) hp2
    have et:((rs.take (j+1)).filter fun y=>decide (y<x)).length=((rs.take j).filter fun y=>decide (y<x)).length+([r].filter fun y=>decide (y<x)).length:=by rw[SU,hr,UZ,S6];rfl
    refine⟨p2,_,_,_,rfl,rfl,SqT.of (Ac (o:=nT (r-x))),rfl,_,_,rfl,rfl,_,rfl,?_⟩
    have hd:=Ia (x:=x) (y:=r)
    by_cases z:r<x
    ·refine AU (by rw[hd,decide_eq_true z]) ⟨_,rfl,sw.trans n2,?_,by rw[S6,Sk];lia⟩
     rw[et,UY (p:=fun y=>decide (y<x)) (by exact decide_eq_true z),S6,Sk,hwl];rfl
    ·refine AH (by rw[hd,decide_eq_false z]) ⟨sw.trans n2,?_,by lia⟩
     rw[et,V0 (p:=fun y=>decide (y<x)) (by simpa using z),hwl];rfl
   rintro ws W ⟨sw,hwl,hwj⟩ lu hlu
   rw[hul,SW]at hwl
   have n1:=Af.new (o:=.lst ws) hlu
   have sw1:=sA.trans (sw.trans n1)
   refine⟨lu,ws,rfl,.inl (SqL.of Ac),?_⟩
   generalize upd W lu (.lst ws)=W1 at sw1 ⊢
   have ef2:=sw1 _ _ ef
   have sg2:=sg.trans sw1
   refine⟨_,rfl,.inl ⟨rfl,_,SqL.of ef2⟩,_,rfl,_,rfl,_,rfl,l,zs,_,_,rfl,rfl,Af.seq sg2 hl,atV hvp (by lia),f,us,_,ws.length,.ref pa,rfl,rfl,rfl,ef2,by lia,by lia,?_⟩
   have nz:=Ar.put (o:=.lst (us.take ws.length++V.ref pa::us.drop ws.length)) (Ar.same hus sw1) ef2
   refine⟨sg2.put hf,_,rs.take ws.length++x::rs.drop ws.length,_,_,_,rfl,Ac,Paired.append (Paired.take _ nz) (.cons (Az.put (nvp.same sg2) ef2) (Ds _ nz)),?_,FN hpw hwl⟩
   refine Il.trans ?_
   rw[ms,if_neg hno]
   exact(List.Perm.cons x hperm).trans (Ua (l₁:=[x]))
  refine AH (by rw[decide_eq_false h0];rfl) ?_
  have sg2:=sg.trans sT
  refine⟨_,rfl,_,rfl,_,rfl,l,zs,_,_,rfl,rfl,Af.seq sg2 hl,atV hvp (by lia),false,ca,pa,xa,n',x,mc,nx,rfl,hxa.same sg2,Ar.same hna sg2,nvp.same sg2,bn,bx,by lia,fun p2 G3 s2 e2 _=>?_⟩
  have sg3:=sg2.trans s2
  refine⟨_,rfl,_,rfl,lh,ys,_,_,rfl,rfl,Af.seq sg3 hh,atV hvh (by lia),_,rfl,_,_,y,Cv.ev d' x,ny,_,rfl,nvh.same sg3,Az.of (s2 _ _ e1),by',b1,by lia,fun p3 hp3=>?_⟩
  have n3:=Af.new (o:=nT (y*Cv.ev d' x)) hp3
  refine eqN (Az.of (n3 _ _ e2)) (Az.of Ac) ?_
  refine⟨_,rfl,?_⟩
  have sA:=(sT.trans s2).trans n3
  generalize upd G3 p3 (nT (y*Cv.ev d' x))=GA at sA ⊢
  by_cases h1:Cv.ev n' x=y*Cv.ev d' x
  ·refine AH (by rw[decide_eq_true h1];rfl) ⟨sg.trans sA,us,rs,_,_,_,rfl,sA _ _ ef,Ar.same hus sA,?_,hpw⟩
   rw[ms,if_pos ⟨h0,h1⟩,RU];exact hperm
  refine AU (by rw[decide_eq_false h1];rfl) ?_
  have hno:¬(Cv.ev d' x≠0/\Cv.ev n' x=y*Cv.ev d' x):=fun z=>h1 z.2
  have efA:=sA _ _ ef
  have sgA:=sg.trans sA
  refine C3 ⟨_,rfl,f,rfl,⟨_,SqL.of efA⟩,?_⟩
  refine Hq (xs:=us) (L3 GA rs x fun GA rs x j ws W=>Af GA W/\ws.length=((rs.take j).filter fun y=>decide (y<x)).length/\ws.length<=j) ⟨Af.refl _,rfl,RK _⟩ (fun j ws W _ h=>⟨SqL.of (h.1 _ _ efA),h.2.2⟩) (Rx (AF (by lia))) ?_ ?_
  ·rintro j u ws W hu ⟨sw,hwl,hwj⟩
   obtain⟨r,hr,hrn⟩:=(Paired.get hus hu)
   have sgw:=sgA.trans sw
   refine⟨_,rfl,_,rfl,_,rfl,l,zs,_,_,rfl,rfl,Af.seq sgw hl,atV hvp (by lia),_,_,r,x,nx,nx,rfl,hrn.same (sA.trans sw),nvp.same sgw,hmb r (S5 hr),bx,by lia,fun p2 hp2=>?_⟩
   have n2:=Af.new (o:=nT (r-x)) hp2
   have et:((rs.take (j+1)).filter fun y=>decide (y<x)).length=((rs.take j).filter fun y=>decide (y<x)).length+([r].filter fun y=>decide (y<x)).length:=by rw[SU,hr,UZ,S6];rfl
   refine⟨p2,_,_,_,rfl,rfl,SqT.of (Ac (o:=nT (r-x))),rfl,_,_,rfl,rfl,_,rfl,?_⟩
   have hd:=Ia (x:=x) (y:=r)
   by_cases z:r<x
   ·refine AU (by rw[hd,decide_eq_true z]) ⟨_,rfl,sw.trans n2,?_,by rw[S6,Sk];lia⟩
    rw[et,UY (p:=fun y=>decide (y<x)) (by exact decide_eq_true z),S6,Sk,hwl];rfl
   ·refine AH (by rw[hd,decide_eq_false z]) ⟨sw.trans n2,?_,by lia⟩
    rw[et,V0 (p:=fun y=>decide (y<x)) (by simpa using z),hwl];rfl
  rintro ws W ⟨sw,hwl,hwj⟩ lu hlu
  rw[hul,SW]at hwl
  have n1:=Af.new (o:=.lst ws) hlu
  have sw1:=sA.trans (sw.trans n1)
  refine⟨lu,ws,rfl,.inl (SqL.of Ac),?_⟩
  generalize upd W lu (.lst ws)=W1 at sw1 ⊢
  have ef2:=sw1 _ _ ef
  have sg2:=sg.trans sw1
  refine⟨_,rfl,.inl ⟨rfl,_,SqL.of ef2⟩,_,rfl,_,rfl,_,rfl,l,zs,_,_,rfl,rfl,Af.seq sg2 hl,atV hvp (by lia),f,us,_,ws.length,.ref pa,rfl,rfl,rfl,ef2,by lia,by lia,?_⟩
  have nz:=Ar.put (o:=.lst (us.take ws.length++V.ref pa::us.drop ws.length)) (Ar.same hus sw1) ef2
  refine⟨sg2.put hf,_,rs.take ws.length++x::rs.drop ws.length,_,_,_,rfl,Ac,Paired.append (Paired.take _ nz) (.cons (Az.put (nvp.same sg2) ef2) (Ds _ nz)),?_,FN hpw hwl⟩
  refine Il.trans ?_
  rw[ms,if_neg hno]
  exact(List.Perm.cons x hperm).trans (Ua (l₁:=[x]))
 rintro σ G hR2
 refine BO hR2 fun sg hz126=>?_
 refine Ko hz126 fun us rs z5 z6 z7 hz126'=>?_
 clear hz126
 refine Cq hz126' fun hq125 ef hus hperm hpw=>?_
 clear hz126'
 obtain rfl:=hq125
 try clear hR2
 rw[SW,<- hlen,SW]at hperm
 exact⟨_,rfl,q f us rs G sg hf ef hus hperm hpw⟩
theorem FZ:Aq ["_law_thing"] ["_law_thing"] (Ae (top 58)):=⟨rfl,rfl,rfl,by decide +kernel,rfl,by decide +kernel,by decide +kernel⟩
theorem Gf{f:Addr}{fd:FuncData}(F:Fun K "_law_whole" "_law_whole" (top 58) f fd)(Pq:mg "isinstance" = none)(b_int:mg "int" = none)(Qb:mg "bool" = none)(hT:P.given.tree=none) :
 AO P w K mg base CX0 33 f fd ["_law_thing"] (GL K):=by
 refine F.ok FZ (fun vs H Q E h=>?_) (fun cdv A outer s H vs Q E hr h=>?_)
 ·obtain⟨_,_,rfl,_⟩:=h;rfl
 refine⟨_,(@Ag _ _ _ (@Av _ _ _ _ (@IY _ _ _ _ _ _ _ (@Al _ _ _ _ _ _ _ _ _ (Kj K) rfl Pq BF (@A0 _ _ _ _ _ (pv 0) (@A0 _ _ _ _ _ (@DH _ _ (.ty "int") _ _ rfl b_int O0 rfl (by decide) (by decide)) Ab (by rfl)) (by rfl)) (by decide) (by decide) (by rfl) (by rfl)) (@GY _ _ _ _ _ (@Nk _ _ _ _ (@Al _ _ _ _ _ _ _ _ _ (Kj K) rfl Pq BF (@A0 _ _ _ _ _ (pv 0) (@A0 _ _ _ _ _ (@DH _ _ (.ty "bool") _ _ rfl Qb MI rfl (by decide) (by decide)) Ab (by rfl)) (by rfl)) (by decide) (by decide) (by rfl) (by rfl))))))),?_⟩
 obtain⟨x,b,rfl,wx,q⟩:=h
 cases wx with
 | int i=>exact⟨_,rfl,_,_,_,_,rfl,.of (.int i),NF K,true,rfl,OE ⟨_,rfl,_,_,_,_,rfl,.of (.int i),NG K,false,rfl,q⟩⟩
 | bl y=>exact⟨_,rfl,_,_,_,_,rfl,.of (.bl y),NH K,true,rfl,OE ⟨_,rfl,_,_,_,_,rfl,.of (.bl y),NI K,true,rfl,q⟩⟩
 | oth ty hk=>exact⟨_,rfl,_,_,_,_,rfl,ty,hk,false,rfl,CF q⟩
theorem E5:Aq ["_law_thing"] ["_law_thing"] (Ae (top 59)):=⟨rfl,rfl,rfl,by decide +kernel,rfl,by decide +kernel,by decide +kernel⟩
theorem Ec{f:Addr}{fd:FuncData}(F:Fun K "_law_is_number" "_law_is_number" (top 59) f fd)(Qj:Fd P w K mg base 33 "_law_whole" ["_law_thing"] (GL K))(Pr:Fd P w K mg base 33 "_law_lowest" ["_law_top","_law_bottom"] (CP))(Pq:mg "isinstance" = none)(Pp:mg "tuple" = none)(Pm:mg "len" = none)(hT:P.given.tree=none) :
 AO P w K mg base CX0 34 f fd ["_law_thing"] (KR K):=by
 refine F.ok E5 (fun vs H Q E h=>?_) (fun cdv A outer s H vs Q E hr h=>?_)
 ·obtain⟨_,_,rfl,_⟩:=h;rfl
 refine⟨_,(@Ad _ _ _ _ _ K _ (@AQ _ _ _ _ _ _ _ _ K _ _ (@PW.pt _ _ _ (@CI _ _ _ _ _ _ _ (@Cu _ _ _ _ (@Ct _ _ _ (@Al _ _ _ _ _ _ _ _ _ (Kj K) rfl Pq BF (@A0 _ _ _ _ _ (pv 0) (@A0 _ _ _ _ _ (@DH _ _ (.ty "tuple") _ _ rfl Pp DA rfl (by decide) (by decide)) Ab (by rfl)) (by rfl)) (by decide) (by decide) (by rfl) (by rfl)) (by intro _;rfl))) (@CI _ _ _ _ _ _ _ (@Ap _ _ _ _ _ _ _ _ EO (@Al _ _ _ _ _ _ _ _ _ (Bs K) rfl Pm AD (@A0 _ _ _ _ _ (pv 0) Ab (by rfl)) (by decide) (by decide) (by rfl) (by rfl)) Aa (As _)) (@CI _ _ _ _ _ _ _ (@Cu _ _ _ _ (@Ct _ _ _ (@Ak _ _ _ _ _ _ _ _ _ _ _ Qj hr rfl (@A0 _ _ _ _ _ (@Aj _ _ _ _ _ _ _ (ixT K) (pv 0) Aa (fun u v=>rfl)) Ab (by rfl)) (by decide) (by decide) (by rfl) (by rfl)) (by intro _;rfl))) (@D8 _ _ _ _ (@Cu _ _ _ _ (@Ct _ _ _ (@Ak _ _ _ _ _ _ _ _ _ _ _ Qj hr rfl (@A0 _ _ _ _ _ (@Aj _ _ _ _ _ _ _ (ixT K) (pv 0) Aa (fun u v=>rfl)) Ab (by rfl)) (by decide) (by decide) (by rfl) (by rfl)) (by intro _;rfl)))))))) (@Ag _ _ _ (@Av _ _ _ _ EM)) AI (by rfl) (by rfl)) (@Ag _ _ _ (@Av _ _ _ _ (@IY _ _ _ _ _ _ _ (@Df _ _ _ _ _ _ _ _ CU (@Aj _ _ _ _ _ _ _ (ixT K) (pv 0) Aa (fun u v=>rfl)) Aa (As _)) (@GY _ _ _ _ _ (@Df _ _ _ _ _ _ _ _ (eqD K hr.units) (@Ak _ _ _ _ _ _ _ _ _ _ _ Pr hr rfl (@A0 _ _ _ _ _ (@Aj _ _ _ _ _ _ _ (ixT K) (pv 0) Aa (fun u v=>rfl)) (@A0 _ _ _ _ _ (@Aj _ _ _ _ _ _ _ (ixT K) (pv 0) Aa (fun u v=>rfl)) Ab (by rfl)) (by rfl)) (by decide) (by decide) (by rfl) (by rfl)) (pv 0) (As _)))))) (by rfl)),?_⟩
 obtain⟨x,p,rfl,⟨r,rfl,hr⟩,q⟩:=h
 refine⟨_,rfl,_,_,_,_,rfl,.tup hr,Jc K,true,rfl,CF ?_⟩
 refine⟨_,rfl,r,_,rfl,.inr hr,rfl,_,rfl,CF ?_⟩
 refine⟨_,rfl,r,_,_,_,rfl,rfl,hr,rfl,_,_,rfl,.int _,_,rfl,CF ?_⟩
 refine⟨_,rfl,r,_,_,_,rfl,rfl,hr,rfl,_,_,rfl,.int _,_,rfl,CF ?_⟩
 refine⟨_,rfl,r,_,_,_,rfl,rfl,hr,rfl,_,_,rfl,rfl,_,rfl,?_⟩
 refine AU (by rw[decide_eq_true (show(0:Int)<(p.den:Int) by have:=p.den_pos;lia)]<;>rfl) ?_
 refine⟨_,rfl,r,_,_,_,rfl,rfl,hr,rfl,_,rfl,r,_,_,_,rfl,rfl,hr,rfl,_,_,rfl,Nm.den_ne p,fun z hz=>⟨_,rfl,?_⟩⟩
 have e:Sv p.num (p.den:Int)=p:=SA p
 rw[e]
 refine eqN (Az.of Ac) ⟨r,rfl,SqT.same hr (Af.new hz)⟩ ?_
 rw[decide_eq_true rfl]
 exact q _ (Af.new hz)
theorem Et:Aq ["_law_thing"] ["_law_thing"] (Ae (top 60)):=⟨rfl,rfl,rfl,by decide +kernel,rfl,by decide +kernel,by decide +kernel⟩
theorem Ez{f:Addr}{fd:FuncData}(F:Fun K "_law_is_curve" "_law_is_curve" (top 60) f fd)(QG:Fd P w K mg base 34 "_law_is_number" ["_law_thing"] (KR K))(Pq:mg "isinstance" = none)(Pp:mg "tuple" = none)(b_all:mg "all" = none)(hT:P.given.tree=none) :
 AO P w K mg base CX0 35 f fd ["_law_thing"] (KS K):=by
 refine F.ok Et (fun vs H Q E h=>?_) (fun cdv A outer s H vs Q E hr h=>?_)
 ·obtain⟨_,_,rfl,_⟩:=h;rfl
 refine⟨_,(@Ad _ _ _ _ _ K _ (@AQ _ _ _ _ _ _ _ _ K _ _ (@PW.pt _ _ _ (@CI _ _ _ _ _ _ _ (@Cu _ _ _ _ (@Ct _ _ _ (@Al _ _ _ _ _ _ _ _ _ (Kj K) rfl Pq BF (@A0 _ _ _ _ _ (pv 0) (@A0 _ _ _ _ _ (@DH _ _ (.ty "tuple") _ _ rfl Pp DA rfl (by decide) (by decide)) Ab (by rfl)) (by rfl)) (by decide) (by decide) (by rfl) (by rfl)) (by intro _;rfl))) (@D8 _ _ _ _ (@Cu _ _ _ _ (@Ct _ _ _ (@Al _ _ _ _ _ _ _ _ _ (Ph K rfl) rfl b_all O1 (@A0 _ _ _ _ _ (@CT _ (["_law_number_here"]) 1 ([]) _ _ _ _ _ _ _ _ _ _ rfl (Be.look (NX:=["_law_thing"]) (sc:=Ae (top 60)) rfl rfl (by decide +kernel)) (@piS _ K _ _ _ (pv 0) (by rfl)) (fun u1 u2 u3 u4 u5=>(@Ax _ _ 0 _ (show List.Nodup (["_law_number_here"]:List Str) from by decide +kernel) rfl (Or.inl rfl) (by first   | exact .inl rfl   | exact .inr rfl   | assumption))) (AK (by decide)) (fun u1 u2 u3 u4 u5=>Bq) (fun u1 u2 u3 u4 u5=>(@Ak _ _ _ _ _ _ _ _ _ _ _ QG hr rfl (@A0 _ _ _ _ _ (pv 0) Ab (by rfl)) (by decide) (by decide) (by rfl) (by rfl))) (by intro _;rfl)) Ab (by rfl)) (by decide) (by decide) (by rfl) (by rfl)) (by intro _;rfl)))))) (@Ag _ _ _ (@Av _ _ _ _ EM)) AI (by rfl) (by rfl)) (@Ag _ _ _ (@Av _ _ _ _ (@Ox _ _ _ _ _ _ _ (@Df _ _ _ _ _ _ _ _ (eqD K hr.units) (pv 0) (@AG _ _ _ _ _ Ab) (As _)) (@GY _ _ _ _ _ (@Df _ _ _ _ _ _ _ _ (neD K hr.units) (@Aj _ _ _ _ _ _ _ (ixT K) (pv 0) (@Ci _ _ _ _ _ _ BS Aa) (fun u v=>rfl)) (@AG _ _ _ _ _ (@A0 _ _ _ _ _ Aa (@A0 _ _ _ _ _ Aa Ab (by rfl)) (by rfl))) (As _)))))) (by rfl)),?_⟩
 obtain⟨r,qs,rfl,⟨xs,hS,hn⟩,hz,hg,q⟩:=h
 have hl:=hn.length
 refine⟨_,rfl,_,_,_,_,rfl,.tup hS,Jc K,true,rfl,CF ?_⟩
 refine Ja (b:=false) (a:=r) (xs:=xs) rfl (fun i zs H'=>Af H H'/\zs=RX i (.bl true)) ⟨Af.refl _,rfl⟩ (fun i zs H' _ p=>⟨SqT.same hS p.1,by rw[p.2,S8]⟩) (by rw[hl];exact Rx (AF hz)) ?_ ?_
 ·rintro i x zs H' hx ⟨sm,rfl⟩
  obtain⟨c,hc,hcn⟩:=(Paired.get hn hx)
  refine⟨_,rfl,x,c,rfl,hcn.same sm,fun H2 s2=>⟨sm.trans s2,?_⟩⟩
  rw[<- List.replicate_succ']
 rintro zs H' ⟨sm,rfl⟩ p hp
 refine⟨p,RX xs.length true,rfl,SqL.of (by rw[SS];exact Ac),_,rfl,?_⟩
 refine AH (by rw[ML]<;>rfl) ?_
 have s1:Af H (upd H' p (.lst (RX xs.length (.bl true)))):=sm.trans (Af.new hp)
 refine⟨_,rfl,(by decide:0<=sizeLine),fun z hz'=>?_⟩
 have s2:=s1.trans (Af.new (o:=.tup []) hz')
 refine eqT (ps:=qs) (qs:=[]) ⟨xs,SqT.same hS s2,Ar.same hn s2⟩ ⟨[],SqT.of Ac,.nil⟩ ?_
 refine⟨_,rfl,?_⟩
 rcases hg with rfl | ⟨c,hc,hc0⟩
 ·exact AU (by rw[decide_eq_true rfl]<;>rfl) (q _ s2)
 ·have hne:qs≠[]:=fun e=>by rw[e]at hc;simp at hc
  refine AH (by rw[decide_eq_false hne]<;>rfl) ?_
  obtain⟨x,hx,hxn⟩:=(Paired.get' hn hc)
  rw[<- hl]at hx
  refine⟨_,rfl,_,rfl,r,xs,_,x,rfl,rfl,SqT.same hS s2,BY hx,(by decide:2<=sizeLine),fun u hu=>?_⟩
  have s3:=s2.trans (Af.new (o:=.tup [.int 0,.int 1]) hu)
  refine eqN (q:=0) (hxn.same s3) (Az.of (Ac (o:=nT 0))) ?_
  rw[decide_eq_false hc0]
  exact q _ s3
theorem Bv:Aq ["tops","width"] ["tops"] (Ae (top 25)):=⟨rfl,rfl,rfl,by decide +kernel,rfl,by decide +kernel,by decide +kernel⟩
theorem CV{f:Addr}{fd:FuncData}(F:Fun K "without_last_noughts" "without_last_noughts" (top 25) f fd)(Pm:mg "len" = none)(hT:P.given.tree=none) :
 AO P w K mg base CX0 33 f fd ["tops"] (KO K):=by
 refine F.ok Bv (fun vs H Q E h=>?_) (fun cdv A outer s H vs Q E hr h=>?_)
 ·obtain⟨_,_,rfl,_⟩:=h;rfl
 refine⟨_,(@Ad _ _ _ _ _ K _ (@Ai _ _ 1 _ _ _ _ Bv.nd rfl (Or.inl rfl) (@Al _ _ _ _ _ _ _ _ _ (Bs K) rfl Pm AD (@A0 _ _ _ _ _ (pv 0) Ab (by rfl)) (by decide) (by decide) (by rfl) (by rfl)) (by rfl) (by first   | exact .inl rfl   | exact .inr rfl   | assumption)) (@Ad _ _ _ _ _ K _ (@Cw _ _ _ _ _ _ PassesOwn.never (@PW.pt _ _ _ (@DV _ _ _ _ _ _ _ (@Ap _ _ _ _ _ _ _ _ CU (pv 1) Aa (As _)) (@D9 _ _ _ _ (@Ap _ _ _ _ _ _ _ _ Dl (@Aj _ _ _ _ _ _ _ (ixL K) (pv 0) (@Ah _ _ _ _ _ _ _ _ Ba (pv 1) Aa) (fun u v=>rfl)) Aa (As _))))) (@Ag _ _ _ (@Ai _ _ 1 _ _ _ _ Bv.nd rfl (Or.inl rfl) (@Ah _ _ _ _ _ _ _ _ Ba (pv 1) Aa) (by rfl) (by first   | exact .inl rfl   | exact .inr rfl   | assumption)))) (@Ag _ _ _ (@Av _ _ _ _ (@Cz _ _ _ _ _ _ _ _ _ _ (slL K) (pv 0) De (@Dd _ _ _ (pv 1))))) (by rfl)) (by rfl)),?_⟩
 obtain⟨r,ts,rfl,hS,q⟩:=h
 have hl:(ts.map V.int).length=ts.length:=S7 _
 refine⟨_,rfl,r,_,rfl,.inl hS,?_⟩
 refine Jj (L3 H r ts fun H r ts σ H'=>H'=H/\∃(v:Nat),σ=[some (.ref r),some (.int (v:Int))]/\v<=ts.length/\∀j,v<=j->ts.getD j 0=0) (fun σ _=>mu 1 σ) ⟨rfl,ts.length,by rw[<- hl];rfl,RK _,fun j hj=>by rw[T6,TL hj];rfl⟩ ?_
 rintro σ H' hR1
 refine BO hR1 fun hq127 hz129=>?_
 refine Gj hz129 fun v hz129'=>?_
 clear hz129
 refine Dp hz129' fun hq128 hv hall=>?_
 clear hz129'
 obtain rfl:=hq127
 obtain rfl:=hq128
 try clear hR1
 have fin:(1<=v->ts.getD (v-1) 0≠0)->∀p,H' p=none->Q (.ref p) (upd H' p (.lst (Cp (ts.map V.int) none (some (v:Int))))):=fun hc p hp=>by
  rw[Hy,<- V6]
  exact q p _ v hv hall hc (Af.new hp) Ac
 refine⟨_,rfl,_,_,rfl,rfl,_,rfl,?_⟩
 by_cases hv0:v=0
 ·subst hv0
  refine CF (CF ?_)
  exact⟨_,rfl,_,rfl,_,rfl,r,_,rfl,hS,fun p hp=>fin (fun h=>absurd h (by lia)) p hp⟩
 ·refine AU (by rw[decide_eq_true (show(0:Int)<(v:Int) by lia)]<;>rfl) ?_
  have hat:atI (ts.map V.int) ((v:Int)-1)=some (.int (ts.getD (v-1) 0)):=CM (i:=v-1) (by rw[T6,Te (show v-1<ts.length by lia)];rfl) (by lia)
  refine⟨_,rfl,_,rfl,_,_,rfl,rfl,r,_,_,_,rfl,rfl,hS,hat,rfl,_,rfl,?_⟩
  by_cases hq0:ts.getD (v-1) 0=0
  ·refine AU (by rw[decide_eq_true (show V.int (ts.getD (v-1) 0)=V.int 0 by rw[hq0])]<;>rfl) (Ji ?_)
   refine⟨_,rfl,_,_,rfl,rfl,⟨rfl,v-1,?_,by lia,fun j hj=>?_⟩,?_⟩
   ·show[some (V.ref r),some (V.int ((v:Int)-1))]=[some (V.ref r),some (V.int ((v-1:Nat):Int))]
    rw[show(v:Int)-1=((v-1:Nat):Int) by lia]
   ·by_cases hjv:v<=j
    ·exact hall j hjv
    ·rw[show j=v-1 by lia];exact hq0
   ·show((v:Int)-1).toNat<(v:Int).toNat
    lia
  ·refine AH (by rw[decide_eq_false (show ¬V.int (ts.getD (v-1) 0)=V.int 0 from fun z=>hq0 (V.int.inj z))]<;>rfl) ?_
   exact⟨_,rfl,_,rfl,_,rfl,r,_,rfl,hS,fun p hp=>fin (fun _=>hq0) p hp⟩
theorem Bb:Aq ["great","small","lead","held","drop","factor","rest"] ["great","small"] (Ae (top 26)):=⟨rfl,rfl,rfl,by decide +kernel,rfl,by decide +kernel,by decide +kernel⟩
theorem He{f:Addr}{fd:FuncData}(F:Fun K "last_rest" "last_rest" (top 26) f fd)(QH:Fd P w K mg base 33 "without_last_noughts" ["tops"] (KO K))(PU:Fd P w K mg base 33 "raised" ["base","many"] (E2))(Q7:Fd P w K mg base 33 "whole_division" ["first","second"] (Jm K))(Pm:mg "len" = none)(hT:P.given.tree=none) :
 AO P w K mg base CX0 34 f fd ["great","small"] (GO K):=by
 refine F.ok Bb (fun vs H Q E h=>?_) (fun cdv A outer s H vs Q E hr h=>?_)
 ·obtain⟨_,_,_,_,_,_,rfl,_⟩:=h;rfl
 refine⟨_,(@Ad _ _ _ _ _ K _ (@Ai _ _ 2 _ _ _ _ Bb.nd rfl (Or.inl rfl) Aa (by rfl) (by first   | exact .inl rfl   | exact .inr rfl   | assumption)) (@Ad _ _ _ _ _ K _ (@Ai _ _ 3 _ _ _ _ Bb.nd rfl (Or.inl rfl) Aa (by rfl) (by first   | exact .inl rfl   | exact .inr rfl   | assumption)) (@Ad _ _ _ _ _ K _ (@Cw _ _ _ _ _ _ PassesOwn.never (@Ap _ _ _ _ _ _ _ _ CU (@Al _ _ _ _ _ _ _ _ _ (Bs K) rfl Pm AD (@A0 _ _ _ _ _ (pv 1) Ab (by rfl)) (by decide) (by decide) (by rfl) (by rfl)) Aa (As _)) (@Ad _ _ _ _ _ K _ (@Ai _ _ 4 _ _ _ _ Bb.nd rfl (Or.inl rfl) (@Ah _ _ _ _ _ _ _ _ Ba (@Al _ _ _ _ _ _ _ _ _ (Bs K) rfl Pm AD (@A0 _ _ _ _ _ (pv 0) Ab (by rfl)) (by decide) (by decide) (by rfl) (by rfl)) (@Al _ _ _ _ _ _ _ _ _ (Bs K) rfl Pm AD (@A0 _ _ _ _ _ (pv 1) Ab (by rfl)) (by decide) (by decide) (by rfl) (by rfl))) (by rfl) (by first   | exact .inl rfl   | exact .inr rfl   | assumption)) (@Ad _ _ _ _ _ K _ (@Ai _ _ 5 _ _ _ _ Bb.nd rfl (Or.inr rfl) (@Ah _ _ _ _ _ _ _ _ Au (pv 2) (@Ak _ _ _ _ _ _ _ _ _ _ _ PU hr rfl (@A0 _ _ _ _ _ (pv 3) (@A0 _ _ _ _ _ (pv 4) Ab (by rfl)) (by rfl)) (by decide) (by decide) (by rfl) (by rfl))) (by rfl) (by first   | exact .inl rfl   | exact .inr rfl   | assumption)) (@Ad _ _ _ _ _ K _ (@Ai _ _ 6 _ _ _ _ Bb.nd rfl (Or.inl rfl) (@Ak _ _ _ _ _ _ _ _ _ _ _ QH hr rfl (@A0 _ _ _ _ _ (@Aj _ _ _ _ _ _ _ (ixT K) (@Ak _ _ _ _ _ _ _ _ _ _ _ Q7 hr rfl (@A0 _ _ _ _ _ (pv 0) (@A0 _ _ _ _ _ (pv 1) Ab (by rfl)) (by rfl)) (by decide) (by decide) (by rfl) (by rfl)) Aa (fun u v=>rfl)) Ab (by rfl)) (by decide) (by decide) (by rfl) (by rfl)) (by rfl) (by first   | exact .inl rfl   | exact .inr rfl   | assumption)) (@Ad _ _ _ _ _ K _ (@Ai _ _ 0 _ _ _ _ Bb.nd rfl (Or.inl rfl) (pv 1) (by rfl) (by first   | exact .inl rfl   | exact .inr rfl   | assumption)) (@Ad _ _ _ _ _ K _ (@Fy _ (["top","factor"]) 1 ([5]) _ _ _ _ _ _ _ _ _ _ 1 _ _ _ rfl Bb.nd rfl rfl (Be.look (NX:=["great","small","lead","held","drop","factor","rest"]) (sc:=Ae (top 26)) rfl rfl (by decide +kernel)) (@piL _ K _ _ _ (pv 6) (by rfl)) (fun u1 u2 u3 u4 u5=>(@Ax _ _ 0 _ (show List.Nodup (["top","factor"]:List Str) from by decide +kernel) rfl (Or.inl rfl) (by first   | exact .inl rfl   | exact .inr rfl   | assumption))) (AK (by decide)) (fun u1 u2 u3 u4 u5=>Bq) (fun u1 u2 u3 u4 u5=>(@Ah _ _ _ _ _ _ _ _ (Bw hr hT) (pv 0) (pv 1))) rfl (by intro _;rfl)) (@Ad _ _ _ _ _ K _ (@Ai _ _ 2 _ _ _ _ Bb.nd rfl (Or.inl rfl) (@Aj _ _ _ _ _ _ _ (ixL K) (pv 0) (@Ci _ _ _ _ _ _ BS Aa) (fun u v=>rfl)) (by rfl) (by first   | exact .inl rfl   | exact .inr rfl   | assumption)) (@Ag _ _ _ (@AQ _ _ _ _ _ _ _ _ K _ _ (@Ap _ _ _ _ _ _ _ _ CU (pv 4) Aa (As _)) (@Ag _ _ _ (@Ai _ _ 3 _ _ _ _ Bb.nd rfl (Or.inl rfl) (@Ah _ _ _ _ _ _ _ _ (Bw hr hT) (@Ak _ _ _ _ _ _ _ _ _ _ _ PU hr rfl (@A0 _ _ _ _ _ (pv 2) (@A0 _ _ _ _ _ (pv 4) Ab (by rfl)) (by rfl)) (by decide) (by decide) (by rfl) (by rfl)) (@Ak _ _ _ _ _ _ _ _ _ _ _ PU hr rfl (@A0 _ _ _ _ _ (pv 3) (@A0 _ _ _ _ _ (@Ah _ _ _ _ _ _ _ _ Ba (pv 4) Aa) Ab (by rfl)) (by rfl)) (by decide) (by decide) (by rfl) (by rfl))) (by rfl) (by first   | exact .inl rfl   | exact .inr rfl   | assumption))) AI (by rfl) (by rfl))) (by rfl)) (by rfl)) (by rfl)) (by rfl)) (by rfl)) (by rfl))) (@Ag _ _ _ (@Av _ _ _ _ (pv 0))) (by rfl)) (by rfl)) (by rfl)),?_⟩
 obtain⟨f,g,fs,gs,W,X,rfl,hf,hg,h1,hle,h8,t1,t2,hbf,hbg,hX,hX8,q⟩:=h
 have I0:=LRK.first h1 hle h8 t1 t2 hbf hbg hX
 have hSb:∀k j,Bd X ((fun k j=>Dt.sub (fs.length-1) (gs.length-1) k (tf fs) (tf gs) j) k j):=fun k j=>KI h8 hle hbf hbg hX k j
 generalize(fun k j=>Dt.sub (fs.length-1) (gs.length-1) k (tf fs) (tf gs) j)=S at I0 hSb
 refine Jj (L6 H K S fs gs X fun H K S fs gs X σ H'=>Af H H'/\∃(f' g':Addr) (fs' gs':List Int) (lead held:Int) (z4 z5 z6:Option V),σ=[some (.ref f'),some (.ref g'),some (.int lead),some (.int held),z4,z5,z6]/\SqL K H' f' (fs'.map V.int)/\H' g'=some (.lst (gs'.map V.int))/\LRK S fs gs fs' gs' lead held X/\fs'.length<=fs.length) (ml 1)
  ⟨Af.refl _,f,g,fs,gs,1,1,none,none,none,rfl,hf,hg,I0,RK _⟩ ?_
 rintro σ H' hR1
 refine BO hR1 fun sm hz131=>?_
 refine LI hz131 fun f' g' fs' gs' lead held z4 z5 z6 hz131'=>?_
 clear hz131
 refine Cq hz131' fun hq130 hf' hg' I hl'=>?_
 clear hz131'
 obtain rfl:=hq130
 try clear hR1
 have lf:(fs'.map V.int).length=fs'.length:=S7 _
 have lg:(gs'.map V.int).length=gs'.length:=S7 _
 refine⟨_,rfl,g',_,rfl,.inl (SqL.of hg'),_,_,rfl,rfl,_,rfl,?_⟩
 by_cases h0:gs'=[]
 ·refine AH (by rw[decide_eq_false (show ¬((0:Int)<((gs'.map V.int).length:Int)) by rw[h0];decide)]<;>rfl) ?_
  have c:=I.com
  rw[h0]at c
  exact⟨_,rfl,q f' H' fs' sm hf' I.lr.fp hl' I.t1 c I.bf⟩
 have hg1:1<=gs'.length:=SN.mpr h0
 refine AU (by rw[decide_eq_true (show(0:Int)<((gs'.map V.int).length:Int) by rw[lg];lia)]<;>rfl) (Ji ?_)
 have hle':=I.le
 have l8:=I.l10
 have hfp:=I.lr.fp
 have ed:((fs'.map V.int).length:Int)-((gs'.map V.int).length:Int)=((fs'.length-gs'.length:Nat):Int):=by rw[lf,lg];lia
 refine⟨_,rfl,f',_,rfl,.inl hf',_,rfl,g',_,rfl,.inl (SqL.of hg'),_,_,rfl,rfl,?_⟩
 rw[ed]
 have c4:X+fs'.length*(X+1)+X<=100000000:=by
  have:=Tt (X+1) l8
  lia
 have c2:X*(fs'.length-gs'.length)+X<=100000000:=by
  have:=V4 X (show fs'.length-gs'.length<=12 by lia)
  lia
 have bh:=I.bh
 have bp:=Bd.pow bh (fs'.length-gs'.length)
 have hgl:gs'[gs'.length-1]? = some (gs'[gs'.length-1]'(by lia)):=Te _
 generalize gs'[gs'.length-1]'(by lia)=gl at hgl
 have hlv:(gs'.map V.int)[(gs'.map V.int).length-1]? = some (V.int gl):=by rw[lg,S3,hgl];rfl
 have bgl:Bd X gl:=I.bg _ (S5 hgl)
 refine⟨_,rfl,_,rfl,_,rfl,held,fs'.length-gs'.length,X,rfl,by lia,bh,c2,_,_,rfl,rfl,Bk.bd I.bl bp (by lia),?_⟩
 refine⟨_,rfl,_,rfl,f',g',fs',gs',gl,X,X,rfl,hf',SqL.of hg',hgl,by lia,by lia,I.bf,I.bg,c4,by lia,fun pt pa pb H3 os rs s3 ept epa epb dv=>?_⟩
 refine⟨pt,_,_,_,rfl,rfl,SqT.of ept,rfl,pb,rs,rfl,SqL.of epb,fun rp H4 w hw hz hlast s4 e4=>?_⟩
 have sm4:=s3.trans s4
 have ho:=dv.ol
 have hr:rs.length=gs'.length-1:=by have:=dv.rl;lia
 have key:=fun held'=>LRK.next (held':=held') I hSb hgl ho hr dv.ev hw hz hlast
 generalize hF:lead*held ^ (fs'.length-gs'.length)=φ at key ⊢
 have hφ:φ≠0:=by
  rcases Nat.eq_or_lt_of_le hle' with z | z
  ·exact(key held (.inr ⟨z.symm,rfl⟩)).1
  ·exact(key _ (.inl ⟨z,rfl⟩)).1
 refine⟨_,rfl,?_⟩
 refine C3 ⟨_,rfl,rp,rfl,⟨_,SqL.of e4⟩,?_⟩
 have lt:((rs.take w).map V.int).length=w:=by rw[S7,RY];lia
 refine Dh (xs:=(rs.take w).map V.int) (L3 H4 rs w fun H4 rs w i zs H5=>H5=H4/\zs=(((rs.take w).take i).map fun t=>UK t φ).map V.int) ⟨rfl,rfl⟩ (fun i zs H5 hi p=>⟨by rw[p.1];exact SqL.of e4,by rw[p.2,S7,S7,RY,RY];lia⟩) (by rw[lt];exact Rx (AF (by lia))) ?_ ?_
 ·rintro i v zs H5 hv ⟨rfl,rfl⟩
  rw[S3]at hv
  cases et:(rs.take w)[i]? with
  | none=>rw[et]at hv;cases hv
  | some t =>
    rw[et]at hv
    cases hv
    refine⟨_,rfl,_,rfl,_,_,rfl,rfl,hφ,rfl,?_⟩
    rw[SU,et,SV,SV]
    rfl
 rintro zs H5 ⟨rfl,rfl⟩ nl hnl
 rw[show(rs.take w).take ((rs.take w).map V.int).length=rs.take w by rw[lt,TN (by rw[RY];lia)]]
 generalize hh:((rs.take w).map fun t=>UK t φ)=hs at key ⊢
 have hhl:hs.length=w:=by rw[<- hh,S7,RY];lia
 have s5:Af H5 (upd H5 nl (.lst (hs.map V.int))):=Af.new hnl
 have e5:(upd H5 nl (.lst (hs.map V.int))) nl=some (.lst (hs.map V.int)):=Ac
 have sm5:=sm4.trans s5
 generalize upd H5 nl (.lst (hs.map V.int))=H6 at s5 e5 sm5 ⊢
 have hg6:=sm5 _ _ hg'
 have less:hs.length<gs'.length:=by lia
 refine⟨_,rfl,_,rfl,g',_,_,_,rfl,rfl,SqL.of hg6,BY hlv,?_⟩
 refine⟨_,rfl,_,_,rfl,rfl,_,rfl,?_⟩
 have c6:X*(fs'.length-gs'.length-1)+X<=100000000:=by
  have:=V4 X (show fs'.length-gs'.length-1<=12 by lia)
  lia
 by_cases hd:gs'.length<fs'.length
 ·refine AU (by rw[decide_eq_true (show(0:Int)<((fs'.length-gs'.length:Nat):Int) by lia)]<;>rfl) ?_
  have h00:=(I.lr.srs hg1).h0
  refine⟨_,rfl,_,rfl,gl,fs'.length-gs'.length,X,rfl,by lia,bgl,c2,_,rfl,_,rfl,_,_,rfl,rfl,held,fs'.length-gs'.length-1,X,by rw[show((fs'.length-gs'.length:Nat):Int)-1=((fs'.length-gs'.length-1:Nat):Int) by lia];rfl,by lia,bh,c6,_,_,rfl,rfl,Ut h00,?_⟩
  obtain⟨_,J,_⟩:=(key _ (.inl ⟨hd,rfl⟩))
  refine⟨⟨sm.trans sm5,g',nl,gs',hs,gl,_,_,_,_,rfl,SqL.of hg6,e5,J,by lia⟩,?_⟩
  show(match H6 nl with | some (.lst xs)=>xs.length | _=>0)<(match H' g' with | some (.lst xs)=>xs.length | _=>0)
  rw[e5,hg']
  show(hs.map V.int).length<(gs'.map V.int).length
  rw[S7,S7];exact less
 ·refine AH (by rw[decide_eq_false (show ¬(0:Int)<((fs'.length-gs'.length:Nat):Int) by lia)]<;>rfl) ?_
  obtain⟨_,J,_⟩:=(key held (.inr ⟨by lia,rfl⟩))
  refine⟨⟨sm.trans sm5,g',nl,gs',hs,gl,_,_,_,_,rfl,SqL.of hg6,e5,J,by lia⟩,?_⟩
  show(match H6 nl with | some (.lst xs)=>xs.length | _=>0)<(match H' g' with | some (.lst xs)=>xs.length | _=>0)
  rw[e5,hg']
  show(hs.map V.int).length<(gs'.map V.int).length
  rw[S7,S7];exact less
theorem BK:Aq ["one","other","first","second","tops"] ["one","other"] (Ae (top 27)):=⟨rfl,rfl,rfl,by decide +kernel,rfl,by decide +kernel,by decide +kernel⟩
theorem FG{f:Addr}{fd:FuncData}(F:Fun K "common_part" "common_part" (top 27) f fd)(Pw:Fd P w K mg base 33 "tops_over" ["numbers","bottom"] (El K))(Px:Fd P w K mg base 35 "curve_over" ["tops","bottom"] (C2 K))(Pu:Fd P w K mg base 34 "bottom_of" ["numbers"] (Fp K))(Qk:Fd P w K mg base 34 "last_rest" ["great","small"] (GO K))(Pm:mg "len" = none)(hT:P.given.tree=none) :
 AO P w K mg base CX0 36 f fd ["one","other"] (KW K):=by
 refine F.ok BK (fun vs H Q E h=>?_) (fun cdv A outer s H vs Q E hr h=>?_)
 ·obtain⟨_,_,_,_,_,_,_,_,rfl,_⟩:=h;rfl
 refine⟨_,(@Ad _ _ _ _ _ K _ (@AQ _ _ _ _ _ _ _ _ K _ _ (@PW.pt _ _ _ (@DV _ _ _ _ _ _ _ (@Ap _ _ _ _ _ _ _ _ Dl (@Al _ _ _ _ _ _ _ _ _ (Bs K) rfl Pm AD (@A0 _ _ _ _ _ (pv 0) Ab (by rfl)) (by decide) (by decide) (by rfl) (by rfl)) Aa (As _)) (@D9 _ _ _ _ (@Ap _ _ _ _ _ _ _ _ Dl (@Al _ _ _ _ _ _ _ _ _ (Bs K) rfl Pm AD (@A0 _ _ _ _ _ (pv 1) Ab (by rfl)) (by decide) (by decide) (by rfl) (by rfl)) Aa (As _))))) (@Ag _ _ _ Cy) AI (by rfl) (by rfl)) (@Ad _ _ _ _ _ K _ (@Ai _ _ 2 _ _ _ _ BK.nd rfl (Or.inl rfl) (@Ak _ _ _ _ _ _ _ _ _ _ _ Pw hr rfl (@A0 _ _ _ _ _ (pv 0) (@A0 _ _ _ _ _ (@Ak _ _ _ _ _ _ _ _ _ _ _ Pu hr rfl (@A0 _ _ _ _ _ (pv 0) Ab (by rfl)) (by decide) (by decide) (by rfl) (by rfl)) Ab (by rfl)) (by rfl)) (by decide) (by decide) (by rfl) (by rfl)) (by rfl) (by first   | exact .inl rfl   | exact .inr rfl   | assumption)) (@Ad _ _ _ _ _ K _ (@Ai _ _ 3 _ _ _ _ BK.nd rfl (Or.inl rfl) (@Ak _ _ _ _ _ _ _ _ _ _ _ Pw hr rfl (@A0 _ _ _ _ _ (pv 1) (@A0 _ _ _ _ _ (@Ak _ _ _ _ _ _ _ _ _ _ _ Pu hr rfl (@A0 _ _ _ _ _ (pv 1) Ab (by rfl)) (by decide) (by decide) (by rfl) (by rfl)) Ab (by rfl)) (by rfl)) (by decide) (by decide) (by rfl) (by rfl)) (by rfl) (by first   | exact .inl rfl   | exact .inr rfl   | assumption)) (@Ad _ _ _ _ _ K _ (@AQ _ _ _ _ _ _ _ _ K _ _ (@Ap _ _ _ _ _ _ _ _ E7 (@Al _ _ _ _ _ _ _ _ _ (Bs K) rfl Pm AD (@A0 _ _ _ _ _ (pv 2) Ab (by rfl)) (by decide) (by decide) (by rfl) (by rfl)) (@Al _ _ _ _ _ _ _ _ _ (Bs K) rfl Pm AD (@A0 _ _ _ _ _ (pv 3) Ab (by rfl)) (by decide) (by decide) (by rfl) (by rfl)) (As _)) (@Ag _ _ _ (@Ai _ _ 4 _ _ _ _ BK.nd rfl (Or.inl rfl) (@Ak _ _ _ _ _ _ _ _ _ _ _ Qk hr rfl (@A0 _ _ _ _ _ (pv 3) (@A0 _ _ _ _ _ (pv 2) Ab (by rfl)) (by rfl)) (by decide) (by decide) (by rfl) (by rfl)) (by rfl) (by first   | exact .inl rfl   | exact .inr rfl   | assumption))) (@Ag _ _ _ (@Ai _ _ 4 _ _ _ _ BK.nd rfl (Or.inl rfl) (@Ak _ _ _ _ _ _ _ _ _ _ _ Qk hr rfl (@A0 _ _ _ _ _ (pv 2) (@A0 _ _ _ _ _ (pv 3) Ab (by rfl)) (by rfl)) (by decide) (by decide) (by rfl) (by rfl)) (by rfl) (by first   | exact .inl rfl   | exact .inr rfl   | assumption))) (by rfl) (by rfl)) (@Ag _ _ _ (@Av _ _ _ _ (@Ak _ _ _ _ _ _ _ _ _ _ _ Px hr rfl (@A0 _ _ _ _ _ (pv 4) (@A0 _ _ _ _ _ (@Aj _ _ _ _ _ _ _ (ixL K) (pv 4) (@Ci _ _ _ _ _ _ BS Aa) (fun u v=>rfl)) Ab (by rfl)) (by rfl)) (by decide) (by decide) (by rfl) (by rfl)))) (by rfl)) (by rfl)) (by rfl)) (by rfl)),?_⟩
 obtain⟨r,u,qs,ps,n,W,L1,L2,rfl,⟨xs,hS,hn⟩,⟨ys,hT',hm⟩,gq,gp,hne,hB,hC,hn1,hq8,hp8,ov1,ov2,hW,q⟩:=h
 have hl:=hn.length
 have hly:=hm.length
 have nq:n*qs.length<=n*12:=V4 _ hq8
 have np:n*ps.length<=n*12:=V4 _ hp8
 refine HQ (s:=K0 _ _ _) (L3 H r u fun H r u σ' H'=>H'=H/\σ'=[some (.ref r),some (.ref u),none,none,none]) (fun nx hnx=>?_) ?_
 ·refine⟨_,rfl,r,xs,rfl,.inr hS,rfl,_,rfl,?_⟩
  by_cases hq0:qs=[]
  ·refine AU (by rw[decide_eq_true (show V.int (xs.length:Int)=V.int 0 by rw[hl,hq0];rfl)]<;>rfl) ?_
   refine⟨_,rfl,u,ys,rfl,.inr hT',rfl,_,rfl,?_⟩
   have hp0:ps≠[]:=by
    rcases hne with z | z
    ·exact absurd hq0 z
    ·exact z
   have hp1:=SN.mpr hp0
   exact AH (by rw[decide_eq_false (show ¬V.int (ys.length:Int)=V.int 0 from fun z=>by have:=V.int.inj z;lia)]<;>rfl) (hnx _ _ ⟨rfl,rfl⟩)
  ·have hq1:=SN.mpr hq0
   exact AH (by rw[decide_eq_false (show ¬V.int (xs.length:Int)=V.int 0 from fun z=>by have:=V.int.inj z;lia)]<;>rfl) (CF (hnx _ _ ⟨rfl,rfl⟩))
 rintro σ' H' ⟨rfl,rfl⟩
 refine⟨_,rfl,_,rfl,false,r,xs,qs,n,rfl,hS,hn,(fun c hc=>(hB c hc).2),by rw[TC];lia,fun B hB0 hdB hbB mB=>?_⟩
 refine⟨false,r,xs,qs,B,n*qs.length+1,n,rfl,hS,hn,hbB,(fun c hc=>(hB c hc).1),by lia,by lia,fun fa hfa=>?_⟩
 have s1:Af H' (upd H' fa (.lst ((qs.map (AB B)).map V.int))):=Af.new hfa
 have efa:(upd H' fa (.lst ((qs.map (AB B)).map V.int))) fa=some (.lst ((qs.map (AB B)).map V.int)):=Ac
 generalize upd H' fa (.lst ((qs.map (AB B)).map V.int))=H1 at s1 efa ⊢
 refine⟨_,rfl,_,rfl,false,u,ys,ps,n,rfl,hT'.same s1,Ar.same hm s1,(fun c hc=>(hC c hc).2),by rw[TC];lia,fun U hU0 hdU hbU mU=>?_⟩
 refine⟨false,u,ys,ps,U,n*ps.length+1,n,rfl,hT'.same s1,Ar.same hm s1,hbU,(fun c hc=>(hC c hc).1),by lia,by lia,fun fb hfb=>?_⟩
 have s2:=s1.trans (Af.new (o:=.lst ((ps.map (AB U)).map V.int)) hfb)
 have efa2:=(Af.new (o:=.lst ((ps.map (AB U)).map V.int)) hfb) _ _ efa
 have efb:(upd H1 fb (.lst ((ps.map (AB U)).map V.int))) fb=some (.lst ((ps.map (AB U)).map V.int)):=Ac
 generalize upd H1 fb (.lst ((ps.map (AB U)).map V.int))=H2 at s2 efa2 efb ⊢
 have T1:DL (qs.map (AB B)):=fun t ht=>by
  by_cases z:qs=[]
  ·rw[z]at ht;cases ht
  ·obtain⟨t',e,h⟩:=(DB gq z hB0 hdB)
   rw[ht]at e;cases e;exact h
 have T2:DL (ps.map (AB U)):=fun t ht=>by
  by_cases z:ps=[]
  ·rw[z]at ht;cases ht
  ·obtain⟨t',e,h⟩:=(DB gp z hU0 hdU)
   rw[ht]at e;cases e;exact h
 have bF:∀t∈qs.map (AB B),Bd W t:=fun t ht=>by
  obtain⟨c,hc,rfl⟩:=(U4.mp ht)
  obtain⟨t,bt,et⟩:=(ov1.is c hc)
  exact MS ov1.ne (mB L1 fun q hq=>let ⟨_,_,e⟩:=ov1.is q hq;Ll e) et (CO (hdB c hc)) bt
 have bG:∀t∈ps.map (AB U),Bd W t:=fun t ht=>by
  obtain⟨c,hc,rfl⟩:=(U4.mp ht)
  obtain⟨t,bt,et⟩:=(ov2.is c hc)
  exact MS ov2.ne (mU L2 fun q hq=>let ⟨_,_,e⟩:=ov2.is q hq;Ll e) et (CO (hdU c hc)) bt
 have c0:Com qs ps (cst (qs.map (AB B))) (cst (ps.map (AB U))):=Com.scale (Nm.cast_ne (show B≠0 by lia)) (Nm.cast_ne (show U≠0 by lia)) (fun x=>DX hdB x) (fun x=>DX hdU x)
 have lF:(qs.map (AB B)).length=qs.length:=S7 _
 have lG:(ps.map (AB U)).length=ps.length:=S7 _
 generalize qs.map (AB B)=F at *
 generalize ps.map (AB U)=G at *
 have lFv:(F.map V.int).length=F.length:=S7 _
 have lGv:(G.map V.int).length=G.length:=S7 _
 try dsimp only
 refine Er (L9 H2 r u fa fb K qs ps W fun H2 r u fa fb K qs ps W σ' H3=>Af H2 H3/\∃(tp:Addr) (hs:List Int),σ'=[some (.ref r),some (.ref u),some (.ref fa),some (.ref fb),some (.ref tp)]/\SqL K H3 tp (hs.map V.int)/\1<=hs.length/\hs.length<=12/\DL hs/\Com qs ps (cst hs) []/\∀t∈hs,Bd (22*(W+5)+1) t) (fun nx hnx=>?_) ?_
 ·refine⟨_,rfl,fa,_,rfl,.inl (SqL.of efa2),_,rfl,fb,_,rfl,.inl (SqL.of efb),_,_,rfl,rfl,_,rfl,?_⟩
  by_cases hlt:F.length<G.length
  ·refine AU (by rw[decide_eq_true (show((F.map V.int).length:Int)<((G.map V.int).length:Int) by lia)]<;>rfl) ?_
   refine⟨_,rfl,_,rfl,fb,fa,G,F,W,22*(W+5)+1,rfl,SqL.of efb,efa2,by lia,by lia,by lia,T2,T1,bG,bF,by lia,by lia,fun p H3 hs s3 hp h1 h8 ht hc hd=>?_⟩
   exact hnx _ _ ⟨s3,p,hs,rfl,hp,h1,by lia,ht,(c0.trans (Com.turn _ _)).trans hc,hd⟩
  ·refine AH (by rw[decide_eq_false (show ¬((F.map V.int).length:Int)<((G.map V.int).length:Int) by lia)]<;>rfl) ?_
   have hF1:1<=F.length:=by
    rcases hne with z | z
    ·have:=SN.mpr z;lia
    ·have:=SN.mpr z;lia
   refine⟨_,rfl,_,rfl,fa,fb,F,G,W,22*(W+5)+1,rfl,SqL.of efa2,efb,hF1,by lia,by lia,T1,T2,bF,bG,by lia,by lia,fun p H3 hs s3 hp h1 h8 ht hc hd=>?_⟩
   exact hnx _ _ ⟨s3,p,hs,rfl,hp,h1,by lia,ht,c0.trans hc,hd⟩
 rintro σ' H3 hR1
 refine BO hR1 fun s3 hz133=>?_
 refine Dm hz133 fun tp hs hz133'=>?_
 clear hz133
 refine MK hz133' fun hq132 hp h1 h8 ht hc hD=>?_
 clear hz133'
 obtain rfl:=hq132
 try clear hR1
 have hla:hs[hs.length-1]? = some (hs[hs.length-1]'(by lia)):=Te _
 generalize hs[hs.length-1]'(by lia)=la at hla
 have la0:=ht la hla
 have hlv:(hs.map V.int)[(hs.map V.int).length-1]? = some (V.int la):=by rw[S7,S3,hla];rfl
 refine⟨_,rfl,_,rfl,_,rfl,tp,_,_,_,rfl,rfl,hp,BY hlv,tp,hs,la,rfl,hp,la0,by lia,fun p H4 s4 cv=>?_⟩
 have e1:Sv la la=1:=by
  rw[SD,Rat.div_def]
  exact TH _ (Nm.cast_ne la0)
 have mono:(hs.map fun t=>Sv t la)[(hs.map fun t=>Sv t la).length-1]? = some 1:=by
  rw[S7,S3,hla]
  show some (Sv la la)=some 1
  rw[e1]
 have good:B0 (hs.map fun t=>Sv t la):=.inr ⟨1,mono,by decide⟩
 rw[D4 good]at cv
 exact q p H4 _ ((s2.trans s3).trans s4) cv (IG.of (c:=(la:Rat)) (F:=cst hs) (Nm.cast_ne la0) hc good mono fun x=>Hu hs la la0 x)
theorem C5:Aq ["_law_script","_law_pen_here","_law_places_here","_law_heights_here","_law_width","_law_handed","_law_turn","_law_found","_law_above","_law_under","_law_left_here"] ["_law_script"] (Ae (top 64)):=⟨rfl,rfl,rfl,by decide +kernel,rfl,by decide +kernel,by decide +kernel⟩
theorem Nv{f:Addr}{fd:FuncData}(F:Fun K "law" "law" (top 64) f fd)(QI:Fd P w K mg base 33 "_law_pen" ["_law_script","_law_k"] (KQ K))(QJ:Fd P w K mg base 35 "_law_places" ["_law_pen_here","_law_many"] (En K 8))(QK:Fd P w K mg base 36 "_law_heights" ["_law_pen_here","_law_places_here"] (KU K))(Po:Fd P w K mg base 33 "_law_draw" ["_law_pen_here","_law_many"] (Eo))(QL:Fd P w K mg base 39 "quotient_through" ["places","heights","width"] (KP K 213))(PF:Fd P w K mg base 34 "_law_times" ["_law_a","_law_b"] (Cs K (· * ·)))(QM:Fd P w K mg base 36 "_law_left" ["_law_places_here","_law_heights_here","_law_above","_law_under"] (IV K))(Ql:Fd P w K mg base 35 "_law_is_curve" ["_law_thing"] (KS K))(QN:Fd P w K mg base 36 "common_part" ["one","other"] (KW K))(Pn:mg "range" = none)(PH:mg "list" = none)(Pm:mg "len" = none)(Pq:mg "isinstance" = none)(Pp:mg "tuple" = none)(hT:P.given.tree=none) :
 AO P w K mg base CX0 40 f fd ["_law_script"] (Fn K 213):=by
 refine F.ok C5 (fun vs H Q E h=>?_) (fun cdv A outer s H vs Q E hr h=>?_)
 ·obtain⟨_,_,rfl,_⟩:=h;rfl
 refine⟨_,(@Ad _ _ _ _ _ K _ (@Ai _ _ 1 _ _ _ _ C5.nd rfl (Or.inr rfl) (@Ak _ _ _ _ _ _ _ _ _ _ _ QI hr rfl (@A0 _ _ _ _ _ (pv 0) (@A0 _ _ _ _ _ Aa Ab (by rfl)) (by rfl)) (by decide) (by decide) (by rfl) (by rfl)) (by rfl) (by first   | exact .inl rfl   | exact .inr rfl   | assumption)) (@Ad _ _ _ _ _ K _ (@Ai _ _ 2 _ _ _ _ C5.nd rfl (Or.inl rfl) (@Ak _ _ _ _ _ _ _ _ _ _ _ QJ hr rfl (@A0 _ _ _ _ _ (pv 1) (@A0 _ _ _ _ _ (@Ah _ _ _ _ _ _ _ _ AR Aa (@Ak _ _ _ _ _ _ _ _ _ _ _ Po hr rfl (@A0 _ _ _ _ _ (pv 1) (@A0 _ _ _ _ _ Aa Ab (by rfl)) (by rfl)) (by decide) (by decide) (by rfl) (by rfl))) Ab (by rfl)) (by rfl)) (by decide) (by decide) (by rfl) (by rfl)) (by rfl) (by first   | exact .inl rfl   | exact .inr rfl   | assumption)) (@Ad _ _ _ _ _ K _ (@Ai _ _ 3 _ _ _ _ C5.nd rfl (Or.inl rfl) (@Ak _ _ _ _ _ _ _ _ _ _ _ QK hr rfl (@A0 _ _ _ _ _ (pv 1) (@A0 _ _ _ _ _ (pv 2) Ab (by rfl)) (by rfl)) (by decide) (by decide) (by rfl) (by rfl)) (by rfl) (by first   | exact .inl rfl   | exact .inr rfl   | assumption)) (@Ad _ _ _ _ _ K _ (@AQ _ _ _ _ _ _ _ _ K _ _ (@Ap _ _ _ _ _ _ _ _ Dl (@Ak _ _ _ _ _ _ _ _ _ _ _ Po hr rfl (@A0 _ _ _ _ _ (pv 1) (@A0 _ _ _ _ _ Aa Ab (by rfl)) (by rfl)) (by decide) (by decide) (by rfl) (by rfl)) Aa (As _)) (@Ad _ _ _ _ _ K _ (@Fy _ (["_law_k","_law_pen_here"]) 1 ([1]) _ _ _ _ _ _ _ _ _ _ 2 _ _ _ rfl C5.nd rfl rfl (Be.look (NX:=["_law_script","_law_pen_here","_law_places_here","_law_heights_here","_law_width","_law_handed","_law_turn","_law_found","_law_above","_law_under","_law_left_here"]) (sc:=Ae (top 64)) rfl rfl (by decide +kernel)) (@BE _ _ _ _ _ _ rfl Pn (@A0 _ _ _ _ _ (@Ah _ _ _ _ _ _ _ _ AR Aa (@Ak _ _ _ _ _ _ _ _ _ _ _ Po hr rfl (@A0 _ _ _ _ _ (pv 1) (@A0 _ _ _ _ _ Aa Ab (by rfl)) (by rfl)) (by decide) (by decide) (by rfl) (by rfl))) Ab (by rfl)) (by rfl)) (fun u1 u2 u3 u4 u5=>(@Ax _ _ 0 _ (show List.Nodup (["_law_k","_law_pen_here"]:List Str) from by decide +kernel) rfl (Or.inl rfl) (by first   | exact .inl rfl   | exact .inr rfl   | assumption))) (AK (by decide)) (fun u1 u2 u3 u4 u5=>Bq) (fun u1 u2 u3 u4 u5=>(@AG _ _ _ _ _ (@A0 _ _ _ _ _ (@Ah _ _ _ _ _ _ _ _ Ba (@Ah _ _ _ _ _ _ _ _ AR (@Ak _ _ _ _ _ _ _ _ _ _ _ Po hr rfl (@A0 _ _ _ _ _ (pv 1) (@A0 _ _ _ _ _ Aa Ab (by rfl)) (by rfl)) (by decide) (by decide) (by rfl) (by rfl)) (@Ah _ _ _ _ _ _ _ _ Au Aa (pv 0))) Aa) (@A0 _ _ _ _ _ Aa Ab (by rfl)) (by rfl)))) rfl (by intro _;rfl)) (@Ag _ _ _ (@Fy _ (["_law_x","_law_pen_here"]) 1 ([1]) _ _ _ _ _ _ _ _ _ _ 3 _ _ _ rfl C5.nd rfl rfl (Be.look (NX:=["_law_script","_law_pen_here","_law_places_here","_law_heights_here","_law_width","_law_handed","_law_turn","_law_found","_law_above","_law_under","_law_left_here"]) (sc:=Ae (top 64)) rfl rfl (by decide +kernel)) (@piL _ K _ _ _ (pv 2) (by rfl)) (fun u1 u2 u3 u4 u5=>(@Ax _ _ 0 _ (show List.Nodup (["_law_x","_law_pen_here"]:List Str) from by decide +kernel) rfl (Or.inl rfl) (by first   | exact .inl rfl   | exact .inr rfl   | assumption))) (AK (by decide)) (fun u1 u2 u3 u4 u5=>Bq) (fun u1 u2 u3 u4 u5=>(@AG _ _ _ _ _ (@A0 _ _ _ _ _ (@Ak _ _ _ _ _ _ _ _ _ _ _ Po hr rfl (@A0 _ _ _ _ _ (pv 1) (@A0 _ _ _ _ _ Aa Ab (by rfl)) (by rfl)) (by decide) (by decide) (by rfl) (by rfl)) (@A0 _ _ _ _ _ Aa Ab (by rfl)) (by rfl)))) rfl (by intro _;rfl))) (by rfl)) AI (by rfl) (by rfl)) (@Ad _ _ _ _ _ K _ (@AQ _ _ _ _ _ _ _ _ K _ _ (@Ap _ _ _ _ _ _ _ _ Dl (@Ak _ _ _ _ _ _ _ _ _ _ _ Po hr rfl (@A0 _ _ _ _ _ (pv 1) (@A0 _ _ _ _ _ Aa Ab (by rfl)) (by rfl)) (by decide) (by decide) (by rfl) (by rfl)) Aa (As _)) (@Ag _ _ _ (@Fy _ (["_law_y"]) 1 ([]) _ _ _ _ _ _ _ _ _ _ 3 _ _ _ rfl C5.nd rfl rfl (Be.look (NX:=["_law_script","_law_pen_here","_law_places_here","_law_heights_here","_law_width","_law_handed","_law_turn","_law_found","_law_above","_law_under","_law_left_here"]) (sc:=Ae (top 64)) rfl rfl (by decide +kernel)) (@piL _ K _ _ _ (pv 3) (by rfl)) (fun u1 u2 u3 u4 u5=>(@Ax _ _ 0 _ (show List.Nodup (["_law_y"]:List Str) from by decide +kernel) rfl (Or.inl rfl) (by first   | exact .inl rfl   | exact .inr rfl   | assumption))) (AK (by decide)) (fun u1 u2 u3 u4 u5=>Bq) (fun u1 u2 u3 u4 u5=>(@Ak _ _ _ _ _ _ _ _ _ _ _ PF hr rfl (@A0 _ _ _ _ _ (@AG _ _ _ _ _ (@A0 _ _ _ _ _ (@Ah _ _ _ _ _ _ _ _ AR (@Ah _ _ _ _ _ _ _ _ J2 Aa Aa) Aa) (@A0 _ _ _ _ _ Aa Ab (by rfl)) (by rfl))) (@A0 _ _ _ _ _ (pv 0) Ab (by rfl)) (by rfl)) (by decide) (by decide) (by rfl) (by rfl))) rfl (by intro _;rfl))) AI (by rfl) (by rfl)) (@Ad _ _ _ _ _ K _ (@Ai _ _ 4 _ _ _ _ C5.nd rfl (Or.inl rfl) (@Ah _ _ _ _ _ _ _ _ AR Aa (@Ak _ _ _ _ _ _ _ _ _ _ _ Po hr rfl (@A0 _ _ _ _ _ (pv 1) (@A0 _ _ _ _ _ (@Al _ _ _ _ _ _ _ _ _ (Bs K) rfl Pm AD (@A0 _ _ _ _ _ (pv 2) Ab (by rfl)) (by decide) (by decide) (by rfl) (by rfl)) Ab (by rfl)) (by rfl)) (by decide) (by decide) (by rfl) (by rfl))) (by rfl) (by first   | exact .inl rfl   | exact .inr rfl   | assumption)) (@Ad _ _ _ _ _ K _ (@Ai _ _ 5 _ _ _ _ C5.nd rfl (Or.inl rfl) (@Bj _ _ _ _ (@A0 _ _ _ _ _ (@Cr _ _ _ _ _ _ _ _ _ (Ls K) rfl PH Ff (@A0 _ _ _ _ _ (pv 2) Ab (by rfl)) (by decide) (by decide) (by rfl) (by rfl)) (@A0 _ _ _ _ _ (@Cr _ _ _ _ _ _ _ _ _ (Ls K) rfl PH Ff (@A0 _ _ _ _ _ (pv 3) Ab (by rfl)) (by decide) (by decide) (by rfl) (by rfl)) Ab (by rfl)) (by rfl))) (by rfl) (by first   | exact .inl rfl   | exact .inr rfl   | assumption)) (@Ad _ _ _ _ _ K _ (@BA _ _ _ _ _ _ _ _ K _ PassesOwn.never rfl (@BE _ _ _ _ _ _ rfl Pn (@A0 _ _ _ _ _ Aa Ab (by rfl)) (by rfl)) (@Ax _ _ 6 _ C5.nd rfl (Or.inl rfl) (by first   | exact .inl rfl   | exact .inr rfl   | assumption)) (@Ad _ _ _ _ _ K _ (@Ai _ _ 7 _ _ _ _ C5.nd rfl (Or.inl rfl) (@Ak _ _ _ _ _ _ _ _ _ _ _ QL hr rfl (@A0 _ _ _ _ _ (@Aj _ _ _ _ _ _ _ (ixL K) (pv 5) Aa (fun u v=>rfl)) (@A0 _ _ _ _ _ (@Aj _ _ _ _ _ _ _ (ixL K) (pv 5) Aa (fun u v=>rfl)) (@A0 _ _ _ _ _ (pv 4) Ab (by rfl)) (by rfl)) (by rfl)) (by decide) (by decide) (by rfl) (by rfl)) (by rfl) (by first   | exact .inl rfl   | exact .inr rfl   | assumption)) (@Ad _ _ _ _ _ K _ (@AQ _ _ _ _ _ _ _ _ K _ _ (@PW.pt _ _ _ (@CI _ _ _ _ _ _ _ (@Cu _ _ _ _ (@Ct _ _ _ (@Al _ _ _ _ _ _ _ _ _ (Kj K) rfl Pq BF (@A0 _ _ _ _ _ (pv 7) (@A0 _ _ _ _ _ (@DH _ _ (.ty "tuple") _ _ rfl Pp DA rfl (by decide) (by decide)) Ab (by rfl)) (by rfl)) (by decide) (by decide) (by rfl) (by rfl)) (by intro _;rfl))) (@CI _ _ _ _ _ _ _ (@Ap _ _ _ _ _ _ _ _ EO (@Al _ _ _ _ _ _ _ _ _ (Bs K) rfl Pm AD (@A0 _ _ _ _ _ (pv 7) Ab (by rfl)) (by decide) (by decide) (by rfl) (by rfl)) Aa (As _)) (@D8 _ _ _ _ (@Ap _ _ _ _ _ _ _ _ (neD K hr.units) (pv 5) (@Bj _ _ _ _ (@A0 _ _ _ _ _ (pv 2) (@A0 _ _ _ _ _ (pv 3) Ab (by rfl)) (by rfl))) (As _)))))) (@Ag _ _ _ (@Av _ _ _ _ EM)) AI (by rfl) (by rfl)) (@Ad _ _ _ _ _ K _ (@DW _ _ _ _ _ _ (pv 7) (@pgT _ K _ _ _ 3 _ rfl (C8 (@Ax _ _ 8 _ C5.nd rfl (Or.inl rfl) (by first   | exact .inl rfl   | exact .inr rfl   | assumption)) (C8 (@Ax _ _ 9 _ C5.nd rfl (Or.inl rfl) (by first   | exact .inl rfl   | exact .inr rfl   | assumption)) (C8 (@Ax _ _ 10 _ C5.nd rfl (Or.inl rfl) (by first   | exact .inl rfl   | exact .inr rfl   | assumption)) F0))) (by rfl) (by rfl) (by rfl)) (by rfl) (by rfl) (by rfl)) (@Ad _ _ _ _ _ K _ (@AQ _ _ _ _ _ _ _ _ K _ _ (@PW.pt _ _ _ (@CI _ _ _ _ _ _ _ (@Cu _ _ _ _ (@Ct _ _ _ (@Ak _ _ _ _ _ _ _ _ _ _ _ Ql hr rfl (@A0 _ _ _ _ _ (pv 8) Ab (by rfl)) (by decide) (by decide) (by rfl) (by rfl)) (by intro _;rfl))) (@CI _ _ _ _ _ _ _ (@Cu _ _ _ _ (@Ct _ _ _ (@Ak _ _ _ _ _ _ _ _ _ _ _ Ql hr rfl (@A0 _ _ _ _ _ (pv 9) Ab (by rfl)) (by decide) (by decide) (by rfl) (by rfl)) (by intro _;rfl))) (@CI _ _ _ _ _ _ _ (@Ap _ _ _ _ _ _ _ _ (eqD K hr.units) (pv 9) (@AG _ _ _ _ _ Ab) (As _)) (@D8 _ _ _ _ (@Ap _ _ _ _ _ _ _ _ (neD K hr.units) (@Aj _ _ _ _ _ _ _ (ixT K) (pv 9) (@Ci _ _ _ _ _ _ BS Aa) (fun u v=>rfl)) (@AG _ _ _ _ _ (@A0 _ _ _ _ _ Aa (@A0 _ _ _ _ _ Aa Ab (by rfl)) (by rfl))) (As _))))))) (@Ag _ _ _ (@Av _ _ _ _ EM)) AI (by rfl) (by rfl)) (@Ad _ _ _ _ _ K _ (@AQ _ _ _ _ _ _ _ _ K _ _ (@PW.pt _ _ _ (@CI _ _ _ _ _ _ _ (@Ap _ _ _ _ _ _ _ _ (neD K hr.units) (@Ak _ _ _ _ _ _ _ _ _ _ _ QN hr rfl (@A0 _ _ _ _ _ (pv 8) (@A0 _ _ _ _ _ (pv 9) Ab (by rfl)) (by rfl)) (by decide) (by decide) (by rfl) (by rfl)) (@AG _ _ _ _ _ (@A0 _ _ _ _ _ (@AG _ _ _ _ _ (@A0 _ _ _ _ _ Aa (@A0 _ _ _ _ _ Aa Ab (by rfl)) (by rfl))) Ab (by rfl))) (As _)) (@D8 _ _ _ _ (@Cu _ _ _ _ (@Ct _ _ _ (@Al _ _ _ _ _ _ _ _ _ (Kj K) rfl Pq BF (@A0 _ _ _ _ _ (pv 10) (@A0 _ _ _ _ _ (@DH _ _ (.ty "list") _ _ rfl PH Ff rfl (by decide) (by decide)) Ab (by rfl)) (by rfl)) (by decide) (by decide) (by rfl) (by rfl)) (by intro _;rfl)))))) (@Ag _ _ _ (@Av _ _ _ _ EM)) AI (by rfl) (by rfl)) (@Ad _ _ _ _ _ K _ (@AQ _ _ _ _ _ _ _ _ K _ _ (@Ap _ _ _ _ _ _ _ _ (neD K hr.units) (pv 10) (@Ak _ _ _ _ _ _ _ _ _ _ _ QM hr rfl (@A0 _ _ _ _ _ (pv 2) (@A0 _ _ _ _ _ (pv 3) (@A0 _ _ _ _ _ (pv 8) (@A0 _ _ _ _ _ (pv 9) Ab (by rfl)) (by rfl)) (by rfl)) (by rfl)) (by decide) (by decide) (by rfl) (by rfl)) (As _)) (@Ag _ _ _ (@Av _ _ _ _ EM)) AI (by rfl) (by rfl)) (@Ad _ _ _ _ _ K _ (@AQ _ _ _ _ _ _ _ _ K _ _ (@PW.pt _ _ _ (@CI _ _ _ _ _ _ _ (@PW.pt _ _ _ (@DV _ _ _ _ _ _ _ (@Ap _ _ _ _ _ _ _ _ (neD K hr.units) (pv 8) (@AG _ _ _ _ _ Ab) (As _)) (@D9 _ _ _ _ (@Ap _ _ _ _ _ _ _ _ CU (@Ah _ _ _ _ _ _ _ _ AR (@Al _ _ _ _ _ _ _ _ _ (Bs K) rfl Pm AD (@A0 _ _ _ _ _ (pv 8) Ab (by rfl)) (by decide) (by decide) (by rfl) (by rfl)) (@Al _ _ _ _ _ _ _ _ _ (Bs K) rfl Pm AD (@A0 _ _ _ _ _ (pv 10) Ab (by rfl)) (by decide) (by decide) (by rfl) (by rfl))) (pv 4) (As _))))) (@D8 _ _ _ _ (@Ap _ _ _ _ _ _ _ _ CU (@Ah _ _ _ _ _ _ _ _ AR (@Al _ _ _ _ _ _ _ _ _ (Bs K) rfl Pm AD (@A0 _ _ _ _ _ (pv 9) Ab (by rfl)) (by decide) (by decide) (by rfl) (by rfl)) (@Al _ _ _ _ _ _ _ _ _ (Bs K) rfl Pm AD (@A0 _ _ _ _ _ (pv 10) Ab (by rfl)) (by decide) (by decide) (by rfl) (by rfl))) (@Ah _ _ _ _ _ _ _ _ AR (@Ah _ _ _ _ _ _ _ _ Ba (@Al _ _ _ _ _ _ _ _ _ (Bs K) rfl Pm AD (@A0 _ _ _ _ _ (pv 2) Ab (by rfl)) (by decide) (by decide) (by rfl) (by rfl)) (pv 4)) Aa) (As _))))) (@Ag _ _ _ (@Av _ _ _ _ EM)) AI (by rfl) (by rfl)) (@Ag _ _ _ (@Dc _ _ _ _ (@GZ _ _ _ _ _ _ _ _ _ _ _ _ K PySem.F.plainAttrs_list PySem.F.slot_list_append PySem.F.type_list_append EE (pv 10) (@A0 _ _ _ _ _ (@AG _ _ _ _ _ (@A0 _ _ _ _ _ Aa (@A0 _ _ _ _ _ Aa Ab (by rfl)) (by rfl))) Ab (by rfl)) (by rfl) (by rfl) (by rfl) (by rfl) (by rfl) (by rfl)) (by rfl))) (by rfl)) (by rfl)) (by rfl)) (by rfl)) (by rfl)) (by rfl)) (by rfl)) (by rfl) (by intro _;rfl)) (@Ag _ _ _ (@Av _ _ _ _ EM)) (by rfl)) (by rfl)) (by rfl)) (by rfl)) (by rfl)) (by rfl)) (by rfl)) (by rfl)),?_⟩
 obtain⟨a0,ns,rfl,hS,h63,hTb,q⟩:=h
 have P0:0<=sizeLine:=by decide
 have P1:1<=sizeLine:=by decide
 have P2:2<=sizeLine:=by decide
 refine⟨_,rfl,a0,ns,0,rfl,hS,h63,by decide,by decide,fun p c0 c1 hp=>?_⟩
 have pn:Pen (upd H p (.lst [.int c0,.int c1,.int 0])) p:=.put
 have tb:(upd H p (.lst [.int c0,.int c1,.int 0])) 213=some (.tbl #[]):=(Af.new hp) _ _ hTb
 generalize upd H p (.lst [.int c0,.int c1,.int 0])=H1 at pn tb ⊢
 clear hS hp hTb
 refine⟨_,rfl,_,rfl,p,7,rfl,pn,by decide,by decide,fun d H2 d0 d1 o2 p2=>⟨_,_,rfl,rfl,p,_,rfl,p2,by lia,by lia,fun l H3 zs qs m3 p3 hl el hz hql hnd hb=>?_⟩⟩
 have lp:l≠p:=p2.ne' hl
 have tb:=EK tb pn ((BW.mv o2).trans m3)
 refine⟨_,rfl,_,rfl,p,l,zs,qs,rfl,p3,lp,el,hz,hb,by lia,by lia,fun lh H4 ys hs m4 p4 hlh elh hys hhl hyb=>?_⟩
 have lhp:lh≠p:=p3.ne' hlh
 have tb:=EK tb p3 m4
 have el:=m4 _ _ lp el
 have hz:=AV.mv hz p3 m4
 clear m3 m4 hl hlh p2 p3 o2 pn
 try dsimp only
 refine Er (L3 a0 p K fun a0 p K σ' G=>∃(l lh:Addr) (zs ys:List V) (qs hs:List Rat) (nx ny:Nat),σ'=[some (.ref a0),some (.ref p),some (.ref l),some (.ref lh),none,none,none,none,none,none,none]/\Pen G p/\l≠p/\lh≠p/\G l=some (.lst zs)/\AV G zs qs/\G lh=some (.lst ys)/\Ar K G ys hs/\hs.length=qs.length/\qs.Nodup/\(∀c∈qs,RB nx c)/\(∀c∈hs,RB ny c)/\1<=qs.length/\((nx=16/\ny=400/\qs.length<=7)\/(nx=6/\ny=2/\qs.length<=12))/\G 213=some (.tbl #[])) (fun nx hnx=>?_) ?_
 ·refine⟨_,rfl,p,4,rfl,p4,by decide,by decide,fun e H5 e0 e1 o5 p5=>?_⟩
  have m5:=BW.mv o5
  have tb5:=EK tb p4 m5
  refine⟨rfl,_,rfl,?_⟩
  by_cases he:e=0
  ·refine AU (decide_eq_true (by rw[he])) ?_
   refine C3 ⟨_,rfl,p,5,rfl,p5,by decide,by decide,fun d5 H6 f0 f1 o6 p6=>?_⟩
   obtain⟨N,rfl⟩:∃N:Nat,d5=(N:Int):=⟨d5.toNat,by lia⟩
   have m6:=BW.mv o6
   have tb6:=EK tb5 p5 m6
   refine⟨_,_,rfl,rfl,_,rfl,by lia,by lia,?_⟩
   rw[show(8+(N:Int)).toNat=8+N by lia]
   refine Jb (n:=8+N) (L2 p H6 fun p H6 i ys G=>Mv p H6 G/\Pen G p/\ys.length=i/\∃rs,AV G ys rs/\rs.Nodup/\∀c∈rs,∃z:Int,c=(z:Rat) /\ -18<=z/\z<3*(i:Int)-18) ⟨Mv.refl _ _,p6,rfl,[],.nil,List.nodup_nil,(fun _ h=>nomatch h)⟩ (fun i ys G _ h=>h.2.2.1) (Rx (AF (by lia))) ?_ ?_
   ·rintro i ys G hi hR1
    obtain⟨mg,pg,hyl,rs,hrs,hrn,hrz⟩:=hR1
    try clear hR1
    refine⟨_,rfl,p,3,rfl,pg,by decide,by decide,fun v G1 v0 v1 og pg1=>⟨_,rfl,_,_,rfl,rfl,.inl ⟨by decide,by decide⟩,_,_,rfl,rfl,_,_,rfl,rfl,P2,fun t ht=>?_⟩⟩
    have nt:=Af.new (o:=.tup [.int (v+3*(0+(i:Int))-18),.int 1]) ht
    refine⟨(mg.trans (BW.mv og)).trans nt.mv,pg1.sm nt,by simp[hyl],rs++[((v+3*(0+(i:Int))-18:Int):Rat)],Paired.snoc (AV.same (AV.mv hrs pg (BW.mv og)) nt) ⟨t,rfl,by rw[Hm];exact Ac⟩,?_,fun c hc=>?_⟩
    ·rw[List.nodup_append]
     refine⟨hrn,List.pairwise_singleton ..,fun c hc d hd e=>?_⟩
     refine Gj (hrz c hc) fun z hz136'=>?_
     refine Dp hz136' fun hq135 z1 z2=>?_
     clear hz136'
     obtain rfl:=hq135
     rw[Td.mp hd]at e
     have:=ME e
     lia
    ·rcases RD.mp hc with z | z
     ·refine Gj (hrz c z) fun w hz138'=>?_
      refine Dp hz138' fun hq137 w1 w2=>?_
      clear hz138'
      obtain rfl:=hq137
      exact⟨w,rfl,w1,by lia⟩
     ·rw[Td.mp z]
      exact⟨_,rfl,by lia,by lia⟩
   rintro ys2 G hR2 l2 hl2
   obtain⟨mg,pg,hyl,rs,hrs,hrn,hrz⟩:=hR2
   try clear hR2
   have n2:=Af.new (o:=.lst ys2) hl2
   have l2p:=pg.ne' hl2
   have hrl:=hrs.length
   have tb7:=n2 _ _ (EK tb6 p6 mg)
   have hrs:=AV.same hrs n2
   have pg:=pg.sm n2
   have el2:=Ac (H:=G) (a:=l2) (o:=.lst ys2)
   generalize upd G l2 (.lst ys2)=G7 at tb7 hrs pg el2 ⊢
   refine C3 ⟨_,rfl,l2,rfl,⟨_,SqL.of el2⟩,?_⟩
   refine Dh (xs:=ys2) (L3 p G7 K fun p G7 K i vs W=>Mv p G7 W/\Pen W p/\vs.length=i/\∃hs,Ar K W vs hs/\∀c∈hs,RB 2 c) ⟨Mv.refl _ _,pg,rfl,[],.nil,(fun _ h=>nomatch h)⟩ (fun i vs W _ h=>⟨SqL.of (h.1 _ _ l2p el2),h.2.2.1⟩) (Rx (AF (by lia))) ?_ ?_
   ·rintro i v vs W hv hR3
    obtain⟨mw,pw,hvl,hs,hvs,hvb⟩:=hR3
    try clear hR3
    refine⟨_,rfl,p,3,rfl,pw,by decide,by decide,fun d G1 d0 d1 o2 p2=>⟨P2,fun t ht=>?_⟩⟩
    have m2:=BW.mv o2
    have nt:=Af.new (o:=.tup [.int d,.int 1]) ht
    refine⟨(mw.trans m2).trans nt.mv,p2.sm nt,by simp[hvl],hs++[((d:Int):Rat)],Paired.snoc (Ar.same (Ar.mv hvs pw m2) nt) (Az.of (by rw[Hm];exact Ac)),fun c hc=>?_⟩
    rcases RD.mp hc with z | z
    ·exact hvb c z
    ·rw[Td.mp z];exact⟨by rw[UR];unfold Bd;lia,by rw[US];unfold Bd;decide⟩
   rintro vs W hR4 l3 hl3
   obtain⟨mw,pw,hvl,hs2,hvs,hvb⟩:=hR4
   try clear hR4
   have n3:=Af.new (o:=.lst vs) hl3
   have hsl:=hvs.length
   refine hnx _ _ ⟨l2,l3,ys2,vs,rs,hs2,6,2,rfl,pw.sm n3,l2p,pw.ne' hl3,n3 _ _ (mw _ _ l2p el2),AV.same (AV.mv hrs pg mw) n3,Ac,Ar.same hvs n3,by lia,hrn,fun c hc=>?_,hvb,by lia,.inr ⟨rfl,rfl,by lia⟩,n3 _ _ (EK tb7 pg mw)⟩
   refine Gj (hrz c hc) fun z hz143'=>?_
   refine Dp hz143' fun hq142 z1 z2=>?_
   clear hz143'
   obtain rfl:=hq142
   exact⟨by rw[UR];unfold Bd;lia,by rw[US];unfold Bd;decide⟩
  ·refine AH (decide_eq_false fun z=>he (V.int.inj z)) ?_
   exact hnx _ _ ⟨l,lh,zs,ys,qs,hs,16,400,rfl,p5,lp,lhp,m5 _ _ lp el,AV.mv hz p4 m5,m5 _ _ lhp elh,Ar.mv hys p4 m5,hhl,hnd,hb,hyb,by lia,.inl ⟨rfl,rfl,by lia⟩,tb5⟩
 clear el hz hql hnd hb lp tb elh hys hhl hyb lhp p4
 rintro σ' G0 hR5
 refine OJ hR5 fun l lh zs ys qs hs nx ny hz145'=>?_
 refine ON hz145' fun hq144 pG lp lhp el hz elh hys hhl hnd hb hyb hq1 hcase tb=>?_
 clear hz145'
 obtain rfl:=hq144
 try clear hR5
 have hq12:qs.length<=12:=by lia
 have hny:ny<=400:=by lia
 refine HQ (s:=K0 _ _ _) (L7 a0 p l zs qs K ny fun a0 p l zs qs K ny σ' G=>∃(lh:Addr) (ys:List V) (hs:List Rat),σ'=[some (.ref a0),some (.ref p),some (.ref l),some (.ref lh),none,none,none,none,none,none,none]/\Pen G p/\lh≠p/\G l=some (.lst zs)/\AV G zs qs/\G lh=some (.lst ys)/\Ar K G ys hs/\hs.length=qs.length/\(∀c∈hs,RB (134+ny) c)/\G 213=some (.tbl #[])) (fun nx hnx=>?_) ?_
 ·refine⟨_,rfl,p,5,rfl,pG,by decide,by decide,fun e H5 e0 e1 o5 p5=>?_⟩
  have m5:=BW.mv o5
  have tb5:=EK tb pG m5
  have el5:=m5 _ _ lp el
  have elh5:=m5 _ _ lhp elh
  have hz5:=AV.mv hz pG m5
  have hys5:=Ar.mv hys pG m5
  have hyl:=hys.length
  refine⟨rfl,_,rfl,?_⟩
  by_cases he:e=0
  ·refine AU (decide_eq_true (by rw[he])) ?_
   refine C3 ⟨_,rfl,lh,rfl,⟨_,SqL.of elh5⟩,?_⟩
   refine Dh (xs:=ys) (L3 H5 K ny fun H5 K ny i vs W=>Af H5 W/\vs.length=i/\∃ws,Ar K W vs ws/\∀c∈ws,RB (134+ny) c) ⟨Af.refl _,rfl,[],.nil,(fun _ h=>nomatch h)⟩ (fun i vs W _ h=>⟨SqL.of (h.1 _ _ elh5),h.2.1⟩) (Rx (AF (by lia))) ?_ ?_
   ·rintro i v vs W hv hR6
    refine Dp hR6 fun sw hvl hz146=>?_
    refine Gj hz146 fun ws hz146'=>?_
    clear hz146
    refine BO hz146' fun hvs hvb=>?_
    clear hz146'
    try clear hR6
    obtain⟨y,hy,hvn⟩:=(Paired.get hys5 hv)
    refine⟨_,_,rfl,rfl,⟨by decide,by decide,by decide⟩,_,_,rfl,rfl,P2,fun t ht=>?_⟩
    have nt:=Af.new (o:=.tup [.int ((10:Int) ^ 40+1),.int 1]) ht
    refine⟨_,rfl,_,_,(((10:Int) ^ 40+1:Int):Rat),y,134,ny,rfl,Az.of (by rw[Hm];exact Ac),hvn.same (sw.trans nt),KG,hyb y (S5 hy),by lia,fun r hr=>?_⟩
    have nr:=Af.new (o:=nT ((((10:Int) ^ 40+1:Int):Rat)*y)) hr
    refine⟨(sw.trans nt).trans nr,by simp[hvl],ws++[(((10:Int) ^ 40+1:Int):Rat)*y],Paired.snoc (Ar.same hvs (nt.trans nr)) (Az.of Ac),fun c hc=>?_⟩
    rcases RD.mp hc with z | z
    ·exact hvb c z
    ·rw[Td.mp z];exact RB.times KG (hyb y (S5 hy))
   rintro vs W hR7 l3 hl3
   refine Dp hR7 fun sw hvl hz147=>?_
   refine Gj hz147 fun ws hz147'=>?_
   clear hz147
   refine BO hz147' fun hvs hvb=>?_
   clear hz147'
   try clear hR7
   have n3:=Af.new (o:=.lst vs) hl3
   have hsl:=hvs.length
   have s3:=sw.trans n3
   exact hnx _ _ ⟨l3,vs,ws,rfl,p5.sm s3,(p5.sm sw).ne' hl3,s3 _ _ el5,AV.same hz5 s3,Ac,Ar.same hvs n3,by lia,hvb,s3 _ _ tb5⟩
  ·refine AH (decide_eq_false fun z=>he (V.int.inj z)) ?_
   exact hnx _ _ ⟨lh,ys,hs,rfl,p5,lhp,el5,hz5,elh5,hys5,hhl,fun c hc=>(hyb c hc).mono (by lia),tb5⟩
 clear el hz elh hys hhl hyb tb lhp pG
 rintro σ' G1 hR8
 refine Eh hR8 fun lh ys hs hz149'=>?_
 refine JU hz149' fun hq148 pG lhp el hz elh hys hhl hyb tb=>?_
 clear hz149'
 obtain rfl:=hq148
 try clear hR8
 have hzl:=hz.length
 have hyl:=hys.length
 refine⟨_,rfl,_,rfl,l,zs,rfl,.inl (SqL.of el),p,_,rfl,pG,by lia,by lia,fun d G2 d0 d1 o1 p1=>⟨_,_,rfl,rfl,?_⟩⟩
 obtain⟨W,hW⟩:∃W:Nat,1+d=(W:Int):=⟨(1+d).toNat,by lia⟩
 rw[hW]
 have hW1:1<=W:=by lia
 have hWn:W<=qs.length:=by lia
 have m1:=BW.mv o1
 have tb:=EK tb pG m1
 have el:=m1 _ _ lp el
 have elh:=m1 _ _ lhp elh
 have hz:=AV.mv hz pG m1
 have hys:=Ar.mv hys pG m1
 refine⟨_,rfl,l,zs,rfl,.inl (SqL.of el),fun l1 h1=>?_⟩
 have n1:=Af.new (o:=.lst zs) h1
 have e1:=Ac (H:=G2) (a:=l1) (o:=.lst zs)
 have tb:=n1 _ _ tb
 have el:=n1 _ _ el
 have elh:=n1 _ _ elh
 have hz:=AV.same hz n1
 have hys:=Ar.same hys n1
 generalize upd G2 l1 (.lst zs)=G3 at e1 tb el elh hz hys ⊢
 refine⟨_,rfl,lh,ys,rfl,.inl (SqL.of elh),fun l2 h2=>⟨P2,fun l3 h3=>?_⟩⟩
 have n2:=(Af.new (o:=.lst ys) h2).trans (Af.new (o:=.lst [.ref l1,.ref l2]) h3)
 have e2:=(Af.new (o:=.lst [.ref l1,.ref l2]) h3) _ _ (Ac (H:=G3) (a:=l2) (o:=.lst ys))
 have e3:=Ac (H:=upd G3 l2 (.lst ys)) (a:=l3) (o:=.lst [.ref l1,.ref l2])
 have e1:=n2 _ _ e1
 have el:=n2 _ _ el
 have elh:=n2 _ _ elh
 have hz:=AV.same hz n2
 have hys:=Ar.same hys n2
 have ct0:D0 213 Gu (upd (upd G3 l2 (.lst ys)) l3 (.lst [.ref l1,.ref l2])):=NW (n2 _ _ tb)
 generalize upd (upd G3 l2 (.lst ys)) l3 (.lst [.ref l1,.ref l2])=H9 at e1 e2 e3 el elh hz hys ct0 ⊢
 clear n1 n2 h1 h2 h3 tb m1 o1 p1 pG lp lhp hW d0 d1
 have hlow:∃C,(nx+1)*(qs.length+3)+(134+ny)+2<=C/\(gAS C qs.length).2+3*C<=700000/\22*((gAS C qs.length).2+156*(nx+1)+25+5)+1<=7000000:=by
  rcases hcase with ⟨z,z',w⟩ | ⟨z,z',w⟩
  ·have g:=Dz 706 w
   have g7:(gAS 706 7).2<=100000:=by decide
   exact⟨706,by subst z z';lia,by lia,by lia⟩
  ·have g:=Dz 243 w
   have g7:(gAS 243 12).2<=250000:=by decide
   exact⟨243,by subst z z';lia,by lia,by lia⟩
 refine Gj hlow fun C hz150'=>?_
 refine Dp hz150' fun hC1 hC2 hC3=>?_
 clear hz150'
 refine⟨2,rfl,by decide,by decide,Ce (n:=2) (L7 H9 a0 p l lh W l3 fun H9 a0 p l lh W l3 _ σ G=>C4 213 H9 G/\D0 213 Gu G/\∃z6 z7 z8 z9 z10,σ=[some (.ref a0),some (.ref p),some (.ref l),some (.ref lh),some (.int (W:Int)),some (.ref l3),z6,z7,z8,z9,z10]) ⟨C4.refl,ct0,none,none,none,none,none,rfl⟩ ?_ ?_⟩
 case refine_2=>exact fun σ G _=>q G
 rintro i σ G hi hR9
 refine Dp hR9 fun mB ct1 hz152=>?_
 refine Ko hz152 fun z6 z7 z8 z9 z10 hq151=>?_
 clear hz152
 obtain rfl:=hq151
 try clear hR9
 have hzG:=Gx hz ct0 mB
 have hysG:Ar K G ys hs:=Paired.mapP hys fun _ _ z=>z.but ct0 mB
 refine⟨_,rfl,l3,_,_,_,rfl,rfl,BX (SqL.of e3) ct0 mB,C9 (j:=0) rfl,_,rfl,l3,_,_,_,rfl,rfl,BX (SqL.of e3) ct0 mB,C9 (j:=1) rfl,_,rfl,l1,l2,zs,ys,qs,hs,W,qs.length,nx,134+ny,C,rfl,BX (SqL.of e1) ct0 mB,hzG,BX (SqL.of e2) ct0 mB,hysG,rfl,hhl,hq1,hq12,hnd,hW1,hWn,hb,hyb,by lia,by lia,by lia,hC1,hC2,ct1,fun t a b l' G2 r1 r2 N D N2 D2 n' d' fs ls c m2 ct2 hT cn cd gn gd hlast hc0 I hDne evN evD hnl hdl el' hls hperm hpw bn bd hfree hov=>?_⟩
 obtain⟨L,ov1,ov2⟩:=hov
 have hd0:d'≠[]:=fun z=>by rw[z]at hlast;cases hlast
 have hfst:(qs.zip hs).map Prod.fst=qs:=UX (by lia)
 have hzln:(qs.zip hs).length=qs.length:=by rw[UI];lia
 have QQ:QR W qs.length qs hs n' d':=⟨gn,gd,hlast,hnl,hdl,r1,r2,N,D,N2,D2,c,I,hDne,hc0,evN,evD⟩
 obtain⟨room1,room2⟩:=(Ld rfl hhl hWn I hc0 gn gd hd0 evN evD)
 have hpart:∀cs,IG n' d' cs->cs=[1]:=fun cs hp=>I.part (by lia) (by rw[hfst];exact hnd) hzln evN evD (fun x hx=>by rw[hfst]at hx;exact QQ.apart rfl hhl hnd hx) hp
 have hpl:=hperm.length_eq
 rw[<- hpl]at room1 room2
 clear I evN evD hDne QQ hfst hzln
 have mB2:=mB.trans m2
 have g1:=BX (SqL.of (K:=K) e1) ct0 mB2
 have g2:=BX (SqL.of (K:=K) e2) ct0 mB2
 have g3:=BX (SqL.of (K:=K) e3) ct0 mB2
 have gl:=BX (SqL.of (K:=K) el) ct0 mB2
 have gh:=BX (SqL.of (K:=K) elh) ct0 mB2
 have hz2:=(Gx hz ct0 mB2).nums (K:=K)
 have hy2:Ar K G2 ys hs:=Paired.mapP hys fun _ _ z=>z.but ct0 mB2
 have hlsl:=hls.length
 refine⟨_,rfl,_,_,_,_,rfl,.tup hT,Jc K,true,rfl,CF ?_⟩
 refine⟨_,rfl,t,_,rfl,.inr hT,rfl,_,rfl,CF ?_⟩
 refine⟨_,rfl,_,rfl,_,rfl,P2,fun l4 h4=>?_⟩
 have n4:=Af.new (o:=.lst [.ref l,.ref lh]) h4
 have e4:=Ac (H:=G2) (a:=l4) (o:=.lst [.ref l,.ref lh])
 have ct3:=ct2.same n4
 have mB3:=mB2.trans n4.b
 have g1:=Af.seq n4 g1
 have g2:=Af.seq n4 g2
 have g3:=Af.seq n4 g3
 have gl:=Af.seq n4 gl
 have gh:=Af.seq n4 gh
 have hz3:=Ar.same hz2 n4
 have hy3:=Ar.same hy2 n4
 have hT:=hT.same n4
 have cn:=cn.same n4
 have cd:=cd.same n4
 have el':=n4 _ _ el'
 have hls:=Ar.same hls n4
 generalize upd G2 l4 (.lst [.ref l,.ref lh])=G3 at e4 ct3 mB3 g1 g2 g3 gl gh hz3 hy3 hT cn cd el' hls ⊢
 refine Pd (ps:=[qs,hs]) (qs:=[qs,hs]) g3 (.cons ⟨l1,zs,rfl,g1,hz3⟩ (.cons ⟨l2,ys,rfl,g2,hy3⟩ .nil)) (SqL.of e4) (.cons ⟨l,zs,rfl,gl,hz3⟩ (.cons ⟨lh,ys,rfl,gh,hy3⟩ .nil)) ?_
 refine⟨_,rfl,AH (by rw[decide_eq_true rfl];rfl) ?_⟩
 clear e4 n4 h4 hz2 hy2 mB2 ct2 m2
 refine⟨_,rfl,t,_,rfl,hT,rfl,_,_,rfl,_,_,rfl,_,_,rfl,rfl,?_⟩
 refine⟨_,rfl,a,n',rfl,cn,by lia,gn,fun G4 s4=>⟨_,rfl,CF ?_⟩⟩
 refine⟨_,rfl,b,d',rfl,cd.same s4,by lia,gd,fun G5 s5=>⟨_,rfl,CF ?_⟩⟩
 have s45:=s4.trans s5
 refine⟨_,rfl,P0,fun t2 h2=>?_⟩
 have n2:=s45.trans (Af.new (o:=.tup []) h2)
 refine eqT (cd.same n2) ⟨[],SqT.of Ac,.nil⟩ ?_
 refine⟨_,rfl,AH (decide_eq_false hd0) ?_⟩
 obtain⟨vd,hvd,hvn⟩:=(id (cd.same n2))
 obtain⟨v1,hv1,hn1⟩:=(Paired.get' hvn hlast)
 have hvl:=hvn.length
 rw[<- hvl]at hv1
 refine⟨_,rfl,_,rfl,b,vd,_,_,rfl,rfl,hvd,BY hv1,P2,fun t3 h3=>?_⟩
 have n3:=Af.new (o:=.tup [.int 1,.int 1]) h3
 refine eqN (Az.same hn1 n3) (Az.of (Ac (o:=nT 1))) ?_
 refine⟨_,rfl,AH (by decide) ?_⟩
 have s6:=n2.trans n3
 generalize upd (upd G5 t2 (.tup [])) t3 (.tup [.int 1,.int 1])=G6 at s6 ⊢
 clear n2 n3 hvd hvn hv1 hn1 hvl h2 h3 s4 s5 s45
 refine⟨_,rfl,_,rfl,a,b,n',d',3000000,_,L,L,rfl,cn.same s6,cd.same s6,gn,gd,.inr hd0,bn,bd,by decide,by lia,by lia,ov1,ov2,hC3,fun pc G7 cs s7 cc hcs=>?_⟩
 cases hpart cs hcs
 refine⟨P2,fun t1 h1=>⟨P1,fun t2 h2=>?_⟩⟩
 have n1:=Af.new (o:=.tup [.int 1,.int 1]) h1
 have n2:=Af.new (o:=.tup [.ref t1]) h2
 refine eqT ((cc.same n1).same n2) ⟨[.ref t1],SqT.of Ac,.cons (Az.of (show _=some (nT 1) from n2 _ _ Ac)) .nil⟩ ?_
 refine⟨_,rfl,AH (by rw[decide_eq_true rfl];rfl) ?_⟩
 have s8:=(s6.trans s7).trans (n1.trans n2)
 generalize upd (upd G7 t1 (.tup [.int 1,.int 1])) t2 (.tup [.ref t1])=G8 at s8 ⊢
 clear n1 n2 h1 h2 cc s7 s6
 refine⟨_,rfl,_,_,_,_,rfl,.lst (SqL.of (s8 _ _ el')),ND K,true,rfl,CF ?_⟩
 refine⟨_,rfl,_,rfl,_,rfl,_,rfl,_,rfl,l,lh,a,b,zs,ys,qs,hs,n',d',3000000,nx,134+ny,rfl,Af.seq s8 gl,Ar.same hz3 s8,Af.seq s8 gh,Ar.same hy3 s8,cn.same s8,cd.same s8,hhl,hq12,by lia,by lia,hb,hyb,bn,bd,by decide,by lia,by lia,fun pl us rs2 G9 s9 _ epl hus hperm2 hpw2=>?_⟩
 have s10:=s8.trans s9
 cases Mh hpw2 hpw (hperm2.trans hperm.symm)
 refine eqL (SqL.of (s10 _ _ el')) (Ar.same hls s10) (SqL.of epl) hus ?_
 refine⟨_,rfl,AH (by rw[decide_eq_true rfl];rfl) ?_⟩
 obtain⟨vn,hvn,hnn⟩:=(id (cn.same s10))
 obtain⟨vd,hvd,hdd⟩:=(id (cd.same s10))
 have lvn:=hnn.length
 have lvd:=hdd.length
 refine⟨_,rfl,P0,fun t5 h5=>?_⟩
 have n5:=Af.new (o:=.tup []) h5
 refine eqT ((cn.same s10).same n5) ⟨[],SqT.of Ac,.nil⟩ ?_
 refine⟨_,rfl,?_⟩
 by_cases hn0:n'=[]
 ·refine AH (by rw[decide_eq_true hn0];rfl) ?_
  refine⟨_,rfl,b,vd,rfl,.inr (hvd.same n5),_,rfl,l',ls,rfl,.inl (SqL.of (n5 _ _ (s10 _ _ el'))),_,_,rfl,rfl,_,rfl,l,zs,rfl,.inl (Af.seq n5 (Af.seq s10 gl)),_,rfl,_,_,rfl,rfl,_,_,rfl,rfl,_,_,rfl,rfl,_,rfl,AH (decide_eq_false (by lia)) ?_⟩
  have s11:=s10.trans n5
  have el11:=s11 _ _ el'
  refine⟨_,rfl,.inl ⟨rfl,_,SqL.of el11⟩,P2,fun t6 h6=>?_⟩
  have n6:=s11.trans (Af.new (o:=.tup [.int 0,.int 1]) h6)
  have el12:=n6 _ _ el'
  refine⟨l',ls,.ref t6,rfl,rfl,el12,Ro (show ls.length<300 by lia) (by decide),?_⟩
  refine⟨fun x u hx e=>?_,LU (ct3.same n6) el12,_,_,_,_,_,rfl⟩
  have hxl:x≠l':=fun z=>by
   have:=mB x u hx e
   rw[z,hfree]at this
   cases this
  rw[Aw hxl]
  exact(mB3.trans n6.b) x u hx e
 ·have hr1:=room1 hn0
  refine AU (by rw[decide_eq_false hn0];rfl) ?_
  refine⟨_,rfl,a,vn,rfl,.inr (hvn.same n5),_,rfl,l',ls,rfl,.inl (SqL.of (n5 _ _ (s10 _ _ el'))),_,_,rfl,rfl,_,rfl,_,_,rfl,rfl,_,rfl,AH (decide_eq_false (by lia)) ?_⟩
  refine⟨_,rfl,b,vd,rfl,.inr (hvd.same n5),_,rfl,l',ls,rfl,.inl (SqL.of (n5 _ _ (s10 _ _ el'))),_,_,rfl,rfl,_,rfl,l,zs,rfl,.inl (Af.seq n5 (Af.seq s10 gl)),_,rfl,_,_,rfl,rfl,_,_,rfl,rfl,_,_,rfl,rfl,_,rfl,AH (decide_eq_false (by lia)) ?_⟩
  have s11:=s10.trans n5
  have el11:=s11 _ _ el'
  refine⟨_,rfl,.inl ⟨rfl,_,SqL.of el11⟩,P2,fun t6 h6=>?_⟩
  have n6:=s11.trans (Af.new (o:=.tup [.int 0,.int 1]) h6)
  have el12:=n6 _ _ el'
  refine⟨l',ls,.ref t6,rfl,rfl,el12,Ro (show ls.length<300 by lia) (by decide),?_⟩
  refine⟨fun x u hx e=>?_,LU (ct3.same n6) el12,_,_,_,_,_,rfl⟩
  have hxl:x≠l':=fun z=>by
   have:=mB x u hx e
   rw[z,hfree]at this
   cases this
  rw[Aw hxl]
  exact(mB3.trans n6.b) x u hx e
end
theorem fdm{P:Program}(w:World){K:Rv}{mg:Str->Option Value}(base:Heap){n:Nat}{x:Str}{ps:List Str}{sp:Sp}{f:Addr}{fd:FuncData}(a:AO P w K mg base CX0 n f fd ps sp)(b:Cc K fd ps [])(c:RP K (.ref f)=true)(d:mg x=some (.ref f)):Fd P w K mg base n x ps sp:=⟨_,_,a,b,c,d⟩
theorem O3{l:Um}{w:World}{K:Rv}{h:Heap}{mg:Str->Option Value}{fa f1 f2 f3 f4 f5 f6 f7 f8 f9 f10 f11 f12 f13 f14 f15 f16 f17 f18 f19 f20 f21 f22 f23 f24 f25 f26 f27 f28 f29 f30 f31 f32 f33 f34 f35 f36 f37 f38 f39 f40 f41 f42 f43 f44 f45 f46 f47 f48:Addr}(hT:l.prog.given.tree=none)(X:K.In h)(G:h.Ns mainGlobals mg)(hfa:mg "law" = some (.ref fa))
 {od1 an1 od2 an2 od3 an3 od4 an4 od5 an5 od6 an6 od7 an7 od8 an8 od9 an9 od10 an10 od11 an11 od12 an12 od13 an13 od14 an14 od15 an15 od16 an16 od17 an17 od18 an18 od19 an19 od20 an20 od21 an21 od22 an22 od23 an23 od24 an24 od25 an25 od26 an26 od27 an27 od28 an28 od29 an29 od30 an30 od31 an31 od32 an32 od33 an33 od34 an34 od35 an35 od36 an36 od37 an37 od38 an38 od39 an39 od40 an40 od41 an41 od42 an42 od43 an43 od44 an44 od45 an45 od46 an46 od47 an47 od48 an48:Option Addr} {sl1 sl2 sl3 sl4 sl5 sl6 sl7 sl8 sl9 sl10 sl11 sl12 sl13 sl14 sl15 sl16 sl17 sl18 sl19 sl20 sl21 sl22 sl23 sl24 sl25 sl26 sl27 sl28 sl29 sl30 sl31 sl32 sl33 sl34 sl35 sl36 sl37 sl38 sl39 sl40 sl41 sl42 sl43 sl44 sl45 sl46 sl47 sl48:Array (Option Value)} {oc1 kV1 dc1 pm1 cd1 ct1 oc2 kV2 dc2 pm2 cd2 ct2 oc3 kV3 dc3 pm3 cd3 ct3 oc4 kV4 dc4 pm4 cd4 ct4 oc5 kV5 dc5 pm5 cd5 ct5 oc6 kV6 dc6 pm6 cd6 ct6 oc7 kV7 dc7 pm7 cd7 ct7 oc8 kV8 dc8 pm8 cd8 ct8 oc9 kV9 dc9 pm9 cd9 ct9 oc10 kV10 dc10 pm10 cd10 ct10 oc11 kV11 dc11 pm11 cd11 ct11 oc12 kV12 dc12 pm12 cd12 ct12 oc13 kV13 dc13 pm13 cd13 ct13 oc14 kV14 dc14 pm14 cd14 ct14 oc15 kV15 dc15 pm15 cd15 ct15 oc16 kV16 dc16 pm16 cd16 ct16 oc17 kV17 dc17 pm17 cd17 ct17 oc18 kV18 dc18 pm18 cd18 ct18 oc19 kV19 dc19 pm19 cd19 ct19 oc20 kV20 dc20 pm20 cd20 ct20 oc21 kV21 dc21 pm21 cd21 ct21 oc22 kV22 dc22 pm22 cd22 ct22 oc23 kV23 dc23 pm23 cd23 ct23 oc24 kV24 dc24 pm24 cd24 ct24 oc25 kV25 dc25 pm25 cd25 ct25 oc26 kV26 dc26 pm26 cd26 ct26 oc27 kV27 dc27 pm27 cd27 ct27 oc28 kV28 dc28 pm28 cd28 ct28 oc29 kV29 dc29 pm29 cd29 ct29 oc30 kV30 dc30 pm30 cd30 ct30 oc31 kV31 dc31 pm31 cd31 ct31 oc32 kV32 dc32 pm32 cd32 ct32 oc33 kV33 dc33 pm33 cd33 ct33 oc34 kV34 dc34 pm34 cd34 ct34 oc35 kV35 dc35 pm35 cd35 ct35 oc36 kV36 dc36 pm36 cd36 ct36 oc37 kV37 dc37 pm37 cd37 ct37 oc38 kV38 dc38 pm38 cd38 ct38 oc39 kV39 dc39 pm39 cd39 ct39 oc40 kV40 dc40 pm40 cd40 ct40 oc41 kV41 dc41 pm41 cd41 ct41 oc42 kV42 dc42 pm42 cd42 ct42 oc43 kV43 dc43 pm43 cd43 ct43 oc44 kV44 dc44 pm44 cd44 ct44 oc45 kV45 dc45 pm45 cd45 ct45 oc46 kV46 dc46 pm46 cd46 ct46 oc47 kV47 dc47 pm47 cd47 ct47 oc48 kV48 dc48 pm48 cd48 ct48:Value}
 (a1:Tu K mainGlobals "_law_pen" = some (some (.ref f1))) (l1:K.lookup f1=some ⟨oc1,od1,.func (S9 "_law_pen" "_law_pen" (Ao (top 48)) (Am (top 48)) (Ae (top 48)) .none kV1 dc1 pm1 an1 cd1 ct1),sl1⟩) (c1:Sa K cd1 "_law_pen" = true) (k1:RP K (.ref f1)=true)
 (a2:Tu K mainGlobals "_law_lowest" = some (some (.ref f2))) (l2:K.lookup f2=some ⟨oc2,od2,.func (S9 "_law_lowest" "_law_lowest" (Ao (top 50)) (Am (top 50)) (Ae (top 50)) .none kV2 dc2 pm2 an2 cd2 ct2),sl2⟩) (c2:Sa K cd2 "_law_lowest" = true) (k2:RP K (.ref f2)=true)
 (a3:Tu K mainGlobals "_law_draw" = some (some (.ref f3))) (l3:K.lookup f3=some ⟨oc3,od3,.func (S9 "_law_draw" "_law_draw" (Ao (top 49)) (Am (top 49)) (Ae (top 49)) .none kV3 dc3 pm3 an3 cd3 ct3),sl3⟩) (c3:Sa K cd3 "_law_draw" = true) (k3:RP K (.ref f3)=true)
 (a4:Tu K mainGlobals "_law_number" = some (some (.ref f4))) (l4:K.lookup f4=some ⟨oc4,od4,.func (S9 "_law_number" "_law_number" (Ao (top 54)) (Am (top 54)) (Ae (top 54)) .none kV4 dc4 pm4 an4 cd4 ct4),sl4⟩) (c4:Sa K cd4 "_law_number" = true) (k4:RP K (.ref f4)=true)
 (a5:Tu K mainGlobals "_law_plus" = some (some (.ref f5))) (l5:K.lookup f5=some ⟨oc5,od5,.func (S9 "_law_plus" "_law_plus" (Ao (top 51)) (Am (top 51)) (Ae (top 51)) .none kV5 dc5 pm5 an5 cd5 ct5),sl5⟩) (c5:Sa K cd5 "_law_plus" = true) (k5:RP K (.ref f5)=true)
 (a6:Tu K mainGlobals "_law_places" = some (some (.ref f6))) (l6:K.lookup f6=some ⟨oc6,od6,.func (S9 "_law_places" "_law_places" (Ao (top 57)) (Am (top 57)) (Ae (top 57)) .none kV6 dc6 pm6 an6 cd6 ct6),sl6⟩) (c6:Sa K cd6 "_law_places" = true) (k6:RP K (.ref f6)=true)
 (a7:Tu K mainGlobals "_law_curve" = some (some (.ref f7))) (l7:K.lookup f7=some ⟨oc7,od7,.func (S9 "_law_curve" "_law_curve" (Ao (top 56)) (Am (top 56)) (Ae (top 56)) .none kV7 dc7 pm7 an7 cd7 ct7),sl7⟩) (c7:Sa K cd7 "_law_curve" = true) (k7:RP K (.ref f7)=true)
 (a8:Tu K mainGlobals "_law_times" = some (some (.ref f8))) (l8:K.lookup f8=some ⟨oc8,od8,.func (S9 "_law_times" "_law_times" (Ao (top 53)) (Am (top 53)) (Ae (top 53)) .none kV8 dc8 pm8 an8 cd8 ct8),sl8⟩) (c8:Sa K cd8 "_law_times" = true) (k8:RP K (.ref f8)=true)
 (a9:Tu K mainGlobals "_law_at" = some (some (.ref f9))) (l9:K.lookup f9=some ⟨oc9,od9,.func (S9 "_law_at" "_law_at" (Ao (top 55)) (Am (top 55)) (Ae (top 55)) .none kV9 dc9 pm9 an9 cd9 ct9),sl9⟩) (c9:Sa K cd9 "_law_at" = true) (k9:RP K (.ref f9)=true)
 (a10:Tu K mainGlobals "_law_heights" = some (some (.ref f10))) (l10:K.lookup f10=some ⟨oc10,od10,.func (S9 "_law_heights" "_law_heights" (Ao (top 63)) (Am (top 63)) (Ae (top 63)) .none kV10 dc10 pm10 an10 cd10 ct10),sl10⟩) (c10:Sa K cd10 "_law_heights" = true) (k10:RP K (.ref f10)=true)
 (a11:Tu K mainGlobals "are_unlike" = some (some (.ref f11))) (l11:K.lookup f11=some ⟨oc11,od11,.func (S9 "are_unlike" "are_unlike" (Ao (top 30)) (Am (top 30)) (Ae (top 30)) .none kV11 dc11 pm11 an11 cd11 ct11),sl11⟩) (c11:Sa K cd11 "are_unlike" = true) (k11:RP K (.ref f11)=true)
 (a12:Tu K mainGlobals "check_places" = some (some (.ref f12))) (l12:K.lookup f12=some ⟨oc12,od12,.func (S9 "check_places" "check_places" (Ao (top 31)) (Am (top 31)) (Ae (top 31)) .none kV12 dc12 pm12 an12 cd12 ct12),sl12⟩) (c12:Sa K cd12 "check_places" = true) (k12:RP K (.ref f12)=true)
 (a13:Tu K mainGlobals "check_heights" = some (some (.ref f13))) (l13:K.lookup f13=some ⟨oc13,od13,.func (S9 "check_heights" "check_heights" (Ao (top 33)) (Am (top 33)) (Ae (top 33)) .none kV13 dc13 pm13 an13 cd13 ct13),sl13⟩) (c13:Sa K cd13 "check_heights" = true) (k13:RP K (.ref f13)=true)
 (a14:Tu K mainGlobals "common_measure" = some (some (.ref f14))) (l14:K.lookup f14=some ⟨oc14,od14,.func (S9 "common_measure" "common_measure" (Ao (top 7)) (Am (top 7)) (Ae (top 7)) .none kV14 dc14 pm14 an14 cd14 ct14),sl14⟩) (c14:Sa K cd14 "common_measure" = true) (k14:RP K (.ref f14)=true)
 (a15:Tu K mainGlobals "bottom_of" = some (some (.ref f15))) (l15:K.lookup f15=some ⟨oc15,od15,.func (S9 "bottom_of" "bottom_of" (Ao (top 14)) (Am (top 14)) (Ae (top 14)) .none kV15 dc15 pm15 an15 cd15 ct15),sl15⟩) (c15:Sa K cd15 "bottom_of" = true) (k15:RP K (.ref f15)=true)
 (a16:Tu K mainGlobals "tops_over" = some (some (.ref f16))) (l16:K.lookup f16=some ⟨oc16,od16,.func (S9 "tops_over" "tops_over" (Ao (top 15)) (Am (top 15)) (Ae (top 15)) .none kV16 dc16 pm16 an16 cd16 ct16),sl16⟩) (c16:Sa K cd16 "tops_over" = true) (k16:RP K (.ref f16)=true)
 (a17:Tu K mainGlobals "curve_of" = some (some (.ref f17))) (l17:K.lookup f17=some ⟨oc17,od17,.func (S9 "curve_of" "curve_of" (Ao (top 13)) (Am (top 13)) (Ae (top 13)) .none kV17 dc17 pm17 an17 cd17 ct17),sl17⟩) (c17:Sa K cd17 "curve_of" = true) (k17:RP K (.ref f17)=true)
 (a18:Tu K mainGlobals "number_of" = some (some (.ref f18))) (l18:K.lookup f18=some ⟨oc18,od18,.func (S9 "number_of" "number_of" (Ao (top 8)) (Am (top 8)) (Ae (top 8)) .none kV18 dc18 pm18 an18 cd18 ct18),sl18⟩) (c18:Sa K cd18 "number_of" = true) (k18:RP K (.ref f18)=true)
 (a19:Tu K mainGlobals "curve_over" = some (some (.ref f19))) (l19:K.lookup f19=some ⟨oc19,od19,.func (S9 "curve_over" "curve_over" (Ao (top 16)) (Am (top 16)) (Ae (top 16)) .none kV19 dc19 pm19 an19 cd19 ct19),sl19⟩) (c19:Sa K cd19 "curve_over" = true) (k19:RP K (.ref f19)=true)
 (a20:Tu K mainGlobals "whole_product" = some (some (.ref f20))) (l20:K.lookup f20=some ⟨oc20,od20,.func (S9 "whole_product" "whole_product" (Ao (top 19)) (Am (top 19)) (Ae (top 19)) .none kV20 dc20 pm20 an20 cd20 ct20),sl20⟩) (c20:Sa K cd20 "whole_product" = true) (k20:RP K (.ref f20)=true)
 (a21:Tu K mainGlobals "by_steps" = some (some (.ref f21))) (l21:K.lookup f21=some ⟨oc21,od21,.func (S9 "by_steps" "by_steps" (Ao (top 41)) (Am (top 41)) (Ae (top 41)) .none kV21 dc21 pm21 an21 cd21 ct21),sl21⟩) (c21:Sa K cd21 "by_steps" = true) (k21:RP K (.ref f21)=true)
 (a22:Tu K mainGlobals "nought_at" = some (some (.ref f22))) (l22:K.lookup f22=some ⟨oc22,od22,.func (S9 "nought_at" "nought_at" (Ao (top 43)) (Am (top 43)) (Ae (top 43)) .none kV22 dc22 pm22 an22 cd22 ct22),sl22⟩) (c22:Sa K cd22 "nought_at" = true) (k22:RP K (.ref f22)=true)
 (a23:Tu K mainGlobals "over" = some (some (.ref f23))) (l23:K.lookup f23=some ⟨oc23,od23,.func (S9 "over" "over" (Ao (top 10)) (Am (top 10)) (Ae (top 10)) .none kV23 dc23 pm23 an23 cd23 ct23),sl23⟩) (c23:Sa K cd23 "over" = true) (k23:RP K (.ref f23)=true)
 (a24:Tu K mainGlobals "whole_division" = some (some (.ref f24))) (l24:K.lookup f24=some ⟨oc24,od24,.func (S9 "whole_division" "whole_division" (Ao (top 23)) (Am (top 23)) (Ae (top 23)) .none kV24 dc24 pm24 an24 cd24 ct24),sl24⟩) (c24:Sa K cd24 "whole_division" = true) (k24:RP K (.ref f24)=true)
 (a25:Tu K mainGlobals "raised" = some (some (.ref f25))) (l25:K.lookup f25=some ⟨oc25,od25,.func (S9 "raised" "raised" (Ao (top 22)) (Am (top 22)) (Ae (top 22)) .none kV25 dc25 pm25 an25 cd25 ct25),sl25⟩) (c25:Sa K cd25 "raised" = true) (k25:RP K (.ref f25)=true)
 (a26:Tu K mainGlobals "divided" = some (some (.ref f26))) (l26:K.lookup f26=some ⟨oc26,od26,.func (S9 "divided" "divided" (Ao (top 24)) (Am (top 24)) (Ae (top 24)) .none kV26 dc26 pm26 an26 cd26 ct26),sl26⟩) (c26:Sa K cd26 "divided" = true) (k26:RP K (.ref f26)=true)
 (a27:Tu K mainGlobals "times" = some (some (.ref f27))) (l27:K.lookup f27=some ⟨oc27,od27,.func (S9 "times" "times" (Ao (top 9)) (Am (top 9)) (Ae (top 9)) .none kV27 dc27 pm27 an27 cd27 ct27),sl27⟩) (c27:Sa K cd27 "times" = true) (k27:RP K (.ref f27)=true)
 (a28:Tu K mainGlobals "scaled" = some (some (.ref f28))) (l28:K.lookup f28=some ⟨oc28,od28,.func (S9 "scaled" "scaled" (Ao (top 20)) (Am (top 20)) (Ae (top 20)) .none kV28 dc28 pm28 an28 cd28 ct28),sl28⟩) (c28:Sa K cd28 "scaled" = true) (k28:RP K (.ref f28)=true)
 (a29:Tu K mainGlobals "whole_height" = some (some (.ref f29))) (l29:K.lookup f29=some ⟨oc29,od29,.func (S9 "whole_height" "whole_height" (Ao (top 17)) (Am (top 17)) (Ae (top 17)) .none kV29 dc29 pm29 an29 cd29 ct29),sl29⟩) (c29:Sa K cd29 "whole_height" = true) (k29:RP K (.ref f29)=true)
 (a30:Tu K mainGlobals "height_at" = some (some (.ref f30))) (l30:K.lookup f30=some ⟨oc30,od30,.func (S9 "height_at" "height_at" (Ao (top 18)) (Am (top 18)) (Ae (top 18)) .none kV30 dc30 pm30 an30 cd30 ct30),sl30⟩) (c30:Sa K cd30 "height_at" = true) (k30:RP K (.ref f30)=true)
 (a31:Tu K mainGlobals "lowest_terms" = some (some (.ref f31))) (l31:K.lookup f31=some ⟨oc31,od31,.func (S9 "lowest_terms" "lowest_terms" (Ao (top 44)) (Am (top 44)) (Ae (top 44)) .none kV31 dc31 pm31 an31 cd31 ct31),sl31⟩) (c31:Sa K cd31 "lowest_terms" = true) (k31:RP K (.ref f31)=true)
 (a32:Tu K mainGlobals "lack_at" = some (some (.ref f32))) (l32:K.lookup f32=some ⟨oc32,od32,.func (S9 "lack_at" "lack_at" (Ao (top 35)) (Am (top 35)) (Ae (top 35)) .none kV32 dc32 pm32 an32 cd32 ct32),sl32⟩) (c32:Sa K cd32 "lack_at" = true) (k32:RP K (.ref f32)=true)
 (a33:Tu K mainGlobals "with_nought_at" = some (some (.ref f33))) (l33:K.lookup f33=some ⟨oc33,od33,.func (S9 "with_nought_at" "with_nought_at" (Ao (top 36)) (Am (top 36)) (Ae (top 36)) .none kV33 dc33 pm33 an33 cd33 ct33),sl33⟩) (c33:Sa K cd33 "with_nought_at" = true) (k33:RP K (.ref f33)=true)
 (a34:Tu K mainGlobals "without_common" = some (some (.ref f34))) (l34:K.lookup f34=some ⟨oc34,od34,.func (S9 "without_common" "without_common" (Ao (top 37)) (Am (top 37)) (Ae (top 37)) .none kV34 dc34 pm34 an34 cd34 ct34),sl34⟩) (c34:Sa K cd34 "without_common" = true) (k34:RP K (.ref f34)=true)
 (a35:Tu K mainGlobals "both_with" = some (some (.ref f35))) (l35:K.lookup f35=some ⟨oc35,od35,.func (S9 "both_with" "both_with" (Ao (top 38)) (Am (top 38)) (Ae (top 38)) .none kV35 dc35 pm35 an35 cd35 ct35),sl35⟩) (c35:Sa K cd35 "both_with" = true) (k35:RP K (.ref f35)=true)
 (a36:Tu K mainGlobals "pair_through" = some (some (.ref f36))) (l36:K.lookup f36=some ⟨oc36,od36,.func (S9 "pair_through" "pair_through" (Ao (top 39)) (Am (top 39)) (Ae (top 39)) .none kV36 dc36 pm36 an36 cd36 ct36),sl36⟩) (c36:Sa K cd36 "pair_through" = true) (k36:RP K (.ref f36)=true)
 (a37:Tu K mainGlobals "rising" = some (some (.ref f37))) (l37:K.lookup f37=some ⟨oc37,od37,.func (S9 "rising" "rising" (Ao (top 34)) (Am (top 34)) (Ae (top 34)) .none kV37 dc37 pm37 an37 cd37 ct37),sl37⟩) (c37:Sa K cd37 "rising" = true) (k37:RP K (.ref f37)=true)
 (a38:Tu K mainGlobals "reaches" = some (some (.ref f38))) (l38:K.lookup f38=some ⟨oc38,od38,.func (S9 "reaches" "reaches" (Ao (top 45)) (Am (top 45)) (Ae (top 45)) .none kV38 dc38 pm38 an38 cd38 ct38),sl38⟩) (c38:Sa K cd38 "reaches" = true) (k38:RP K (.ref f38)=true)
 (a39:Tu K mainGlobals "quotient_through" = some (some (.ref f39))) (l39:K.lookup f39=some ⟨oc39,od39,.func (S9 "quotient_through" "quotient_through" (Ao (top 46)) (Am (top 46)) (Ae (top 46)) .none kV39 dc39 pm39 an39 cd39 ct39),sl39⟩) (c39:Sa K cd39 "quotient_through" = true) (k39:RP K (.ref f39)=true)
 (a40:Tu K mainGlobals "_law_minus" = some (some (.ref f40))) (l40:K.lookup f40=some ⟨oc40,od40,.func (S9 "_law_minus" "_law_minus" (Ao (top 52)) (Am (top 52)) (Ae (top 52)) .none kV40 dc40 pm40 an40 cd40 ct40),sl40⟩) (c40:Sa K cd40 "_law_minus" = true) (k40:RP K (.ref f40)=true)
 (a41:Tu K mainGlobals "_law_left" = some (some (.ref f41))) (l41:K.lookup f41=some ⟨oc41,od41,.func (S9 "_law_left" "_law_left" (Ao (top 62)) (Am (top 62)) (Ae (top 62)) .none kV41 dc41 pm41 an41 cd41 ct41),sl41⟩) (c41:Sa K cd41 "_law_left" = true) (k41:RP K (.ref f41)=true)
 (a42:Tu K mainGlobals "_law_whole" = some (some (.ref f42))) (l42:K.lookup f42=some ⟨oc42,od42,.func (S9 "_law_whole" "_law_whole" (Ao (top 58)) (Am (top 58)) (Ae (top 58)) .none kV42 dc42 pm42 an42 cd42 ct42),sl42⟩) (c42:Sa K cd42 "_law_whole" = true) (k42:RP K (.ref f42)=true)
 (a43:Tu K mainGlobals "_law_is_number" = some (some (.ref f43))) (l43:K.lookup f43=some ⟨oc43,od43,.func (S9 "_law_is_number" "_law_is_number" (Ao (top 59)) (Am (top 59)) (Ae (top 59)) .none kV43 dc43 pm43 an43 cd43 ct43),sl43⟩) (c43:Sa K cd43 "_law_is_number" = true) (k43:RP K (.ref f43)=true)
 (a44:Tu K mainGlobals "_law_is_curve" = some (some (.ref f44))) (l44:K.lookup f44=some ⟨oc44,od44,.func (S9 "_law_is_curve" "_law_is_curve" (Ao (top 60)) (Am (top 60)) (Ae (top 60)) .none kV44 dc44 pm44 an44 cd44 ct44),sl44⟩) (c44:Sa K cd44 "_law_is_curve" = true) (k44:RP K (.ref f44)=true)
 (a45:Tu K mainGlobals "without_last_noughts" = some (some (.ref f45))) (l45:K.lookup f45=some ⟨oc45,od45,.func (S9 "without_last_noughts" "without_last_noughts" (Ao (top 25)) (Am (top 25)) (Ae (top 25)) .none kV45 dc45 pm45 an45 cd45 ct45),sl45⟩) (c45:Sa K cd45 "without_last_noughts" = true) (k45:RP K (.ref f45)=true)
 (a46:Tu K mainGlobals "last_rest" = some (some (.ref f46))) (l46:K.lookup f46=some ⟨oc46,od46,.func (S9 "last_rest" "last_rest" (Ao (top 26)) (Am (top 26)) (Ae (top 26)) .none kV46 dc46 pm46 an46 cd46 ct46),sl46⟩) (c46:Sa K cd46 "last_rest" = true) (k46:RP K (.ref f46)=true)
 (a47:Tu K mainGlobals "common_part" = some (some (.ref f47))) (l47:K.lookup f47=some ⟨oc47,od47,.func (S9 "common_part" "common_part" (Ao (top 27)) (Am (top 27)) (Ae (top 27)) .none kV47 dc47 pm47 an47 cd47 ct47),sl47⟩) (c47:Sa K cd47 "common_part" = true) (k47:RP K (.ref f47)=true)
 (a48:Tu K mainGlobals "law" = some (some (.ref f48))) (l48:K.lookup f48=some ⟨oc48,od48,.func (S9 "law" "law" (Ao (top 64)) (Am (top 64)) (Ae (top 64)) .none kV48 dc48 pm48 an48 cd48 ct48),sl48⟩) (c48:Sa K cd48 "law" = true) (k48:RP K (.ref f48)=true)
 (z_len:Tu K mainGlobals "len" = some none)
 (z_abs:Tu K mainGlobals "abs" = some none)
 (z_range:Tu K mainGlobals "range" = some none)
 (z_tuple:Tu K mainGlobals "tuple" = some none)
 (z_set:Tu K mainGlobals "set" = some none)
 (z_list:Tu K mainGlobals "list" = some none)
 (z_reversed:Tu K mainGlobals "reversed" = some none)
 (z_zip:Tu K mainGlobals "zip" = some none)
 (z_sorted:Tu K mainGlobals "sorted" = some none)
 (z_isinstance:Tu K mainGlobals "isinstance" = some none)
 (z_int:Tu K mainGlobals "int" = some none)
 (z_bool:Tu K mainGlobals "bool" = some none)
 (z_all:Tu K mainGlobals "all" = some none)
 {t_MOST_TOLD:Tok} (x_MOST_TOLD:Tu K mainGlobals "MOST_TOLD" = some (some (.int 12 t_MOST_TOLD)))
 {g_NOUGHT:Addr} {o_NOUGHT:Obj} {v_NOUGHT:Array Value} {m_NOUGHT:Nat} (x_NOUGHT:Tu K mainGlobals "NOUGHT" = some (some (.ref g_NOUGHT))) (y_NOUGHT:K.lookup g_NOUGHT=some o_NOUGHT) (w_NOUGHT:o_NOUGHT.cls = .type "tuple") (d_NOUGHT:o_NOUGHT.data = .seq v_NOUGHT m_NOUGHT) (e_NOUGHT:v_NOUGHT.toList.map Kv=[some (.int (0:Rat).num),some (.int ((0:Rat).den:Int))])
 (h37:EG K f37 213=true) :
 ∃(fd:FuncData) (c:Addr),Uh K c 213=true/\(∀(s:Shared) (v:Value),BindsTo s fd ⟨[v],[]⟩ [("_law_script",v)])/\∀base:Heap,K.In base->base.Ns mainGlobals mg->Bm mg base->AO l.prog w K mg base CX0 40 fa fd ["_law_script"] (Fn K 213):=by
 obtain⟨cc,hcc⟩:=Kq h37
 have e:=hfa.symm.trans (V7 X G a48)
 cases e
 have Pm:=V8 X G z_len
 have Pz:=V8 X G z_abs
 have Pn:=V8 X G z_range
 have Pp:=V8 X G z_tuple
 have b_set:=V8 X G z_set
 have PH:=V8 X G z_list
 have Q9:=V8 X G z_reversed
 have Py:=V8 X G z_zip
 have Qa:=V8 X G z_sorted
 have Pq:=V8 X G z_isinstance
 have b_int:=V8 X G z_int
 have Qb:=V8 X G z_bool
 have b_all:=V8 X G z_all
 have c_MOST_TOLD:=V7 X G x_MOST_TOLD
 have c_NOUGHT:=V7 X G x_NOUGHT
 have n_NOUGHT:∀H:Hp,Az K H (.ref g_NOUGHT) (0):=fun H=>⟨_,rfl,Kp y_NOUGHT w_NOUGHT d_NOUGHT e_NOUGHT⟩
 have F1:=AA (st:=top 48) l1 c1 k1
 have B1:=Fun.binds2 "_law_script" "_law_k" F1 fun _ _ _ _ _ _ _ _=>rfl
 have F2:=AA (st:=top 50) l2 c2 k2
 have B2:=Fun.binds2 "_law_top" "_law_bottom" F2 fun _ _ _ _ _ _ _ _=>rfl
 have F3:=AA (st:=top 49) l3 c3 k3
 have B3:=Fun.binds2 "_law_pen_here" "_law_many" F3 fun _ _ _ _ _ _ _ _=>rfl
 have F4:=AA (st:=top 54) l4 c4 k4
 have B4:=Fun.binds1 "_law_pen_here" F4 fun _ _ _ _ _ _ _=>rfl
 have F5:=AA (st:=top 51) l5 c5 k5
 have B5:=Fun.binds2 "_law_a" "_law_b" F5 fun _ _ _ _ _ _ _ _=>rfl
 have F6:=AA (st:=top 57) l6 c6 k6
 have B6:=Fun.binds2 "_law_pen_here" "_law_many" F6 fun _ _ _ _ _ _ _ _=>rfl
 have F7:=AA (st:=top 56) l7 c7 k7
 have B7:=Fun.binds2 "_law_pen_here" "_law_most" F7 fun _ _ _ _ _ _ _ _=>rfl
 have F8:=AA (st:=top 53) l8 c8 k8
 have B8:=Fun.binds2 "_law_a" "_law_b" F8 fun _ _ _ _ _ _ _ _=>rfl
 have F9:=AA (st:=top 55) l9 c9 k9
 have B9:=Fun.binds2 "_law_curve_here" "_law_x" F9 fun _ _ _ _ _ _ _ _=>rfl
 have F10:=AA (st:=top 63) l10 c10 k10
 have B10:=Fun.binds2 "_law_pen_here" "_law_places_here" F10 fun _ _ _ _ _ _ _ _=>rfl
 have F11:=AA (st:=top 30) l11 c11 k11
 have B11:=Fun.binds1 "places" F11 fun _ _ _ _ _ _ _=>rfl
 have F12:=AA (st:=top 31) l12 c12 k12
 have B12:=Fun.binds2 "places" "fewest" F12 fun _ _ _ _ _ _ _ _=>rfl
 have F13:=AA (st:=top 33) l13 c13 k13
 have B13:=Fun.binds2 "places" "heights" F13 fun _ _ _ _ _ _ _ _=>rfl
 have F14:=AA (st:=top 7) l14 c14 k14
 have B14:=Fun.binds2 "one" "other" F14 fun _ _ _ _ _ _ _ _=>rfl
 have F15:=AA (st:=top 14) l15 c15 k15
 have B15:=Fun.binds1 "numbers" F15 fun _ _ _ _ _ _ _=>rfl
 have F16:=AA (st:=top 15) l16 c16 k16
 have B16:=Fun.binds2 "numbers" "bottom" F16 fun _ _ _ _ _ _ _ _=>rfl
 have F17:=AA (st:=top 13) l17 c17 k17
 have B17:=Fun.binds1 "numbers" F17 fun _ _ _ _ _ _ _=>rfl
 have F18:=AA (st:=top 8) l18 c18 k18
 have B18:=Fun.binds2 "top" "bottom" F18 fun _ _ _ _ _ _ _ _=>rfl
 have F19:=AA (st:=top 16) l19 c19 k19
 have B19:=Fun.binds2 "tops" "bottom" F19 fun _ _ _ _ _ _ _ _=>rfl
 have F20:=AA (st:=top 19) l20 c20 k20
 have B20:=Fun.binds2 "first" "second" F20 fun _ _ _ _ _ _ _ _=>rfl
 have F21:=AA (st:=top 41) l21 c21 k21
 have B21:=Fun.binds2 "knots" "steps" F21 fun _ _ _ _ _ _ _ _=>rfl
 have F22:=AA (st:=top 43) l22 c22 k22
 have B22:=Fun.binds1 "places" F22 fun _ _ _ _ _ _ _=>rfl
 have F23:=AA (st:=top 10) l23 c23 k23
 have B23:=Fun.binds2 "a" "b" F23 fun _ _ _ _ _ _ _ _=>rfl
 have F24:=AA (st:=top 23) l24 c24 k24
 have B24:=Fun.binds2 "first" "second" F24 fun _ _ _ _ _ _ _ _=>rfl
 have F25:=AA (st:=top 22) l25 c25 k25
 have B25:=Fun.binds2 "base" "many" F25 fun _ _ _ _ _ _ _ _=>rfl
 have F26:=AA (st:=top 24) l26 c26 k26
 have B26:=Fun.binds2 "one" "other" F26 fun _ _ _ _ _ _ _ _=>rfl
 have F27:=AA (st:=top 9) l27 c27 k27
 have B27:=Fun.binds2 "a" "b" F27 fun _ _ _ _ _ _ _ _=>rfl
 have F28:=AA (st:=top 20) l28 c28 k28
 have B28:=Fun.binds2 "curve" "number" F28 fun _ _ _ _ _ _ _ _=>rfl
 have F29:=AA (st:=top 17) l29 c29 k29
 have B29:=Fun.binds2 "tops" "x" F29 fun _ _ _ _ _ _ _ _=>rfl
 have F30:=AA (st:=top 18) l30 c30 k30
 have B30:=Fun.binds2 "curve" "x" F30 fun _ _ _ _ _ _ _ _=>rfl
 have F31:=AA (st:=top 44) l31 c31 k31
 have B31:=Fun.binds2 "pair" "places" F31 fun _ _ _ _ _ _ _ _=>rfl
 have F32:=AA (st:=top 35) l32 c32 k32
 have B32:=Fun.binds3 "pair" "x" "y" F32 fun _ _ _ _ _ _ _ _ _=>rfl
 have F33:=AA (st:=top 36) l33 c33 k33
 have B33:=Fun.binds2 "pair" "x" F33 fun _ _ _ _ _ _ _ _=>rfl
 have F34:=AA (st:=top 37) l34 c34 k34
 have B34:=Fun.binds1 "tops" F34 fun _ _ _ _ _ _ _=>rfl
 have F35:=AA (st:=top 38) l35 c35 k35
 have B35:=Fun.binds3 "both" "x" "y" F35 fun _ _ _ _ _ _ _ _ _=>rfl
 have F36:=AA (st:=top 39) l36 c36 k36
 have B36:=Fun.binds3 "places" "heights" "width" F36 fun _ _ _ _ _ _ _ _ _=>rfl
 have F37:=AA (st:=top 34) l37 c37 k37
 have B37:=Fun.binds1 "places" F37 fun _ _ _ _ _ _ _=>rfl
 have F38:=AA (st:=top 45) l38 c38 k38
 have B38:=Fun.binds3 "quotient" "x" "y" F38 fun _ _ _ _ _ _ _ _ _=>rfl
 have F39:=AA (st:=top 46) l39 c39 k39
 have B39:=Fun.binds3 "places" "heights" "width" F39 fun _ _ _ _ _ _ _ _ _=>rfl
 have F40:=AA (st:=top 52) l40 c40 k40
 have B40:=Fun.binds2 "_law_a" "_law_b" F40 fun _ _ _ _ _ _ _ _=>rfl
 have F41:=AA (st:=top 62) l41 c41 k41
 have B41:=Fun.binds4 "_law_places_here" "_law_heights_here" "_law_above" "_law_under" F41 fun _ _ _ _ _ _ _ _ _ _=>rfl
 have F42:=AA (st:=top 58) l42 c42 k42
 have B42:=Fun.binds1 "_law_thing" F42 fun _ _ _ _ _ _ _=>rfl
 have F43:=AA (st:=top 59) l43 c43 k43
 have B43:=Fun.binds1 "_law_thing" F43 fun _ _ _ _ _ _ _=>rfl
 have F44:=AA (st:=top 60) l44 c44 k44
 have B44:=Fun.binds1 "_law_thing" F44 fun _ _ _ _ _ _ _=>rfl
 have F45:=AA (st:=top 25) l45 c45 k45
 have B45:=Fun.binds1 "tops" F45 fun _ _ _ _ _ _ _=>rfl
 have F46:=AA (st:=top 26) l46 c46 k46
 have B46:=Fun.binds2 "great" "small" F46 fun _ _ _ _ _ _ _ _=>rfl
 have F47:=AA (st:=top 27) l47 c47 k47
 have B47:=Fun.binds2 "one" "other" F47 fun _ _ _ _ _ _ _ _=>rfl
 have F48:=AA (st:=top 64) l48 c48 k48
 refine⟨S9 "law" "law" (Ao (top 64)) (Am (top 64)) (Ae (top 64)) .none kV48 dc48 pm48 an48 cd48 ct48,cc,hcc,fun s v=>.of_eq rfl,fun base _ _ hbm=>?_⟩
 have QO:=fdm w base (HY F1 Pm hT) B1 k1 (V7 X G a1)
 have PM:=fdm w base (FJ F2 Pz hT) B2 k2 (V7 X G a2)
 have PZ:=fdm w base (Hl F3 hT) B3 k3 (V7 X G a3)
 have Qc:=fdm w base (FI F4 PM PZ hT) B4 k4 (V7 X G a4)
 have Qd:=fdm w base (Hj F5 PM hT) B5 k5 (V7 X G a5)
 have QP:=fdm w base (FH F6 Qc Qd Pn hT) B6 k6 (V7 X G a6)
 have QS:=fdm w base (Gi F7 Qc PZ Pp Pn hT) B7 k7 (V7 X G a7)
 have Q0:=fdm w base (Gg F8 PM hT) B8 k8 (V7 X G a8)
 have Qm:=fdm w base (J6 F9 Qd Q0 hT) B9 k9 (V7 X G a9)
 have QT:=fdm w base (EY F10 PZ QS Qc Qm Qd Q0 PM Pm hT) B10 k10 (V7 X G a10)
 have QU:=fdm w base (Ge F11 Pm b_set hT) B11 k11 (V7 X G a11)
 have QV:=fdm w base (EX F12 QU Pm c_MOST_TOLD hT) B12 k12 (V7 X G a12)
 have QW:=fdm w base (Ey F13 QV Pm hT) B13 k13 (V7 X G a13)
 have Qe:=fdm w base (Eb F14 Pz hT) B14 k14 (V7 X G a14)
 have PV:=fdm w base (Hh F15 Qe hT) B15 k15 (V7 X G a15)
 have Q3:=fdm w base (Ha F16 hT) B16 k16 (V7 X G a16)
 have Qn:=fdm w base (HW F17 Pm Pp c_NOUGHT n_NOUGHT hT) B17 k17 (V7 X G a17)
 have Q4:=fdm w base (Hb F18 Qe hT) B18 k18 (V7 X G a18)
 have Q5:=fdm w base (Gd F19 Qn Q4 hT) B19 k19 (V7 X G a19)
 have QX:=fdm w base (Ex F20 Pn Pm hT) B20 k20 (V7 X G a20)
 have QY:=fdm w base (HX F21 PV Q3 Q5 QX Pn Pm hT) B21 k21 (V7 X G a21)
 have QZ:=fdm w base (Hd F22 QY Pm c_NOUGHT n_NOUGHT hT) B22 k22 (V7 X G a22)
 have E_over:=fdm w base (Mr F23 Q4 hT) B23 k23 (V7 X G a23)
 have Qo:=fdm w base (Ea F24 PH Pn Pm hT) B24 k24 (V7 X G a24)
 have Qp:=fdm w base (K6 F25 Pn hT) B25 k25 (V7 X G a25)
 have R0:=fdm w base (J5 F26 PV Q3 Qo Q5 Qp Pm hT) B26 k26 (V7 X G a26)
 have Qq:=fdm w base (Lm F27 Q4 hT) B27 k27 (V7 X G a27)
 have E_scaled:=fdm w base (K4 F28 Qn Qq hT) B28 k28 (V7 X G a28)
 have Qr:=fdm w base (EU F29 Q9 hT) B29 k29 (V7 X G a29)
 have Qs:=fdm w base (Hf F30 PV Qr Q4 Q3 hT) B30 k30 (V7 X G a30)
 have R3:=fdm w base (EW F31 QZ E_over R0 E_scaled Qs c_NOUGHT n_NOUGHT hT) B31 k31 (V7 X G a31)
 have R4:=fdm w base (J4 F32 Qr Pm hT) B32 k32 (V7 X G a32)
 have R5:=fdm w base (E9 F33 Pn Pm hT) B33 k33 (V7 X G a33)
 have R6:=fdm w base (E8 F34 Qe hT) B34 k34 (V7 X G a34)
 have R7:=fdm w base (Hi F35 R4 R5 R6 Py hT) B35 k35 (V7 X G a35)
 have R8:=fdm w base (EV F36 R7 Q5 Py Pm hT) B36 k36 (V7 X G a36)
 have E_rising:=fdm w base (K5 F37 PV Qa hT hbm h37) B37 k37 (V7 X G a37)
 have R9:=fdm w base (J3 F38 Qs Qq c_NOUGHT n_NOUGHT hT) B38 k38 (V7 X G a38)
 have Ra:=fdm w base (DJ F39 QW R3 R8 E_rising R9 Pm Py hT) B39 k39 (V7 X G a39)
 have Rb:=fdm w base (Gh F40 PM hT) B40 k40 (V7 X G a40)
 have Rc:=fdm w base (Hk F41 Qm Q0 Rb Pn Pm hT) B41 k41 (V7 X G a41)
 have Rf:=fdm w base (Gf F42 Pq b_int Qb hT) B42 k42 (V7 X G a42)
 have Rg:=fdm w base (Ec F43 Rf PM Pq Pp Pm hT) B43 k43 (V7 X G a43)
 have Rh:=fdm w base (Ez F44 Rg Pq Pp b_all hT) B44 k44 (V7 X G a44)
 have Ri:=fdm w base (CV F45 Pm hT) B45 k45 (V7 X G a45)
 have Rj:=fdm w base (He F46 Ri Qp Qo Pm hT) B46 k46 (V7 X G a46)
 have Rk:=fdm w base (FG F47 Q3 Q5 PV Rj Pm hT) B47 k47 (V7 X G a47)
 exact Nv F48 QO QP QT PZ Ra Q0 Rc Rh Rk Pn PH Pm Pq Pp hT
theorem OW{l:Um}{q:Program}{loose:List Str}{XP:(Str->Option Value)->Heap->Prop}{d:DefRec}{K:Params->Rv}{as:List Addr}{e:∀P,as=(K P).map (·.1)}(hI:PyProof.Rows.importsNone q=true)(hn:l.most=some 63)(hdf:d.params.defaults=[])(has:as.contains 213=false)
 (F:∀(w:World) (mg:Str->Option Value) (fa:Addr) (h:Heap),(K w.params).In h->h.Ns mainGlobals mg->mg d.name=some (.ref fa) ->
  ∃(fd:FuncData) (c:Addr),Uh (K w.params) c 213=true/\(∀(s:Shared) (u:Value),BindsTo s fd ⟨[u],[]⟩ [("_law_script",u)])/\∀base:Heap,(K w.params).In base->base.Ns mainGlobals mg->Bm mg base->AO l.prog w (K w.params) mg base CX0 40 fa fd ["_law_script"] ((fun(K:Rv)=>(Fn K 213:Sp)) (K w.params))) :
 PySem.W.WalkO q loose XP (PySem.W.kmHook K as e [213]).says l.row.toRowW d [] (fun f vs=>PySem.call f vs) :=
 L2.Ky (n:=63) (k:=40) (x:="_law_script") (Pt:=213) (CX:=fun _=>CX0) (sp:=fun w=>(fun(K:Rv)=>(Fn K 213:Sp)) (K w.params)) hI hn (by decide) hdf ⟨rfl,by decide,by decide⟩ (fun w h Y=>⟨PySem.W.km_in_of Y,PySem.W.km_tabs_of Y _ Rz,Mx (e _) has⟩) F (fun _ _ a ns hl _ hS hP=>⟨a,ns,rfl,hS,hl,hP,fun _=>rfl⟩) fun _ _ _ _ _ z=>z
end Pf
def PySem.W.Fast.tw6485868854766872371:Unit:=()
def PySem.W.Fast.tw9541346643194599771:Unit:=()
def PySem.W.Fast.tw14318445523759991670:Unit:=()
def PySem.W.Fast.tw14316065593254936020:Unit:=()
def PySem.W.Fast.tw17760064326574802270:Unit:=()
def PySem.W.Fast.tw5381264491057528538:Unit:=()
def PySem.W.Fast.tw7992402738551081938:Unit:=()
def PySem.W.Fast.tw7162512965049887046:Unit:=()
def PySem.W.Fast.tw2474125800774988012:Unit:=()
def PySem.W.Fast.tw16302908353673108811:Unit:=()
def PySem.W.Fast.tw16910191635981327340:Unit:=()
def PySem.W.Fast.tw15671606339363783091:Unit:=()
def PySem.W.Fast.tw6493885327514694034:Unit:=()
def PySem.W.Fast.tw3037634259379342745:Unit:=()
def PySem.W.Fast.tw12080553779139925007:Unit:=()
def PySem.W.Fast.tw12374933862933605284:Unit:=()
def PySem.W.Fast.tw2191580426177585734:Unit:=()
def PySem.W.Fast.tw11076445291551231887:Unit:=()
def PySem.W.Fast.tw17608573525883369091:Unit:=()
def PySem.W.Fast.tw4737266861955307974:Unit:=()
def PySem.W.Fast.tw12493949901084138877:Unit:=()
def PySem.W.Fast.tw6897174466323256521:Unit:=()
def PySem.W.Fast.tw3486928898847620755:Unit:=()
def PySem.W.Fast.tw2999565755125332398:Unit:=()
def PySem.W.Fast.tw4511101102126718320:Unit:=()
def PySem.W.Fast.tw15866649010351819873:Unit:=()
def PySem.W.Fast.tw8282137481482037699:Unit:=()
def PySem.W.Fast.tw6282646620633662260:Unit:=()
def PySem.W.Fast.tw12066674529159452581:Unit:=()
def PySem.W.Fast.tw5656800111442845197:Unit:=()
def PySem.W.Fast.tw10429906166167845320:Unit:=()
def PySem.W.Fast.tw7027108418534399190:Unit:=()
def PySem.W.Fast.tw4681011205362537204:Unit:=()
def PySem.W.Fast.tw9538904016657347448:Unit:=()
def PySem.W.Fast.tw1985645618119385835:Unit:=()
def PySem.W.Fast.tw3600447884971309041:Unit:=()
def PySem.W.Fast.tw15907764596175203500:Unit:=()
def PySem.W.Fast.tw5651786648112268008:Unit:=()
def PySem.W.Fast.tw12670296976895580727:Unit:=()
def PySem.W.Fast.tw11416648492591078905:Unit:=()
def PySem.W.Fast.tw2133261428592443523:Unit:=()
def PySem.W.Fast.tw904790853679201853:Unit:=()
def PySem.W.Fast.tw4375132405096190784:Unit:=()
def PySem.W.Fast.tw1087005889627469589:Unit:=()
def PySem.W.Fast.tw7373291325808939833:Unit:=()
def PySem.W.Fast.tw7984636558221106756:Unit:=()
def PySem.W.Fast.tw7471647242234148422:Unit:=()
def PySem.W.Fast.tw15313627662414160050:Unit:=()
def PySem.W.Fast.tw7513678473626018977:Unit:=()
def PySem.W.Fast.tw7254894059707010131:Unit:=()
def PySem.W.Fast.tw16057213454263951587:Unit:=()
def PySem.W.Fast.tw16225242011063436443:Unit:=()
def PySem.W.Fast.tw5132919548568447875:Unit:=()
def PySem.W.Fast.tw18151846768852420055:Unit:=()
def PySem.W.Fast.tw1752639374168843722:Unit:=()
def PySem.W.Fast.tw5679503330807458105:Unit:=()
def PySem.W.Fast.tw8047618169912268870:Unit:=()
def PySem.W.Fast.tw2811928509167632797:Unit:=()
def PySem.W.Fast.tw11763014734697107128:Unit:=()
def PySem.W.Fast.tw18066668099157001374:Unit:=()
def PySem.W.Fast.tw13410665848087828006:Unit:=()
def PySem.W.Fast.tw7349552064934996296:Unit:=()
def PySem.W.Fast.tw13088849186820736831:Unit:=()
def PySem.W.Fast.tw2191295348728709500:Unit:=()
def PySem.W.Fast.tw15202389245849845779:Unit:=()
def PySem.W.Fast.tw6618432643907142812:Unit:=()
def PySem.W.Fast.tw146150831160469042:Unit:=()
def PySem.W.Fast.tw445809789924156386:Unit:=()
def PySem.W.Fast.tw7096004767926117080:Unit:=()
def PySem.W.Fast.tw10955988927986514566:Unit:=()
def PySem.W.Fast.tw12315968451091847951:Unit:=()
def PySem.W.Fast.tw9128389811930471743:Unit:=()
def PySem.W.Fast.tw2073739631857351888:Unit:=()
def PySem.W.Fast.tw8815731295060608479:Unit:=()
def PySem.W.Fast.tw9952622828615317492:Unit:=()
def PySem.W.Fast.tw6938156848553591069:Unit:=()
def PySem.W.Fast.tw16253427990098884571:Unit:=()
def PySem.W.Fast.tw14824098206858375768:Unit:=()
def PySem.W.Fast.tw8342542903247671842:Unit:=()
def PySem.W.Fast.tw4077972830231233996:Unit:=()
def PySem.W.Fast.tw9077370287982821634:Unit:=()
def PySem.W.Fast.tw3767637631017290844:Unit:=()
def PySem.W.Fast.tw15595161423209079150:Unit:=()
def PySem.W.Fast.tw4630321694172215526:Unit:=()
def PySem.W.Fast.tw9844360732576344178:Unit:=()
def PySem.W.Fast.tw16917975613614702738:Unit:=()
def PySem.W.Fast.tw12527841134958280314:Unit:=()
def PySem.W.Fast.tw7175934866026330891:Unit:=()
def PySem.W.Fast.tw11109235152105464081:Unit:=()
def PySem.W.Fast.tw6739369372692004247:Unit:=()
def PySem.W.Fast.tw16946883405148014936:Unit:=()
def PySem.W.Fast.tw7777713353065339111:Unit:=()
def PySem.W.Fast.tw17412955208164984888:Unit:=()
def PySem.W.Fast.tw39434440217627433:Unit:=()
def PySem.W.Fast.tw3935251815537893518:Unit:=()
def PySem.W.Fast.tw14080259285083951768:Unit:=()
def PySem.W.Fast.tw4882357728799047681:Unit:=()
def PySem.W.Fast.tw2477311914776182694:Unit:=()
def PySem.W.Fast.tw16436302016179334620:Unit:=()
def PySem.W.Fast.tw407968495828626107:Unit:=()
def PySem.W.Fast.tw3340340426160517066:Unit:=()
def PySem.W.Fast.tw6231017497162599859:Unit:=()
def PySem.W.Fast.tw3625296080127225584:Unit:=()
open PySem PySem.W PyProof.Rows
set_option maxRecDepth 100000 in
set_option maxHeartbeats 0 in
theorem PySem.Challenge.cw_onecurve_k52_quotients_told_holds : PySem.Challenge.rw_onecurve_k52_quotients_told.Holds := by
 w_on;o_law;k_head;(case hw=>w_witness2)
 k_fill
 refine Pf.OW (l:=PySem.Challenge.rw_onecurve_k52_quotients_told) (by decide +kernel) rfl rfl rfl ?F
 case F =>
  intro w mg fa h KX G hmg
  refine' Pf.O3 rfl KX G hmg ?a1 ?l1 ?c1 ?k1 ?a2 ?l2 ?c2 ?k2 ?a3 ?l3 ?c3 ?k3 ?a4 ?l4 ?c4 ?k4 ?a5 ?l5 ?c5 ?k5 ?a6 ?l6 ?c6 ?k6 ?a7 ?l7 ?c7 ?k7 ?a8 ?l8 ?c8 ?k8 ?a9 ?l9 ?c9 ?k9 ?a10 ?l10 ?c10 ?k10 ?a11 ?l11 ?c11 ?k11 ?a12 ?l12 ?c12 ?k12 ?a13 ?l13 ?c13 ?k13 ?a14 ?l14 ?c14 ?k14 ?a15 ?l15 ?c15 ?k15 ?a16 ?l16 ?c16 ?k16 ?a17 ?l17 ?c17 ?k17 ?a18 ?l18 ?c18 ?k18 ?a19 ?l19 ?c19 ?k19 ?a20 ?l20 ?c20 ?k20 ?a21 ?l21 ?c21 ?k21 ?a22 ?l22 ?c22 ?k22 ?a23 ?l23 ?c23 ?k23 ?a24 ?l24 ?c24 ?k24 ?a25 ?l25 ?c25 ?k25 ?a26 ?l26 ?c26 ?k26 ?a27 ?l27 ?c27 ?k27 ?a28 ?l28 ?c28 ?k28 ?a29 ?l29 ?c29 ?k29 ?a30 ?l30 ?c30 ?k30 ?a31 ?l31 ?c31 ?k31 ?a32 ?l32 ?c32 ?k32 ?a33 ?l33 ?c33 ?k33 ?a34 ?l34 ?c34 ?k34 ?a35 ?l35 ?c35 ?k35 ?a36 ?l36 ?c36 ?k36 ?a37 ?l37 ?c37 ?k37 ?a38 ?l38 ?c38 ?k38 ?a39 ?l39 ?c39 ?k39 ?a40 ?l40 ?c40 ?k40 ?a41 ?l41 ?c41 ?k41 ?a42 ?l42 ?c42 ?k42 ?a43 ?l43 ?c43 ?k43 ?a44 ?l44 ?c44 ?k44 ?a45 ?l45 ?c45 ?k45 ?a46 ?l46 ?c46 ?k46 ?a47 ?l47 ?c47 ?k47 ?a48 ?l48 ?c48 ?k48 ?z_len ?z_abs ?z_range ?z_tuple ?z_set ?z_list ?z_reversed ?z_zip ?z_sorted ?z_isinstance ?z_int ?z_bool ?z_all ?x_MOST_TOLD ?x_NOUGHT ?y_NOUGHT ?w_NOUGHT ?d_NOUGHT ?e_NOUGHT ?h37
  (case a1=>k_is)
  (case l1=>k_is)
  (case c1=>k_is)
  (case k1=>k_is)
  (case a2=>k_is)
  (case l2=>k_is)
  (case c2=>k_is)
  (case k2=>k_is)
  (case a3=>k_is)
  (case l3=>k_is)
  (case c3=>k_is)
  (case k3=>k_is)
  (case a4=>k_is)
  (case l4=>k_is)
  (case c4=>k_is)
  (case k4=>k_is)
  (case a5=>k_is)
  (case l5=>k_is)
  (case c5=>k_is)
  (case k5=>k_is)
  (case a6=>k_is)
  (case l6=>k_is)
  (case c6=>k_is)
  (case k6=>k_is)
  (case a7=>k_is)
  (case l7=>k_is)
  (case c7=>k_is)
  (case k7=>k_is)
  (case a8=>k_is)
  (case l8=>k_is)
  (case c8=>k_is)
  (case k8=>k_is)
  (case a9=>k_is)
  (case l9=>k_is)
  (case c9=>k_is)
  (case k9=>k_is)
  (case a10=>k_is)
  (case l10=>k_is)
  (case c10=>k_is)
  (case k10=>k_is)
  (case a11=>k_is)
  (case l11=>k_is)
  (case c11=>k_is)
  (case k11=>k_is)
  (case a12=>k_is)
  (case l12=>k_is)
  (case c12=>k_is)
  (case k12=>k_is)
  (case a13=>k_is)
  (case l13=>k_is)
  (case c13=>k_is)
  (case k13=>k_is)
  (case a14=>k_is)
  (case l14=>k_is)
  (case c14=>k_is)
  (case k14=>k_is)
  (case a15=>k_is)
  (case l15=>k_is)
  (case c15=>k_is)
  (case k15=>k_is)
  (case a16=>k_is)
  (case l16=>k_is)
  (case c16=>k_is)
  (case k16=>k_is)
  (case a17=>k_is)
  (case l17=>k_is)
  (case c17=>k_is)
  (case k17=>k_is)
  (case a18=>k_is)
  (case l18=>k_is)
  (case c18=>k_is)
  (case k18=>k_is)
  (case a19=>k_is)
  (case l19=>k_is)
  (case c19=>k_is)
  (case k19=>k_is)
  (case a20=>k_is)
  (case l20=>k_is)
  (case c20=>k_is)
  (case k20=>k_is)
  (case a21=>k_is)
  (case l21=>k_is)
  (case c21=>k_is)
  (case k21=>k_is)
  (case a22=>k_is)
  (case l22=>k_is)
  (case c22=>k_is)
  (case k22=>k_is)
  (case a23=>k_is)
  (case l23=>k_is)
  (case c23=>k_is)
  (case k23=>k_is)
  (case a24=>k_is)
  (case l24=>k_is)
  (case c24=>k_is)
  (case k24=>k_is)
  (case a25=>k_is)
  (case l25=>k_is)
  (case c25=>k_is)
  (case k25=>k_is)
  (case a26=>k_is)
  (case l26=>k_is)
  (case c26=>k_is)
  (case k26=>k_is)
  (case a27=>k_is)
  (case l27=>k_is)
  (case c27=>k_is)
  (case k27=>k_is)
  (case a28=>k_is)
  (case l28=>k_is)
  (case c28=>k_is)
  (case k28=>k_is)
  (case a29=>k_is)
  (case l29=>k_is)
  (case c29=>k_is)
  (case k29=>k_is)
  (case a30=>k_is)
  (case l30=>k_is)
  (case c30=>k_is)
  (case k30=>k_is)
  (case a31=>k_is)
  (case l31=>k_is)
  (case c31=>k_is)
  (case k31=>k_is)
  (case a32=>k_is)
  (case l32=>k_is)
  (case c32=>k_is)
  (case k32=>k_is)
  (case a33=>k_is)
  (case l33=>k_is)
  (case c33=>k_is)
  (case k33=>k_is)
  (case a34=>k_is)
  (case l34=>k_is)
  (case c34=>k_is)
  (case k34=>k_is)
  (case a35=>k_is)
  (case l35=>k_is)
  (case c35=>k_is)
  (case k35=>k_is)
  (case a36=>k_is)
  (case l36=>k_is)
  (case c36=>k_is)
  (case k36=>k_is)
  (case a37=>k_is)
  (case l37=>k_is)
  (case c37=>k_is)
  (case k37=>k_is)
  (case a38=>k_is)
  (case l38=>k_is)
  (case c38=>k_is)
  (case k38=>k_is)
  (case a39=>k_is)
  (case l39=>k_is)
  (case c39=>k_is)
  (case k39=>k_is)
  (case a40=>k_is)
  (case l40=>k_is)
  (case c40=>k_is)
  (case k40=>k_is)
  (case a41=>k_is)
  (case l41=>k_is)
  (case c41=>k_is)
  (case k41=>k_is)
  (case a42=>k_is)
  (case l42=>k_is)
  (case c42=>k_is)
  (case k42=>k_is)
  (case a43=>k_is)
  (case l43=>k_is)
  (case c43=>k_is)
  (case k43=>k_is)
  (case a44=>k_is)
  (case l44=>k_is)
  (case c44=>k_is)
  (case k44=>k_is)
  (case a45=>k_is)
  (case l45=>k_is)
  (case c45=>k_is)
  (case k45=>k_is)
  (case a46=>k_is)
  (case l46=>k_is)
  (case c46=>k_is)
  (case k46=>k_is)
  (case a47=>k_is)
  (case l47=>k_is)
  (case c47=>k_is)
  (case k47=>k_is)
  (case a48=>k_is)
  (case l48=>k_is)
  (case c48=>k_is)
  (case k48=>k_is)
  (case z_len=>k_is)
  (case z_abs=>k_is)
  (case z_range=>k_is)
  (case z_tuple=>k_is)
  (case z_set=>k_is)
  (case z_list=>k_is)
  (case z_reversed=>k_is)
  (case z_zip=>k_is)
  (case z_sorted=>k_is)
  (case z_isinstance=>k_is)
  (case z_int=>k_is)
  (case z_bool=>k_is)
  (case z_all=>k_is)
  (case x_MOST_TOLD=>k_is)
  (case x_NOUGHT=>k_is)
  (case y_NOUGHT=>k_is)
  (case w_NOUGHT=>rfl)
  (case d_NOUGHT=>rfl)
  (case e_NOUGHT=>rfl)
  (case h37=>first | rfl | with_unfolding_all rfl)
#print axioms PySem.Challenge.cw_onecurve_k52_quotients_told_holds
